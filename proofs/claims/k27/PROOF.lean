import PyProof.Rows.All
import Wide.All
import OpenK.AllK
import Wide.FinOn
import Lean
import PyProof.EqAt
import PyProof.EqKinds
import PyProof.TupleCall
import PySem.Challenge.RW_goodenough_k27_whole_longest_first_and_a
set_option Elab.async false
set_option linter.all false
set_option maxRecDepth 100000
set_option maxHeartbeats 4000000
namespace L2
open PySem PySem.Spec PyProof.Rows
abbrev Key := Sum Int Str
def keyIs : Key → Value → Bool
  | .inl k, v => Value.isInt k v
  | .inr x, v => Value.isStrOf x v
def keyH (w : World) : Key → Int
  | .inl k => hashInt k
  | .inr x => hashStr w x
theorem keyIs_shape : ∀ {k : Key} {v : Value}, keyIs k v = true → (∃ i t, k = Sum.inl i ∧ v = Value.int i t) ∨ (∃ x t, k = Sum.inr x ∧ v = Value.str x t)
  | .inl i, v, h => by
    obtain ⟨t, e⟩ := Value.isInt_shape (k := i) (v := v) h
    exact .inl ⟨i, t, rfl, e⟩
  | .inr x, v, h => by
    obtain ⟨t, e⟩ := Value.isStrOf_shape (x := x) (v := v) h
    exact .inr ⟨x, t, rfl, e⟩
theorem key_ll (a b : Int) : decide ((Sum.inl a : Key) = Sum.inl b) = (a == b) := by
  by_cases e : a = b
  · subst e; simp
  · have h : ¬ (Sum.inl a : Key) = Sum.inl b := fun q => e (Sum.inl.inj q)
    rw [decide_eq_false h]
    exact (beq_eq_false_iff_ne.mpr e).symm
theorem key_rr (a b : Str) : decide ((Sum.inr a : Key) = Sum.inr b) = decide (a = b) := by
  by_cases e : a = b
  · subst e; simp
  · have h : ¬ (Sum.inr a : Key) = Sum.inr b := fun q => e (Sum.inr.inj q)
    rw [decide_eq_false h, decide_eq_false e]
theorem key_lr (a : Int) (b : Str) : decide ((Sum.inl a : Key) = Sum.inr b) = false := decide_eq_false (fun q => nomatch q)
theorem key_rl (a : Str) (b : Int) : decide ((Sum.inr a : Key) = Sum.inl b) = false := decide_eq_false (fun q => nomatch q)
def mixKind (prog : Program) (w : World) : PySem.KeyKind prog w Key where
  is := keyIs
  hash := keyH w
  inj := fun v a b ha hb => by
    rcases keyIs_shape ha with ⟨i, t, rfl, rfl⟩ | ⟨x, t, rfl, rfl⟩
    · rcases keyIs_shape hb with ⟨j, u, rfl, e⟩ | ⟨y, u, rfl, e⟩
      · injection e with e1 _; rw [e1]
      · exact nomatch e
    · rcases keyIs_shape hb with ⟨j, u, rfl, e⟩ | ⟨y, u, rfl, e⟩
      · exact nomatch e
      · injection e with e1 _; rw [e1]
  byValue := fun k v h => by
    rcases keyIs_shape h with ⟨i, t, rfl, rfl⟩ | ⟨x, t, rfl, rfl⟩ <;> rfl
  pyHash := fun hv h => by
    rcases keyIs_shape hv with ⟨i, t, rfl, rfl⟩ | ⟨x, t, rfl, rfl⟩
    · exact wpAny_pyHash_int h
    · exact wpAny_pyHash_str h
  eqBool := fun hu hv h => by
    rcases keyIs_shape hu with ⟨i, t, rfl, rfl⟩ | ⟨x, t, rfl, rfl⟩
    · rcases keyIs_shape hv with ⟨j, u, rfl, rfl⟩ | ⟨y, u, rfl, rfl⟩
      · rw [key_ll] at h; exact wpAny_eqBool_int h
      · rw [key_lr] at h; exact SeqAt.EqAt.int_str i t y u _ _ _ _ h
    · rcases keyIs_shape hv with ⟨j, u, rfl, rfl⟩ | ⟨y, u, rfl, rfl⟩
      · rw [key_rl] at h; exact SeqAt.EqAt.str_int x t j u _ _ _ _ h
      · rw [key_rr] at h; exact wpAny_eqBool_str h
  «strs» := fun k x t v h => by
    rcases keyIs_shape h with ⟨i, u, rfl, e⟩ | ⟨y, u, rfl, e⟩
    · exact nomatch e
    · injection e with e1 _
      subst e1
      cases v <;> rfl
end L2
namespace L2
open PySem PySem.Spec PyProof.Rows
inductive V where
  | non | bl (b : Bool) | int (i : Int) | str (x : Str) | byt (b : Array UInt8) | flt (b : UInt64) | ref (a : Addr) | ty (n : String)
  deriving DecidableEq
def RelV : V → Value → Prop
  | .non, u => u = Value.none
  | .bl b, u => u = Value.bool b
  | .int i, u => ∃ t, u = Value.int i t
  | .str x, u => ∃ t, u = Value.str x t
  | .byt b, u => ∃ t, u = Value.bytes b t
  | .flt b, u => ∃ t, u = Value.float b t
  | .ref a, u => u = Value.ref a
  | .ty n, u => u = Value.type n
abbrev Vals : List V → List Value → Prop := Paired RelV
theorem Vals.length {xs : List V} {us : List Value} (r : Vals xs us) : xs.length = us.length := Paired.length r
theorem Vals.get : ∀ {xs : List V} {us : List Value} {i : Nat} {x : V}, Vals xs us → xs[i]? = some x → ∃ u, us[i]? = some u ∧ RelV x u
  | _, _, _, _, .nil, e => by simp at e
  | _, _, 0, _, .cons r _, e => by simp at e; subst e; exact ⟨_, rfl, r⟩
  | _, _, i + 1, x, .cons _ t, e => by
    obtain ⟨u, h1, h2⟩ := Vals.get (i := i) (x := x) t (by simpa using e)
    exact ⟨u, by simpa using h1, h2⟩
theorem Vals.set {x : V} {u : Value} (r : RelV x u) : ∀ {xs : List V} {us : List Value} (i : Nat), Vals xs us → Vals (xs.set i x) (us.set i u)
  | _, _, _, .nil => .nil
  | _, _, 0, .cons _ t => .cons r t
  | _, _, i + 1, .cons q t => .cons q (Vals.set r i t)
theorem Vals.append : ∀ {xs ys : List V} {us ws : List Value}, Vals xs us → Vals ys ws → Vals (xs ++ ys) (us ++ ws)
  | _, _, _, _, .nil, s => s
  | _, _, _, _, .cons r t, s => .cons r (Vals.append t s)
theorem Vals.take : ∀ {xs : List V} {us : List Value} (n : Nat), Vals xs us → Vals (xs.take n) (us.take n)
  | _, _, 0, _ => .nil
  | _, _, _ + 1, .nil => .nil
  | _, _, n + 1, .cons r t => .cons r (Vals.take n t)
theorem Vals.drop : ∀ {xs : List V} {us : List Value} (n : Nat), Vals xs us → Vals (xs.drop n) (us.drop n)
  | _, _, 0, r => r
  | _, _, _ + 1, .nil => .nil
  | _, _, n + 1, .cons _ t => Vals.drop n t
theorem Vals.none_of : ∀ {xs : List V} {us : List Value} {i : Nat}, Vals xs us → xs[i]? = none → us[i]? = none := fun {xs us i} r e => by
  have h1 := r.length
  have h2 : xs.length ≤ i := List.getElem?_eq_none_iff.mp e
  exact List.getElem?_eq_none_iff.mpr (by omega)
def RelO : Option V → Option Value → Prop
  | some v, some u => RelV v u
  | none, none => True
  | _, _ => False
def KV {κ : Type} : List (κ × V) → List (κ × Value) → Prop := Paired fun (p : κ × V) (q : κ × Value) => p.1 = q.1 ∧ RelV p.2 q.2
def kV : Key → V
  | .inl i => .int i
  | .inr x => .str x
inductive HO where
  /-- a list -/
  | lst (xs : List V)
  /-- a tuple (never changes) -/
  | tup (xs : List V)
  /-- a dict whose keys are ints and texts; one whose keys are tuples of ints and texts (the empty one is both) -/
  | dK (kvs : List (Key × V)) | dT (kvs : List (List Key × V))
  /-- a set of ints: its members, its size -/
  | set (S : Int → Bool) (n : Nat)
  /-- an instance of the class at C, its dict at dx, its attributes -/
  | ins (C dx : Addr) (fs : List (Str × V))
  /-- the dict of the instance at x -/
  | own (x : Addr)
  /-- the dict of an exception -/
  | xd (fs : List (Str × V))
  /-- a bound method, f of x -/
  | met (f x : Addr)
  /-- a range object lo, lo + 1, .. below hi -/
  | rng (lo hi : Int)
  /-- a thing that is known to the object (the script; a dict while a loop walks it): read, never written while it is so -/
  | frz (o : Obj) (u : HO)
  /-- a code object's table -/
  | tbl (ps : Array Value)
  /-- any other thing, by what is true of its one object (a def of one's own: SetO a S n := HO.ext fun h => ..) -/
  | ext (φ : Heap → Prop)
abbrev Hp := Addr → Option HO
def upd (H : Hp) (a : Addr) (o : HO) : Hp := fun b => if b = a then some o else H b
theorem upd_same {H : Hp} {a : Addr} {o : HO} : upd H a o a = some o := by unfold upd; rw [if_pos rfl]
theorem upd_ne {H : Hp} {a b : Addr} {o : HO} (h : b ≠ a) : upd H a o b = H b := by unfold upd; rw [if_neg h]
theorem ne_of_none {H : Hp} {a b : Addr} {o : HO} (h : H a = some o) (h' : H b = none) : a ≠ b := by
  intro e; subst e; rw [h] at h'; cases h'
def lamPos (fd : FuncData) : Option Pos :=
  match fd.body with
  | .stmts [.Return (some (.Call _ _ [⟨_, .Lambda _ _ _ pos, _⟩] _)) _] => some pos
  | _ => none
def tabAt (K : PySem.W.Frag) (v : Value) : Option Addr :=
  match v with
  | .ref c => match K.lookup c with
    | some o => match o.data with
      | .fields vs => match (vs[11]? : Option Value) with
        | some (.ref P) => some P
        | _ => none
      | _ => none
    | _ => none
  | _ => none
def tabOf (K : PySem.W.Frag) : Option (Addr × Array Value) :=
  K.findSome? fun p => match p.2.data with
    | .func fd => match lamPos fd with
      | some pos => (tabAt K fd.code).map fun P => (P, #[.str (fd.qualname ++ ".<locals>." ++ "<lambda>") 0, rawInt pos.line, rawInt pos.col])
      | none => none
    | _ => none
def TblOk (H : Hp) (h : Heap) (a : Addr) (ps : Array Value) : Prop :=
  ∃ (q : Str) (t : Tok) (ln cl : Int) (more : List Value) (real : Array Value), ps.toList = .str q t :: rawInt ln :: rawInt cl :: more ∧ h.get? a = some { cls := .none, data := .fields real } ∧
    (real = #[] ∨ ∃ (c : Addr) (o : Obj) (vs : Array Value) (u : Tok), real = #[rawInt ln, rawInt cl, .ref c] ∧ H c = some (.own a) ∧ h.get? c = some o ∧ o.data = .fields vs ∧ vs[1]? = some (.str q u))
theorem TblOk.lt {H : Hp} {h : Heap} {a : Addr} {ps : Array Value} (x : TblOk H h a ps) : a < h.objs.size := by
  obtain ⟨_, _, _, _, _, _, _, e, _⟩ := x
  exact Heap.lt_size e
theorem TblOk.stay {H H' : Hp} {h h' : Heap} {a : Addr} {ps : Array Value} (x : TblOk H h a ps) (k : ∀ b u, (b = a ∨ H b = some (.own a)) → h.get? b = some u → h'.get? b = some u)
    (ho : ∀ b, H b = some (.own a) → H' b = some (.own a)) : TblOk H' h' a ps := by
  obtain ⟨q, t, ln, cl, more, real, e1, e2, e3⟩ := x
  refine ⟨q, t, ln, cl, more, real, e1, k _ _ (.inl rfl) e2, ?_⟩
  rcases e3 with e3 | ⟨c, o, vs, u, r1, r2, r3, r4⟩
  · exact .inl e3
  · exact .inr ⟨c, o, vs, u, r1, ho _ r2, k _ _ (.inr r2) r3, r4⟩
def TbAt (K : PySem.W.Frag) (H : Hp) : Prop := ∀ t, tabOf K = some t → ∃ more, H t.1 = some (.tbl (t.2 ++ more))
theorem TbAt.none {K : PySem.W.Frag} {H : Hp} (h : tabOf K = .none) : TbAt K H := fun t e => by rw [h] at e; cases e
theorem TbAt.grown {K : PySem.W.Frag} {H H' : Hp} (x : TbAt K H) (g : ∀ b ps, H b = some (.tbl ps) → ∃ more, H' b = some (.tbl (ps ++ more))) : TbAt K H' := fun t e => by
  obtain ⟨m1, e1⟩ := x t e
  obtain ⟨m2, e2⟩ := g _ _ e1
  exact ⟨m1 ++ m2, by rw [e2, Array.append_assoc]⟩
section
variable (P : Program) (w : World)
def ObjOk (H : Hp) (h : Heap) (a : Addr) : HO → Prop
  | .lst xs => xs.length ≤ sizeLine ∧ ∃ (its : List Value) (n : Nat), Vals xs its ∧ h.get? a = some { cls := .type "list", data := .seq its.toArray n }
  | .tup xs => xs.length ≤ sizeLine ∧ ∃ its : List Value, Vals xs its ∧ IsTup h a its.toArray
  | .dK kvs => kvs.length ≤ sizeLine ∧ (a == sysModules) = false ∧ ∃ vs, KV kvs vs ∧ h.DictOf (mixKind P w) a vs
  | .dT kvs => kvs.length ≤ sizeLine ∧ (a == sysModules) = false ∧ ∃ xs : List (List Key × Addr × Value),
      Paired (fun (p : List Key × V) (q : List Key × Addr × Value) => p.1 = q.1 ∧ H q.2.1 = some (.tup (p.1.map kV)) ∧ RelV p.2 q.2.2) kvs xs ∧
      ∃ o es ep, h.get? a = some o ∧ o.ExactDict ∧ o.data = .dict es ep ∧ es.toList = xs.map (entryOfKey (tupleKind (mixKind P w))) ∧ (xs.map (·.1)).Nodup
  | .set S n => h.SetOf (intKind P w) a S n
  | .ins C dx fs => H dx = some (.own a) ∧ fs.length ≤ 1000 ∧ dx ≠ a ∧ h.get? a = some (PySem.W.instObj C dx) ∧
      ∃ mA, h.Ns1 dx mA ∧ (∀ f, RelO (fs.lookup f) (mA f)) ∧ PySem.Within mA (fs.map (·.1))
  | .own _ => ∃ o, h.get? a = some o
  | .xd fs => ∃ mA, h.Ns1 a mA ∧ ∀ f, RelO (fs.lookup f) (mA f)
  | .rng lo hi => ∃ t u v, h.get? a = some { cls := .type "range", data := .fields #[.int lo t, .int hi u, .int 1 v] }
  | .frz o u => h.get? a = some o ∧ ObjOk H h a u
  | .tbl ps => TblOk H h a ps
  | .met f x => h.get? a = some (PySem.W.methodObj (.ref f) (.ref x))
  | .ext φ => φ h ∧ (∃ o, h.get? a = some o) ∧ ∀ h1 h2 : Heap, φ h1 → (∀ o, h1.get? a = some o → h2.get? a = some o) → φ h2
def HOk (H : Hp) (h : Heap) : Prop := ∀ a o, H a = some o → ObjOk P w H h a o
end
section
variable {P : Program} {w : World} {H H' : Hp} {h h' : Heap} {a : Addr} {o : HO}
theorem ObjOk.lt (x : ObjOk P w H h a o) : a < h.objs.size := by
  cases o with
  | lst xs => obtain ⟨_, _, _, _, e⟩ := x; exact Heap.lt_size e
  | tup xs => obtain ⟨_, _, _, p⟩ := x; exact p.lt
  | dK kvs => obtain ⟨_, _, _, _, o, _, _, e, _⟩ := x; exact Heap.lt_size e
  | dT kvs => obtain ⟨_, _, _, _, o, _, _, e, _⟩ := x; exact Heap.lt_size e
  | set S n => obtain ⟨o, _, _, _, e, _⟩ := x; exact Heap.lt_size e
  | ins C dx fs => obtain ⟨_, _, _, e, _⟩ := x; exact Heap.lt_size e
  | own y => obtain ⟨_, e⟩ := x; exact Heap.lt_size e
  | xd fs => obtain ⟨_, ⟨_, _, _, e, _⟩, _⟩ := x; exact Heap.lt_size e
  | rng lo hi => obtain ⟨_, _, _, e⟩ := x; exact Heap.lt_size e
  | frz ob u => obtain ⟨e, _⟩ := x; exact Heap.lt_size e
  | tbl ps => exact TblOk.lt x
  | met f y => exact Heap.lt_size (show h.get? a = some _ from x)
  | ext φ => obtain ⟨_, ⟨_, e⟩, _⟩ := x; exact Heap.lt_size e
theorem Paired.mapP {α β : Type} {F G : α → β → Prop} : ∀ {l₁ : List α} {l₂ : List β}, Paired F l₁ l₂ → (∀ a b, F a b → G a b) → Paired G l₁ l₂
  | _, _, .nil, _ => .nil
  | _, _, .cons r t, f => .cons (f _ _ r) (Paired.mapP t f)
theorem ObjOk.stay (x : ObjOk P w H h a o) (k : ∀ b u, (b = a ∨ H b = some (.own a)) → h.get? b = some u → h'.get? b = some u)
    (ho : ∀ b, H b = some (.own a) → H' b = some (.own a)) (ht : ∀ b xs, H b = some (.tup xs) → H' b = some (.tup xs)) : ObjOk P w H' h' a o := by
  induction o with
  | lst xs => obtain ⟨z, its, n, r, e⟩ := x; exact ⟨z, its, n, r, k _ _ (.inl rfl) e⟩
  | tup xs => obtain ⟨z, its, r, ob, e, c⟩ := x; exact ⟨z, its, r, ob, k _ _ (.inl rfl) e, c⟩
  | dK kvs => obtain ⟨z, y, vs, r, ob, es, ep, e, c⟩ := x; exact ⟨z, y, vs, r, ob, es, ep, k _ _ (.inl rfl) e, c⟩
  | dT kvs =>
    obtain ⟨z, y, xs, r, ob, es, ep, e, c⟩ := x
    exact ⟨z, y, xs, Paired.mapP r fun p q z => ⟨z.1, ht _ _ z.2.1, z.2.2⟩, ob, es, ep, k _ _ (.inl rfl) e, c⟩
  | set S n => obtain ⟨ob, es, ep, t, e, c⟩ := x; exact ⟨ob, es, ep, t, k _ _ (.inl rfl) e, c⟩
  | ins C dx fs =>
    obtain ⟨d, z, ne, e, mA, ⟨od, es, ep, e2, c⟩, r⟩ := x
    exact ⟨ho _ d, z, ne, k _ _ (.inl rfl) e, mA, ⟨od, es, ep, k _ _ (.inr d) e2, c⟩, r⟩
  | own y => obtain ⟨ob, e⟩ := x; exact ⟨ob, k _ _ (.inl rfl) e⟩
  | xd fs => obtain ⟨mA, ⟨od, es, ep, e, c⟩, r⟩ := x; exact ⟨mA, ⟨od, es, ep, k _ _ (.inl rfl) e, c⟩, r⟩
  | rng lo hi => obtain ⟨t, u, v, e⟩ := x; exact ⟨t, u, v, k _ _ (.inl rfl) e⟩
  | frz ob u ih => obtain ⟨e, q⟩ := x; exact ⟨k _ _ (.inl rfl) e, ih q⟩
  | tbl ps => exact TblOk.stay x k ho
  | met f y =>
    have e : h.get? a = some (PySem.W.methodObj (.ref f) (.ref y)) := x
    show h'.get? a = some (PySem.W.methodObj (.ref f) (.ref y))
    exact k a _ (.inl rfl) e
  | ext φ => obtain ⟨p, ⟨o, e⟩, st⟩ := x; exact ⟨st _ _ p fun o q => k _ _ (.inl rfl) q, ⟨o, k _ _ (.inl rfl) e⟩, st⟩
theorem HOk.lt (x : HOk P w H h) (e : H a = some o) : a < h.objs.size := (x a o e).lt
theorem HOk.fresh (x : HOk P w H h) (e : h.objs.size ≤ a) : H a = none := by
  cases q : H a with
  | none => rfl
  | some u => exact absurd (Nat.lt_of_lt_of_le (x.lt q) e) (Nat.lt_irrefl _)
theorem HOk.kept (x : HOk P w H h) (k : ∀ b u, h.get? b = some u → h'.get? b = some u) : HOk P w H h' := fun a o e =>
  (x a o e).stay (fun b u _ q => k b u q) (fun _ q => q) fun _ _ q => q
theorem HOk.laid (x : HOk P w H h) (k : ∀ b u, h.get? b = some u → h'.get? b = some u) (hp : h.objs.size ≤ a) (new : ObjOk P w (upd H a o) h' a o) : HOk P w (upd H a o) h' := fun b u e => by
  have hn := x.fresh hp
  by_cases hb : b = a
  · subst hb; rw [upd_same] at e; cases e; exact new
  · rw [upd_ne hb] at e
    exact (x b u e).stay (fun c v _ q => k c v q) (fun c q => by rw [upd_ne (ne_of_none q hn)]; exact q) fun c xs q => by rw [upd_ne (ne_of_none q hn)]; exact q
end
def Rd (H : Hp) (a : Addr) (u : HO) : Prop := H a = some u ∨ ∃ o, H a = some (.frz o u)
theorem Rd.of {H : Hp} {a : Addr} {u : HO} (h : H a = some u) : Rd H a u := .inl h
theorem Rd.ok {P : Program} {w : World} {H : Hp} {h : Heap} {a : Addr} {u : HO} (r : Rd H a u) (x : HOk P w H h) : ObjOk P w H h a u := by
  rcases r with r | ⟨o, r⟩
  · exact x a u r
  · obtain ⟨_, q⟩ := x a _ r
    exact q
def Mut : Option HO → Prop
  | some (.lst _) => True
  | some (.dK _) => True
  | some (.dT _) => True
  | some (.set _ _) => True
  | some (.ins _ _ _) => True
  | some (.ext _) => True
  | _ => False
section
variable {P : Program} {w : World} {H : Hp} {h h' : Heap} {x e : Addr} {o' : HO}
theorem HOk.write (ok : HOk P w H h) (mu : Mut (H x)) (he : e = x ∨ H e = some (.own x)) (k : ∀ b u, b ≠ e → h.get? b = some u → h'.get? b = some u) (heo : ∃ u, h'.get? e = some u)
    (new : ObjOk P w (upd H x o') h' x o') : HOk P w (upd H x o') h' := fun b u q => by
  have nown : ∀ c y, H c = some (.own y) → c ≠ x := fun c y r z => by subst z; rw [r] at mu; exact mu
  have ntup : ∀ c xs, H c = some (.tup xs) → c ≠ x := fun c xs r z => by subst z; rw [r] at mu; exact mu
  by_cases hb : b = x
  · subst hb; rw [upd_same] at q; cases q; exact new
  · rw [upd_ne hb] at q
    by_cases hbe : b = e
    · have q' : H b = some (.own x) := by
        rcases he with z | z
        · exact absurd (hbe.trans z) hb
        · rw [hbe]; exact z
      rw [q] at q'; cases q'
      obtain ⟨v, hv⟩ := heo
      exact ⟨v, by rw [hbe]; exact hv⟩
    · refine (ok b u q).stay (fun c v hc r => k c v ?_ r) (fun c r => by rw [upd_ne (nown c b r)]; exact r) fun c xs r => by rw [upd_ne (ntup c xs r)]; exact r
      rcases hc with rfl | hc
      · exact hbe
      · rintro rfl
        rcases he with z | z
        · exact nown c b hc z
        · rw [hc] at z; cases z; exact hb rfl
end
structure Un (fs ex : List Addr) (H H' : Hp) (h h' : Heap) : Prop where
  keep : ∀ b o, h.get? b = some o → H b = none → b ∉ fs → b ∉ ex → h'.get? b = some o
  slot : ∀ b o, h.get? b = some o → H b = none → b ∈ fs → b ∉ ex → ∃ sl, h'.get? b = some { o with slots := sl }
  free : ∀ b o, h.get? b = some o → H b = none → b ∉ ex → H' b = none
  there : ∀ b o, h.get? b = some o → b ∉ ex → ∃ o', h'.get? b = some o'
  tups : ∀ b xs, H b = some (.tup xs) → H' b = some (.tup xs)
  frzs : ∀ b o u, H b = some (.frz o u) → H' b = some (.frz o u)
  tbls : ∀ b ps, H b = some (.tbl ps) → ∃ more, H' b = some (.tbl (ps ++ more))
section
variable {fs fs' ex ex' : List Addr} {H H1 H2 : Hp} {h h1 h2 h' : Heap} {a x e : Addr} {o : HO}
theorem Un.any (u : Un fs ex H H1 h h1) {b : Addr} {ob : Obj} (q : h.get? b = some ob) (n : H b = none) (hx : b ∉ ex) : ∃ sl, h1.get? b = some { ob with slots := sl } := by
  by_cases hb : b ∈ fs
  · exact u.slot b ob q n hb hx
  · exact ⟨ob.slots, u.keep b ob q n hb hx⟩
theorem Un.trans (a : Un fs ex H H1 h h1) (b : Un fs ex H1 H2 h1 h2) : Un fs ex H H2 h h2 where
  keep := fun c ob q n hc hx => b.keep c ob (a.keep c ob q n hc hx) (a.free c ob q n hx) hc hx
  slot := fun c ob q n hc hx => by
    obtain ⟨sl, e1⟩ := a.slot c ob q n hc hx
    obtain ⟨sl', e2⟩ := b.slot c _ e1 (a.free c ob q n hx) hc hx
    exact ⟨sl', e2⟩
  free := fun c ob q n hx => by
    obtain ⟨o', e1⟩ := a.there c ob q hx
    exact b.free c o' e1 (a.free c ob q n hx) hx
  there := fun c ob q hx => by
    obtain ⟨o', e1⟩ := a.there c ob q hx
    exact b.there c o' e1 hx
  tups := fun c xs q => b.tups c xs (a.tups c xs q)
  frzs := fun c ob xs q => b.frzs c ob xs (a.frzs c ob xs q)
  tbls := fun c ps q => by
    obtain ⟨m1, e1⟩ := a.tbls c ps q
    obtain ⟨m2, e2⟩ := b.tbls c _ e1
    exact ⟨m1 ++ m2, by rw [e2, Array.append_assoc]⟩
theorem Un.kept (k : ∀ b u, h.get? b = some u → h'.get? b = some u) : Un fs ex H H h h' :=
  ⟨fun b ob q _ _ _ => k b ob q, fun b ob q _ _ _ => ⟨ob.slots, k b ob q⟩, fun _ _ _ n _ => n, fun b ob q _ => ⟨ob, k b ob q⟩, fun _ _ q => q, fun _ _ _ q => q, fun _ ps q => ⟨#[], by rw [q]; simp⟩⟩
theorem Un.refl : Un fs ex H H h h := Un.kept fun _ _ q => q
theorem Un.laid (k : ∀ b u, h.get? b = some u → h'.get? b = some u) (hp : h.objs.size ≤ a) (hn : H a = none) : Un fs ex H (upd H a o) h h' where
  keep := fun b u q _ _ _ => k b u q
  slot := fun b u q _ _ _ => ⟨u.slots, k b u q⟩
  free := fun b u q n _ => by rw [upd_ne (Nat.ne_of_lt (Nat.lt_of_lt_of_le (Heap.lt_size q) hp))]; exact n
  there := fun b u q _ => ⟨u, k b u q⟩
  tups := fun b xs q => by rw [upd_ne (ne_of_none q hn)]; exact q
  frzs := fun b u xs q => by rw [upd_ne (ne_of_none q hn)]; exact q
  tbls := fun b ps q => ⟨#[], by rw [upd_ne (ne_of_none q hn), q]; simp⟩
theorem Un.write (mu : Mut (H x)) (he : e = x ∨ H e = some (.own x)) (k : ∀ b u, b ≠ e → h.get? b = some u → h'.get? b = some u) (heo : ∃ u, h'.get? e = some u) : Un fs ex H (upd H x o) h h' := by
  have hx : ∀ b, H b = none → b ≠ x := fun b n z => by subst z; rw [n] at mu; exact mu
  have hb : ∀ b, H b = none → b ≠ e := fun b n z => by
    subst z
    rcases he with r | r
    · exact hx b n r
    · rw [n] at r; cases r
  have hm : ∀ b u, H b = some u → ¬ Mut (some u) → b ≠ x := fun b u q nm z => by subst z; rw [q] at mu; exact nm mu
  refine ⟨fun b u q n _ _ => k b u (hb b n) q, fun b u q n _ _ => ⟨u.slots, k b u (hb b n) q⟩, fun b u q n _ => by rw [upd_ne (hx b n)]; exact n, fun b u q _ => ?_,
    fun b xs q => by rw [upd_ne (hm b _ q fun z => z)]; exact q, fun b u xs q => by rw [upd_ne (hm b _ q fun z => z)]; exact q, fun b ps q => ⟨#[], by rw [upd_ne (hm b _ q fun z => z), q]; simp⟩⟩
  by_cases hbe : b = e
  · subst hbe; exact heo
  · exact ⟨u, k b u hbe q⟩
theorem Un.mono (u : Un fs ex H H1 h h1) (hs : ∀ b ∈ fs, b ∈ fs') (hx : ∀ b ∈ ex, b ∈ ex') : Un fs' ex' H H1 h h1 :=
  ⟨fun b ob q n hb he => u.keep b ob q n (fun z => hb (hs b z)) fun z => he (hx b z), fun _ _ q n _ he => u.any q n fun z => he (hx _ z), fun b ob q n he => u.free b ob q n fun z => he (hx b z), fun b ob q he => u.there b ob q fun z => he (hx b z), u.tups, u.frzs, u.tbls⟩
end
def trk (h : Heap) (H : Hp) : List Addr := (List.range h.objs.size).filter fun a => (H a).isSome
def hidT (h : Heap) (H : Hp) : Heap := PySem.W.hideAll h (trk h H)
theorem hidT_size (h : Heap) (H : Hp) : (hidT h H).objs.size = h.objs.size := PySem.W.hideAll_size _ _
theorem hidT_get {h : Heap} {H : Hp} {b : Addr} {o : Obj} (e : h.get? b = some o) (n : H b = none) : (hidT h H).get? b = some o :=
  PySem.W.hideAll_get _ e fun hm => by
    have q : (H b).isSome = true := (List.mem_filter.mp hm).2
    rw [n] at q; simp at q
theorem of_hidT {h : Heap} {H : Hp} {b : Addr} {o : Obj} (e : (hidT h H).get? b = some o) : h.get? b = some o ∧ H b = none := by
  have e' : h.get? b = some o := PySem.W.of_hideAll (trk h H) e
  refine ⟨e', ?_⟩
  cases q : H b with
  | none => rfl
  | some x =>
    have hm : b ∈ trk h H := List.mem_filter.mpr ⟨List.mem_range.mpr (Heap.lt_size e'), by simp [q]⟩
    have z : (hidT h H).get? b = none := PySem.W.hideAll_none (trk h H) hm
    rw [z] at e; cases e
def allNews (g h : Heap) (L : Addr) : List (Addr × Obj) := (List.range h.objs.size).filterMap fun a => if a = L ∨ (g.get? a).isSome = true then none else (h.get? a).map fun o => (a, o)
def rest (g h : Heap) (L d : Addr) : List (Addr × Obj) := (allNews g h L).filter fun p => decide (p.1 ≠ d)
end L2
namespace L2
open PySem PySem.Spec PyProof.Rows
structure Mod (K : PySem.W.Frag) (mg : Str → Option Value) (base : Heap) : Prop where
  kin : K.In base
  glob : base.Ns mainGlobals mg
  blt : ∃ mb, base.Ns builtinsNs mb ∧ ∀ x : Str, x ≠ "__name__" → mb x = bootBuiltins x
  nolimit : base.NoLimit
structure Cx where
  prog : Program
  w : World
  K : PySem.W.Frag
  mg : Str → Option Value
  base : Heap
  A : Around
  N : List Str
  s₀ : Shared
  H₀ : Hp
  env : Env
  outer : List Env
  stack : List Env
  ex : List Addr
  fn : Str → Bool
  calm : Bool
  pn : List (Addr × Obj)
  xe : Value → Shared → Prop
def frs (l : List Env) : List Addr := l.filterMap (·.frame)
abbrev Cx.fs (X : Cx) : List Addr := frs X.outer
def Vis (sc : Scope) (x : Str) : Prop := sc.names.lookup x = some .local ∨ sc.names.lookup x = some .cell ∨ sc.names.lookup x = some .free
def Loc (sc : Scope) (x : Str) : Prop := sc.names.lookup x = some .local ∨ sc.names.lookup x = some .cell
def Look (env : Env) (h : Heap) (m : Str → Option Value) (x : Str) (u : Value) : Prop :=
  (env.kindOf x = some .local ∧ m x = some u) ∨ ((env.kindOf x = some .cell ∨ env.kindOf x = some .free) ∧ ∃ c, env.cells.lookup x = some c ∧ h.IsCell c (some u))
structure Cx.Ok (X : Cx) : Prop where
  mod : Mod X.K X.mg X.base
  kind : X.env.scope.kind = .function
  glob : X.env.globals = mainGlobals
  blt : X.env.builtins = builtinsNs
  above : X.s₀.heap.objs.size ≤ X.env.locals
  inj : ∀ x y c, X.env.cells.lookup x = some c → X.env.cells.lookup y = some c → x = y
  has : ∀ x, (X.env.kindOf x = some .cell ∨ X.env.kindOf x = some .free) → ∃ c, X.env.cells.lookup x = some c
  cab : ∀ x c, X.fn x = true → X.env.cells.lookup x = some c → X.s₀.heap.objs.size ≤ c
  hd : X.calm = true → X.A.handled = none
  frames : X.A.frames = some X.stack
  stk : X.stack = X.outer ∨ (X.stack = X.env :: X.outer ∧ X.env.frame = some X.env.locals)
  exf : ∀ b ∈ X.ex, b ≠ X.env.locals ∧ ∀ x c, X.env.cells.lookup x = some c → c ≠ b
  bs : ∀ b o, X.base.get? b = some o → X.s₀.heap.get? b = some o ∧ X.H₀ b = none
  bsz : X.base.objs.size ≤ X.s₀.heap.objs.size
  noex : ∀ b o, X.base.get? b = some o → b ∉ X.ex
  exfs : ∀ b ∈ X.ex, b ∉ X.fs
  funs : X.s₀.heap.FunFrames X.base X.outer
  frf : ∀ b ∈ X.fs, X.H₀ b = none
  tb : TbAt X.K X.H₀
structure Inv (X : Cx) (pins : List (Addr × Obj)) (σ : List (Option V)) (H : Hp) (s : Shared) : Prop where
  ok : X.Ok
  os : s.os = X.s₀.os
  bare : AllBare s.gens
  base : Un X.fs X.ex X.H₀ H X.s₀.heap s.heap
  loc : ∃ m, s.heap.Ns X.env.locals m ∧ ∀ (i : Nat) (x : Str) (v : V), X.N[i]? = some x → σ[i]? = some (some v) → Vis X.env.scope x → ∃ u, RelV v u ∧ Look X.env s.heap m x u
  cell : ∀ x c, X.env.cells.lookup x = some c → ∃ v, s.heap.IsCell c v
  free : H X.env.locals = none
  freeC : ∀ x c, X.env.cells.lookup x = some c → H c = none
  pin : ∀ p ∈ X.pn ++ pins, s.heap.get? p.1 = some p.2 ∧ H p.1 = none ∧ p.1 ≠ X.env.locals ∧ p.1 ∉ X.fs ∧ ∀ v, p.2.data ≠ .cell v
  hok : HOk X.prog X.w H s.heap
  len : σ.length = X.N.length
section
variable {X : Cx} {pins : List (Addr × Obj)} {σ : List (Option V)} {H H' : Hp} {s : Shared} {h' : Heap}
theorem Cx.Ok.nofr (ok : X.Ok) {b : Addr} {o : Obj} (e : X.base.get? b = some o) : b ∉ X.fs := fun hb => by
  have := (ok.funs.mem hb).1
  rw [e] at this; cases this
theorem Inv.bs (I : Inv X pins σ H s) : ∀ b o, X.base.get? b = some o → s.heap.get? b = some o ∧ H b = none := fun b o e =>
  ⟨I.base.keep b o (I.ok.bs b o e).1 (I.ok.bs b o e).2 (I.ok.nofr e) (I.ok.noex b o e), I.base.free b o (I.ok.bs b o e).1 (I.ok.bs b o e).2 (I.ok.noex b o e)⟩
theorem Inv.bk (I : Inv X pins σ H s) : ∀ b o, X.base.get? b = some o → s.heap.get? b = some o := fun b o e => (I.bs b o e).1
theorem Inv.mod (I : Inv X pins σ H s) : Mod X.K X.mg X.base := I.ok.mod
theorem Inv.kIn (I : Inv X pins σ H s) : X.K.In s.heap := I.ok.mod.kin.keeps I.bk
theorem Inv.nolimit (I : Inv X pins σ H s) : s.heap.NoLimit := I.ok.mod.nolimit.keeps I.bk
theorem Inv.fr (I : Inv X pins σ H s) : ∃ m, Fr X.base X.env.locals s.heap m :=
  let ⟨m, hn, _⟩ := I.loc
  ⟨m, hn, I.bk, Nat.le_trans I.ok.bsz I.ok.above⟩
theorem Inv.lt (I : Inv X pins σ H s) : X.env.locals < s.heap.objs.size := let ⟨_, hn, _⟩ := I.loc; hn.lt
theorem Inv.sz (I : Inv X pins σ H s) : X.s₀.heap.objs.size ≤ s.heap.objs.size := Nat.le_trans I.ok.above (Nat.le_of_lt I.lt)
theorem Inv.nofs (I : Inv X pins σ H s) {a : Addr} (h : s.heap.objs.size ≤ a) : a ∉ X.fs := fun hb => by
  obtain ⟨_, o, ho, _⟩ := I.ok.funs.mem hb
  exact absurd (Nat.lt_of_lt_of_le (Heap.lt_size ho) (Nat.le_trans I.sz h)) (Nat.lt_irrefl _)
theorem Inv.cne (I : Inv X pins σ H s) : ∀ x c, X.env.cells.lookup x = some c → c ≠ X.env.locals := fun x c e z => by
  obtain ⟨v, o, ho, hd⟩ := I.cell x c e
  obtain ⟨m, ⟨o', es, ep, ho', hd', _⟩, _⟩ := I.loc
  rw [z, ho'] at ho; cases ho; rw [hd'] at hd; cases hd
theorem Inv.funs (I : Inv X pins σ H s) : s.heap.FunFrames X.base X.outer := by
  have all : ∀ (l : List Env), (∀ b ∈ frs l, b ∈ X.fs) → X.s₀.heap.FunFrames X.base l → s.heap.FunFrames X.base l := by
    intro l
    induction l with
    | nil => intro _ _; trivial
    | cons env r ih =>
      intro hs hl
      obtain ⟨hk, ⟨L, o, hf, hn, ho, hd⟩, hr⟩ := hl
      have hL : L ∈ X.fs := hs L (by unfold frs; rw [List.filterMap_cons, hf]; exact List.mem_cons_self)
      obtain ⟨sl, e⟩ := I.base.slot L o ho (I.ok.frf L hL) hL fun z => I.ok.exfs L z hL
      exact ⟨hk, ⟨L, _, hf, hn, e, hd⟩, ih (fun b hb => hs b (by unfold frs; rw [List.filterMap_cons, hf]; exact List.mem_cons_of_mem _ hb)) hr⟩
  exact all X.outer (fun _ hb => hb) I.ok.funs
theorem Inv.stack (I : Inv X pins σ H s) : s.heap.FunFrames X.base X.stack := by
  rcases I.ok.stk with e | ⟨e, hf⟩
  · rw [e]; exact I.funs
  · rw [e]
    obtain ⟨m, hn, _⟩ := I.loc
    refine .cons (by rw [I.ok.kind]; decide) hf hn ?_ I.funs
    exact Heap.get?_none_of_le (Nat.le_trans I.ok.bsz I.ok.above)
theorem Inv.stkSub (I : Inv X pins σ H s) : ∀ b ∈ frs X.stack, b ∈ X.env.locals :: X.fs := fun b hb => by
  rcases I.ok.stk with e | ⟨e, hf⟩
  · rw [e] at hb; exact List.mem_cons_of_mem _ hb
  · rw [e] at hb
    unfold frs at hb
    rw [List.filterMap_cons, hf] at hb
    exact hb
theorem Inv.stkFree (I : Inv X pins σ H s) : ∀ b ∈ frs X.stack, H b = none := fun b hb => by
  rcases List.mem_cons.mp (I.stkSub b hb) with e | hb
  · rw [e]; exact I.free
  · obtain ⟨_, o, ho, _⟩ := I.ok.funs.mem hb
    exact I.base.free b o ho (I.ok.frf b hb) fun z => I.ok.exfs b z hb
theorem Inv.step {g' : Array GenState} {t' : Nat} {d' : Drawn} {ch : List Addr} (I : Inv X pins σ H s)
    (hch : ∀ b ∈ ch, (b ∈ X.ex ∨ X.s₀.heap.objs.size ≤ b) ∧ b ≠ X.env.locals ∧ (∀ x c, X.env.cells.lookup x = some c → c ≠ b) ∧ ∀ p ∈ X.pn ++ pins, p.1 ≠ b)
    (keep : ∀ b o, b ≠ X.env.locals → b ∉ X.fs → b ∉ ch → s.heap.get? b = some o → H b = none → h'.get? b = some o)
    (slot : ∀ b o, b ≠ X.env.locals → b ∈ X.fs → b ∉ ch → s.heap.get? b = some o → H b = none → ∃ sl, h'.get? b = some { o with slots := sl }) (free : ∀ b o, b ∉ ch → s.heap.get? b = some o → H b = none → H' b = none)
    (there : ∀ b o, b ∉ ch → s.heap.get? b = some o → ∃ o', h'.get? b = some o')
    (tups : ∀ b xs, H b = some (.tup xs) → H' b = some (.tup xs)) (frzs : ∀ b o u, H b = some (.frz o u) → H' b = some (.frz o u)) (tbls : ∀ b ps, H b = some (.tbl ps) → ∃ more, H' b = some (.tbl (ps ++ more)))
    (ns : ∀ m, s.heap.Ns X.env.locals m → h'.Ns X.env.locals m) (hok : HOk X.prog X.w H' h') (hg : AllBare g') :
    Inv X pins σ H' { s with heap := h', gens := g', drawn := d', toks := t' } := by
  have neL : ∀ b o, X.s₀.heap.get? b = some o → b ≠ X.env.locals := fun b o e => Nat.ne_of_lt (Nat.lt_of_lt_of_le (Heap.lt_size e) I.ok.above)
  have neC : ∀ b o, X.s₀.heap.get? b = some o → b ∉ X.ex → b ∉ ch := fun b o e hx hb => by
    rcases (hch b hb).1 with z | z
    · exact hx z
    · exact absurd (Nat.lt_of_lt_of_le (Heap.lt_size e) z) (Nat.lt_irrefl _)
  have cellK : ∀ x c, X.env.cells.lookup x = some c → ∀ v, s.heap.IsCell c v → h'.IsCell c v := fun x c e v ⟨o, ho, hd⟩ => by
    have nch : c ∉ ch := fun z => (hch c z).2.2.1 x c e rfl
    by_cases hc : c ∈ X.fs
    · obtain ⟨sl, q⟩ := slot c o (I.cne x c e) hc nch ho (I.freeC x c e)
      exact ⟨_, q, hd⟩
    · exact ⟨o, keep c o (I.cne x c e) hc nch ho (I.freeC x c e), hd⟩
  refine ⟨I.ok, I.os, hg, ⟨fun b o e n hb hx => ?_, fun b o e n hb hx => ?_, fun b o e n hx => ?_, fun b o e hx => ?_, fun b xs e => tups b xs (I.base.tups b xs e), fun b o xs e => frzs b o xs (I.base.frzs b o xs e), fun b ps e => ?_⟩, ?_, fun x c e => ?_, ?_, fun x c e => ?_, fun p hp => ?_, hok, I.len⟩
  · exact keep b o (neL b o e) hb (neC b o e hx) (I.base.keep b o e n hb hx) (I.base.free b o e n hx)
  · obtain ⟨sl, e1⟩ := I.base.slot b o e n hb hx
    obtain ⟨sl', e2⟩ := slot b _ (neL b o e) hb (neC b o e hx) e1 (I.base.free b o e n hx)
    exact ⟨sl', e2⟩
  · obtain ⟨o', e1⟩ := I.base.there b o e hx
    exact free b o' (neC b o e hx) e1 (I.base.free b o e n hx)
  · obtain ⟨o', e1⟩ := I.base.there b o e hx
    exact there b o' (neC b o e hx) e1
  · obtain ⟨m1, e1⟩ := I.base.tbls b ps e
    obtain ⟨m2, e2⟩ := tbls b _ e1
    exact ⟨m1 ++ m2, by rw [e2, Array.append_assoc]⟩
  · obtain ⟨m, hn, hl⟩ := I.loc
    refine ⟨m, ns m hn, fun i x v e1 e2 e3 => ?_⟩
    obtain ⟨u, r, l⟩ := hl i x v e1 e2 e3
    refine ⟨u, r, ?_⟩
    rcases l with l | ⟨k, c, e, z⟩
    · exact .inl l
    · exact .inr ⟨k, c, e, cellK x c e _ z⟩
  · obtain ⟨v, z⟩ := I.cell x c e
    exact ⟨v, cellK x c e v z⟩
  · obtain ⟨m, ⟨o, _, _, ho, _⟩, _⟩ := I.loc
    exact free _ o (fun z => (hch _ z).2.1 rfl) ho I.free
  · obtain ⟨v, o, ho, hd⟩ := I.cell x c e
    exact free c o (fun z => (hch c z).2.2.1 x c e rfl) ho (I.freeC x c e)
  · obtain ⟨e, n, ne, nf, d⟩ := I.pin p hp
    have nch : p.1 ∉ ch := fun z => (hch p.1 z).2.2.2 p hp rfl
    exact ⟨keep p.1 p.2 ne nf nch e n, free p.1 p.2 nch e n, ne, nf, d⟩
theorem Inv.un {t' : Nat} (I : Inv X pins σ H s) (u : Un X.fs [] H H' s.heap h') (hok : HOk X.prog X.w H' h') : Inv X pins σ H' { s with heap := h', toks := t' } := by
  obtain ⟨m, ⟨o, es, ep, ho, r⟩, _⟩ := id I.loc
  obtain ⟨sl, hL⟩ := u.any ho I.free (by simp)
  exact I.step (g' := s.gens) (d' := s.drawn) (ch := []) (fun _ z => nomatch z) (fun b o _ hb _ e n => u.keep b o e n hb (by simp)) (fun b o _ hb _ e n => u.slot b o e n hb (by simp)) (fun b o _ e n => u.free b o e n (by simp)) (fun b o _ e => u.there b o e (by simp)) u.tups u.frzs u.tbls (fun m' hm => by
    obtain ⟨o', es', ep', ho', r'⟩ := hm
    rw [ho] at ho'; cases ho'
    exact ⟨_, es', ep', hL, r'⟩) hok I.bare
theorem Inv.call {g' : Array GenState} {t' : Nat} {d' : Drawn} {ch : List Addr} (I : Inv X pins σ H s) (u : Un (frs X.stack) ch H H' s.heap h') (hok : HOk X.prog X.w H' h') (hg : AllBare g')
    (hch : ∀ b ∈ ch, (b ∈ X.ex ∨ X.s₀.heap.objs.size ≤ b) ∧ b ≠ X.env.locals ∧ (∀ x c, X.env.cells.lookup x = some c → c ≠ b) ∧ ∀ p ∈ X.pn ++ pins, p.1 ≠ b) :
    Inv X pins σ H' { s with heap := h', gens := g', drawn := d', toks := t' } := by
  obtain ⟨m, ⟨o, es, ep, ho, r⟩, _⟩ := id I.loc
  obtain ⟨sl, hL⟩ := u.any ho I.free fun z => (hch _ z).2.1 rfl
  exact I.step (ch := ch) hch (fun b o hL hb hc e n => u.keep b o e n (fun z => (List.mem_cons.mp (I.stkSub b z)).elim hL hb) hc) (fun b o _ _ hc e n => u.any e n hc) (fun b o hc e n => u.free b o e n hc) (fun b o hc e => u.there b o e hc) u.tups u.frzs u.tbls (fun m' hm => by
    obtain ⟨o', es', ep', ho', r'⟩ := hm
    rw [ho] at ho'; cases ho'
    exact ⟨_, es', ep', hL, r'⟩) hok hg
theorem Inv.turned {t' : Nat} {it : Addr} (I : Inv X pins σ H s) (k : ∀ b o, b ≠ it → s.heap.get? b = some o → h'.get? b = some o) (hn : H it = none) (hL : it ≠ X.env.locals)
    (h1 : it ∈ X.ex ∨ X.s₀.heap.objs.size ≤ it) (h2 : ∀ x c, X.env.cells.lookup x = some c → c ≠ it) (h3 : ∀ p ∈ X.pn ++ pins, p.1 ≠ it) : Inv X pins σ H { s with heap := h', toks := t' } := by
  have nit : ∀ b u, H b = some u → b ≠ it := fun b u e z => by rw [z, hn] at e; cases e
  refine I.step (g' := s.gens) (d' := s.drawn) (ch := [it]) (fun b hb => ?_) (fun b o _ _ hc e _ => k b o (fun z => hc (by simp [z])) e) (fun b o _ _ hc e _ => ⟨o.slots, k b o (fun z => hc (by simp [z])) e⟩) (fun _ _ _ _ n => n)
    (fun b o hc e => ⟨o, k b o (fun z => hc (by simp [z])) e⟩) (fun _ _ e => e) (fun _ _ _ e => e) (fun b ps e => ⟨#[], by rw [e]; simp⟩) (fun m hm => ?_) (fun b u e => ?_) I.bare
  · have e : b = it := by simpa using hb
    subst e
    exact ⟨h1, hL, h2, h3⟩
  · obtain ⟨o, es, ep, ho, r⟩ := hm
    exact ⟨o, es, ep, k _ o (Ne.symm hL) ho, r⟩
  · refine (I.hok b u e).stay (fun c v hc q => k c v ?_ q) (fun _ q => q) fun _ _ q => q
    rcases hc with z | z
    · rw [z]; exact nit b u e
    · exact nit c _ z
theorem Inv.tok (I : Inv X pins σ H s) (t : Nat) : Inv X pins σ H { s with toks := t } := I.un (h' := s.heap) (t' := t) Un.refl I.hok
theorem Inv.kept {t' : Nat} (I : Inv X pins σ H s) (k : ∀ b u, s.heap.get? b = some u → h'.get? b = some u) : Inv X pins σ H { s with heap := h', toks := t' } := I.un (Un.kept k) (I.hok.kept k)
theorem Inv.laid {a : Addr} {o : HO} {t' : Nat} (I : Inv X pins σ H s) (k : ∀ b u, s.heap.get? b = some u → h'.get? b = some u) (hp : s.heap.objs.size ≤ a) (new : ObjOk X.prog X.w (upd H a o) h' a o) :
    Inv X pins σ (upd H a o) { s with heap := h', toks := t' } := I.un (Un.laid k hp (I.hok.fresh hp)) (I.hok.laid k hp new)
theorem Inv.write {x e : Addr} {o : HO} {t' : Nat} (I : Inv X pins σ H s) (mu : Mut (H x)) (he : e = x ∨ H e = some (.own x)) (k : ∀ b u, b ≠ e → s.heap.get? b = some u → h'.get? b = some u) (heo : ∃ u, h'.get? e = some u)
    (new : ObjOk X.prog X.w (upd H x o) h' x o) : Inv X pins σ (upd H x o) { s with heap := h', toks := t' } := I.un (Un.write mu he k heo) (I.hok.write mu he k heo new)
theorem Inv.pins_of {pins' : List (Addr × Obj)} (I : Inv X pins σ H s) (h : ∀ p ∈ pins', s.heap.get? p.1 = some p.2 ∧ H p.1 = none ∧ p.1 ≠ X.env.locals ∧ p.1 ∉ X.fs ∧ ∀ v, p.2.data ≠ .cell v) : Inv X pins' σ H s :=
  ⟨I.ok, I.os, I.bare, I.base, I.loc, I.cell, I.free, I.freeC, fun p hp => (List.mem_append.mp hp).elim (fun z => I.pin p (List.mem_append_left _ z)) (h p), I.hok, I.len⟩
theorem nodup_ix {N : List Str} (hN : N.Nodup) {i j : Nat} {x : Str} (a : N[i]? = some x) (b : N[j]? = some x) : i = j := by
  obtain ⟨h1, e1⟩ := List.getElem?_eq_some_iff.mp a
  obtain ⟨h2, e2⟩ := List.getElem?_eq_some_iff.mp b
  exact (List.getElem_inj hN).mp (e1.trans e2.symm)
theorem store_ok2 {M : Model} {A : Around} {E : Value → Shared → Prop} {i : Nat} {x : Str} {v : V} {u : Value} {Q : Unit → Shared → Prop} (I : Inv X pins σ H s) (hN : X.N.Nodup) (hi : X.N[i]? = some x) (hx : Loc X.env.scope x) (r : RelV v u)
    (h : ∀ s', Inv X pins (σ.set i (some v)) H s' → (∃ a, Heap.SameBut a s.heap s'.heap ∧ (a = X.env.locals ∨ X.env.cells.lookup x = some a)) → Q () s') (hf : X.fn x = true ∨ X.env.scope.names.lookup x = some .local := by first | exact .inl rfl | exact .inr rfl | assumption) : wpAny M A (storeName X.env x u) Q E s := by
  obtain ⟨m, hn, hl⟩ := id I.loc
  have hcls : (X.env.scope.kind == .class || (X.env.scope.kind == .module && X.env.locals != X.env.globals)) = false := by rw [I.ok.kind]; rfl
  have hiσ : i < σ.length := by rw [I.len]; exact (List.getElem?_eq_some_iff.mp hi).1
  have cne := I.cne
  have tracked : ∀ {a : Addr} {h' : Heap}, (∃ o, s.heap.get? a = some o ∧ H a = none) → Heap.SameBut a s.heap h' → HOk X.prog X.w H h' := fun {a h'} ha hs b ob e => by
    obtain ⟨_, _, hfree⟩ := ha
    refine (I.hok b ob e).stay (fun c w' hc q => (hs.2 c ?_).trans q) (fun _ q => q) fun _ _ q => q
    rintro rfl
    rcases hc with rfl | hc
    · rw [hfree] at e; cases e
    · rw [hfree] at hc; cases hc
  rcases hx with hk | hk
  · refine wpAny_storeName_local hk hn (fun h' hn' hs => ?_) hcls
    obtain ⟨oL, _, _, hoL, _⟩ := id hn
    refine h _ ⟨I.ok, I.os, I.bare, ⟨fun b o e n hb hx => ?_, fun b o e n hb hx => ?_, I.base.free, fun b o e hx => ?_, I.base.tups, I.base.frzs, I.base.tbls⟩, ⟨_, hn', fun j y v' e1 e2 e3 => ?_⟩, fun y c e => ?_, I.free, I.freeC, fun p hp => ?_, tracked ⟨oL, hoL, I.free⟩ hs, by simpa using I.len⟩ ⟨_, hs, .inl rfl⟩
    · exact (hs.2 b (Nat.ne_of_lt (Nat.lt_of_lt_of_le (Heap.lt_size e) I.ok.above))).trans (I.base.keep b o e n hb hx)
    · obtain ⟨sl, e1⟩ := I.base.slot b o e n hb hx
      exact ⟨sl, (hs.2 b (Nat.ne_of_lt (Nat.lt_of_lt_of_le (Heap.lt_size e) I.ok.above))).trans e1⟩
    · obtain ⟨o', e1⟩ := I.base.there b o e hx
      exact ⟨o', (hs.2 b (Nat.ne_of_lt (Nat.lt_of_lt_of_le (Heap.lt_size e) I.ok.above))).trans e1⟩
    · by_cases hj : j = i
      · subst hj
        rw [hi] at e1; cases e1
        rw [List.getElem?_set_self hiσ] at e2
        cases e2
        exact ⟨u, r, .inl ⟨hk, by simp⟩⟩
      · rw [List.getElem?_set_ne (Ne.symm hj)] at e2
        obtain ⟨u', r', q⟩ := hl j y v' e1 e2 e3
        refine ⟨u', r', ?_⟩
        rcases q with ⟨k, e⟩ | ⟨k, c, e, z⟩
        · refine .inl ⟨k, ?_⟩
          have : y ≠ x := fun e => hj (nodup_ix hN e1 (e ▸ hi))
          simp [this, e]
        · exact .inr ⟨k, c, e, z.sameBut hs (cne y c e)⟩
    · obtain ⟨w', z⟩ := I.cell y c e
      exact ⟨w', z.sameBut hs (cne y c e)⟩
    · obtain ⟨e, n, ne, nf, d⟩ := I.pin p hp
      exact ⟨(hs.2 p.1 ne).trans e, n, ne, nf, d⟩
  · have hfn : X.fn x = true := by
      rcases hf with z | z
      · exact z
      · rw [z] at hk; cases hk
    obtain ⟨c, hc⟩ := I.ok.has x (.inl hk)
    obtain ⟨w', z⟩ := I.cell x c hc
    refine wpAny_storeName_cell I.ok.kind hk hc z (fun h' hc' hs => ?_)
    obtain ⟨oc, hoc, hocd⟩ := id z
    refine h { s with heap := h' } ⟨I.ok, I.os, I.bare, ⟨fun b o e n hb hx => ?_, fun b o e n hb hx => ?_, I.base.free, fun b o e hx => ?_, I.base.tups, I.base.frzs, I.base.tbls⟩, ⟨m, hn.sameBut hs (Ne.symm (cne x c hc)), fun j y v' e1 e2 e3 => ?_⟩, fun y c' e => ?_, I.free, I.freeC, fun p hp => ?_, tracked ⟨oc, hoc, I.freeC x c hc⟩ hs, by simpa using I.len⟩ ⟨c, hs, .inr hc⟩
    · exact (hs.2 b (Nat.ne_of_lt (Nat.lt_of_lt_of_le (Heap.lt_size e) (I.ok.cab x c hfn hc)))).trans (I.base.keep b o e n hb hx)
    · obtain ⟨sl, e1⟩ := I.base.slot b o e n hb hx
      exact ⟨sl, (hs.2 b (Nat.ne_of_lt (Nat.lt_of_lt_of_le (Heap.lt_size e) (I.ok.cab x c hfn hc)))).trans e1⟩
    · obtain ⟨o', e1⟩ := I.base.there b o e hx
      exact ⟨o', (hs.2 b (Nat.ne_of_lt (Nat.lt_of_lt_of_le (Heap.lt_size e) (I.ok.cab x c hfn hc)))).trans e1⟩
    · by_cases hj : j = i
      · subst hj
        rw [hi] at e1; cases e1
        rw [List.getElem?_set_self hiσ] at e2
        cases e2
        exact ⟨u, r, .inr ⟨.inl hk, c, hc, hc'⟩⟩
      · rw [List.getElem?_set_ne (Ne.symm hj)] at e2
        obtain ⟨u', r', q⟩ := hl j y v' e1 e2 e3
        refine ⟨u', r', ?_⟩
        rcases q with q | ⟨k, c', e, z'⟩
        · exact .inl q
        · refine .inr ⟨k, c', e, z'.sameBut hs ?_⟩
          rintro rfl
          exact hj (nodup_ix hN e1 (I.ok.inj _ _ _ e hc ▸ hi))
    · by_cases hcc : c' = c
      · subst hcc; exact ⟨_, hc'⟩
      · obtain ⟨w2, z2⟩ := I.cell y c' e
        exact ⟨w2, z2.sameBut hs hcc⟩
    · obtain ⟨e, n, ne, nf, d⟩ := I.pin p hp
      refine ⟨(hs.2 p.1 ?_).trans e, n, ne, nf, d⟩
      intro q
      rw [q, hoc] at e
      have q' : oc = p.2 := Option.some.inj e
      exact d w' (by rw [← q']; exact hocd)
theorem store_ok {M : Model} {A : Around} {E : Value → Shared → Prop} {i : Nat} {x : Str} {v : V} {u : Value} {Q : Unit → Shared → Prop} (I : Inv X pins σ H s) (hN : X.N.Nodup) (hi : X.N[i]? = some x) (hx : Loc X.env.scope x) (r : RelV v u)
    (h : ∀ s', Inv X pins (σ.set i (some v)) H s' → Q () s') (hf : X.fn x = true ∨ X.env.scope.names.lookup x = some .local := by first | exact .inl rfl | exact .inr rfl | assumption) : wpAny M A (storeName X.env x u) Q E s :=
  store_ok2 I hN hi hx r (fun s' I' _ => h s' I') hf
end
abbrev XK := Value → Option Addr → Hp → Prop
abbrev St := List (Option V)
abbrev VK := V → Hp → Prop
abbrev TE := St → Hp → VK → Prop
abbrev TT := St → Hp → (Bool → Hp → Prop) → Prop
abbrev TA := St → Hp → (List V → Hp → Prop) → Prop
structure Ends where
  nx : St → Hp → Prop
  rt : VK
  bk : St → Hp → Prop := fun _ _ => False
  ct : St → Hp → Prop := fun _ _ => False
abbrev TS := Ends → St → Hp → Prop
def EP (X : Cx) (pins : List (Addr × Obj)) (σ : St) (Q : VK) (u : Value) (s' : Shared) : Prop := ∃ v H', Inv X pins σ H' s' ∧ RelV v u ∧ Q v H'
def TP (X : Cx) (pins : List (Addr × Obj)) (σ : St) (Q : Bool → Hp → Prop) (b : Bool) (s' : Shared) : Prop := ∃ H', Inv X pins σ H' s' ∧ Q b H'
def AP (X : Cx) (pins : List (Addr × Obj)) (σ : St) (Q : List V → Hp → Prop) (us : List Value) (s' : Shared) : Prop := ∃ vs H', Inv X pins σ H' s' ∧ Vals vs us ∧ Q vs H'
def SP (X : Cx) (pins : List (Addr × Obj)) (D : Ends) (f : Flow) (s' : Shared) : Prop :=
  match f with
  | .next => ∃ σ' H', Inv X pins σ' H' s' ∧ D.nx σ' H'
  | .brk => ∃ σ' H', Inv X pins σ' H' s' ∧ D.bk σ' H'
  | .cont => ∃ σ' H', Inv X pins σ' H' s' ∧ D.ct σ' H'
  | .ret u => ∃ v σ' H', Inv X pins σ' H' s' ∧ RelV v u ∧ D.rt v H'
def PE (X : Cx) (e : Expr) (t : TE) : Prop :=
  ∀ (pins : List (Addr × Obj)) (s : Shared) (σ : St) (H : Hp) (Q : VK), Inv X pins σ H s → t σ H Q → wpAny (model X.prog X.w) X.A (eval e X.env) (EP X pins σ Q) X.xe s
def PT (X : Cx) (e : Expr) (t : TT) : Prop :=
  ∀ (pins : List (Addr × Obj)) (s : Shared) (σ : St) (H : Hp) (Q : Bool → Hp → Prop), Inv X pins σ H s → t σ H Q → wpAny (model X.prog X.w) X.A (isTrue e X.env (eval e X.env)) (TP X pins σ Q) X.xe s
def PW (X : Cx) (e : Expr) (t : TT) : Prop :=
  ∀ (whole : Sem Value) (pins : List (Addr × Obj)) (s : Shared) (σ : St) (H : Hp) (Q : Bool → Hp → Prop), Inv X pins σ H s → t σ H Q → wpAny (model X.prog X.w) X.A (isTrue e X.env whole) (TP X pins σ Q) X.xe s
theorem PW.pt {X : Cx} {e : Expr} {t : TT} (h : PW X e t) : PT X e t := h _
def PA (X : Cx) (es : List Expr) (t : TA) : Prop :=
  ∀ (pos : Pos) (pins : List (Addr × Obj)) (s : Shared) (σ : St) (H : Hp) (Q : List V → Hp → Prop), Inv X pins σ H s → t σ H Q → wpAny (model X.prog X.w) X.A (spliced (backTo pos (starEach es X.env))) (AP X pins σ Q) X.xe s
def PS (X : Cx) (st : Stmt) (t : TS) : Prop :=
  ∀ (pins : List (Addr × Obj)) (s : Shared) (σ : St) (H : Hp) (D : Ends), Inv X pins σ H s → t D σ H → wpAny (model X.prog X.w) X.A (exec st X.env) (SP X pins D) X.xe s
def PSs (X : Cx) (st : List Stmt) (t : TS) : Prop :=
  ∀ (pins : List (Addr × Obj)) (s : Shared) (σ : St) (H : Hp) (D : Ends), Inv X pins σ H s → t D σ H → wpAny (model X.prog X.w) X.A (execs st X.env) (SP X pins D) X.xe s
theorem thn {α : Type} {t : Sem α} {Q Q' : α → Shared → Prop} {M : Model} {A : Around} {E : Value → Shared → Prop} {s : Shared} (h : wpAny M A t Q E s) (hQ : ∀ a s, Q a s → Q' a s) : wpAny M A t Q' E s := wpAny_mono h hQ fun _ _ x => x
end L2
namespace L2
open PySem PySem.Spec PyProof.Rows
section
variable {X : Cx}
def tVar (i : Nat) : TE := fun σ H Q => ∃ v, σ[i]? = some (some v) ∧ Q v H
def tC (v : V) : TE := fun _ H Q => Q v H
theorem pe_var {i : Nat} {x : Str} {pos : Pos} (hN : X.N[i]? = some x) (hv : Vis X.env.scope x) (hd : (x == ("__debug__" : Str)) = false := by decide) (hcd : (x == ("__classdict__" : Str)) = false := by decide) : PE X (.Name x pos) (tVar i) := by
  intro pins s σ H Q I h
  obtain ⟨v, e, h⟩ := h
  obtain ⟨m, hn, hl⟩ := I.loc
  obtain ⟨u, r, l⟩ := hl i x v hN e hv
  have fin : EP X pins σ Q u s := ⟨v, H, I, r, h⟩
  rcases l with ⟨hk, hm⟩ | ⟨hk, c, hc, hcell⟩
  · exact wpAny_Name (wpAny_loadName_local I.ok.kind hk hn hm fin) hd
  · rcases hk with hk | hk
    · exact wpAny_Name (wpAny_loadName_cell I.ok.kind hk hc hcell fin) hd
    · exact wpAny_Name (wpAny_loadName_free I.ok.kind hk hc hcell fin hcd) hd
theorem pe_int {i j pos} : PE X (.Constant (.int i) j pos) (tC (.int i)) := fun _ _ _ H _ I h => wpAny_Constant_int ⟨.int i, H, I.tok _, ⟨_, rfl⟩, h⟩
theorem pe_bl {b j pos} : PE X (.Constant (.bool b) j pos) (tC (.bl b)) := fun _ _ _ H _ I h => Constant_bool ⟨.bl b, H, I, rfl, h⟩
def Gl (X : Cx) (x : Str) : Prop := X.env.kindOf x = some .globalImplicit
theorem ld_glob {E : Value → Shared → Prop} {pins : List (Addr × Obj)} {s : Shared} {σ : St} {H : Hp} {x : Str} {u : Value} {pos : Pos} {Q : Value → Shared → Prop} (I : Inv X pins σ H s) (hg : Gl X x) (hm : X.mg x = some u) (h : Q u s)
    (hd : (x == ("__debug__" : Str)) = false := by decide) : wpAny (model X.prog X.w) X.A (eval (.Name x pos) X.env) Q E s :=
  Calls.Name_function_global I.ok.kind hg (Calls.loadGlobal_global (by rw [I.ok.glob]; exact I.mod.glob.keeps I.bk) hm h) hd
theorem ld_blt {E : Value → Shared → Prop} {pins : List (Addr × Obj)} {s : Shared} {σ : St} {H : Hp} {x : Str} {u : Value} {pos : Pos} {Q : Value → Shared → Prop} (I : Inv X pins σ H s) (hg : Gl X x) (hm : X.mg x = none) (hv : bootBuiltins x = some u) (h : Q u s)
    (hn : x ≠ "__name__" := by decide) (hd : (x == ("__debug__" : Str)) = false := by decide) : wpAny (model X.prog X.w) X.A (eval (.Name x pos) X.env) Q E s := by
  obtain ⟨mb, h1, h2⟩ := I.mod.blt
  exact Calls.Name_function_global I.ok.kind hg (Calls.loadGlobal_builtin (by rw [I.ok.glob]; exact I.mod.glob.keeps I.bk) hm (by rw [I.ok.blt]; exact h1.keeps I.bk) ((h2 x hn).trans hv) h) hd
theorem pe_bltn {x : Str} {v : V} {u : Value} {pos : Pos} (hg : Gl X x) (hm : X.mg x = none) (hv : bootBuiltins x = some u) (r : RelV v u) (hn : x ≠ "__name__" := by decide) (hd : (x == ("__debug__" : Str)) = false := by decide) : PE X (.Name x pos) (tC v) :=
  fun _ _ _ H _ I h => ld_blt I hg hm hv ⟨v, H, I, r, h⟩ hn hd
variable {a b : Expr} {ta tb : TE} {pos : Pos}
def tB (t : TE) : TT := fun σ H Q => t σ H fun x H1 => ∃ c, x = .bl c ∧ Q c H1
theorem pt_val {e : Expr} {t : TE} (h : PE X e t) (he : ∀ whole, isTrue e X.env whole = (do let v ← whole; standAt e.pos; holding [v] (truthy v)) := by intro _; rfl) : PT X e (tB t) := by
  intro pins s σ H Q I hw
  refine isTrue_plain (thn (h pins s σ H _ I hw) fun v s1 ⟨x, H1, I1, r1, q1⟩ => ?_) (he _)
  obtain ⟨d, rfl, q⟩ := q1
  cases r1
  exact wpAny_truthy_bool ⟨H1, I1, q⟩
variable {tA tB' : TT} {rest : List Expr}
def tAnd (t u : TT) : TT := fun σ H Q => t σ H fun c H1 => if c = true then u σ H1 Q else Q false H1
def tOr (t u : TT) : TT := fun σ H Q => t σ H fun c H1 => if c = true then Q true H1 else u σ H1 Q
def tNot (t : TT) : TT := fun σ H Q => t σ H fun c H1 => Q (!c) H1
theorem pw_and1 (ha : PT X a tA) : PW X (.BoolOp .And [a] pos) tA := by
  intro wh pins s σ H Q I h
  refine isTrue_and (thn (ha pins s σ H Q I h) fun c s1 e => ?_)
  cases c with
  | true => exact isTrue_and_nil e
  | false => exact e
theorem pw_or1 (ha : PT X a tA) : PW X (.BoolOp .Or [a] pos) tA := by
  intro wh pins s σ H Q I h
  refine isTrue_or (thn (ha pins s σ H Q I h) fun c s1 e => ?_)
  cases c with
  | false => exact isTrue_or_nil e
  | true => exact e
theorem pw_and (ha : PT X a tA) (hb : PW X (.BoolOp .And (b :: rest) pos) tB') : PW X (.BoolOp .And (a :: b :: rest) pos) (tAnd tA tB') := by
  intro wh pins s σ H Q I h
  refine isTrue_and (thn (ha pins s σ H _ I h) fun c s1 ⟨H1, I1, q1⟩ => ?_)
  cases c with
  | true => exact hb wh pins s1 σ H1 Q I1 q1
  | false => exact ⟨H1, I1, q1⟩
theorem pw_or (ha : PT X a tA) (hb : PW X (.BoolOp .Or (b :: rest) pos) tB') : PW X (.BoolOp .Or (a :: b :: rest) pos) (tOr tA tB') := by
  intro wh pins s σ H Q I h
  refine isTrue_or (thn (ha pins s σ H _ I h) fun c s1 ⟨H1, I1, q1⟩ => ?_)
  cases c with
  | true => exact ⟨H1, I1, q1⟩
  | false => exact hb wh pins s1 σ H1 Q I1 q1
theorem pt_not (ha : PT X a tA) : PT X (.UnaryOp .Not a pos) (tNot tA) := by
  intro pins s σ H Q I h
  exact isTrue_not (ha pins s σ H (fun c H1 => Q (!c) H1) I h)
end
end L2
namespace L2
open PySem PySem.Spec PyProof.Rows
def SqL (K : PySem.W.Frag) (H : Hp) (a : Addr) (xs : List V) : Prop :=
  Rd H a (.lst xs) ∨
    ∃ (o : Obj) (its : Array Value) (n : Nat), K.lookup a = some o ∧ o.cls = .type "list" ∧ o.dict = none ∧ o.data = .seq its n ∧ its.size ≤ sizeLine ∧ Vals xs its.toList
def SqT (K : PySem.W.Frag) (H : Hp) (a : Addr) (xs : List V) : Prop :=
  Rd H a (.tup xs) ∨
    ∃ (o : Obj) (its : Array Value) (n : Nat), K.lookup a = some o ∧ o.cls = .type "tuple" ∧ o.data = .seq its n ∧ its.size ≤ sizeLine ∧ Vals xs its.toList
def absV : Value → Option V
  | .none => some .non
  | .bool b => some (.bl b)
  | .int i _ => some (.int i)
  | .str x _ => some (.str x)
  | .bytes b _ => some (.byt b)
  | .float b _ => some (.flt b)
  | .ref a => some (.ref a)
  | .type n => some (.ty n)
  | _ => none
theorem RelV.abs {x : V} {u : Value} (r : RelV x u) : absV u = some x := by
  cases x with
  | non => cases r; rfl
  | bl _ => cases r; rfl
  | int _ => obtain ⟨t, rfl⟩ := r; rfl
  | str _ => obtain ⟨t, rfl⟩ := r; rfl
  | byt _ => obtain ⟨t, rfl⟩ := r; rfl
  | flt _ => obtain ⟨t, rfl⟩ := r; rfl
  | ref _ => cases r; rfl
  | ty _ => cases r; rfl
theorem RelV.inj {x y : V} {u : Value} (r : RelV x u) (q : RelV y u) : x = y := Option.some.inj (r.abs.symm.trans q.abs)
theorem Vals.inj : ∀ {xs ys : List V} {us : List Value}, Vals xs us → Vals ys us → xs = ys
  | _, _, _, .nil, .nil => rfl
  | _, _, _, .cons r t, .cons r' t' => by rw [r.inj r', Vals.inj t t']
section
variable {X : Cx} {pins : List (Addr × Obj)} {σ : St} {H : Hp} {s : Shared} {a : Addr} {xs ys : List V}
theorem SqL.of {K : PySem.W.Frag} (h : H a = some (.lst xs)) : SqL K H a xs := .inl (.inl h)
theorem SqT.of {K : PySem.W.Frag} (h : H a = some (.tup xs)) : SqT K H a xs := .inl (.inl h)
theorem Inv.list (I : Inv X pins σ H s) (h : SqL X.K H a xs) : ∃ its : List Value, Vals xs its ∧ PlainL s.heap a its.toArray ∧ xs.length ≤ sizeLine := by
  rcases h with h | ⟨o, its, n, hk, hc, hd, hs, hz, r⟩
  · obtain ⟨z, its, n, r, e⟩ := h.ok I.hok
    exact ⟨its, r, ⟨_, n, e, rfl, rfl, rfl⟩, z⟩
  · refine ⟨its.toList, r, ⟨o, n, I.kIn a o hk, hc, hd, by simpa using hs⟩, ?_⟩
    have e := r.length
    simp only [Array.length_toList] at e
    omega
theorem Inv.tuple (I : Inv X pins σ H s) (h : SqT X.K H a xs) : ∃ its : List Value, Vals xs its ∧ IsTup s.heap a its.toArray ∧ xs.length ≤ sizeLine := by
  rcases h with h | ⟨o, its, n, hk, hc, hs, hz, r⟩
  · obtain ⟨z, its, r, p⟩ := h.ok I.hok
    exact ⟨its, r, p, z⟩
  · refine ⟨its.toList, r, ⟨o, I.kIn a o hk, hc, n, by simpa using hs⟩, ?_⟩
    have e := r.length
    simp only [Array.length_toList] at e
    omega
theorem Inv.list_inj (I : Inv X pins σ H s) (h : SqL X.K H a xs) (h' : SqL X.K H a ys) : xs = ys := by
  obtain ⟨its, r, ⟨o, n, e, _, _, d⟩, _⟩ := I.list h
  obtain ⟨its', r', ⟨o', n', e', _, _, d'⟩, _⟩ := I.list h'
  rw [e] at e'; cases e'
  rw [d] at d'
  injection d' with d1 _
  have : its = its' := by simpa using congrArg Array.toList d1
  subst this
  exact r.inj r'
end
abbrev Cx.wish (X : Cx) (E : Value → Shared → Prop) : Cx := { X with xe := E }
abbrev Cx.nox (X : Cx) : Cx := X.wish fun _ _ => False
theorem Cx.Ok.wish {X : Cx} (ok : X.Ok) (E : Value → Shared → Prop) : (X.wish E).Ok :=
  ⟨ok.mod, ok.kind, ok.glob, ok.blt, ok.above, ok.inj, ok.has, ok.cab, ok.hd, ok.frames, ok.stk, ok.exf, ok.bs, ok.bsz, ok.noex, ok.exfs, ok.funs, ok.frf, ok.tb⟩
theorem Cx.Ok.unwish {X : Cx} {E : Value → Shared → Prop} (ok : (X.wish E).Ok) : X.Ok :=
  ⟨ok.mod, ok.kind, ok.glob, ok.blt, ok.above, ok.inj, ok.has, ok.cab, ok.hd, ok.frames, ok.stk, ok.exf, ok.bs, ok.bsz, ok.noex, ok.exfs, ok.funs, ok.frf, ok.tb⟩
section
variable {X : Cx} {pins : List (Addr × Obj)} {σ : St} {H : Hp} {s : Shared} {E : Value → Shared → Prop}
theorem Inv.wish (I : Inv X pins σ H s) (E : Value → Shared → Prop) : Inv (X.wish E) pins σ H s := ⟨I.ok.wish E, I.os, I.bare, I.base, I.loc, I.cell, I.free, I.freeC, I.pin, I.hok, I.len⟩
theorem Inv.unwish (I : Inv (X.wish E) pins σ H s) : Inv X pins σ H s := ⟨I.ok.unwish, I.os, I.bare, I.base, I.loc, I.cell, I.free, I.freeC, I.pin, I.hok, I.len⟩
theorem SP.unwish {D : Ends} {f : Flow} {s' : Shared} (h : SP (X.wish E) pins D f s') : SP X pins D f s' := by
  cases f with
  | next => obtain ⟨σ', H', I, q⟩ := h; exact ⟨σ', H', I.unwish, q⟩
  | brk => obtain ⟨σ', H', I, q⟩ := h; exact ⟨σ', H', I.unwish, q⟩
  | cont => obtain ⟨σ', H', I, q⟩ := h; exact ⟨σ', H', I.unwish, q⟩
  | ret u => obtain ⟨v, σ', H', I, r, q⟩ := h; exact ⟨v, σ', H', I.unwish, r, q⟩
theorem PE.nox {e : Expr} {t : TE} (h : PE X.nox e t) : PE X e t := fun pins s σ H Q I hw =>
  wpAny_mono (h pins s σ H Q (I.wish _) hw) (fun _ _ ⟨v, H', I', r, q⟩ => ⟨v, H', I'.unwish, r, q⟩) fun _ _ z => False.elim z
theorem PT.nox {e : Expr} {t : TT} (h : PT X.nox e t) : PT X e t := fun pins s σ H Q I hw =>
  wpAny_mono (h pins s σ H Q (I.wish _) hw) (fun _ _ ⟨H', I', q⟩ => ⟨H', I'.unwish, q⟩) fun _ _ z => False.elim z
theorem PSs.nox {st : List Stmt} {t : TS} (h : PSs X.nox st t) : PSs X st t := fun pins s σ H D I hw =>
  wpAny_mono (h pins s σ H D (I.wish _) hw) (fun _ _ q => q.unwish) fun _ _ z => False.elim z
end
section
variable {X : Cx} {st : Stmt} {rest : List Stmt} {t u : TS} {e : Expr} {te : TE} {pos : Pos}
def tNext : TS := fun D σ H => D.nx σ H
def tSeq (t u : TS) : TS := fun D σ H => t { D with nx := u D } σ H
theorem pss_nil : PSs X [] tNext := fun _ _ σ H _ I h => wpAny_execs_nil ⟨σ, H, I, h⟩
theorem pss_cons (h1 : PS X st t) (h2 : PSs X rest u) : PSs X (st :: rest) (tSeq t u) := by
  intro pins s σ H D I h
  refine wpAny_execs_cons (thn (h1 pins s σ H { D with nx := u D } I h) fun f s1 q => ?_)
  cases f with
  | next =>
    obtain ⟨σ', H', I', q⟩ := q
    exact h2 pins s1 σ' H' D I' q
  | ret v => exact q
  | brk => exact q
  | cont => exact q
theorem pss_one (h1 : PS X st t) : PSs X [st] t := by
  intro pins s σ H D I h
  refine wpAny_execs_cons (thn (h1 pins s σ H D I h) fun f s1 q => ?_)
  cases f with
  | next => exact wpAny_execs_nil q
  | ret v => exact q
  | brk => exact q
  | cont => exact q
theorem Inv.quiet {pins : List (Addr × Obj)} {σ : St} {H : Hp} {s : Shared} (I : Inv X pins σ H s) : interactive X.env = false := by simp [interactive, I.ok.kind]
def tRet (te : TE) : TS := fun D σ H => te σ H D.rt
theorem ps_ret (he : PE X e te) : PS X (.Return (some e) pos) (tRet te) := by
  intro pins s σ H D I h
  exact wpAny_Return_some (thn (he pins s σ H _ I h) fun v s1 ⟨x, H1, I1, r1, q1⟩ => ⟨x, σ, H1, I1, r1, q1⟩)
def tIfS (c : TT) (t u : TS) : TS := fun D σ H => c σ H fun b H1 => if b = true then t D σ H1 else u D σ H1
theorem ps_if {c : Expr} {a b : List Stmt} {tc : TT} (hc : PT X c tc) (ha : PSs X a t) (hb : PSs X b u) : PS X (.If c a b pos) (tIfS tc t u) := by
  intro pins s σ H D I h
  refine wpAny_If (thn (hc pins s σ H _ I h) fun d s1 ⟨H1, I1, q1⟩ => ?_)
  cases d with
  | true => exact ha pins s1 σ H1 D I1 q1
  | false => exact hb pins s1 σ H1 D I1 q1
end
abbrev TG := V → St → Hp → (St → Hp → Prop) → Prop
abbrev TGs := List V → St → Hp → (St → Hp → Prop) → Prop
def PG (X : Cx) (target : Expr) (t : TG) : Prop :=
  ∀ (pins : List (Addr × Obj)) (s : Shared) (σ : St) (H : Hp) (v : V) (u : Value) (Q : St → Hp → Prop), Inv X pins σ H s → RelV v u → t v σ H Q →
    wpAny (model X.prog X.w) X.A (assign target X.env u) (fun _ s' => ∃ σ' H', Inv X pins σ' H' s' ∧ Q σ' H') X.xe s
def PGs (X : Cx) (ts : List Expr) (t : TGs) : Prop :=
  ∀ (pins : List (Addr × Obj)) (s : Shared) (σ : St) (H : Hp) (vs : List V) (us : List Value) (Q : St → Hp → Prop), Inv X pins σ H s → Vals vs us → t vs σ H Q →
    wpAny (model X.prog X.w) X.A (assignInOrder ((assignEach ts X.env).map (·.2)) us) (fun _ s' => ∃ σ' H', Inv X pins σ' H' s' ∧ Q σ' H') X.xe s
abbrev TSet := V → V → V → Hp → (Hp → Prop) → Prop
def PSet (X : Cx) (t : TSet) : Prop :=
  ∀ (pins : List (Addr × Obj)) (s : Shared) (σ : St) (H : Hp) (o i v : V) (ov iv u : Value) (Q : Hp → Prop), Inv X pins σ H s → RelV o ov → RelV i iv → RelV v u → t o i v H Q →
    wpAny (model X.prog X.w) X.A (setItem ov iv u) (fun _ s' => ∃ H', Inv X pins σ H' s' ∧ Q H') X.xe s
abbrev TIp := V → V → Hp → VK → Prop
def PIp (X : Cx) (op : Operator) (t : TIp) : Prop :=
  ∀ (pins : List (Addr × Obj)) (s : Shared) (σ : St) (H : Hp) (x y : V) (v u : Value) (Q : VK), Inv X pins σ H s → RelV x v → RelV y u → t x y H Q →
    wpAny (model X.prog X.w) X.A (inplaceOp op v u) (EP X pins σ Q) X.xe s
section
variable {X : Cx} {pos : Pos}
def gName (i : Nat) : TG := fun v σ H Q => Q (σ.set i (some v)) H
theorem pg_name {i : Nat} {x : Str} (hN : X.N.Nodup) (hi : X.N[i]? = some x) (hx : Loc X.env.scope x) (hf : X.fn x = true ∨ X.env.scope.names.lookup x = some .local := by first | exact .inl rfl | exact .inr rfl | assumption) : PG X (.Name x pos) (gName i) := by
  intro pins s σ H v u Q I r h
  exact wpAny_assign_Name (store_ok I hN hi hx r (fun s' I' => ⟨_, H, I', h⟩) hf)
def gNil : TGs := fun vs σ H Q => vs = [] ∧ Q σ H
def gCons (t : TG) (u : TGs) : TGs := fun vs σ H Q => ∃ v r, vs = v :: r ∧ t v σ H fun σ' H' => u r σ' H' Q
theorem pgs_nil : PGs X [] gNil := by
  intro pins s σ H vs us Q I r h
  obtain ⟨e, h⟩ := h
  subst e
  cases r
  exact assignInOrder_nil ⟨σ, H, I, h⟩
theorem pgs_cons {e : Expr} {es : List Expr} {t : TG} {u : TGs} (h1 : PG X e t) (h2 : PGs X es u)
    (hs : (assignEach (e :: es) X.env).map (·.2) = assign e X.env :: (assignEach es X.env).map (·.2) := by rfl) : PGs X (e :: es) (gCons t u) := by
  intro pins s σ H vs us Q I r h
  obtain ⟨v, vr, e1, h⟩ := h
  subst e1
  cases r with
  | cons r rr =>
    rw [hs]
    refine assignInOrder_cons (thn (h1 pins s σ H _ _ _ I r h) fun _ s1 ⟨σ1, H1, I1, q1⟩ => ?_)
    exact h2 pins s1 σ1 H1 _ _ Q I1 rr q1
def gTup (K : PySem.W.Frag) (n : Nat) (t : TGs) : TG := fun v σ H Q => ∃ a xs, v = .ref a ∧ SqT K H a xs ∧ xs.length = n ∧ t xs σ H Q
theorem pg_tup {es : List Expr} {k : Nat} {t : TGs} {n : Nat} (hc : X.calm = true) (h : PGs X es t)
    (hn : (assignEach es X.env).length = n := by rfl) (hst : (assignEach es X.env).findIdx? (·.1) = none := by rfl) : PG X (.Tuple es k pos) (gTup X.K n t) := by
  intro pins s σ H v u Q I r hw
  obtain ⟨a, xs, e1, hq, hl, hw⟩ := hw
  subst e1
  cases r
  obtain ⟨its, rv, ht, hz⟩ := I.tuple hq
  refine assign_Tuple_tuple (I.ok.hd hc) ht (by simp [hn, ← hl, rv.length]) hst fun h' hx => ?_
  have I1 : Inv X pins σ H { s with heap := h' } := I.kept (t' := s.toks) fun b o e => hx b o (Nat.ne_of_lt (Heap.lt_size e)) e
  exact h pins _ σ H xs _ Q I1 (by simpa using rv) hw
def gSub (to ti : TE) (t : TSet) : TG := fun v σ H Q => to σ H fun o H1 => ti σ H1 fun i H2 => t o i v H2 fun H3 => Q σ H3
theorem pg_sub {o i : Expr} {to ti : TE} {t : TSet} (ho : PE X o to) (hi : PE X i ti) (hs : PSet X t)
    (ha : ∀ v, assign (.Subscript o i pos) X.env v = (do
      let ov ← holding [v] (eval o X.env)
      let iv ← holding [v, ov] (eval i X.env)
      standAt pos
      holding [v, ov, iv] (setItem ov iv v)
      release [v, ov, iv] []) := by intro _; rfl) : PG X (.Subscript o i pos) (gSub to ti t) := by
  intro pins s σ H v u Q I r h
  rw [ha]
  refine wpAny_bind (wpAny_holding (thn (ho pins s σ H _ I h) fun ov s1 ⟨x, H1, I1, r1, q1⟩ => ?_))
  refine wpAny_bind (wpAny_holding (thn (hi pins s1 σ H1 _ I1 q1) fun iv s2 ⟨y, H2, I2, r2, q2⟩ => ?_))
  refine wpAny_bind (wpAny_standAt (wpAny_bind (wpAny_holding (thn (hs pins s2 σ H2 x y v ov iv u _ I2 r1 r2 r q2) fun _ s3 ⟨H3, I3, q3⟩ => ?_))))
  exact wpAny_release ⟨σ, H3, I3, q3⟩
def tAsg (te : TE) (g : TG) : TS := fun D σ H => te σ H fun x H1 => g x σ H1 D.nx
theorem ps_asg {tg e : Expr} {te : TE} {g : TG} (he : PE X e te) (hg : PG X tg g) (hs : swapsWithSole [tg] e pos.line X.env = pure false := by rfl) (hw : swappedStores [tg] e X.env = pure none := by rfl)
    (h1 : (assignEach [tg] X.env).map (·.2) = [assign tg X.env] := by rfl) : PS X (.Assign [tg] e pos) (tAsg te g) := by
  intro pins s σ H D I h
  refine wpAny_Assign_stores (thn (he pins s σ H _ I h) fun v s1 ⟨x, H1, I1, r1, q1⟩ => ?_) hs hw
  rw [h1]
  exact thn (hg pins s1 σ H1 x v _ I1 r1 q1) fun _ s2 q => q
theorem ps_set {i : Nat} {x : Str} {e : Expr} {te : TE} {pos' : Pos} (hN : X.N.Nodup) (hi : X.N[i]? = some x) (hx : Loc X.env.scope x) (he : PE X e te) (hs : swapsWith e (some (.Name x pos')) pos.line X.env = pure false := by rfl) (hf : X.fn x = true ∨ X.env.scope.names.lookup x = some .local := by first | exact .inl rfl | exact .inr rfl | assumption) :
    PS X (.Assign [.Name x pos'] e pos) (tAsg te (gName i)) := by
  intro pins s σ H D I h
  refine wpAny_Assign_Name (thn (he pins s σ H _ I h) fun v s1 ⟨y, H1, I1, r1, q1⟩ => ?_) hs
  exact store_ok I1 hN hi hx r1 (fun s2 I2 => ⟨_, H1, I2, q1⟩) hf
def tAugS (to ti te : TE) (tget : V → V → Hp → VK → Prop) (tip : TIp) (tset : TSet) : TS := fun D σ H => to σ H fun o H1 => ti σ H1 fun i H2 => tget o i H2 fun x H3 => te σ H3 fun y H4 => tip x y H4 fun z H5 => tset o i z H5 fun H6 => D.nx σ H6
def PGet (X : Cx) (t : V → V → Hp → VK → Prop) : Prop :=
  ∀ (pins : List (Addr × Obj)) (s : Shared) (σ : St) (H : Hp) (o i : V) (ov iv : Value) (Q : VK), Inv X pins σ H s → RelV o ov → RelV i iv → t o i H Q →
    wpAny (model X.prog X.w) X.A (getItem ov iv) (EP X pins σ Q) X.xe s
theorem ps_augS {o i e : Expr} {to ti te : TE} {tget : V → V → Hp → VK → Prop} {tip : TIp} {tset : TSet} {op : Operator} {tpos : Pos} (ho : PE X o to) (hi : PE X i ti) (hg : PGet X tget) (he : PE X e te) (hp : PIp X op tip) (hs : PSet X tset)
    (ha : ∀ ov iv new, augStore i ov iv new = (do holding [new, ov, iv] (setItem ov iv new); release [new, ov, iv] []; pure .next) := by intros; rfl) : PS X (.AugAssign (.Subscript o i tpos) op e pos) (tAugS to ti te tget tip tset) := by
  intro pins s σ H D I h
  refine wpAny_AugAssign_SubscriptAny (thn (ho pins s σ H _ I h) fun ov s1 ⟨x1, H1, I1, r1, q1⟩ => ?_) ha
  refine thn (hi pins s1 σ H1 _ I1 q1) fun iv s2 ⟨x2, H2, I2, r2, q2⟩ => ?_
  refine thn (hg pins s2 σ H2 x1 x2 ov iv _ I2 r1 r2 q2) fun old s3 ⟨x3, H3, I3, r3, q3⟩ => ?_
  refine thn (he pins s3 σ H3 _ I3 q3) fun v s4 ⟨x4, H4, I4, r4, q4⟩ => ?_
  refine thn (hp pins s4 σ H4 x3 x4 old v _ I4 r3 r4 q4) fun new s5 ⟨x5, H5, I5, r5, q5⟩ => ?_
  exact thn (hs pins s5 σ H5 x1 x2 x5 ov iv new _ I5 r1 r2 r5 q5) fun _ s6 ⟨H6, I6, q6⟩ => ⟨σ, H6, I6, q6⟩
def ipI (f : Int → Int → Int) : TIp := fun x y H Q => ∃ i j, x = .int i ∧ y = .int j ∧ Q (.int (f i j)) H
theorem ip_add : PIp X .Add (ipI fun i j => i + j) := by
  intro pins s σ H x y v u Q I r1 r2 h
  obtain ⟨i, j, e1, e2, q⟩ := h
  subst e1; subst e2
  obtain ⟨t, rfl⟩ := r1
  obtain ⟨t', rfl⟩ := r2
  exact iadd_int ⟨.int _, H, I.tok _, ⟨_, rfl⟩, q⟩
end
section
variable {X : Cx} {pos : Pos}
end
structure It where
  go : Nat → Hp → Prop
  yld : Nat → Hp → V → Hp → Prop
  stop : Nat → Hp → Prop
def FpOk (X : Cx) (pins : List (Addr × Obj)) (H : Hp) (b : Addr) : Prop :=
  H b = none ∧ b ≠ X.env.locals ∧ b ∉ X.fs ∧ (b ∈ X.ex ∨ X.s₀.heap.objs.size ≤ b) ∧ (∀ x c, X.env.cells.lookup x = some c → c ≠ b) ∧ ∀ p ∈ X.pn ++ pins, p.1 ≠ b
theorem Inv.fpOk {X : Cx} {pins : List (Addr × Obj)} {σ : St} {H H' : Hp} {s : Shared} {b : Addr} (I : Inv X pins σ H s) (hb : s.heap.objs.size ≤ b) (hn : H' b = none) : FpOk X pins H' b := by
  refine ⟨hn, Nat.ne_of_gt (Nat.lt_of_lt_of_le I.lt hb), I.nofs hb, .inr (Nat.le_trans I.sz hb), fun x c e z => ?_, fun p hp z => ?_⟩
  · obtain ⟨v, q⟩ := I.cell x c e
    exact absurd (Nat.lt_of_lt_of_le q.lt (by rw [z]; exact hb)) (Nat.lt_irrefl _)
  · exact absurd (Nat.lt_of_lt_of_le (Heap.lt_size (I.pin p hp).1) (by rw [z]; exact hb)) (Nat.lt_irrefl _)
structure Turn (P : Program) (w : World) (K : PySem.W.Frag) (tg : Expr) (J : It) (fp : List Addr) (it : Addr) (tn : Nat → Heap → Prop) : Prop where
  mem : it ∈ fp
  obj : ∀ i h, tn i h → ∀ b ∈ fp, ∃ o, h.get? b = some o ∧ ∀ v, o.data ≠ .cell v
  keep : ∀ i h h', tn i h → (∀ b ∈ fp, ∀ o, h.get? b = some o → h'.get? b = some o) → tn i h'
  item : ∀ (X : Cx), X.prog = P → X.w = w → X.K = K → X.calm = true → ∀ (i : Nat) (pins : List (Addr × Obj)) (s : Shared) (σ : St) (H : Hp) (E : Value → Shared → Prop), Inv X pins σ H s → (∀ b ∈ fp, FpOk X pins H b) → tn i s.heap → J.go i H →
    wpAny (model P w) X.A (pyNext (.ref it)) (fun r s1 => ∃ u, r = some u ∧
      wpAny (model P w) X.A (letOwnedTupleGo tg (.ref it) u) (fun _ s2 => ∃ x H', Inv X pins σ H' s2 ∧ RelV x u ∧ J.yld i H x H' ∧ tn (i + 1) s2.heap ∧ ∀ b ∈ fp, H' b = none) E s1) E s
  done : ∀ (X : Cx), X.prog = P → X.w = w → X.K = K → X.calm = true → ∀ (i : Nat) (pins : List (Addr × Obj)) (s : Shared) (σ : St) (H : Hp) (E : Value → Shared → Prop), Inv X pins σ H s → (∀ b ∈ fp, FpOk X pins H b) → tn i s.heap → J.stop i H →
    wpAny (model P w) X.A (pyNext (.ref it)) (fun r s1 => r = none ∧ Inv X pins σ H s1) E s
  self : ∀ (A : Around) (i : Nat) (s : Shared) (Q : Value → Shared → Prop) (E : Value → Shared → Prop), tn i s.heap → Q (.ref it) s → wpAny (model P w) A (pyIter (.ref it)) Q E s
abbrev TI := St → Hp → (It → Hp → Prop) → Prop
def PIE (X : Cx) (pins : List (Addr × Obj)) (σ : St) (tg : Expr) (R : It → Hp → Prop) (itv : Value) (s2 : Shared) : Prop :=
  ∃ (it : Addr) (fp : List Addr) (tn : Nat → Heap → Prop) (J : It) (H' : Hp), itv = .ref it ∧ Inv X pins σ H' s2 ∧ Turn X.prog X.w X.K tg J fp it tn ∧ tn 0 s2.heap ∧ (∀ b ∈ fp, FpOk X pins H' b) ∧ R J H'
def PI (X : Cx) (tg iter : Expr) (wi : TI) : Prop :=
  ∀ (pins : List (Addr × Obj)) (s : Shared) (σ : St) (H : Hp) (R : It → Hp → Prop), Inv X pins σ H s → wi σ H R →
    wpAny (model X.prog X.w) X.A (eval iter X.env) (fun v s1 => wpAny (model X.prog X.w) X.A (pyIter v) (PIE X pins σ tg R) X.xe s1) X.xe s
theorem go_of {M : Model} {A : Around} {E : Value → Shared → Prop} {s : Shared} {tg : Expr} {it : Addr} {u : Value} {o : Obj} {n : String} {vs : Array Value} {Q : Unit → Shared → Prop} (ho : s.heap.get? it = some o) (hc : o.cls = .type n) (hd : o.data = .fields vs)
    (hn : ["enumerate", "zip", "dict_itemiterator", "dict_reverseitemiterator", "odict_iterator", "itertools.zip_longest", "itertools.pairwise"].contains n = false) (hQ : Q () s) : wpAny M A (letOwnedTupleGo tg (.ref it) u) Q E s := by
  unfold letOwnedTupleGo
  cases tg <;> first
    | exact wpAny_pure hQ
    | (cases u <;> first
        | exact wpAny_pure hQ
        | (refine wpAny_bind (wpAny_load ho ?_)
           rw [hc, hd]
           show wpAny M A (if (["enumerate", "zip", "dict_itemiterator", "dict_reverseitemiterator", "odict_iterator", "itertools.zip_longest", "itertools.pairwise"].contains n && vs[0]? == some (rawInt _)) = true then _ else _) Q E s
           rw [if_neg (by intro h; rw [hn, Bool.false_and] at h; cases h)]
           exact wpAny_pure hQ))
def Itl (K : PySem.W.Frag) (a : Addr) : It :=
  ⟨fun i H => ∃ xs x, SqL K H a xs ∧ xs[i]? = some x, fun i H x H' => H' = H ∧ ∀ xs, SqL K H a xs → xs[i]? = some x, fun i H => ∃ xs, SqL K H a xs ∧ xs.length ≤ i⟩
def Itr (lo : Int) (n : Nat) : It := ⟨fun i _ => i < n, fun i H x H' => H' = H ∧ x = .int (lo + i), fun i _ => n ≤ i⟩
theorem turn_list {P : Program} {w : World} {K : PySem.W.Frag} {tg : Expr} (a it : Addr) : Turn P w K tg (Itl K a) [it] it (fun i h => h.IsListIter it a i) where
  mem := by simp
  obj := fun i h st b hb => by
    have e : b = it := by simpa using hb
    subst e
    obtain ⟨o, e, c, d⟩ := st
    exact ⟨o, e, fun v z => by rw [d] at z; cases z⟩
  keep := fun i h h' st k => st.at fun o e => k it (by simp) o e
  item := by
    intro X hP hw hK hc i pins s σ H E I hf st hg
    subst hP hw hK
    obtain ⟨xs, x, hq, hx⟩ := hg
    obtain ⟨its, rv, p, hz⟩ := I.list hq
    obtain ⟨u, hu, ru⟩ := rv.get hx
    obtain ⟨f0, f1, f2, f3, f4, f5⟩ := hf it (by simp)
    refine wpAny_pyNext_list_item st p.isList (x := u) (by simpa using hu) fun h' st' sb => ?_
    have I1 : Inv X pins σ H { s with heap := h' } := I.turned (t' := s.toks) (fun b o hb e => (sb.2 b hb).trans e) f0 f1 f3 f4 f5
    obtain ⟨o, e, c, d⟩ := id st'
    exact ⟨u, rfl, go_of (s := { s with heap := h' }) e c d (by decide) ⟨x, H, I1, ru, ⟨rfl, fun ys hy => by rw [I.list_inj hy hq]; exact hx⟩, st', fun b hb => (hf b hb).1⟩⟩
  done := by
    intro X hP hw hK hc i pins s σ H E I hf st hg
    subst hP hw hK
    obtain ⟨xs, hq, hx⟩ := hg
    obtain ⟨its, rv, p, hz⟩ := I.list hq
    obtain ⟨f0, f1, f2, f3, f4, f5⟩ := hf it (by simp)
    have hl := rv.length
    exact wpAny_pyNext_list_end (I.ok.hd hc) st p.isList (by simp; omega) fun h' eb => ⟨rfl, I.turned (t' := s.toks) (fun b o hb e => eb b o hb e) f0 f1 f3 f4 f5⟩
  self := fun _ _ _ _ _ st h => wpAny_pyIter_listiter st h
theorem turn_range {P : Program} {w : World} {K : PySem.W.Frag} {tg : Expr} (it : Addr) (lo : Int) (n : Nat) : Turn P w K tg (Itr lo n) [it] it (fun i h => IsRangeIter h it (lo + (i : Nat) * 1) ((n : Int) - (i : Nat)) 1) where
  mem := by simp
  obj := fun i h st b hb => by
    have e : b = it := by simpa using hb
    subst e
    exact ⟨_, st, fun v z => by
      have z' : Data.fields _ = Data.cell v := z
      cases z'⟩
  keep := fun i h h' st k => k it (by simp) _ st
  item := by
    intro X hP hw hK hc i pins s σ H E I hf st hg
    subst hP hw hK
    obtain ⟨f0, f1, f2, f3, f4, f5⟩ := hf it (by simp)
    have W := Walks.range (prog := X.prog) (w := X.w) (I.ok.hd hc) it lo 1 n
    refine W.item i s _ _ hg st fun v h' tk hv st' kk => ?_
    obtain ⟨t, rfl⟩ := hv
    have I1 : Inv X pins σ H { s with heap := h', toks := tk } := I.turned (fun b o hb e => kk b o (by simpa using hb) e) f0 f1 f3 f4 f5
    refine ⟨_, rfl, go_of (s := { s with heap := h', toks := tk }) (n := "range_iterator") st' rfl rfl (by decide) ⟨.int (lo + i), H, I1, ⟨t, ?_⟩, ⟨rfl, rfl⟩, st', fun b hb => (hf b hb).1⟩⟩
    rw [Int.mul_one]
  done := by
    intro X hP hw hK hc i pins s σ H E I hf st hg
    subst hP hw hK
    obtain ⟨f0, f1, f2, f3, f4, f5⟩ := hf it (by simp)
    exact wpAny_pyNext_range_end (I.ok.hd hc) st (by have : n ≤ i := hg; omega) fun h' eb => ⟨rfl, I.turned (t' := s.toks) (fun b o hb e => eb b o hb e) f0 f1 f3 f4 f5⟩
  self := fun _ _ _ _ _ st h => wpAny_pyIter_rangeiter st h
end L2
namespace L2
open PySem PySem.Spec PyProof.Rows
section
variable {X : Cx} {tg : Expr}
def iList (K : PySem.W.Frag) (tl : TE) : TI := fun σ H R => tl σ H fun x H1 => ∃ a, x = .ref a ∧ (∃ xs, SqL K H1 a xs) ∧ R (Itl K a) H1
theorem pi_list {l : Expr} {tl : TE} (hl : PE X l tl) : PI X tg l (iList X.K tl) := by
  intro pins s σ H R I h
  refine thn (hl pins s σ H _ I h) fun v s1 ⟨x, H1, I1, r1, q1⟩ => ?_
  obtain ⟨a, e, ⟨xs, hq⟩, q⟩ := q1
  subst e
  cases r1
  obtain ⟨its, rv, p, hz⟩ := I1.list hq
  refine wpAny_pyIter_list p.isList ?_
  refine ⟨s1.heap.objs.size, [s1.heap.objs.size], _, _, H1, rfl, I1.kept (t' := s1.toks) fun b o e => Heap.get?_push_of_some _ e, turn_list a _, ⟨_, Heap.get?_push_size _ rfl, rfl, rfl⟩, fun b hb => ?_, q⟩
  have e : b = s1.heap.objs.size := by simpa using hb
  subst e
  exact I1.fpOk (Nat.le_refl _) (I1.hok.fresh (Nat.le_refl _))
theorem range_it {pins : List (Addr × Obj)} {σ : St} {H : Hp} {s : Shared} {R : It → Hp → Prop} {E : Value → Shared → Prop} {lo hi : Int} {t u v : Tok} {tk : Nat} (I : Inv X pins σ H s) (h1 : -(2 ^ 62) ≤ lo) (h2 : lo < 2 ^ 62) (h3 : -(2 ^ 62) ≤ hi) (h4 : hi < 2 ^ 62)
    (q : R (Itr lo (hi - lo).toNat) H) : wpAny (model X.prog X.w) X.A (pyIter (.ref s.heap.objs.size)) (PIE X pins σ tg R) E { s with heap := s.heap.push { cls := .type "range", data := .fields #[.int lo t, .int hi u, .int 1 v] }, toks := tk } := by
  refine wpAny_pyIter_range (IsRange.new ..) (small_one h1 h2 h3 h4) ?_
  have I1 : Inv X pins σ H { s with heap := s.heap.push { cls := .type "range", data := .fields #[.int lo t, .int hi u, .int 1 v] }, toks := tk } := I.kept fun b o e => Heap.get?_push_of_some _ e
  refine ⟨(s.heap.push { cls := .type "range", data := .fields #[.int lo t, .int hi u, .int 1 v] }).objs.size, [(s.heap.push { cls := .type "range", data := .fields #[.int lo t, .int hi u, .int 1 v] }).objs.size], _, _, H, rfl,
    I1.kept (t' := tk) fun b o e => Heap.get?_push_of_some _ e, turn_range _ lo (hi - lo).toNat, ?_, fun b hb => ?_, q⟩
  · have e1 : lo + ((0 : Nat) : Int) * 1 = lo := by simp
    have e2 : (((hi - lo).toNat : Nat) : Int) - ((0 : Nat) : Int) = Builtin.Range.rangeSize lo hi 1 := by rw [rangeSize_one]; split <;> omega
    show IsRangeIter _ _ (lo + ((0 : Nat) : Int) * 1) ((((hi - lo).toNat : Nat) : Int) - ((0 : Nat) : Int)) 1
    rw [e1, e2]
    exact Heap.get?_push_size _ rfl
  · have e : b = (s.heap.push { cls := .type "range", data := .fields #[.int lo t, .int hi u, .int 1 v] }).objs.size := by simpa using hb
    subst e
    exact I1.fpOk (Nat.le_refl _) (I1.hok.fresh (Nat.le_refl _))
def iRng1 (ta : TA) : TI := fun σ H R => ta σ H fun vs H1 => ∃ j : Int, vs = [.int j] ∧ -(2 ^ 62) ≤ j ∧ j < 2 ^ 62 ∧ R (Itr 0 j.toNat) H1
def iRng2 (ta : TA) : TI := fun σ H R => ta σ H fun vs H1 => ∃ i j : Int, vs = [.int i, .int j] ∧ (-(2 ^ 62) ≤ i ∧ i < 2 ^ 62 ∧ -(2 ^ 62) ≤ j ∧ j < 2 ^ 62) ∧ R (Itr i (j - i).toNat) H1
theorem pi_range1 {a : Expr} {ta : TA} {p pos : Pos} (hg : Gl X "range") (hm : X.mg "range" = none) (ha : PA X [a] ta) (hs : starEach [a] X.env = [(false, eval a X.env)] := by rfl) : PI X tg (.Call (.Name "range" p) [a] [] pos) (iRng1 ta) := by
  intro pins s σ H R I h
  refine Call_ (ld_blt I hg hm boot_range (PyProof.Rows.callWith_type1 (thn (ha pos pins s σ H _ I h) fun us s1 ⟨vs, H1, I1, r1, q1⟩ => ?_) hs rfl))
  obtain ⟨j, e, q1, q2, q⟩ := q1
  subst e
  cases r1 with
  | cons r rr =>
    cases rr
    obtain ⟨t, rfl⟩ := r
    exact call_range_1 (range_it I1 (by omega) (by omega) q1 q2 (by simpa using q))
theorem pi_range2 {a b : Expr} {ta : TA} {p pos : Pos} (hg : Gl X "range") (hm : X.mg "range" = none) (ha : PA X [a, b] ta) (hs : starEach [a, b] X.env = [(false, eval a X.env), (false, eval b X.env)] := by rfl) (hs2 : starEach [b] X.env = [(false, eval b X.env)] := by rfl) :
    PI X tg (.Call (.Name "range" p) [a, b] [] pos) (iRng2 ta) := by
  intro pins s σ H R I h
  refine Call_ (ld_blt I hg hm boot_range (PyProof.Rows.callWith_type1 (thn (ha pos pins s σ H _ I h) fun us s1 ⟨vs, H1, I1, r1, q1⟩ => ?_) (by rw [hs, hs2]) (by rw [hs2]; rfl)))
  obtain ⟨i, j, e, ⟨q1, q2, q3, q4⟩, q⟩ := q1
  subst e
  cases r1 with
  | cons r rr =>
    cases rr with
    | cons r' rr =>
      cases rr
      obtain ⟨t, rfl⟩ := r
      obtain ⟨t', rfl⟩ := r'
      exact call_range_2 (range_it I1 q1 q2 q3 q4 q)
def tFor (wi : TI) (g : TG) (tb : TS) : TS := fun D σ H => wi σ H fun J H1 => ∃ W : Nat → Nat → St → Hp → Prop, (∃ m, W 0 m σ H1) ∧ ∀ i m σ H, W i m σ H →
  (J.stop i H ∧ D.nx σ H) ∨ (J.go i H ∧ ∃ N : St → Hp → Prop, (∀ σ' H', N σ' H' → ∃ m', m' < m ∧ W (i + 1) m' σ' H') ∧ ∀ x H', J.yld i H x H' → g x σ H' fun σ2 H2 => tb { D with nx := N, ct := N, bk := D.nx } σ2 H2)
def pinsAt (fp : List Addr) (h : Heap) : List (Addr × Obj) := fp.filterMap fun b => (h.get? b).map fun o => (b, o)
theorem mem_pinsAt {fp : List Addr} {h : Heap} {b : Addr} {o : Obj} (hb : b ∈ fp) (e : h.get? b = some o) : (b, o) ∈ pinsAt fp h := List.mem_filterMap.mpr ⟨b, hb, by rw [e]; rfl⟩
theorem of_pinsAt {fp : List Addr} {h : Heap} {p : Addr × Obj} (hp : p ∈ pinsAt fp h) : p.1 ∈ fp ∧ h.get? p.1 = some p.2 := by
  obtain ⟨b, hb, e⟩ := List.mem_filterMap.mp hp
  cases q : h.get? b with
  | none => rw [q] at e; cases e
  | some o =>
    rw [q] at e
    have e' : (b, o) = p := Option.some.inj e
    subst e'
    exact ⟨hb, q⟩
theorem Inv.pinned {pins : List (Addr × Obj)} {σ : St} {H : Hp} {s : Shared} {fp : List Addr} (I : Inv X pins σ H s) (hf : ∀ b ∈ fp, FpOk X pins H b) (ho : ∀ b ∈ fp, ∃ o, s.heap.get? b = some o ∧ ∀ v, o.data ≠ .cell v) : Inv X (pins ++ pinsAt fp s.heap) σ H s :=
  I.pins_of fun p hp => (List.mem_append.mp hp).elim (fun z => I.pin p (List.mem_append_right _ z)) fun z => by
    obtain ⟨hb, e⟩ := of_pinsAt z
    obtain ⟨f0, f1, f2, _⟩ := hf p.1 hb
    obtain ⟨o, e', d⟩ := ho p.1 hb
    rw [e] at e'; cases e'
    exact ⟨e, f0, f1, f2, d⟩
theorem Inv.unpinned {pins pl : List (Addr × Obj)} {σ : St} {H : Hp} {s : Shared} (I : Inv X (pins ++ pl) σ H s) : Inv X pins σ H s := I.pins_of fun p hp => I.pin p (List.mem_append_right _ (List.mem_append_left _ hp))
theorem ps_for {iter : Expr} {body : List Stmt} {wi : TI} {g : TG} {tb : TS} {pos : Pos} (hp : PassesOwn (model X.prog X.w) X.A X.env X.xe) (hc : X.calm = true) (hi : PI X tg iter wi) (hg : PG X tg g) (hb : PSs X body tb)
    (hs : ∀ x, foldedSetIterable iter X.env x = pure x := by intro _; rfl) : PS X (.For tg iter body [] pos) (tFor wi g tb) := by
  intro pins s σ H D I h
  refine wpAny_For (thn (hi pins s σ H _ I h) fun v s1 h1 => thn h1 fun itv s2 h2 => ?_) hs
  obtain ⟨it, fp, tn, J, H2, e, I2, T, st2, f2, W, ⟨m0, w0⟩, turn⟩ := h2
  subst e
  -- what stays true of the iterator's objects through the loop
  have stat : ∀ {H' : Hp}, (∀ b ∈ fp, H' b = none) → ∀ b ∈ fp, FpOk X pins H' b := fun hn b hb => ⟨hn b hb, (f2 b hb).2⟩
  refine codeAny_forLoop_any (fun n s' => ∃ i σ' H', Inv X pins σ' H' s' ∧ tn i s'.heap ∧ (∀ b ∈ fp, H' b = none) ∧ W i n σ' H') ?_ m0 ⟨0, σ, H2, I2, st2, fun b hb => (f2 b hb).1, w0⟩
  rintro n s3 ⟨i, σ3, H3, I3, st3, fr3, w3⟩
  rcases turn i n σ3 H3 w3 with ⟨stop, qn⟩ | ⟨go, N, hN, step⟩
  · refine wpAny_passesOwn hp (thn (T.done X rfl rfl rfl hc i pins s3 σ3 H3 X.xe I3 (stat fr3) st3 stop) fun r s4 ⟨hr, I4⟩ => ?_)
    subst hr
    exact wpAny_execs_nil ⟨σ3, H3, I4, qn⟩
  · refine wpAny_passesOwn hp (thn (T.item X rfl rfl rfl hc i pins s3 σ3 H3 X.xe I3 (stat fr3) st3 go) fun r s4 ⟨u, hr, h4⟩ => ?_)
    subst hr
    refine wpAny_passesOwn hp (thn h4 fun _ s5 ⟨x, H5, I5, r5, y5, st5, fr5⟩ => ?_)
    have I5' := I5.pinned (stat fr5) (T.obj _ _ st5)
    refine wpAny_passesOwn hp (thn (hg _ s5 σ3 H5 x u _ I5' r5 (step x H5 y5)) fun _ s6 ⟨σ6, H6, I6, q6⟩ => ?_)
    refine wpAny_passesOwn hp (thn (hb _ s6 σ6 H6 _ I6 q6) fun f s7 q7 => ?_)
    have again : ∀ {σ7 : St} {H7 : Hp}, Inv X (pins ++ pinsAt fp s5.heap) σ7 H7 s7 → N σ7 H7 → ∃ m, m < n ∧ ∃ i σ' H', Inv X pins σ' H' s7 ∧ tn i s7.heap ∧ (∀ b ∈ fp, H' b = none) ∧ W i m σ' H' := fun {σ7 H7} I7 n7 => by
      obtain ⟨m', hm, w7⟩ := hN σ7 H7 n7
      refine ⟨m', hm, i + 1, σ7, H7, I7.unpinned, T.keep _ _ _ st5 fun b hb o e => (I7.pin (b, o) (List.mem_append_right _ (List.mem_append_right _ (mem_pinsAt hb e)))).1, fun b hb => ?_, w7⟩
      obtain ⟨o, e, d⟩ := T.obj _ _ st5 b hb
      exact (I7.pin (b, o) (List.mem_append_right _ (List.mem_append_right _ (mem_pinsAt hb e)))).2.1
    cases f with
    | next => obtain ⟨σ7, H7, I7, n7⟩ := q7; exact again I7 n7
    | cont => obtain ⟨σ7, H7, I7, n7⟩ := q7; exact again I7 n7
    | brk => obtain ⟨σ7, H7, I7, q7⟩ := q7; exact ⟨σ7, H7, I7.unpinned, q7⟩
    | ret v => obtain ⟨x7, σ7, H7, I7, r7, q7⟩ := q7; exact ⟨x7, σ7, H7, I7.unpinned, r7, q7⟩
end
end L2
namespace L2
open PySem PySem.Spec PyProof.Rows
abbrev R2 := V → V → Hp → VK → Prop
def OpR (X : Cx) (f : Value → Value → Sem Value) (r : R2) : Prop :=
  ∀ (pins : List (Addr × Obj)) (s : Shared) (σ : St) (H : Hp) (x y : V) (v u : Value) (Q : VK), Inv X pins σ H s → RelV x v → RelV y u → r x y H Q →
    wpAny (model X.prog X.w) X.A (f v u) (EP X pins σ Q) X.xe s
def CallR (X : Cx) (f : Value) (r : List V → Hp → VK → Prop) : Prop :=
  ∀ (pins : List (Addr × Obj)) (s : Shared) (σ : St) (H : Hp) (xs : List V) (us : List Value) (Q : VK), Inv X pins σ H s → Vals xs us → r xs H Q →
    wpAny (model X.prog X.w) X.A (call f us) (EP X pins σ Q) X.xe s
def tOp (r : R2) (ta tb : TE) : TE := fun σ H Q => ta σ H fun x H1 => tb σ H1 fun y H2 => r x y H2 Q
def rI (C : Int → Int → Prop) (g : Int → Int → V) : R2 := fun x y H Q => ∃ i j, x = .int i ∧ y = .int j ∧ C i j ∧ Q (g i j) H
def rI0 (g : Int → Int → V) : R2 := fun x y H Q => ∃ i j, x = .int i ∧ y = .int j ∧ Q (g i j) H
section
variable {X : Cx} {a b c : Expr} {ta tb tc : TE} {pos : Pos}
theorem binT (ha : PE X a ta) (hb : PE X b tb) {pins : List (Addr × Obj)} {s : Shared} {σ : St} {H : Hp} {R : V → V → Hp → Prop} (I : Inv X pins σ H s)
    (h : ta σ H fun x H1 => tb σ H1 fun y H2 => R x y H2) {Q : Value → Shared → Prop} {f : Value → Value → Sem Value}
    (hf : ∀ v u s2 x y H2, Inv X pins σ H2 s2 → RelV x v → RelV y u → R x y H2 → wpAny (model X.prog X.w) X.A (f v u) Q X.xe s2) :
    wpAny (model X.prog X.w) X.A (eval a X.env) (fun v s₁ => wpAny (model X.prog X.w) X.A (eval b X.env) (fun u s₂ => wpAny (model X.prog X.w) X.A (f v u) Q X.xe s₂) X.xe s₁) X.xe s := by
  refine thn (ha pins s σ H _ I h) fun v s1 ⟨x, H1, I1, r1, q1⟩ => ?_
  refine thn (hb pins s1 σ H1 _ I1 q1) fun u s2 ⟨y, H2, I2, r2, q2⟩ => ?_
  exact hf v u s2 x y H2 I2 r1 r2 q2
theorem pe_op {op : Operator} {r : R2} (ho : OpR X (binaryOp op) r) (ha : PE X a ta) (hb : PE X b tb) : PE X (.BinOp a op b pos) (tOp r ta tb) := by
  intro pins s σ H Q I h
  exact wpAny_BinOp (binT ha hb I h fun v u s2 x y H2 I2 rx ry q => ho pins s2 σ H2 x y v u Q I2 rx ry q)
theorem opI {f : Value → Value → Sem Value} {C : Int → Int → Prop} {g : Int → Int → Int}
    (rule : ∀ (i j : Int) (t u : Tok) (s : Shared) (Q : Value → Shared → Prop) (E : Value → Shared → Prop), C i j → Q (.int (g i j) s.toks) { s with toks := s.toks + 1 } → wpAny (model X.prog X.w) X.A (f (.int i t) (.int j u)) Q E s) :
    OpR X f (rI C fun i j => .int (g i j)) := by
  intro pins s σ H x y v u Q I rx ry h
  obtain ⟨i, j, rfl, rfl, hc, q⟩ := h
  obtain ⟨t, rfl⟩ := rx
  obtain ⟨t', rfl⟩ := ry
  exact rule i j t t' s _ _ hc ⟨.int (g i j), H, I.tok _, ⟨_, rfl⟩, q⟩
theorem opI0 {f : Value → Value → Sem Value} {g : Int → Int → Int}
    (rule : ∀ (i j : Int) (t u : Tok) (s : Shared) (Q : Value → Shared → Prop) (E : Value → Shared → Prop), Q (.int (g i j) s.toks) { s with toks := s.toks + 1 } → wpAny (model X.prog X.w) X.A (f (.int i t) (.int j u)) Q E s) :
    OpR X f (rI0 fun i j => .int (g i j)) := by
  intro pins s σ H x y v u Q I rx ry h
  obtain ⟨i, j, rfl, rfl, q⟩ := h
  obtain ⟨t, rfl⟩ := rx
  obtain ⟨t', rfl⟩ := ry
  exact rule i j t t' s _ _ ⟨.int (g i j), H, I.tok _, ⟨_, rfl⟩, q⟩
theorem opB0 {f : Value → Value → Sem Value} {g : Int → Int → Bool}
    (rule : ∀ (i j : Int) (t u : Tok) (s : Shared) (Q : Value → Shared → Prop) (E : Value → Shared → Prop), Q (.bool (g i j)) s → wpAny (model X.prog X.w) X.A (f (.int i t) (.int j u)) Q E s) :
    OpR X f (rI0 fun i j => .bl (g i j)) := by
  intro pins s σ H x y v u Q I rx ry h
  obtain ⟨i, j, rfl, rfl, q⟩ := h
  obtain ⟨t, rfl⟩ := rx
  obtain ⟨t', rfl⟩ := ry
  exact rule i j t t' s _ _ ⟨.bl (g i j), H, I, rfl, q⟩
def CPow (i j : Int) : Prop := 0 ≤ j ∧ j ≤ 1000000 ∧ i.natAbs < 2 ^ 64
def CMul (i j : Int) : Prop := (-(2 ^ 64) < i ∧ i < 2 ^ 64) ∨ (-(2 ^ 64) < j ∧ j < 2 ^ 64)
theorem CMul.ok {i j : Int} (h : CMul i j) : IntMulOk i j := by
  rcases h with ⟨h1, h2⟩ | ⟨h1, h2⟩
  · exact .of_left (intBits_le_64 h1 h2)
  · exact .of_right (intBits_le_64 h1 h2)
theorem op_add : OpR X (binaryOp .Add) (rI0 fun i j => .int (i + j)) := opI0 fun _ _ _ _ _ _ _ q => add_int q
theorem op_sub : OpR X (binaryOp .Sub) (rI0 fun i j => .int (i - j)) := opI0 fun _ _ _ _ _ _ _ q => sub_int q
theorem op_mod : OpR X (binaryOp .Mod) (rI (fun _ j => 0 < j) fun i j => .int (i % j)) := opI fun i j _ _ _ _ _ hc q => by
  have h1 : (0 : Int) < j := hc
  exact mod_int' (by omega) (by rw [Int.fmod_eq_emod_of_nonneg i (by omega)]; exact q)
theorem op_pow : OpR X (binaryOp .Pow) (rI CPow fun i j => .int (i ^ j.toNat)) := opI fun _ _ _ _ _ _ _ hc q => pow_int_small hc.1 hc.2.1 hc.2.2 q
end
def scal : V → V → Bool
  | .non, .non => true | .non, .int _ => true | .int _, .non => true | .non, .bl _ => true | .bl _, .non => true | .non, .str _ => true | .str _, .non => true
  | .int _, .int _ => true | .bl _, .bl _ => true | .str _, .str _ => true | .byt _, .byt _ => true
  | .int _, .str _ => true | .str _, .int _ => true | .bl _, .str _ => true | .str _, .bl _ => true
  | _, _ => false
def rEq : R2 := fun x y H Q => scal x y = true ∧ Q (.bl (decide (x = y))) H
def rNe : R2 := fun x y H Q => scal x y = true ∧ Q (.bl (!decide (x = y))) H
theorem dec_int {i j : Int} : decide (V.int i = V.int j) = (i == j) := by
  rw [Bool.eq_iff_iff]
  simp
theorem dec_bl {i j : Bool} : decide (V.bl i = V.bl j) = (i == j) := by
  rw [Bool.eq_iff_iff]
  simp
theorem dec_str {i j : Str} : decide (V.str i = V.str j) = (i == j) := by
  rw [Bool.eq_iff_iff]
  simp
theorem dec_byt {i j : Array UInt8} : decide (V.byt i = V.byt j) = (i.toList == j.toList) := by
  rw [Bool.eq_iff_iff]
  cases i
  cases j
  simp
section
variable {X : Cx} {a b c : Expr} {ta tb tc : TE} {pos : Pos}
theorem fin_bl {pins : List (Addr × Obj)} {σ : St} {H : Hp} {s : Shared} {Q : VK} {k k' : Bool} (I : Inv X pins σ H s) (q : Q (.bl k) H) (e : k = k') : EP X pins σ Q (.bool k') s := by
  subst e
  exact ⟨.bl k, H, I, rfl, q⟩
theorem op_eq : OpR X (compareOp .Eq) rEq := by
  intro pins s σ H x y v u Q I rx ry h
  obtain ⟨hs, q⟩ := h
  cases x with
  | non =>
    cases rx
    cases y with
    | non => cases ry; exact PySem.EqNone.eq_none_none (fin_bl I q (by simp))
    | bl j => cases ry; exact PySem.EqNone.eq_none_bool (fin_bl I q (by simp))
    | int j => obtain ⟨t', rfl⟩ := ry; exact PySem.EqNone.eq_none_int (fin_bl I q (by simp))
    | str j => obtain ⟨t', rfl⟩ := ry; exact PySem.EqNone.eq_none_str (fin_bl I q (by simp))
    | _ => exact absurd (show false = true from hs) Bool.false_ne_true
  | bl i =>
    cases rx
    cases y with
    | non => cases ry; exact PySem.EqNone.eq_bool_none (fin_bl I q (by simp))
    | bl j => cases ry; exact eq_bool (fin_bl I q dec_bl)
    | str j => obtain ⟨t', rfl⟩ := ry; exact PySem.EqMixed.eq_bool_str (fin_bl I q (by simp))
    | _ => exact absurd (show false = true from hs) Bool.false_ne_true
  | int i =>
    obtain ⟨t, rfl⟩ := rx
    cases y with
    | non => cases ry; exact PySem.EqNone.eq_int_none (fin_bl I q (by simp))
    | int j => obtain ⟨t', rfl⟩ := ry; exact eq_int (fin_bl I q dec_int)
    | str j => obtain ⟨t', rfl⟩ := ry; exact PySem.EqMixed.eq_int_str (fin_bl I q (by simp))
    | _ => exact absurd (show false = true from hs) Bool.false_ne_true
  | str i =>
    obtain ⟨t, rfl⟩ := rx
    cases y with
    | non => cases ry; exact PySem.EqNone.eq_str_none (fin_bl I q (by simp))
    | bl j => cases ry; exact PySem.EqMixed.eq_str_bool (fin_bl I q (by simp))
    | int j => obtain ⟨t', rfl⟩ := ry; exact PySem.EqMixed.eq_str_int (fin_bl I q (by simp))
    | str j => obtain ⟨t', rfl⟩ := ry; exact eq_str (fin_bl I q dec_str)
    | _ => exact absurd (show false = true from hs) Bool.false_ne_true
  | byt i =>
    obtain ⟨t, rfl⟩ := rx
    cases y with
    | byt j => obtain ⟨t', rfl⟩ := ry; exact PySem.W.eq_bytes (fin_bl I q dec_byt)
    | _ => exact absurd (show false = true from hs) Bool.false_ne_true
  | _ => cases y <;> exact absurd (show false = true from hs) Bool.false_ne_true
theorem op_ne : OpR X (compareOp .NotEq) rNe := by
  intro pins s σ H x y v u Q I rx ry h
  obtain ⟨hs, q⟩ := h
  cases x with
  | non =>
    cases rx
    cases y with
    | non => cases ry; exact PySem.EqNone.ne_none_none (fin_bl I q (by simp))
    | bl j => cases ry; exact PySem.EqNone.ne_none_bool (fin_bl I q (by simp))
    | int j => obtain ⟨t', rfl⟩ := ry; exact PySem.EqNone.ne_none_int (fin_bl I q (by simp))
    | str j => obtain ⟨t', rfl⟩ := ry; exact PySem.EqNone.ne_none_str (fin_bl I q (by simp))
    | _ => exact absurd (show false = true from hs) Bool.false_ne_true
  | bl i =>
    cases rx
    cases y with
    | non => cases ry; exact PySem.EqNone.ne_bool_none (fin_bl I q (by simp))
    | bl j => cases ry; exact ne_bool (fin_bl I q (congrArg not dec_bl))
    | str j => obtain ⟨t', rfl⟩ := ry; exact PySem.EqMixed.ne_bool_str (fin_bl I q (by simp))
    | _ => exact absurd (show false = true from hs) Bool.false_ne_true
  | int i =>
    obtain ⟨t, rfl⟩ := rx
    cases y with
    | non => cases ry; exact PySem.EqNone.ne_int_none (fin_bl I q (by simp))
    | int j => obtain ⟨t', rfl⟩ := ry; exact ne_int (fin_bl I q (congrArg not dec_int))
    | str j => obtain ⟨t', rfl⟩ := ry; exact PySem.EqMixed.ne_int_str (fin_bl I q (by simp))
    | _ => exact absurd (show false = true from hs) Bool.false_ne_true
  | str i =>
    obtain ⟨t, rfl⟩ := rx
    cases y with
    | non => cases ry; exact PySem.EqNone.ne_str_none (fin_bl I q (by simp))
    | bl j => cases ry; exact PySem.EqMixed.ne_str_bool (fin_bl I q (by simp))
    | int j => obtain ⟨t', rfl⟩ := ry; exact PySem.EqMixed.ne_str_int (fin_bl I q (by simp))
    | str j => obtain ⟨t', rfl⟩ := ry; exact ne_str (fin_bl I q (congrArg not dec_str))
    | _ => exact absurd (show false = true from hs) Bool.false_ne_true
  | byt i =>
    obtain ⟨t, rfl⟩ := rx
    cases y with
    | byt j => obtain ⟨t', rfl⟩ := ry; exact PySem.W.ne_bytes (fin_bl I q (congrArg not dec_byt))
    | _ => exact absurd (show false = true from hs) Bool.false_ne_true
  | _ => cases y <;> exact absurd (show false = true from hs) Bool.false_ne_true
theorem op_lt : OpR X (compareOp .Lt) (rI0 fun i j => .bl (decide (i < j))) := opB0 fun _ _ _ _ _ _ _ q => lt_int q
theorem op_le : OpR X (compareOp .LtE) (rI0 fun i j => .bl (decide (i ≤ j))) := opB0 fun _ _ _ _ _ _ _ q => le_int q
theorem op_ge : OpR X (compareOp .GtE) (rI0 fun i j => .bl (decide (j ≤ i))) := opB0 fun _ _ _ _ _ _ _ q => ge_int q
theorem nomark (b : Expr) {op : CmpOp} (h : op ≠ .In := by decide) (h2 : op ≠ .NotIn := by decide) : behindInMarks op b = false := by
  have e1 : (op == CmpOp.In) = false := by cases op <;> first | rfl | exact absurd rfl h
  have e2 : (op == CmpOp.NotIn) = false := by cases op <;> first | rfl | exact absurd rfl h2
  cases b <;> simp [behindInMarks, e1, e2]
theorem pe_cmpR {op : CmpOp} {r : R2} (ho : OpR X (compareOp op) r) (ha : PE X a ta) (hb : PE X b tb) (hm : behindInMarks op b = false) : PE X (.Compare a [op] [b] pos) (tOp r ta tb) := by
  intro pins s σ H Q I h
  exact wpAny_Compare1 (binT ha hb I h fun v u s2 x y H2 I2 rx ry q => ho pins s2 σ H2 x y v u Q I2 rx ry q) hm
def tTest (t : TE) : TT := fun σ H Q => t σ H fun x H' => ∃ k, x = .bl k ∧ Q k H'
theorem pt_cmpR {op : CmpOp} {r : R2} (ho : OpR X (compareOp op) r) (ha : PE X a ta) (hb : PE X b tb) (hm : behindInMarks op b = false) : PT X (.Compare a [op] [b] pos) (tTest (tOp r ta tb)) := by
  intro pins s σ H Q I h
  refine wpAny_isTrue_Compare1 (thn (ha pins s σ H _ I h) fun v s1 ⟨x, H1, I1, r1, q1⟩ => thn (hb pins s1 σ H1 _ I1 q1) fun u s2 ⟨y, H2, I2, r2, q2⟩ =>
    thn (ho pins s2 σ H2 x y v u _ I2 r1 r2 q2) fun c s3 ⟨z, H3, I3, r3, k, e, q3⟩ => ?_) hm
  subst e
  cases r3
  exact wpAny_truthy_bool ⟨H3, I3, q3⟩
theorem line63 : (sizeLine : Nat) < 2 ^ 63 := by rw [sizeLine_eq]; decide
theorem vals1 {x : V} {us : List Value} (r : Vals [x] us) : ∃ u, us = [u] ∧ RelV x u := by
  cases r with
  | cons r1 r2 => cases r2; exact ⟨_, rfl, r1⟩
theorem vals2 {x y : V} {us : List Value} (r : Vals [x, y] us) : ∃ u w', us = [u, w'] ∧ RelV x u ∧ RelV y w' := by
  cases r with
  | cons r1 r2 =>
    cases r2 with
    | cons r3 r4 => cases r4; exact ⟨_, _, rfl, r1, r3⟩
end
end L2
namespace L2
open PySem PySem.Spec PyProof.Rows
structure ObjM (h : Heap) (x dx C : Addr) (mA : Str → Option Value) : Prop where
  obj : h.get? x = some (PySem.W.instObj C dx)
  ns : h.Ns1 dx mA
  ne : dx ≠ x
theorem lookIn_ns {h : Heap} {dx : Addr} {mA : Str → Option Value} (n : h.Ns1 dx mA) : ∃ od, h.get? dx = some od ∧ ∀ name, PySem.W.lookIn name od = some (mA name) := by
  obtain ⟨o, es, ep, ho, hd, hk, _, hm⟩ := n
  refine ⟨o, ho, fun name => ?_⟩
  have e := hm name
  unfold nsFind findBy at e
  rw [← Array.find?_toList] at e
  unfold PySem.W.lookIn
  rw [hd]
  dsimp only
  split
  · rename_i y q
    rw [q] at e
    exact congrArg some e
  · rename_i q
    rw [q] at e
    have a : es.toList.any (·.refKey) = false := by
      rw [List.any_eq_false]
      intro y hy
      obtain ⟨z, t, hkey⟩ := hk y (Array.mem_toList_iff.mp hy)
      simp [DictEntry.refKey, hkey]
    have a' : ¬ es.toList.any (·.refKey) = true := by rw [a]; exact Bool.false_ne_true
    rw [if_neg a']
    exact congrArg some e
theorem ObjM.look {h : Heap} {x dx C : Addr} {mA : Str → Option Value} (I : ObjM h x dx C mA) : ∃ od, PySem.W.InstAt h x (PySem.W.instObj C dx) C (some od) ∧ ∀ name, PySem.W.lookIn name od = some (mA name) :=
  let ⟨od, ho, hl⟩ := lookIn_ns I.ns
  ⟨od, ⟨I.obj, rfl, rfl, ho⟩, hl⟩
section
variable {prog : Program} {w : World} {A : Around} {E : Value → Shared → Prop} {s : Shared} {K : PySem.W.Frag} {x dx C f : Addr} {mA : Str → Option Value} {name : Str} {v : Value}
end
theorem RelO.none_of {o : Option Value} (r : RelO none o) : o = none := by
  cases o with
  | none => rfl
  | some u => exact (show False from r).elim
section
variable {P : Program} {w : World} {H H' : Hp} {h h' : Heap} {a C dx : Addr} {fs fs' : List (Str × V)}
theorem ins_get (hok : HOk P w H h) (e : H a = some (.ins C dx fs)) : ∃ mA, ObjM h a dx C mA ∧ (∀ f, RelO (fs.lookup f) (mA f)) ∧ PySem.Within mA (fs.map (·.1)) ∧ fs.length ≤ 1000 ∧ H dx = some (.own a) := by
  obtain ⟨d, z, ne, ob, mA, n, r, q⟩ := (show ObjOk P w H h a (.ins C dx fs) from hok a _ e)
  exact ⟨mA, ⟨ob, n, ne⟩, r, q, z, d⟩
end
structure Cls (K : PySem.W.Frag) (C : Addr) : Prop where
  pg : PySem.W.plainGet K C Str.empty = true
  hd : PySem.W.hasDictIn K C = true
  po : PySem.W.plainOver K C = true
  sa : PySem.W.findIn K (.ref C) "__setattr__" = some (some (.builtin "object.__setattr__"))
theorem Cls.get {K : PySem.W.Frag} {C : Addr} (c : Cls K C) (f : Str) : PySem.W.plainGet K C f = true := c.pg
section
variable {X : Cx} {pins : List (Addr × Obj)} {σ : St} {H : Hp} {s : Shared} {a C dx : Addr} {fs : List (Str × V)} {f : Str} {v : V} {A : Around} {E : Value → Shared → Prop}
end
section
variable {X : Cx} {o e value : Expr} {f : Str} {pos pos' tpos : Pos} {ta tv : TE}
end
section
variable {X : Cx} {pins : List (Addr × Obj)} {σ : St} {H : Hp} {s : Shared} {A : Around} {E : Value → Shared → Prop} {Q : Value → Shared → Prop} {c : Value} {b : Bool}
inductive TyOf (K : PySem.W.Frag) (H : Hp) : V → Value → Prop where
  | non : TyOf K H .non (.type "NoneType")
  | bl (x : Bool) : TyOf K H (.bl x) (.type "bool")
  | int (i : Int) : TyOf K H (.int i) (.type "int")
  | str (x : Str) : TyOf K H (.str x) (.type "str")
  | flt (x : UInt64) : TyOf K H (.flt x) (.type "float")
  | lst {a : Addr} {xs : List V} (e : H a = some (.lst xs)) : TyOf K H (.ref a) (.type "list")
  | frz {a : Addr} {o : Obj} {xs : List V} (e : H a = some (.frz o (.lst xs))) : TyOf K H (.ref a) (.type "list")
  | tup {a : Addr} {xs : List V} (e : H a = some (.tup xs)) : TyOf K H (.ref a) (.type "tuple")
  | dK {a : Addr} {kvs : List (Key × V)} (e : H a = some (.dK kvs)) : TyOf K H (.ref a) (.type "dict")
  | dT {a : Addr} {kvs : List (List Key × V)} (e : H a = some (.dT kvs)) : TyOf K H (.ref a) (.type "dict")
  | ins {a C dx : Addr} {fs : List (Str × V)} (e : H a = some (.ins C dx fs)) (cl : Cls K C) (ha : PySem.W.findIn K (.ref C) "__class__" = some (some (.builtin "object.__class__")))
      (hn : PySem.W.specialIn K (.builtin "object.__class__") "__get__" = some (some (.builtin "getset_descriptor.__get__"))) (htk : PySem.W.takesIn K (.builtin "object.__class__") = some true)
      (hm : PySem.W.mroIn K C (.type "object") = some true) : TyOf K H (.ref a) (.ref C)
theorem isinst_ok {x : V} {u t : Value} (I : Inv X pins σ H s) (rx : RelV x u) (ty : TyOf X.K H x t) (e : PySem.W.kitOne X.K t c = some b) (h : ∀ tk, Q (.bool b) { s with toks := tk }) :
    wpAny (model X.prog X.w) A (call (.builtin "isinstance") [u, c]) Q E s := by
  cases ty with
  | non => cases (show u = Value.none from rx); exact PySem.W.kia_one PySem.W.kitx_none I.kIn True.intro e (fun z => nomatch z) h
  | bl y => cases (show u = Value.bool y from rx); exact PySem.W.kia_one PySem.W.kitx_bool I.kIn True.intro e (fun z => nomatch z) h
  | int i => obtain ⟨t, q⟩ := (show ∃ t, u = Value.int i t from rx); cases q; exact PySem.W.kia_one PySem.W.kitx_int I.kIn True.intro e (fun z => nomatch z) h
  | str y => obtain ⟨t, q⟩ := (show ∃ t, u = Value.str y t from rx); cases q; exact PySem.W.kia_one PySem.W.kitx_str I.kIn True.intro e (fun z => nomatch z) h
  | flt y => obtain ⟨t, q⟩ := (show ∃ t, u = Value.float y t from rx); cases q; exact PySem.W.kia_one PySem.W.kitx_float I.kIn True.intro e (fun z => nomatch z) h
  | @lst a xs ea =>
    cases (show u = Value.ref a from rx)
    obtain ⟨_, _, n, _, h1⟩ := (show ObjOk X.prog X.w H s.heap a (.lst xs) from I.hok a _ ea)
    exact PySem.W.kia_one PySem.W.kitx_list I.kIn ⟨_, h1, rfl⟩ e (fun z => nomatch z) h
  | @frz a ob xs ea =>
    cases (show u = Value.ref a from rx)
    obtain ⟨_, _, _, n, _, h1⟩ := (show ObjOk X.prog X.w H s.heap a (.frz ob (.lst xs)) from I.hok a _ ea)
    exact PySem.W.kia_one PySem.W.kitx_list I.kIn ⟨_, h1, rfl⟩ e (fun z => nomatch z) h
  | @tup a xs ea =>
    cases (show u = Value.ref a from rx)
    obtain ⟨_, _, _, p⟩ := (show ObjOk X.prog X.w H s.heap a (.tup xs) from I.hok a _ ea)
    obtain ⟨o, h1, h2, _⟩ := p
    exact PySem.W.kia_one PySem.W.kitx_tuple I.kIn ⟨o, h1, h2⟩ e (fun z => nomatch z) h
  | @dK a kvs ea =>
    cases (show u = Value.ref a from rx)
    obtain ⟨_, _, vs, _, p⟩ := (show ObjOk X.prog X.w H s.heap a (.dK kvs) from I.hok a _ ea)
    obtain ⟨o, es, ep, h1, h2, _⟩ := p
    exact PySem.W.kia_one PySem.W.kitx_dict I.kIn ⟨o, h1, h2.1⟩ e (fun z => nomatch z) h
  | @dT a kvs ea =>
    cases (show u = Value.ref a from rx)
    obtain ⟨_, _, xs, _, o, es, ep, h1, h2, _⟩ := (show ObjOk X.prog X.w H s.heap a (.dT kvs) from I.hok a _ ea)
    exact PySem.W.kia_one PySem.W.kitx_dict I.kIn ⟨o, h1, h2.1⟩ e (fun z => nomatch z) h
  | @ins a C dx fs ea cl ha hn htk hm =>
    cases (show u = Value.ref a from rx)
    obtain ⟨mA, O, _⟩ := ins_get I.hok ea
    obtain ⟨od, J, _⟩ := O.look
    exact PySem.W.kia_one (PySem.W.kitx_own (cl.get _) cl.hd ha hn htk hm) I.kIn J e (fun z => nomatch z) h
end
end L2
namespace L2
open PySem PySem.Spec PyProof.Rows
structure Room (k : Nat) (A : Around) : Prop where
  hd : A.handled = none
  dp : A.depth + 3 * k + 5 < recursionLimit
  un : A.units + 16 * k + 200 < cLine
theorem Room.mono {j k : Nat} {A : Around} (r : Room k A) (h : j ≤ k) : Room j A := ⟨r.hd, by have := r.dp; omega, by have := r.un; omega⟩
theorem Room.deeper {k : Nat} {A : Around} (r : Room (k + 1) A) (env : Env) : Room k (A.deeper env) :=
  ⟨r.hd, by have := r.dp; show A.depth + 1 + 3 * k + 5 < _; omega, by have := r.un; show A.units + 3 + 16 * k + 200 < _; omega⟩
theorem Room.in1 {k : Nat} {A : Around} (r : Room (k + 1) A) : Room k A.in1 :=
  ⟨r.hd, by have := r.dp; show A.depth + 3 * k + 5 < _; omega, by have := r.un; show A.units + 1 + 16 * k + 200 < _; omega⟩
theorem Room.depth {k : Nat} {A : Around} (r : Room k A) : A.depth < recursionLimit := by have := r.dp; omega
theorem Room.units {k : Nat} {A : Around} (r : Room k A) : A.units + 64 < cLine := by have := r.un; omega
def tNil : TA := fun _ H Q => Q [] H
def tCons (ta : TE) (tr : TA) : TA := fun σ H Q => ta σ H fun x H1 => tr σ H1 fun xs H2 => Q (x :: xs) H2
section
variable {X : Cx} {e : Expr} {es : List Expr} {te : TE} {t : TA} {pos : Pos}
theorem pa_nil : PA X [] tNil := fun _ _ _ _ H Q I h => Calls.spliced_nil ⟨[], H, I, .nil, h⟩
theorem pa_cons (ha : PE X e te) (hr : PA X es t) (hs : starEach (e :: es) X.env = (false, eval e X.env) :: starEach es X.env := by rfl) : PA X (e :: es) (tCons te t) := by
  intro pos pins s σ H Q I h
  rw [hs]
  show wpAny _ _ (spliced ((false, eval e X.env) :: backTo pos (starEach es X.env))) _ _ s
  refine Calls.spliced_cons (thn (ha pins s σ H _ I h) fun u s1 ⟨x, H1, I1, r1, q1⟩ => ?_)
  exact thn (hr pos pins s1 σ H1 _ I1 q1) fun us s2 ⟨xs, H2, I2, r2, q2⟩ => ⟨x :: xs, H2, I2, .cons r1 r2, q2⟩
def tLst (t : TA) : TE := fun σ H Q => t σ H fun xs H1 => xs.length ≤ sizeLine ∧ ∀ p, H1 p = none → Q (.ref p) (upd H1 p (.lst xs))
theorem pe_lst (h : PA X es t) : PE X (.List es pos) (tLst t) := by
  intro pins s σ H Q I hq
  refine wpAny_List_spliced (thn (h pos pins s σ H _ I hq) fun us s1 ⟨xs, H1, I1, r, z, q⟩ => ⟨by rw [← r.length]; exact z, ?_⟩)
  have hf : H1 s1.heap.objs.size = none := I1.hok.fresh (Nat.le_refl _)
  refine ⟨.ref s1.heap.objs.size, upd H1 s1.heap.objs.size (.lst xs), I1.laid (t' := s1.toks) (fun b u e => Heap.get?_push_of_some _ e) (Nat.le_refl _) ?_, rfl, q _ hf⟩
  exact ⟨z, us, 0, r, Heap.get?_push_size _ rfl⟩
end
abbrev Sp := List V → Hp → VK → XK → Prop
abbrev CXT := List Env → Hp → Shared → XK → Value → Shared → Prop
structure Env0 (P : Program) (w : World) (K : PySem.W.Frag) (mg : Str → Option Value) (base : Heap) (A : Around) (outer : List Env) (s : Shared) (H : Hp) : Prop where
  frames : A.frames = some outer
  mod : Mod K mg base
  bs : ∀ b o, base.get? b = some o → s.heap.get? b = some o ∧ H b = none
  bsz : base.objs.size ≤ s.heap.objs.size
  funs : s.heap.FunFrames base outer
  frf : ∀ b ∈ frs outer, H b = none
  hok : HOk P w H s.heap
  bare : AllBare s.gens
  tb : TbAt K H
def CE (outer : List Env) (P : Program) (w : World) (H : Hp) (s : Shared) (Q : VK) (u : Value) (s' : Shared) : Prop :=
  ∃ v H', s'.os = s.os ∧ AllBare s'.gens ∧ Un (frs outer) [] H H' s.heap s'.heap ∧ HOk P w H' s'.heap ∧ RelV v u ∧ Q v H'
def CR (CX : CXT) (outer : List Env) (P : Program) (w : World) (H : Hp) (s : Shared) (Q : VK) (E : XK) (r : Result) (s' : Shared) : Prop :=
  match r with
  | .ok (.ret u) => CE outer P w H s Q u s'
  | .ok _ => False
  | .error e => CX outer H s E e s'
structure FnOk (P : Program) (w : World) (K : PySem.W.Frag) (mg : Str → Option Value) (base : Heap) (CX : CXT) (k : Nat) (f : Addr) (fd : FuncData) (ps : List Str) (sp : Sp) : Prop where
  len : ∀ vs H Q E, sp vs H Q E → vs.length = ps.length
  run : ∀ (A : Around) (outer : List Env) (s : Shared) (H : Hp) (args : Args) (us : List Value) (vs : List V) (Q : VK) (E : XK), Room k A → Env0 P w K mg base A outer s H → BindsTo s fd args (ps.zip us) → Vals vs us → sp vs H Q E →
    codeAny (model P w) A (.call (.ref f) args) (CR CX outer P w H s Q E) s
theorem FnOk.mono {P : Program} {w : World} {K : PySem.W.Frag} {mg : Str → Option Value} {base : Heap} {CX : CXT} {j k : Nat} {f : Addr} {fd : FuncData} {ps : List Str} {sp : Sp} (F : FnOk P w K mg base CX j f fd ps sp) (h : j ≤ k) :
    FnOk P w K mg base CX k f fd ps sp := ⟨F.len, fun A outer s H args us vs Q E hr => F.run A outer s H args us vs Q E (hr.mono h)⟩
theorem FnOk.imp {P : Program} {w : World} {K : PySem.W.Frag} {mg : Str → Option Value} {base : Heap} {CX : CXT} {k : Nat} {f : Addr} {fd : FuncData} {ps : List Str} {sp sp' : Sp} (F : FnOk P w K mg base CX k f fd ps sp)
    (h : ∀ vs H Q E, sp' vs H Q E → sp vs H Q E) : FnOk P w K mg base CX k f fd ps sp' :=
  ⟨fun vs H Q E q => F.len vs H Q E (h _ _ _ _ q), fun A outer s H args us vs Q E hr he hb hv hs => F.run A outer s H args us vs Q E hr he hb hv (h _ _ _ _ hs)⟩
theorem Env0.in1 {P : Program} {w : World} {K : PySem.W.Frag} {mg : Str → Option Value} {base : Heap} {A : Around} {outer : List Env} {s : Shared} {H : Hp} (e : Env0 P w K mg base A outer s H) :
    Env0 P w K mg base A.in1 outer s H := ⟨e.frames, e.mod, e.bs, e.bsz, e.funs, e.frf, e.hok, e.bare, e.tb⟩
section
variable {X : Cx} {pins : List (Addr × Obj)} {σ : St} {H : Hp} {s s' : Shared}
theorem Inv.env0 (I : Inv X pins σ H s) : Env0 X.prog X.w X.K X.mg X.base X.A X.stack s H :=
  ⟨I.ok.frames, I.ok.mod, I.bs, Nat.le_trans I.ok.bsz I.sz, I.stack, I.stkFree, I.hok, I.bare, I.ok.tb.grown I.base.tbls⟩
theorem Inv.after {Q : VK} {u : Value} (I : Inv X pins σ H s) (h : CE X.stack X.prog X.w H s Q u s') : EP X pins σ Q u s' := by
  obtain ⟨v, H', os, bare, un, hok, r, q⟩ := h
  obtain ⟨hh, g, d, t, os'⟩ := s'
  obtain rfl : os' = s.os := os
  exact ⟨v, H', I.call (h' := hh) (g' := g) (d' := d) (t' := t) (ch := []) un hok bare (fun b z => absurd z (by simp)), r, q⟩
end
def tCall (sp : Sp) (dvs : List V) (E : XK) (t : TA) : TE := fun σ H Q => t σ H fun vs H1 => sp (vs ++ dvs) H1 Q E
def Binds (K : PySem.W.Frag) (fd : FuncData) (ps : List Str) (ds : List Value) : Prop :=
  ∀ (s : Shared) (us : List Value), K.In s.heap → (us ++ ds).length = ps.length → BindsTo s fd ⟨us, []⟩ (ps.zip (us ++ ds))
theorem Binds.all {K : PySem.W.Frag} {fd : FuncData} {ps : List Str} (h : ∀ us : List Value, us.length = ps.length → bindArgs fd ⟨us, []⟩ = pure (ps.zip us)) : Binds K fd ps [] := fun s us _ hl => by
  rw [List.append_nil] at hl ⊢
  exact .of_eq (h us hl)
def Passes (CX : CXT) (X : Cx) (E : XK) : Prop := ∀ (pins : List (Addr × Obj)) (σ : St) (H : Hp) (s : Shared) (e : Value) (s' : Shared), Inv X pins σ H s → CX X.stack H s E e s' → X.xe e s'
section
variable {X : Cx} {CX : CXT} {k : Nat} {f C : Addr} {fd : FuncData} {ps : List Str} {sp : Sp} {dvs : List V} {ds : List Value} {E : XK} {x m : Str} {p pos apos : Pos} {e o : Expr} {es : List Expr} {ta : TE} {t : TA}
theorem run_fn {pins : List (Addr × Obj)} {σ : St} {H : Hp} {s : Shared} {Q : VK} {us : List Value} {vs : List V} (F : FnOk X.prog X.w X.K X.mg X.base CX k f fd ps sp) (hr : Room k X.A) (hb : Binds X.K fd ps ds) (hd : Vals dvs ds) (hx : Passes CX X E)
    (I : Inv X pins σ H s) (r : Vals vs us) (h : sp (vs ++ dvs) H Q E) : wpAny (model X.prog X.w) X.A (call (.ref f) us) (EP X pins σ Q) X.xe s := by
  have r2 : Vals (vs ++ dvs) (us ++ ds) := r.append hd
  have hl : (us ++ ds).length = ps.length := by rw [← r2.length]; exact F.len _ _ _ _ h
  refine wpAny_call (codeAny_mono (F.run X.A X.stack s H ⟨us, []⟩ (us ++ ds) (vs ++ dvs) Q E hr I.env0 (hb s us I.kIn hl) r2 h) fun r s' hq => ?_)
  cases r with
  | error e => exact hx pins σ H s e s' I hq
  | ok fl =>
    cases fl with
    | ret u => exact I.after hq
    | next => exact False.elim hq
    | brk => exact False.elim hq
    | cont => exact False.elim hq
theorem pe_call (F : FnOk X.prog X.w X.K X.mg X.base CX k f fd ps sp) (hr : Room k X.A) (hg : Gl X x) (hm : X.mg x = some (.ref f)) (hk : PySem.W.keepIn X.K (.ref f) = true) (hb : Binds X.K fd ps ds) (hd : Vals dvs ds) (hx : Passes CX X E)
    (ha : PA X (e :: es) t) (hdb : (x == ("__debug__" : Str)) = false := by decide) (he : starEach (e :: es) X.env = (false, eval e X.env) :: starEach es X.env := by rfl) (hpl : (backTo pos (starEach es X.env)).any (·.1) = false := by rfl) :
    PE X (.Call (.Name x p) (e :: es) [] pos) (tCall sp dvs E t) := by
  intro pins s σ H Q I h
  refine wpAny_Call_Name_kw (ld_glob I hg hm ?_ hdb)
  refine PySem.W.callWith_K (h₀ := X.base) I.ok.mod.kin hk (thn (ha pos pins s σ H _ I h) fun us s1 ⟨vs, H1, I1, r, q⟩ => ⟨I1.kIn, ?_⟩) he hpl
  exact run_fn F hr hb hd hx I1 r q
end
section
variable {X : Cx} {CX : CXT} {k : Nat} {f C : Addr} {fd : FuncData} {ps ks : List Str} {sp : Sp} {E : XK} {x m : Str} {p pos apos kpos : Pos} {e o : Expr} {es : List Expr} {kws : List Keyword} {te ta : TE} {t tk : TA} {nm : Option Str}
variable {g : List Value → List Value → List Value} {gV : List V → List V → List V}
end
structure FnScope (N P : List Str) (sc : Scope) : Prop where
  kind : sc.kind = .function
  co : sc.isCoroutine = false
  gen : sc.isGenerator = false
  nd : N.Nodup
  pre : N.take P.length = P
  par : ∀ x ∈ P, sc.names.lookup x = some .local ∨ sc.names.lookup x = some .cell
  nofree : ∀ y ∈ sc.names, y.2 ≠ .free
theorem bindL_out {kindOf : Str → Option NameKind} {x : Str} : ∀ {binds : List (Str × Value)} {m : Str → Option Value}, (∀ v, (x, v) ∉ binds) → bindL kindOf binds m x = m x
  | [], _, _ => rfl
  | (n, v) :: r, m, h => by
    unfold bindL
    rw [bindL_out fun w hw => h w (List.mem_cons_of_mem _ hw)]
    split
    · have : x ≠ n := by rintro rfl; exact h v List.mem_cons_self
      simp [this]
    · rfl
theorem bindC_out {kindOf : Str → Option NameKind} {x : Str} : ∀ {binds : List (Str × Value)} {m : Str → Option Value}, (∀ v, (x, v) ∉ binds) → bindC kindOf binds m x = m x
  | [], _, _ => rfl
  | (n, v) :: r, m, h => by
    unfold bindC
    rw [bindC_out fun w hw => h w (List.mem_cons_of_mem _ hw)]
    split
    · rfl
    · have : x ≠ n := by rintro rfl; exact h v List.mem_cons_self
      simp [this]
theorem bindL_get {kindOf : Str → Option NameKind} {x : Str} {v : Value} : ∀ {P : List Str} {vs : List Value} {i : Nat} {m : Str → Option Value}, P.Nodup → P[i]? = some x → vs[i]? = some v → kindOf x = some .local →
    bindL kindOf (P.zip vs) m x = some v
  | [], _, _, _, _, h, _, _ => by simp at h
  | _ :: _, [], _, _, _, _, h, _ => by simp at h
  | p :: P, w :: vs, 0, m, nd, h1, h2, hk => by
    simp at h1 h2; subst h1; subst h2
    show bindL kindOf ((p, w) :: P.zip vs) m p = _
    unfold bindL
    rw [bindL_out fun v hv => (List.nodup_cons.mp nd).1 (List.of_mem_zip hv).1, if_pos hk]
    simp
  | p :: P, w :: vs, i + 1, m, nd, h1, h2, hk => by
    show bindL kindOf ((p, w) :: P.zip vs) m x = _
    unfold bindL
    exact bindL_get (i := i) (List.nodup_cons.mp nd).2 (by simpa using h1) (by simpa using h2) hk
theorem bindC_get {kindOf : Str → Option NameKind} {x : Str} {v : Value} : ∀ {P : List Str} {vs : List Value} {i : Nat} {m : Str → Option Value}, P.Nodup → P[i]? = some x → vs[i]? = some v → kindOf x ≠ some .local →
    bindC kindOf (P.zip vs) m x = some v
  | [], _, _, _, _, h, _, _ => by simp at h
  | _ :: _, [], _, _, _, _, h, _ => by simp at h
  | p :: P, w :: vs, 0, m, nd, h1, h2, hk => by
    simp at h1 h2; subst h1; subst h2
    show bindC kindOf ((p, w) :: P.zip vs) m p = _
    unfold bindC
    rw [bindC_out fun v hv => (List.nodup_cons.mp nd).1 (List.of_mem_zip hv).1, if_neg hk]
    simp
  | p :: P, w :: vs, i + 1, m, nd, h1, h2, hk => by
    show bindC kindOf ((p, w) :: P.zip vs) m x = _
    unfold bindC
    exact bindC_get (i := i) (List.nodup_cons.mp nd).2 (by simpa using h1) (by simpa using h2) hk
def start (N : List Str) (vs : List V) : St := vs.map some ++ List.replicate (N.length - vs.length) none
def cxOf (CX : CXT) (P : Program) (w : World) (K : PySem.W.Frag) (mg : Str → Option Value) (base : Heap) (N : List Str) (qual : Str) (scope : Scope) (f : Addr) (cd : Value) (A : Around) (outer : List Env) (s : Shared) (H : Hp) (E : XK) : Cx where
  prog := P
  w := w
  K := K
  mg := mg
  base := base
  A := A.deeper (envOfC qual scope s.heap.objs.size f cd)
  N := N
  s₀ := s
  H₀ := H
  env := envOfC qual scope s.heap.objs.size f cd
  outer := outer
  stack := envOfC qual scope s.heap.objs.size f cd :: outer
  ex := []
  calm := true
  fn := fun _ => true
  pn := []
  xe := fun e s' => wpAny (model P w) (A.deeper (envOfC qual scope s.heap.objs.size f cd)) (leaving (envOfC qual scope s.heap.objs.size f cd) e) (fun _ s'' => CX outer H s E e s'') (fun e' s'' => CX outer H s E e' s'') s'
theorem cell_has {sc : Scope} {n : Nat} {x : Str} (h : sc.names.lookup x = some .cell) : ∃ c, (cellsFrom n sc.names []).lookup x = some c := by
  have q := PySem.W.cellsFrom_some sc.names n [] (.inl h)
  exact Option.isSome_iff_exists.mp q
theorem inv_start {CX : CXT} {P : Program} {w : World} {K : PySem.W.Frag} {mg : Str → Option Value} {base : Heap} {N ps : List Str} {qual : Str} {scope : Scope} {f : Addr} {cd : Value} {A : Around} {outer : List Env} {s s1 : Shared} {H : Hp} {E : XK} {us : List Value} {vs : List V}
    (S : FnScope N ps scope) (hd : A.handled = none) (e0 : Env0 P w K mg base A outer s H) (hl : vs.length = ps.length) (r : Vals vs us)
    (x : InCallC s s.heap.objs.size (bindL (envOfC qual scope s.heap.objs.size f cd).kindOf (ps.zip us) fun _ => none) (cellsFrom (s.heap.objs.size + 1) scope.names []) (bindC (envOfC qual scope s.heap.objs.size f cd).kindOf (ps.zip us) fun _ => none) s1) :
    Inv (cxOf CX P w K mg base N qual scope f cd A outer s H E) [] (start N vs) H s1 := by
  have hpl : ps.length ≤ N.length := by have := congrArg List.length S.pre; rw [List.length_take] at this; omega
  obtain ⟨h1, tk, rfl, hk⟩ := x.done
  have noA : ∀ b : Addr, b ∉ (cxOf CX P w K mg base N qual scope f cd A outer s H E).ex := fun b z => absurd (show b ∈ ([] : List Addr) from z) (by simp)
  refine ⟨⟨e0.mod, S.kind, rfl, rfl, Nat.le_refl _, fun y z c h1 h2 => ?_, fun y hy => ?_, fun y c _ h => ?_, fun _ => hd, Around.frames_deeper e0.frames, .inr ⟨rfl, rfl⟩, fun b z => absurd z (noA b), e0.bs, e0.bsz, fun b _ _ => noA b, fun b z => absurd z (noA b), e0.funs, e0.frf, e0.tb⟩,
    rfl, e0.bare, Un.kept hk, ⟨_, x.toInCall.ns, fun i y v h1 h2 h3 => ?_⟩, fun y c h => ⟨_, x.cell y c h⟩, e0.hok.fresh (Nat.le_refl _), fun y c h => ?_, fun p hp => absurd (show p ∈ ([] : List (Addr × Obj)) from hp) (by simp), e0.hok.kept hk, ?_⟩
  · exact name_of_addr x.apart (PySem.mem_of_lookup h1) (PySem.mem_of_lookup h2)
  · have hy : scope.names.lookup y = some .cell ∨ scope.names.lookup y = some .free := hy
    rcases hy with hy | hy
    · exact cell_has hy
    · exact absurd rfl (S.nofree _ (PySem.mem_of_lookup hy))
  · exact Nat.le_of_lt (x.above y c (PySem.mem_of_lookup h))
  · have hi : i < vs.length := by
      unfold start at h2
      by_cases hi : i < vs.length
      · exact hi
      · rw [List.getElem?_append_right (by simpa using hi)] at h2
        rw [List.getElem?_replicate] at h2
        split at h2 <;> cases h2
    have ha : vs[i]? = some v := by
      unfold start at h2
      rw [List.getElem?_append_left (by simpa using hi), List.getElem?_map] at h2
      cases e : vs[i]? with
      | none => rw [e] at h2; cases h2
      | some a => rw [e] at h2; cases h2; rfl
    obtain ⟨u, hu, rv⟩ := r.get ha
    have hp : ps[i]? = some y := by
      rw [← S.pre, List.getElem?_take_of_lt (by omega)]; exact h1
    have ndP : ps.Nodup := by rw [← S.pre]; exact S.nd.sublist (List.take_sublist _ _)
    refine ⟨u, rv, ?_⟩
    rcases S.par y (List.mem_of_getElem? hp) with k | k
    · exact .inl ⟨k, bindL_get ndP hp hu k⟩
    · obtain ⟨c, e⟩ := cell_has (n := s.heap.objs.size + 1) k
      refine .inr ⟨.inl k, c, e, ?_⟩
      have q := x.cell y c e
      rw [bindC_get ndP hp hu (by show scope.names.lookup y ≠ _; rw [k]; decide)] at q
      exact q
  · exact e0.hok.fresh (Nat.le_of_lt (x.above y c (PySem.mem_of_lookup h)))
  · unfold start
    show _ = N.length
    rw [List.length_append, List.length_map, List.length_replicate]
    omega
theorem fn_of {CX : CXT} {P : Program} {w : World} {K : PySem.W.Frag} {mg : Str → Option Value} {base : Heap} {k : Nat} {f : Addr} {name qual : Str} {params : Arguments} {body : List Stmt} {scope : Scope} {dV kV doc pm cdv ct oc : Value} {an od : Option Addr}
    {osl : Array (Option Value)} {N ps : List Str} {sp : Sp} (lk : K.lookup f = some ⟨oc, od, .func (PySem.W.fnOf name qual params body scope dV kV doc pm an cdv ct), osl⟩) (hcd : PySem.W.codeIn K cdv qual = true) (S : FnScope N ps scope)
    (len : ∀ vs H Q E, sp vs H Q E → vs.length = ps.length)
    (hbody : ∀ (A : Around) (outer : List Env) (s : Shared) (H : Hp) (vs : List V) (Q : VK) (E : XK), Room k (A.deeper (envOfC qual scope s.heap.objs.size f cdv)) → sp vs H Q E →
      ∃ t, PSs (cxOf CX P w K mg base N qual scope f cdv A outer s H E) body t ∧ t { nx := fun _ H' => Q .non H', rt := Q } (start N vs) H) :
    FnOk P w K mg base CX (k + 1) f (PySem.W.fnOf name qual params body scope dV kV doc pm an cdv ct) ps sp := by
  refine ⟨len, fun A outer s H args us vs Q E hr e0 hb r hsp => ?_⟩
  have hl := len _ _ _ _ hsp
  have KX : K.In s.heap := e0.mod.kin.keeps fun b o e => (e0.bs b o e).1
  have lim : s.heap.NoLimit := e0.mod.nolimit.keeps fun b o e => (e0.bs b o e).1
  have hkind : ∀ y ∈ ps.zip us, scope.names.lookup y.1 = some .local ∨ (scope.names.lookup y.1 = some .cell ∧ ((cellsFrom (s.heap.objs.size + 1) scope.names []).lookup y.1).isSome = true) := fun ⟨n, v⟩ hy => by
    rcases S.par n (List.of_mem_zip hy).1 with q | q
    · exact .inl q
    · exact .inr ⟨q, PySem.W.cellsFrom_some _ _ _ (.inl q)⟩
  refine codeAny_call_function hr.depth (KX _ _ lk) rfl S.co S.gen rfl (PySem.W.codeRec_of KX hcd) (hb _ _ _ _ ?_)
  refine wpAny_newFunctionEnv_cells S.kind hkind fun env he s1 x => ?_
  subst he
  refine ⟨lim.keeps x.toInCall.keep, codeAny_func ?_⟩
  obtain ⟨t, ht, hq⟩ := hbody A outer s H vs Q E (hr.deeper _) hsp
  have I : Inv (cxOf CX P w K mg base N qual scope f cdv A outer s H E) [] (start N vs) H s1 := inv_start S hr.hd e0 hl r x
  refine wpAny_mono (ht [] s1 (start N vs) H _ I hq) (fun fl s' hs => ?_) fun e s' hs => hs
  have fin : ∀ {σ' : St} {H' : Hp} {v : V} {u : Value}, Inv (cxOf CX P w K mg base N qual scope f cdv A outer s H E) [] σ' H' s' → RelV v u → Q v H' → CE outer P w H s Q u s' :=
    fun {σ' H' v u} J rv q => ⟨v, H', J.os, J.bare, J.base, J.hok, rv, q⟩
  cases fl with
  | ret u =>
    obtain ⟨v, σ', H', J, rv, q⟩ := hs
    exact fin J rv q
  | next =>
    obtain ⟨σ', H', J, q⟩ := hs
    exact fin (v := V.non) (u := Value.none) J rfl q
  | brk =>
    obtain ⟨_, _, _, q⟩ := hs
    exact False.elim q
  | cont =>
    obtain ⟨_, _, _, q⟩ := hs
    exact False.elim q
end L2
namespace L2
open PySem PySem.Spec PyProof.Rows
section
variable {X : Cx} {x : Str} {p pos : Pos} {e : Expr} {es : List Expr} {t : TA} {id T : String} {r : List V → Hp → VK → Prop}
def tCB (r : List V → Hp → VK → Prop) (t : TA) : TE := fun σ H Q => t σ H fun vs H1 => r vs H1 Q
theorem pe_callB (hc : CallR X (.builtin id) r) (hg : Gl X x) (hm : X.mg x = none) (hv : bootBuiltins x = some (.builtin id)) (ha : PA X (e :: es) t) (hn : x ≠ "__name__" := by decide) (hdb : (x == ("__debug__" : Str)) = false := by decide)
    (he : starEach (e :: es) X.env = (false, eval e X.env) :: starEach es X.env := by rfl) (hpl : (backTo pos (starEach es X.env)).any (·.1) = false := by rfl) : PE X (.Call (.Name x p) (e :: es) [] pos) (tCB r t) := by
  intro pins s σ H Q I h
  refine wpAny_Call_Name_kw (ld_blt I hg hm hv ?_ hn hdb)
  exact PyProof.Rows.callWith_builtin1 (thn (ha pos pins s σ H _ I h) fun us s1 ⟨vs, H1, I1, r1, q1⟩ => hc pins s1 σ H1 vs us Q I1 r1 q1) he hpl
theorem pe_callTy (hc : CallR X (.type T) r) (hg : Gl X x) (hm : X.mg x = none) (hv : bootBuiltins x = some (.type T)) (ha : PA X (e :: es) t) (hn : x ≠ "__name__" := by decide) (hdb : (x == ("__debug__" : Str)) = false := by decide)
    (he : starEach (e :: es) X.env = (false, eval e X.env) :: starEach es X.env := by rfl) (hpl : (backTo pos (starEach es X.env)).any (·.1) = false := by rfl) : PE X (.Call (.Name x p) (e :: es) [] pos) (tCB r t) := by
  intro pins s σ H Q I h
  refine wpAny_Call_Name_kw (ld_blt I hg hm hv ?_ hn hdb)
  exact PyProof.Rows.callWith_type1 (thn (ha pos pins s σ H _ I h) fun us s1 ⟨vs, H1, I1, r1, q1⟩ => hc pins s1 σ H1 vs us Q I1 r1 q1) he hpl
end
end L2
namespace HT
open PySem PyProof.Rows
section
open PySem.SeqAt
open PySem.AutoSeq1 (wpAny_loadPart')
open PySem.MeetsSeq PySem.MeetsSeq2 PySem.MeetsSeq3
end
section
variable {prog : Program} {w : World} {A : Around} {E : Value → Shared → Prop} {s : Shared}
def sIx (n d : Nat) : Option Int → Nat
  | none => d
  | some v => if v < 0 then (v + (n : Int)).toNat else min v.toNat n
end
end HT
namespace L2
open PySem PySem.Spec PyProof.Rows
abbrev TO := St → Hp → (Option Int → Hp → Prop) → Prop
def PO (X : Cx) (e : Option Expr) (t : TO) : Prop :=
  ∀ (pins : List (Addr × Obj)) (s : Shared) (σ : St) (H : Hp) (Q : Option Int → Hp → Prop), Inv X pins σ H s → t σ H Q →
    wpAny (model X.prog X.w) X.A (evalPart e X.env) (fun u s' => ∃ o H', Inv X pins σ H' s' ∧ IsPart u o ∧ Q o H') X.xe s
def tNoPart : TO := fun _ H Q => Q none H
def tPart (t : TE) : TO := fun σ H Q => t σ H fun x H1 => ∃ i, x = .int i ∧ Q (some i) H1
section
variable {X : Cx} {e : Expr} {te : TE} {lo hi : Option Expr} {tl th : TO} {pos p2 : Pos}
theorem po_none : PO X none tNoPart := by
  intro pins s σ H Q I h
  rw [evalPart_none]
  exact wpAny_pure ⟨none, H, I, .none, h⟩
theorem po_some (h : PE X e te) : PO X (some e) (tPart te) := by
  intro pins s σ H Q I hw
  rw [evalPart_some]
  refine thn (h pins s σ H _ I hw) fun u s1 ⟨x, H1, I1, r1, q1⟩ => ?_
  obtain ⟨i, rfl, q⟩ := q1
  obtain ⟨t, rfl⟩ := r1
  exact ⟨some i, H1, I1, .int i t, q⟩
def SlR (X : Cx) (r : V → Option Int → Option Int → Hp → VK → Prop) : Prop :=
  ∀ (pins : List (Addr × Obj)) (s : Shared) (σ : St) (H : Hp) (x : V) (v vl vu : Value) (lo hi : Option Int) (sl : Addr) (Q : VK), Inv X pins σ H s → RelV x v → s.heap.IsSliceOf sl vl vu .none → IsPart vl lo → IsPart vu hi → r x lo hi H Q →
    ∃ T id, typeLookup (.type T) "__getitem__" = pure (some (.builtin id)) ∧ s.TypeIs v T ∧ wpAny (model X.prog X.w) X.A (getItem v (.ref sl)) (EP X pins σ Q) X.xe s
def tSl (r : V → Option Int → Option Int → Hp → VK → Prop) (te : TE) (tl th : TO) : TE := fun σ H Q => te σ H fun x H1 => tl σ H1 fun l H2 => th σ H2 fun u H3 => r x l u H3 Q
theorem pe_slice {r : V → Option Int → Option Int → Hp → VK → Prop} (hr : SlR X r) (he : PE X e te) (hl : PO X lo tl) (hu : PO X hi th) : PE X (.Subscript e (.Slice lo hi none p2) pos) (tSl r te tl th) := by
  intro pins s σ H Q I h
  refine Subscript_ (thn (he pins s σ H _ I h) fun v s1 ⟨x, H1, I1, r1, q1⟩ => ?_)
  refine wpAny_Slice (thn (hl pins s1 σ H1 _ I1 q1) fun vl s2 ⟨l, H2, I2, pl, q2⟩ => thn (hu pins s2 σ H2 _ I2 q2) fun vu s3 ⟨u, H3, I3, pu, q3⟩ => ?_)
  rw [evalPart_none]
  refine wpAny_pure ?_
  have I4 : Inv X pins σ H3 { s3 with heap := s3.heap.push { cls := .type "slice", data := .fields #[vl, vu, .none] } } := I3.kept (t' := s3.toks) fun b ob q => Heap.get?_push_of_some _ q
  obtain ⟨T, id, hT, ht, hg⟩ := hr pins { s3 with heap := s3.heap.push { cls := .type "slice", data := .fields #[vl, vu, .none] } } σ H3 x v vl vu l u s3.heap.objs.size Q I4 r1 (Heap.IsSliceOf.new ..) pl pu q3
  show wpAny (model X.prog X.w) X.A (subscriptTail e (.Slice lo hi none p2) v (.ref s3.heap.objs.size)) (EP X pins σ Q) X.xe { s3 with heap := s3.heap.push { cls := .type "slice", data := .fields #[vl, vu, .none] } }
  exact tail_any (ops := [.ref s3.heap.objs.size, v]) ht hT hg (by with_unfolding_all rfl)
def cutV (xs : List V) (lo hi : Option Int) : List V := (xs.drop (HT.sIx xs.length 0 lo)).take (HT.sIx xs.length xs.length hi - HT.sIx xs.length 0 lo)
theorem cutV_length (xs : List V) (lo hi : Option Int) : (cutV xs lo hi).length ≤ xs.length := by
  unfold cutV
  rw [List.length_take, List.length_drop]
  omega
end
end L2
namespace L2
open PySem PySem.Spec PyProof.Rows
def ixN (n : Nat) (i : Int) : Option Nat := if 0 ≤ i then (if i < n then some i.toNat else none) else if -(n : Int) ≤ i then some (i + n).toNat else none
def atI {α : Type} (xs : List α) (i : Int) : Option α := (ixN xs.length i).bind fun j => xs[j]?
theorem ixN_seq {n : Nat} {i : Int} {j : Nat} (h : ixN n i = some j) : seqIndex? i n = some j ∧ j < n ∧ -(n : Int) ≤ i ∧ i < n := by
  unfold ixN at h
  by_cases h0 : 0 ≤ i
  · rw [if_pos h0] at h
    by_cases h1 : i < n
    · rw [if_pos h1] at h
      have e : i.toNat = j := Option.some.inj h
      exact ⟨by rw [seqIndex_of h0 h1, e], by omega, by omega, h1⟩
    · rw [if_neg h1] at h; cases h
  · rw [if_neg h0] at h
    by_cases h1 : -(n : Int) ≤ i
    · rw [if_pos h1] at h
      have e : (i + n).toNat = j := Option.some.inj h
      exact ⟨by rw [seqIndex_neg (by omega) h1, e], by omega, h1, by omega⟩
    · rw [if_neg h1] at h; cases h
theorem atI_get {α : Type} {xs : List α} {i : Int} {v : α} (h : atI xs i = some v) : ∃ j, seqIndex? i xs.length = some j ∧ xs[j]? = some v ∧ j < xs.length ∧ -(xs.length : Int) ≤ i ∧ i < xs.length := by
  unfold atI at h
  cases e : ixN xs.length i with
  | none => rw [e] at h; cases h
  | some j =>
    rw [e] at h
    obtain ⟨h1, h2, h3, h4⟩ := ixN_seq e
    exact ⟨j, h1, h, h2, h3, h4⟩
theorem atI_nat {α : Type} {xs : List α} {j : Nat} {v : α} (h : xs[j]? = some v) : atI xs (j : Int) = some v := by
  have hj : j < xs.length := (List.getElem?_eq_some_iff.mp h).1
  have e : ixN xs.length (j : Int) = some j := by
    unfold ixN
    rw [if_pos (by omega), if_pos (by omega)]; simp
  unfold atI; rw [e]; exact h
def PlainIx (b : Expr) : Prop := ∀ o i, subscripted b false o i = operate [o, i] (getItem o i)
def IxR (X : Cx) (r : R2) : Prop :=
  ∀ (value slice : Expr) (pins : List (Addr × Obj)) (s : Shared) (σ : St) (H : Hp) (x y : V) (v u : Value) (Q : VK), Inv X pins σ H s → RelV x v → RelV y u → r x y H Q →
    subscripted slice false v u = operate [v, u] (getItem v u) → wpAny (model X.prog X.w) X.A (subscriptTail value slice v u) (EP X pins σ Q) X.xe s
def MtR (X : Cx) (id : String) (r : V → List V → Hp → VK → Prop) : Prop :=
  ∀ (pins : List (Addr × Obj)) (s : Shared) (σ : St) (H : Hp) (x : V) (xs : List V) (v : Value) (us : List Value) (Q : VK), Inv X pins σ H s → RelV x v → Vals xs us → r x xs H Q →
    wpAny (model X.prog X.w) X.A (call (.builtin id) (v :: us)) (EP X pins σ Q) X.xe s
section
variable {X : Cx} {a b : Expr} {ta tb : TE} {pos : Pos}
theorem pe_ix {r : R2} (hr : IxR X r) (ha : PE X a ta) (hb : PE X b tb) (hs : PlainIx b) : PE X (.Subscript a b pos) (tOp r ta tb) := by
  intro pins s σ H Q I h
  exact Subscript_ (binT ha hb I h fun v u s2 x y H2 I2 rx ry q => hr a b pins s2 σ H2 x y v u Q I2 rx ry q (hs _ _))
def rIxL (K : PySem.W.Frag) : R2 := fun x y H Q => ∃ p xs i v, x = .ref p ∧ y = .int i ∧ SqL K H p xs ∧ atI xs i = some v ∧ Q v H
theorem ix_list : IxR X (rIxL X.K) := by
  intro value slice pins s σ H x y v u Q I rx ry h hs
  obtain ⟨p, xs, i, z, rfl, rfl, hq, he, q⟩ := h
  cases rx
  obtain ⟨t, rfl⟩ := ry
  obtain ⟨its, r, pl, hz⟩ := I.list hq
  obtain ⟨j, h1, h2, h3, h4, h5⟩ := atI_get he
  obtain ⟨w, ew, rw'⟩ := r.get h2
  have hl := r.length
  have hn := line63
  have fin : EP X pins σ Q w s := ⟨z, H, I, rw', q⟩
  by_cases h0 : 0 ≤ i
  · have hj : i.toNat = j := by
      rw [seqIndex_of h0 h5] at h1
      exact Option.some.inj h1
    exact item_listR pl.isList h0 (by omega) (by rw [hj]; simpa using ew) fin hs
  · have hj : (i + (its.toArray.size : Int)).toNat = j := by
      rw [seqIndex_neg (by omega) h4] at h1
      rw [List.size_toArray, ← hl]
      exact Option.some.inj h1
    exact subscriptTail_builtinR (x := w) pl.isList.typeIs slot_list_getitem.lookup
      (wpAny_getItem_list_neg (Q := fun r s' => r = w ∧ EP X pins σ Q r s') pl.isList (by omega) (by rw [List.size_toArray] <;> omega) (by omega) (by rw [hj]; simpa using ew) ⟨rfl, fin⟩) hs
theorem mapSeq_set (its : List Value) (n j : Nat) (u : Value) : Obj.mapSeq (·.setIfInBounds j u) { cls := .type "list", data := .seq its.toArray n } = { cls := .type "list", data := .seq (its.set j u).toArray n } := by
  simp [Obj.mapSeq]
theorem Inv.lst {pins : List (Addr × Obj)} {σ : St} {H : Hp} {s : Shared} {p : Addr} {xs : List V} (I : Inv X pins σ H s) (h : H p = some (.lst xs)) :
    ∃ (its : List Value) (n : Nat), Vals xs its ∧ s.heap.get? p = some { cls := .type "list", data := .seq its.toArray n } ∧ xs.length ≤ sizeLine := by
  obtain ⟨z, its, n, r, e⟩ := I.hok p _ h
  exact ⟨its, n, r, e, z⟩
theorem Inv.lstUpd {pins : List (Addr × Obj)} {σ : St} {H : Hp} {s : Shared} {p : Addr} {xs ys : List V} {its its' : List Value} {n n' : Nat} {f : Obj → Obj} (I : Inv X pins σ H s) (h : H p = some (.lst xs))
    (ho : s.heap.get? p = some { cls := .type "list", data := .seq its.toArray n }) (hf : f { cls := .type "list", data := .seq its.toArray n } = { cls := .type "list", data := .seq its'.toArray n' }) (r : Vals ys its') (hz : ys.length ≤ sizeLine) (t : Nat) :
    Inv X pins σ (upd H p (.lst ys)) { s with heap := s.heap.update p f, toks := t } := by
  have e : (s.heap.update p f).get? p = some { cls := .type "list", data := .seq its'.toArray n' } := by
    rw [Heap.get?_update_self f ho (by rw [hf] <;> rfl), hf]
  refine I.write (x := p) (e := p) (by rw [h]; trivial) (.inl rfl) (fun b u hb q => (Heap.get?_update_other _ _ (Ne.symm hb)).trans q) ⟨_, e⟩ ?_
  exact ⟨hz, its', n', r, e⟩
def rSetL : V → V → V → Hp → (Hp → Prop) → Prop := fun o i v H Q => ∃ p xs k j, o = .ref p ∧ i = .int k ∧ H p = some (.lst xs) ∧ ixN xs.length k = some j ∧ Q (upd H p (.lst (xs.set j v)))
theorem set_list : PSet X rSetL := by
  intro pins s σ H o i v ov iv u Q I ro ri rv h
  obtain ⟨p, xs, k, j, rfl, rfl, hp, hj, q⟩ := h
  cases ro
  obtain ⟨t, rfl⟩ := ri
  obtain ⟨its, n, r, ho, hz⟩ := I.lst hp
  obtain ⟨h1, h2, h3, h4⟩ := ixN_seq hj
  have hl := r.length
  have hn := line63
  have I' : Inv X pins σ (upd H p (.lst (xs.set j v))) { s with heap := s.heap.update p (Obj.mapSeq (·.setIfInBounds j u)) } :=
    I.lstUpd hp ho (mapSeq_set its n j u) (r.set rv j) (by rw [List.length_set]; exact hz) s.toks
  by_cases h0 : 0 ≤ k
  · have hk : k.toNat = j := by
      rw [seqIndex_of h0 h4] at h1
      exact Option.some.inj h1
    exact PySem.W.ki_setAt ho h0 (by omega) (by rw [List.size_toArray, ← hl]; exact h4) (by rw [hk]; exact ⟨_, I', q⟩)
  · have hk : (k + (its.toArray.size : Int)).toNat = j := by
      rw [seqIndex_neg (by omega) h3] at h1
      rw [List.size_toArray, ← hl]
      exact Option.some.inj h1
    exact PySem.W.ki_setBack ho (by omega) (by rw [List.size_toArray, ← hl]; exact h3) (by omega) (by rw [hk]; exact ⟨_, I', q⟩)
theorem slice_bounds (lo hi : Option Int) (n : Nat) : (sliceBounds lo hi none n).1 = ((HT.sIx n 0 lo : Nat) : Int) ∧ (sliceBounds lo hi none n).2.1 = ((HT.sIx n n hi : Nat) : Int) ∧ (sliceBounds lo hi none n).2.2 = 1 := by
  refine ⟨?_, ?_, rfl⟩
  · cases lo with
    | none => simp [sliceBounds, HT.sIx]
    | some i =>
      simp only [sliceBounds, HT.sIx, Option.getD_none, show (1 : Int) > 0 by decide, if_true]
      by_cases h : i < 0
      · simp only [h, if_true] <;> omega
      · simp only [h, if_false] <;> omega
  · cases hi with
    | none => simp [sliceBounds, HT.sIx]
    | some i =>
      simp only [sliceBounds, HT.sIx, Option.getD_none, show (1 : Int) > 0 by decide, if_true]
      by_cases h : i < 0
      · simp only [h, if_true] <;> omega
      · simp only [h, if_false] <;> omega
theorem slicePick_cut (its : List Value) (lo hi : Option Int) : slicePick its.toArray lo hi none = ((its.drop (HT.sIx its.length 0 lo)).take (HT.sIx its.length its.length hi - HT.sIx its.length 0 lo)).toArray := by
  obtain ⟨h1, h2, h3⟩ := slice_bounds lo hi its.toArray.size
  unfold slicePick
  rw [h1, h2, h3]
  simp only [sliceRange_one, pick_run, List.size_toArray] <;> rfl
def rSlL (K : PySem.W.Frag) : V → Option Int → Option Int → Hp → VK → Prop := fun x lo hi H Q => ∃ a xs, x = .ref a ∧ SqL K H a xs ∧ ∀ p, H p = none → Q (.ref p) (upd H p (.lst (cutV xs lo hi)))
theorem sl_list : SlR X (rSlL X.K) := by
  intro pins s σ H x v vl vu lo hi sl Q I rx hs pl pu h
  obtain ⟨a, xs, rfl, hx, q⟩ := h
  cases rx
  obtain ⟨its, r, ht, hz⟩ := I.list hx
  have hlen := r.length
  refine ⟨"list", _, slot_list_getitem.lookup, ht.isList.typeIs, ?_⟩
  refine wpAny_getItem_list_slice ht.isList hs pl pu .none (by simp) ?_ (by rw [List.size_toArray] <;> omega)
  rw [slicePick_cut, ← hlen]
  refine ⟨.ref s.heap.objs.size, _, I.laid (t' := s.toks) (o := .lst (cutV xs lo hi)) (fun b ob q => Heap.get?_push_of_some _ q) (Nat.le_refl _) ?_, rfl, q _ (I.hok.fresh (Nat.le_refl _))⟩
  exact ⟨Nat.le_trans (cutV_length xs lo hi) hz, _, 0, (r.drop (HT.sIx xs.length 0 lo)).take (HT.sIx xs.length xs.length hi - HT.sIx xs.length 0 lo), Heap.get?_push_size _ rfl⟩
theorem call_len_seq : CallR X (.builtin "len") (fun xs H Q => ∃ p ys, xs = [.ref p] ∧ (SqL X.K H p ys ∨ SqT X.K H p ys) ∧ Q (.int ys.length) H) := by
  intro pins s σ H xs us Q I r h
  obtain ⟨p, ys, rfl, hq, q⟩ := h
  obtain ⟨u, rfl, rx⟩ := vals1 r
  cases rx
  have hn := line63
  rcases hq with hq | hq
  · obtain ⟨its, r', pl, hz⟩ := I.list hq
    have hlen := r'.length
    exact Calls.call_len_list pl.isList (by simp only [List.size_toArray] <;> omega) ⟨.int ys.length, H, I.tok _, ⟨s.toks + 1, by rw [List.size_toArray, hlen]⟩, q⟩
  · obtain ⟨its, r', pl, hz⟩ := I.tuple hq
    have hlen := r'.length
    exact len_tuple pl (by simp only [List.size_toArray] <;> omega) ⟨.int ys.length, H, I.tok _, ⟨s.toks + 1, by rw [List.size_toArray, hlen]⟩, q⟩
theorem call_list_of : CallR X (.type "list") (fun xs H Q => ∃ p ys, xs = [.ref p] ∧ (SqL X.K H p ys ∨ SqT X.K H p ys) ∧ ∀ l, H l = none → Q (.ref l) (upd H l (.lst ys))) := by
  intro pins s σ H xs us Q I r h
  obtain ⟨p, ys, rfl, hq, q⟩ := h
  obtain ⟨u, rfl, rx⟩ := vals1 r
  cases rx
  have fin : ∀ (its : List Value), Vals ys its → ys.length ≤ sizeLine → ∀ (h' : Heap) (c' : Nat), (∀ b o', s.heap.get? b = some o' → h'.get? b = some o') →
      h'.get? s.heap.objs.size = some { cls := .type "list", dict := none, data := .seq its.toArray c', slots := #[] } → EP X pins σ Q (.ref s.heap.objs.size) { s with heap := h' } := fun its r' hz h' c' kp e =>
    ⟨.ref s.heap.objs.size, _, I.laid (t' := s.toks) kp (Nat.le_refl _) (show ObjOk X.prog X.w _ h' _ (.lst ys) from ⟨hz, its, c', r', e⟩), rfl, q _ (I.hok.fresh (Nat.le_refl _))⟩
  rcases hq with hq | hq
  · obtain ⟨its, r', pl, hz⟩ := I.list hq
    have hlen := r'.length
    obtain ⟨o, ho, hc, n, hd⟩ := pl.isList
    exact call_list_seq p (.inl rfl) ho hc hd (fun h' c' kp e => fin its r' hz h' c' kp e) (by simp only [List.size_toArray] <;> omega)
  · obtain ⟨its, r', pl, hz⟩ := I.tuple hq
    have hlen := r'.length
    obtain ⟨o, ho, hc, n, hd⟩ := pl
    exact call_list_seq p (.inr rfl) ho hc hd (fun h' c' kp e => fin its r' hz h' c' kp e) (by simp only [List.size_toArray] <;> omega)
def tyV (K : PySem.W.Frag) (T : String) (x : V) (H : Hp) : Prop := match x with
  | .str _ => T = "str"
  | .int _ => T = "int"
  | .ref p => (T = "list" ∧ ∃ xs, SqL K H p xs) ∨ (T = "tuple" ∧ ∃ o, K.lookup p = some o ∧ o.cls = .type "tuple" ∧ o.dict = none) ∨
      (T = "dict" ∧ ((∃ kvs, H p = some (.dK kvs)) ∨ ∃ kvs, H p = some (.dT kvs))) ∨ (T = "set" ∧ ∃ S n, H p = some (.set S n))
  | _ => False
theorem tyV_is {pins : List (Addr × Obj)} {σ : St} {H : Hp} {s : Shared} {T : String} {x : V} {v : Value} (I : Inv X pins σ H s) (r : RelV x v) (ty : tyV X.K T x H) :
    s.TypeIs v T ∧ ∀ a, v = .ref a → ∃ ob, s.heap.get? a = some ob ∧ ob.dict = none := by
  cases x with
  | str z =>
    obtain ⟨t, rfl⟩ := r
    cases (show T = "str" from ty)
    exact ⟨typeIs_str s z t, fun _ e => nomatch e⟩
  | int i =>
    obtain ⟨t, rfl⟩ := r
    cases (show T = "int" from ty)
    exact ⟨typeIs_int s i t, fun _ e => nomatch e⟩
  | ref p =>
    cases r
    rcases ty with ⟨rfl, xs, hq⟩ | ⟨rfl, o, hk, hc, hd⟩ | ⟨rfl, hk⟩ | ⟨rfl, S, n, hk⟩
    · obtain ⟨its, _, pl, _⟩ := I.list hq
      refine ⟨pl.isList.typeIs, fun a e => ?_⟩
      cases e
      obtain ⟨o, n, e, c, hd, _⟩ := pl
      exact ⟨o, e, hd⟩
    · refine ⟨⟨o, I.kIn p o hk, hc⟩, fun a e => ?_⟩
      cases e
      exact ⟨o, I.kIn _ o hk, hd⟩
    · have z : ∃ o, s.heap.get? p = some o ∧ o.ExactDict := by
        rcases hk with ⟨kvs, hk⟩ | ⟨kvs, hk⟩
        · obtain ⟨_, _, _, _, o, _, _, e, ex, _⟩ := I.hok p _ hk
          exact ⟨o, e, ex⟩
        · obtain ⟨_, _, _, _, o, _, _, e, ex, _⟩ := I.hok p _ hk
          exact ⟨o, e, ex⟩
      obtain ⟨o, e, ex⟩ := z
      refine ⟨⟨o, e, ex.1⟩, fun a e2 => ?_⟩
      cases e2
      exact ⟨o, e, ex.2.1⟩
    · obtain ⟨o, _, _, _, e, ex, _⟩ := I.hok p _ hk
      refine ⟨⟨o, e, ex.1⟩, fun a e2 => ?_⟩
      cases e2
      exact ⟨o, e, ex.2.1⟩
  | _ => exact False.elim ty
def tBM (K : PySem.W.Frag) (T : String) (r : V → List V → Hp → VK → Prop) (to : TE) (t : TA) : TE := fun σ H Q => to σ H fun x H1 => tyV K T x H1 ∧ t σ H1 fun xs H2 => r x xs H2 Q
variable {o e : Expr} {es : List Expr} {to : TE} {t : TA} {name : Str} {apos cpos : Pos} {T id : String} {r : V → List V → Hp → VK → Prop}
theorem pe_bm (pa : PlainAttrs T) (slot : Slot T name id) (hty : typeOf (.builtin id) = pure (.type "method_descriptor")) (hm : MtR X id r) (ho : PE X o to) (ha : PA X (e :: es) t)
    (hbase : attributeBase o name X.env (eval o X.env) = eval o X.env := by rfl)
    (hfew : ((backTo cpos (starEach (e :: es) X.env)).all (fun x => !x.1) && (backToKw cpos (keywordEach [] X.env)).all (fun x => x.1.isSome)
      && decide ((e :: es).length + ([] : List Keyword).length + (if ([] : List Keyword).isEmpty then 0 else 1) < 30)) = true := by rfl)
    (hline : (apos.endLine == cpos.line) = true := by rfl) (hs : starEach (e :: es) X.env = (false, eval e X.env) :: starEach es X.env := by rfl) (hplain : (backTo cpos (starEach es X.env)).any (·.1) = false := by rfl) :
    PE X (.Call (.Attribute o name apos) (e :: es) [] cpos) (tBM X.K T r to t) := by
  intro pins s σ H Q I h
  refine wpAny_Call_method_late hbase hfew hline rfl (thn (ho pins s σ H _ I h) fun v s1 ⟨x, H1, I1, r1, ty, q1⟩ => ?_)
  obtain ⟨h1, h2⟩ := tyV_is I1 r1 ty
  refine ⟨T, id, pa, slot, hty, h1, h2, ?_⟩
  have hA := ha cpos pins s1 σ H1 _ I1 q1
  rw [hs] at hA ⊢
  refine Calls.callWith_builtin (by show (false || (backTo cpos (starEach es X.env)).any (·.1)) = false; rw [hplain] <;> rfl) (Calls.evalArgs_plain ?_)
  exact thn hA fun us s2 ⟨vs, H2, I2, r2, q2⟩ => hm pins s2 σ H2 x vs v us Q I2 r1 r2 q2
end
end L2
namespace L2
open PySem PySem.Spec PyProof.Rows
def MtM (X : Cx) (id : String) (r : V → List V → Hp → VK → Prop) : Prop :=
  ∀ (pins : List (Addr × Obj)) (s : Shared) (σ : St) (H : Hp) (x : V) (xs : List V) (v : Value) (us : List Value) (Q : VK), Inv X pins σ H s → RelV x v → Vals xs us → r x xs H Q →
    wpAny (model X.prog X.w) X.A (call (.builtin id) (v :: us)) (EP X pins σ Q) X.xe s
theorem Vals.one : ∀ {x : V} {us : List Value}, Vals [x] us → ∃ u, us = [u] ∧ RelV x u
  | _, _, .cons r .nil => ⟨_, rfl, r⟩
theorem Vals.two : ∀ {x y : V} {us : List Value}, Vals [x, y] us → ∃ u v, us = [u, v] ∧ RelV x u ∧ RelV y v
  | _, _, _, .cons r (.cons q .nil) => ⟨_, _, rfl, r, q⟩
theorem Vals.zero : ∀ {us : List Value}, Vals [] us → us = []
  | _, .nil => rfl
theorem Vals.reverse {xs : List V} {us : List Value} (h : Vals xs us) : Vals xs.reverse us.reverse := by
  induction h with
  | nil => exact .nil
  | cons r t ih => rw [List.reverse_cons, List.reverse_cons]; exact Vals.append ih (.cons r .nil)
section
variable {X : Cx} {pins : List (Addr × Obj)} {σ : St} {H : Hp} {s : Shared} {l b : Addr} {xs ys zs : List V}
theorem Inv.lset {its its' : List Value} {n : Nat} {f : Array Value → Array Value} {t' : Nat} (I : Inv X pins σ H s) (hH : H l = some (.lst xs))
    (e : s.heap.get? l = some { cls := .type "list", data := .seq its.toArray n }) (hf : f its.toArray = its'.toArray) (hv : Vals ys its') (hz : ys.length ≤ sizeLine) :
    Inv X pins σ (upd H l (.lst ys)) { s with heap := s.heap.update l (Obj.mapSeq f), toks := t' } := by
  have q := PySem.IsL.update e f
  rw [hf] at q
  refine I.write (x := l) (e := l) (by rw [hH]; exact trivial) (.inl rfl) (fun b' u hb hu => (Heap.get?_update_other s.heap (Obj.mapSeq f) (Ne.symm hb)).trans hu) ⟨_, q⟩ ?_
  exact ⟨hz, its', _, hv, q⟩
theorem Inv.lnew {its : List Value} {t' : Nat} (I : Inv X pins σ H s) (hv : Vals ys its) (hz : ys.length ≤ sizeLine) :
    Inv X pins σ (upd H s.heap.objs.size (.lst ys)) { s with heap := s.heap.push { cls := .type "list", data := .seq its.toArray }, toks := t' } :=
  I.laid (fun _ _ q => Heap.get?_push_of_some _ q) (Nat.le_refl _) ⟨hz, its, 0, hv, Heap.get?_push_size _ rfl⟩
theorem Inv.fresh (I : Inv X pins σ H s) : H s.heap.objs.size = none := I.hok.fresh (Nat.le_refl _)
theorem Inv.lstM (I : Inv X pins σ H s) (hH : H l = some (.lst xs)) : xs.length ≤ sizeLine ∧ ∃ (its : List Value) (n : Nat), Vals xs its ∧ xs.length = its.length ∧ s.heap.get? l = some { cls := .type "list", data := .seq its.toArray n } := by
  obtain ⟨z, its, n, r, e⟩ := I.hok l _ hH
  exact ⟨z, its, n, r, r.length, e⟩
end
section
variable {X : Cx}
def rAppend : V → List V → Hp → VK → Prop := fun x vs H Q => ∃ l xs y, x = .ref l ∧ vs = [y] ∧ H l = some (.lst xs) ∧ xs.length < sizeLine ∧ Q .non (upd H l (.lst (xs ++ [y])))
theorem mt_append : MtM X "list.append" rAppend := by
  intro pins s σ H x vs v us Q I rx rv h
  obtain ⟨l, xs, y, rfl, rfl, hH, hz, q⟩ := h
  cases rx
  obtain ⟨u, rfl, ru⟩ := rv.one
  obtain ⟨z, its, n, r, hl, e⟩ := I.lstM hH
  refine call_meets F.slot_list_append ⟨_, e, rfl⟩ F.entry_list_append (F.args_list_append_2 _ _) (PySem.list_append l its.toArray n u (by rw [List.size_toArray]; omega)) ⟨e, ?_⟩
  refine ⟨.non, _, I.lset (its' := its ++ [u]) hH e (by simp) (r.append (.cons ru .nil)) ?_, rfl, q⟩
  rw [List.length_append, List.length_singleton]
  omega
end
section
variable {prog : Program} {w : World} {A : Around} {E : Value → Shared → Prop} {s : Shared}
end
section
variable {X : Cx}
end
end L2
namespace L2
open PySem PySem.Spec PyProof.Rows
section
variable {κ : Type} [DecidableEq κ]
def valV (kvs : List (κ × V)) (k : κ) : Option V := (kvs.find? fun kv => decide (kv.1 = k)).map (·.2)
def putK (kvs : List (κ × V)) (k : κ) (v : V) : List (κ × V) :=
  if (kvs.any fun kv => decide (kv.1 = k)) = true then kvs.map (fun kv => if kv.1 = k then (kv.1, v) else kv) else kvs ++ [(k, v)]
def dropK (kvs : List (κ × V)) (k : κ) : List (κ × V) := kvs.filter fun kv => decide (kv.1 ≠ k)
theorem valV_pos {p : κ × V} {r : List (κ × V)} {k : κ} (e : p.1 = k) : valV (p :: r) k = some p.2 := by simp [valV, List.find?_cons, e]
theorem valV_neg {p : κ × V} {r : List (κ × V)} {k : κ} (e : ¬ p.1 = k) : valV (p :: r) k = valV r k := by simp [valV, List.find?_cons, e]
theorem valV_any (k : κ) : ∀ kvs : List (κ × V), (kvs.any fun kv => decide (kv.1 = k)) = (valV kvs k).isSome
  | [] => rfl
  | p :: r => by
    rw [List.any_cons]
    by_cases e : p.1 = k
    · simp only [valV_pos e, decide_eq_true e, Bool.true_or, Option.isSome_some]
    · rw [valV_neg e, decide_eq_false e, Bool.false_or]; exact valV_any k r
theorem RelO.isSome_eq {o : Option V} {u : Option Value} (r : RelO o u) : o.isSome = u.isSome := by
  cases o with
  | none => cases u with
    | none => rfl
    | some _ => exact (show False from r).elim
  | some _ => cases u with
    | none => exact (show False from r).elim
    | some _ => rfl
theorem RelO.getD {o : Option V} {u : Option Value} {d : V} {d' : Value} (r : RelO o u) (rd : RelV d d') : RelV (o.getD d) (u.getD d') := by
  cases o with
  | none => cases u with
    | none => exact rd
    | some _ => exact (show False from r).elim
  | some _ => cases u with
    | none => exact (show False from r).elim
    | some _ => exact r
theorem KV.val {kvs : List (κ × V)} {vs : List (κ × Value)} (r : KV kvs vs) (k : κ) : RelO (valV kvs k) (valueAt vs k) := by
  unfold KV at r
  induction r with
  | nil => exact True.intro
  | @cons p q ps qs h t ih =>
    obtain ⟨h1, h2⟩ := h
    by_cases e : p.1 = k
    · have e' : q.1 = k := h1.symm.trans e
      have b : valueAt (q :: qs) k = some q.2 := by simp [valueAt, List.find?_cons, e']
      rw [valV_pos e, b]; exact h2
    · have e' : ¬ q.1 = k := fun z => e (h1.trans z)
      have b : valueAt (q :: qs) k = valueAt qs k := by simp [valueAt, List.find?_cons, e']
      rw [valV_neg e, b]; exact ih
theorem KV.any {kvs : List (κ × V)} {vs : List (κ × Value)} (r : KV kvs vs) (k : κ) : (kvs.any fun kv => decide (kv.1 = k)) = vs.any fun kv => decide (kv.1 = k) := by
  unfold KV at r
  induction r with
  | nil => rfl
  | cons h t ih => rw [List.any_cons, List.any_cons, ih, h.1]
theorem KV.repl {kvs : List (κ × V)} {vs : List (κ × Value)} (r : KV kvs vs) (k : κ) {y : V} {u : Value} (ry : RelV y u) :
    KV (kvs.map fun kv => if kv.1 = k then (kv.1, y) else kv) (vs.map fun kv => if kv.1 = k then (kv.1, u) else kv) := by
  unfold KV at r ⊢
  induction r with
  | nil => exact .nil
  | @cons p q ps qs h t ih =>
    rw [List.map_cons, List.map_cons]
    refine .cons ?_ ih
    obtain ⟨h1, h2⟩ := h
    by_cases e : p.1 = k
    · rw [if_pos e, if_pos (h1.symm.trans e)]; exact ⟨h1, ry⟩
    · rw [if_neg e, if_neg (fun z => e (h1.trans z))]; exact ⟨h1, h2⟩
theorem KV.put {kvs : List (κ × V)} {vs : List (κ × Value)} (r : KV kvs vs) (k : κ) {y : V} {u : Value} (ry : RelV y u) : KV (putK kvs k y) (stored vs k u) := by
  unfold putK stored
  rw [r.any k]
  by_cases e : (vs.any fun kv => decide (kv.1 = k)) = true
  · rw [if_pos e, if_pos e]; exact r.repl k ry
  · rw [if_neg e, if_neg e]; exact Paired.snoc r ⟨rfl, ry⟩
theorem KV.drop {kvs : List (κ × V)} {vs : List (κ × Value)} (r : KV kvs vs) (k : κ) : KV (dropK kvs k) (without vs k) := by
  unfold KV at r ⊢
  unfold dropK without
  induction r with
  | nil => exact .nil
  | @cons p q ps qs h t ih =>
    obtain ⟨h1, h2⟩ := h
    rw [List.filter_cons, List.filter_cons]
    by_cases e : p.1 = k
    · have a : ¬ decide (p.1 ≠ k) = true := by simp [e]
      have b : ¬ decide (q.1 ≠ k) = true := by simp [h1.symm.trans e]
      rw [if_neg a, if_neg b]; exact ih
    · have e' : ¬ q.1 = k := fun z => e (h1.trans z)
      have a : decide (p.1 ≠ k) = true := by simp [e]
      have b : decide (q.1 ≠ k) = true := by simp [e']
      rw [if_pos a, if_pos b]; exact .cons ⟨h1, h2⟩ ih
theorem KV.keys {kvs : List (κ × V)} {vs : List (κ × Value)} (r : KV kvs vs) : kvs.map (·.1) = vs.map (·.1) := by
  unfold KV at r
  induction r with
  | nil => rfl
  | cons h t ih => rw [List.map_cons, List.map_cons, ih, h.1]
theorem KV.length {kvs : List (κ × V)} {vs : List (κ × Value)} (r : KV kvs vs) : kvs.length = vs.length := Paired.length r
end
abbrev KT (H : Hp) : List (List Key × V) → List (List Key × Addr × Value) → Prop := Paired fun p q => p.1 = q.1 ∧ H q.2.1 = some (.tup (p.1.map kV)) ∧ RelV p.2 q.2.2
theorem KT.val {H : Hp} {kvs : List (List Key × V)} {xs : List (List Key × Addr × Value)} (r : KT H kvs xs) (k : List Key) : RelO (valV kvs k) ((atKey xs k).map (·.2)) := by
  induction r with
  | nil => exact True.intro
  | @cons p q ps qs h t ih =>
    obtain ⟨h1, _, h2⟩ := h
    by_cases e : p.1 = k
    · have e' : q.1 = k := h1.symm.trans e
      have b : atKey (q :: qs) k = some q.2 := by simp [atKey, List.find?_cons, e']
      rw [valV_pos e, b]; exact h2
    · have e' : ¬ q.1 = k := fun z => e (h1.trans z)
      have b : atKey (q :: qs) k = atKey qs k := by simp [atKey, List.find?_cons, e']
      rw [valV_neg e, b]; exact ih
theorem KT.repl {H : Hp} {kvs : List (List Key × V)} {xs : List (List Key × Addr × Value)} (r : KT H kvs xs) (k : List Key) {y : V} {u : Value} (ry : RelV y u) :
    KT H (kvs.map fun kv => if kv.1 = k then (kv.1, y) else kv) (xs.map (putAt k u)) := by
  induction r with
  | nil => exact .nil
  | @cons p q ps qs h t ih =>
    rw [List.map_cons, List.map_cons]
    refine .cons ?_ ih
    obtain ⟨h1, h2, h3⟩ := h
    unfold putAt
    by_cases e : p.1 = k
    · rw [if_pos e, if_pos (h1.symm.trans e)]; exact ⟨h1, h2, ry⟩
    · rw [if_neg e, if_neg (fun z => e (h1.trans z))]; exact ⟨h1, h2, h3⟩
theorem KT.put {H : Hp} {kvs : List (List Key × V)} {xs : List (List Key × Addr × Value)} (r : KT H kvs xs) (k : List Key) {b : Addr} {y : V} {u : Value} (hb : H b = some (.tup (k.map kV))) (ry : RelV y u) :
    KT H (putK kvs k y) (storedH xs k b u) := by
  have e : (kvs.any fun kv => decide (kv.1 = k)) = (atKey xs k).isSome := by
    rw [valV_any, (r.val k).isSome_eq, Option.isSome_map]
  unfold putK storedH
  rw [e]
  by_cases q : (atKey xs k).isSome = true
  · rw [if_pos q, if_pos q]; exact r.repl k ry
  · rw [if_neg q, if_neg q]; exact Paired.snoc r ⟨rfl, hb, ry⟩
theorem KT.keeps {H H' : Hp} {kvs : List (List Key × V)} {xs : List (List Key × Addr × Value)} (r : KT H kvs xs) (ht : ∀ b ys, H b = some (.tup ys) → H' b = some (.tup ys)) : KT H' kvs xs :=
  Paired.mapP r fun _ _ z => ⟨z.1, ht _ _ z.2.1, z.2.2⟩
section
variable {P : Program} {w : World} {H : Hp} {h : Heap} {a : Addr}
end
def DGet (H : Hp) (a : Addr) (y : V) (r : Option V) : Prop :=
  (∃ kvs k, Rd H a (.dK kvs) ∧ y = kV k ∧ r = valV kvs k) ∨ ∃ kvs k b, Rd H a (.dT kvs) ∧ y = .ref b ∧ H b = some (.tup (k.map kV)) ∧ r = valV kvs k
def DPut (H : Hp) (a : Addr) (y v : V) (H' : Hp) : Prop :=
  (∃ kvs k, H a = some (.dK kvs) ∧ y = kV k ∧ kvs.length < sizeLine ∧ H' = upd H a (.dK (putK kvs k v))) ∨
  ∃ kvs k b, H a = some (.dT kvs) ∧ y = .ref b ∧ H b = some (.tup (k.map kV)) ∧ kvs.length < sizeLine ∧ H' = upd H a (.dT (putK kvs k v))
theorem DGet.k {H : Hp} {a : Addr} {kvs : List (Key × V)} {k : Key} (e : H a = some (.dK kvs)) : DGet H a (kV k) (valV kvs k) := .inl ⟨kvs, k, .inl e, rfl, rfl⟩
theorem DGet.t {H : Hp} {a b : Addr} {kvs : List (List Key × V)} {k : List Key} (e : H a = some (.dT kvs)) (eb : H b = some (.tup (k.map kV))) : DGet H a (.ref b) (valV kvs k) := .inr ⟨kvs, k, b, .inl e, rfl, eb, rfl⟩
theorem DPut.k {H : Hp} {a : Addr} {kvs : List (Key × V)} {k : Key} {v : V} (e : H a = some (.dK kvs)) (hl : kvs.length < sizeLine) : DPut H a (kV k) v (upd H a (.dK (putK kvs k v))) := .inl ⟨kvs, k, e, rfl, hl, rfl⟩
theorem DPut.t {H : Hp} {a b : Addr} {kvs : List (List Key × V)} {k : List Key} {v : V} (e : H a = some (.dT kvs)) (eb : H b = some (.tup (k.map kV))) (hl : kvs.length < sizeLine) :
    DPut H a (.ref b) v (upd H a (.dT (putK kvs k v))) := .inr ⟨kvs, k, b, e, rfl, eb, hl, rfl⟩
section
variable {X : Cx} {pins : List (Addr × Obj)} {σ : St} {H : Hp} {s : Shared} {a : Addr} {y v : V} {u r : Value} {o : Option V} {A : Around} {E : Value → Shared → Prop}
end
section
variable {X : Cx} {pins : List (Addr × Obj)} {σ : St} {H : Hp} {s : Shared} {a : Addr} {kvs : List (Key × V)} {k : Key} {u : Value} {A : Around} {E : Value → Shared → Prop}
end
section
variable {X : Cx} {o i e value : Expr} {pos pos' tpos : Pos} {td ty tv : TE}
end
section
variable {X : Cx} {pos : Pos}
end
section
variable {X : Cx} {pins : List (Addr × Obj)} {σ : St} {H : Hp} {s : Shared} {a : Addr} {y d : V} {u r : Value} {o : Option V} {A : Around} {E : Value → Shared → Prop}
end
section
variable {X : Cx} {o e f : Expr} {apos cpos : Pos} {td ty tx : TE}
end
section
variable {X : Cx} {pins : List (Addr × Obj)} {σ : St} {H : Hp} {s : Shared} {a : Addr} {kvs : List (Key × V)} {A : Around} {E : Value → Shared → Prop}
end
section
variable {X : Cx} {pins : List (Addr × Obj)} {σ : St} {H : Hp} {s : Shared} {a : Addr} {y : V} {u : Value} {A : Around} {E : Value → Shared → Prop}
end
end L2
namespace Att
open PySem PySem.W PySem.Calls PyProof.Rows
theorem ints_of_wellAll {P : Params} {h : Heap} : ∀ (ns : List Int) (vs : List Value), WellAll P h vs (ns.map WData.int) → IntsAre vs ns := by
  intro ns
  induction ns with
  | nil =>
    intro vs w
    rw [List.map_nil] at w
    cases w
    exact .nil
  | cons n ns ih =>
    intro vs w
    rw [List.map_cons] at w
    cases w with
    | cons a b =>
      cases a
      exact .cons _ _ (ih _ b)
theorem script_of {l : OpenLaw} {n : Nat} (hn : l.most = some n) {P : Params} {h : Heap} {args : List WData} {vals : List Value}
    (hpre : l.row.toRowW.claim.pre args = true) (hwl : WellAll P h vals args) :
    ∃ a vs ns, vals = [Value.ref a] ∧ args = [WData.list (ns.map WData.int)] ∧ h.get? a = some { cls := .type "list", data := .seq vs.toArray } ∧ IntsAre vs ns ∧ ns.length ≤ n := by
  have hsh : WShape.hasAll [] args [.list .int] = true := (pre_splitW hpre).1
  have hc : l.pre.holds [] { args := args } = true := (pre_splitW hpre).2
  obtain ⟨d, r, rfl, h1, h2⟩ := hasAllW_cons hsh
  obtain rfl := hasAllW_nil h2
  obtain ⟨xs, rfl, h3⟩ := hasW_list h1
  obtain ⟨ns, rfl⟩ := items_int h3
  have hlen : ns.length ≤ n := by
    unfold OpenLaw.pre at hc
    have h4 : (WTm.not (.lt (.lit (.int (n : Int))) (.len (.arg 0)))).holds [] { args := [.list (ns.map .int)] } = true := by
      have h4 := (holds_andW hc).1
      rw [hn] at h4
      exact h4
    have h5 := condW_of h4 (w_not (w_lt w_lit (w_len_list (w_arg rfl))))
    rw [List.length_map] at h5
    refine Nat.le_of_not_lt fun q => ?_
    have q' : (n : Int) < ((ns.length : Nat) : Int) := by omega
    first
      | (rw [decide_eq_true q'] at h5; exact absurd h5 (by decide))
      | (simp at h5; omega)
  cases hwl with
  | cons w1 w2 =>
    cases w2
    cases w1 with
    | list ho hall => exact ⟨_, _, ns, rfl, rfl, ho, ints_of_wellAll ns _ hall, hlen⟩
theorem post_true (l : OpenLaw) (args : List WData) : l.row.toRowW.claim.post args (.bool true) args = true :=
  postW_of (r := l.row.toRowW) (X := (true == true))
    (show WShape.has [] (.bool true) .bool = true by first | rfl | decide | simp [WShape.has, WShape.arms, WShape.armsAll])
    (show (WTm.eq .res (.lit (.bool true))).value [] { args := args, res := some (.bool true), after := args } = some (.bool (true == true)) from w_eq_bool (w_res rfl) w_lit) rfl
theorem attach_call {l : OpenLaw} {n : Nat} {q : Program} {loose : List Str} {XP : (Str → Option Value) → Heap → Prop} {YP : World → Heap → Prop} {d : DefRec}
    (hn : l.most = some n) (hdf : d.params.defaults = [])
    (call : ∀ (w : World) (s₀ s₁ : Shared) (mg mb : Str → Option Value) (fa : Addr) (o : Obj) (pm cd doc : Value) (a : Addr) (vs : List Value) (ns : List Int),
      Ground q loose [] XP w s₀ mg mb s₁.heap → YP w s₁.heap →
      s₁.heap.get? fa = some o → o.data = .func (docDef d.name d.params d.body d.scope pm cd doc) → s₁.heap.CodeRec cd d.name → mg d.name = some (.ref fa) →
      s₁.heap.get? a = some { cls := .type "list", data := .seq vs.toArray } → IntsAre vs ns → ns.length ≤ n → s₁.gens = #[] →
      codeAny (model l.prog w) callerA (.call (.ref fa) ⟨[.ref a], []⟩) (fun r s' => r = .ok (.ret (.bool true)) ∧ OldK s₁.heap s'.heap ∧ s'.os = s₁.os ∧ AllBare s'.gens) s₁) :
    WalkO q loose XP YP l.row.toRowW d [] (fun f vs => PySem.call f vs) := by
  intro w s₀ s₁ mg mb G Y fa o pm cd doc dV kV ho hd hcd hD hmg hg args vals as hpre hlay hrd hwl hlo
  obtain rfl : dV = .none := Dflts.none hD hdf
  obtain rfl : kV = .none := Dflts.noKw hD
  obtain ⟨a, vs, ns, rfl, rfl, hobj, hints, hlen⟩ := script_of hn hpre hwl
  refine enter_call (codeAny_mono (call w s₀ s₁ mg mb fa o pm cd doc a vs ns G Y ho (fd_plain hd) hcd hmg hobj hints hlen hg) fun r s' hq => ?_)
  obtain ⟨rfl, h2, h3, h4⟩ := hq
  exact ⟨.inl ⟨.bool true, .bool true, [], rfl, fun _ => rfl, .bool true, post_true l _, fun _ => ⟨List.Pairwise.nil, fun _ hm => (nomatch hm)⟩⟩, h2, h3, h4⟩
section
variable {prog : Program} {w : World} {A : Around} {E : Value → Shared → Prop} {s : Shared} {K : Frag}
end
end Att
namespace L2
open PySem PySem.Spec PyProof.Rows
theorem vals_ints : ∀ {vs : List Value} {ns : List Int}, IntsAre vs ns → Vals (ns.map V.int) vs
  | _, _, .nil => .nil
  | _, _, .cons n t h => .cons ⟨t, rfl⟩ (vals_ints h)
end L2
namespace L2
open PySem PySem.Spec PyProof.Rows
end L2
namespace L2
open PySem PySem.Spec PyProof.Rows
def defArgs (s : Stmt) : Arguments := match s with
  | .FunctionDef _ a _ _ _ _ _ _ _ _ => a
  | _ => { posonlyargs := [], args := [], vararg := none, kwonlyargs := [], kw_defaults := [], kwarg := none, defaults := [] }
def defBody (s : Stmt) : List Stmt := match s with
  | .FunctionDef _ _ b _ _ _ _ _ _ _ => b
  | _ => []
def defScope (s : Stmt) : Scope := match s with
  | .FunctionDef _ _ _ _ _ _ sc _ _ _ => sc
  | _ => { kind := .function, names := [], isGenerator := false, isCoroutine := false }
abbrev CX0 : CXT := fun _ _ _ _ _ _ => False
abbrev E0 : XK := fun _ _ _ => False
theorem pass0 {X : Cx} : Passes CX0 X E0 := fun _ _ _ _ _ _ _ h => h.elim
structure Fun (K : PySem.W.Frag) (x qual : Str) (st : Stmt) (f : Addr) (fd : FuncData) : Prop where
  ex : ∃ (oc : Value) (od : Option Addr) (kV doc pm : Value) (an : Option Addr) (cdv ct : Value) (osl : Array (Option Value)),
    fd = PySem.W.fnOf x qual (defArgs st) (defBody st) (defScope st) .none kV doc pm an cdv ct ∧ K.lookup f = some ⟨oc, od, .func fd, osl⟩ ∧ PySem.W.codeIn K cdv qual = true
  kp : PySem.W.keepIn K (.ref f) = true
section
variable {P : Program} {w : World} {K : PySem.W.Frag} {mg : Str → Option Value} {base : Heap}
theorem Fun.ok {x qual : Str} {st : Stmt} {f : Addr} {fd : FuncData} {N ps : List Str} {k : Nat} {sp : Sp} (F : Fun K x qual st f fd) (S : FnScope N ps (defScope st)) (len : ∀ vs H Q E, sp vs H Q E → vs.length = ps.length)
    (hbody : ∀ (cdv : Value) (A : Around) (outer : List Env) (s : Shared) (H : Hp) (vs : List V) (Q : VK) (E : XK), Room k (A.deeper (envOfC qual (defScope st) s.heap.objs.size f cdv)) → sp vs H Q E →
      ∃ t, PSs (cxOf CX0 P w K mg base N qual (defScope st) f cdv A outer s H E).nox (defBody st) t ∧ t { nx := fun _ H' => Q .non H', rt := Q } (start N vs) H) : FnOk P w K mg base CX0 (k + 1) f fd ps sp := by
  obtain ⟨oc, od, kV, doc, pm, an, cdv, ct, osl, rfl, lk, hcd⟩ := F.ex
  refine fn_of lk hcd S len fun A outer s H vs Q E hr hsp => ?_
  obtain ⟨t, h, q⟩ := hbody cdv A outer s H vs Q E hr hsp
  exact ⟨t, h.nox, q⟩
theorem Fun.binds {x qual : Str} {st : Stmt} {f : Addr} {fd : FuncData} {ps : List Str} (F : Fun K x qual st f fd)
    (h : ∀ (kV doc pm : Value) (an : Option Addr) (cdv ct : Value) (us : List Value), us.length = ps.length → bindArgs (PySem.W.fnOf x qual (defArgs st) (defBody st) (defScope st) .none kV doc pm an cdv ct) ⟨us, []⟩ = pure (ps.zip us)) : Binds K fd ps [] := by
  obtain ⟨oc, od, kV, doc, pm, an, cdv, ct, osl, rfl, lk, hcd⟩ := F.ex
  exact .all (h kV doc pm an cdv ct)
theorem fun_mk {x qual : Str} {st : Stmt} {f : Addr} {oc : Value} {od an : Option Addr} {osl : Array (Option Value)} {kV doc pm cdv ct : Value} (l : K.lookup f = some ⟨oc, od, .func (PySem.W.fnOf x qual (defArgs st) (defBody st) (defScope st) .none kV doc pm an cdv ct), osl⟩)
    (c : PySem.W.codeIn K cdv qual = true) (k : PySem.W.keepIn K (.ref f) = true) : Fun K x qual st f (PySem.W.fnOf x qual (defArgs st) (defBody st) (defScope st) .none kV doc pm an cdv ct) := ⟨⟨oc, od, kV, doc, pm, an, cdv, ct, osl, rfl, l, c⟩, k⟩
end
theorem hu_of {A : Around} {k : Nat} (hr : Room k A) : A.units + 1 < cLine := Nat.lt_of_le_of_lt (Nat.add_le_add_left (by decide : 1 ≤ 64) _) hr.units
section
variable {X : Cx}
theorem pv (i : Nat) {x : Str} {pos : Pos} (hN : X.N[i]? = some x := by rfl) (hv : Vis X.env.scope x := by first | exact Or.inl rfl | exact Or.inr (Or.inl rfl) | exact Or.inr (Or.inr rfl)) (hd : (x == ("__debug__" : Str)) = false := by decide)
    (hcd : (x == ("__classdict__" : Str)) = false := by decide) : PE X (.Name x pos) (tVar i) := pe_var hN hv hd hcd
end
def Same (H H' : Hp) : Prop := ∀ b o, H b = some o → H' b = some o
theorem Same.refl (H : Hp) : Same H H := fun _ _ h => h
theorem Same.trans {H H1 H2 : Hp} (a : Same H H1) (b : Same H1 H2) : Same H H2 := fun c o h => b c o (a c o h)
theorem Same.free {H H' : Hp} (e : Same H H') {l : Addr} (h : H' l = Option.none) : H l = Option.none := by
  cases q : H l with
  | none => rfl
  | some o =>
    rw [e l o q] at h
    cases h
theorem Same.seq {K : PySem.W.Frag} {H H' : Hp} {a : Addr} {xs : List V} (e : Same H H') (h : SqL K H a xs) : SqL K H' a xs := by
  rcases h with (h | ⟨o, h⟩) | h
  · exact .inl (.inl (e _ _ h))
  · exact .inl (.inr ⟨o, e _ _ h⟩)
  · exact .inr h
section
variable {κ : Type} [DecidableEq κ]
end
end L2
namespace L2
open PySem PySem.Spec PyProof.Rows
def Fit (i : Int) : Prop := i.natAbs < 2 ^ 8000
theorem log2_lt {n k : Nat} (hk : 0 < k) (h : n < 2 ^ k) : n.log2 < k := by
  by_cases h0 : n = 0
  · subst h0; simpa using hk
  · exact (Nat.log2_lt h0).mpr h
theorem Fit.log {i : Int} (h : Fit i) : i.natAbs.log2 < 8000 := log2_lt (by decide) h
theorem Fit.bits {i : Int} (h : Fit i) : Builtin.Int.intBits i ≤ 2 ^ 20 := by
  have h1 := h.log
  have h2 : (8000 : Nat) ≤ 2 ^ 20 := by decide
  unfold Builtin.Int.intBits
  split <;> omega
section
variable {X : Cx}
theorem op_mulF : OpR X (binaryOp .Mult) (rI (fun i j => Fit i ∧ Fit j) fun i j => .int (i * j)) := opI fun _ _ _ _ _ _ _ hc q => mul_int q (.of_bits hc.1.bits hc.2.bits)
theorem op_fdivF : OpR X (binaryOp .FloorDiv) (rI (fun _ j => j ≠ 0 ∧ Fit j) fun i j => .int (i.fdiv j)) := opI fun _ _ _ _ _ _ _ hc q =>
  floordiv_int hc.1 q (.inl (PyProof.noPylong_of_log2 (Nat.lt_trans hc.2.log (by decide))))
end
def clsV : V → Option Value
  | .ty n => some (.type n)
  | .ref a => some (.ref a)
  | _ => none
section
variable {X : Cx}
theorem clsV_rel {c : V} {cv u : Value} (h : clsV c = some cv) (r : RelV c u) : u = cv := by
  cases c with
  | ty n => cases h; exact r
  | ref a => cases h; exact r
  | _ => cases h
def rIs (K : PySem.W.Frag) : List V → Hp → VK → Prop := fun xs H Q => ∃ x c cv t b, xs = [x, c] ∧ clsV c = some cv ∧ TyOf K H x t ∧ PySem.W.kitOne K t cv = some b ∧ Q (.bl b) H
theorem call_isinstance : CallR X (.builtin "isinstance") (rIs X.K) := by
  intro pins s σ H xs us Q I r h
  obtain ⟨x, c, cv, t, b, rfl, hc, ty, hk, q⟩ := h
  obtain ⟨u, v, rfl, rx, ry⟩ := vals2 r
  cases clsV_rel hc ry
  exact isinst_ok I rx ty hk fun tk => ⟨.bl b, H, I.tok _, rfl, q⟩
end
section
variable {X : Cx}
end
end L2
namespace L2
open PySem PySem.Spec PyProof.Rows
theorem closure_of {env : Env} : ∀ (names : List (Str × NameKind)) (acc : List (Str × Addr)), (∀ y ∈ names, y.2 = .free → ∃ c, env.cells.lookup y.1 = some c) →
    ∃ cl, (forIn (m := Sem) names acc fun (x : Str × NameKind) (cs : List (Str × Addr)) => if (x.2 == NameKind.free) = true then do let c ← cellOf env x.1; pure (ForInStep.yield ((x.1, c) :: cs)) else pure (ForInStep.yield cs)) = pure cl ∧
      (∀ p ∈ cl, p ∈ acc ∨ env.cells.lookup p.1 = some p.2) ∧ (∀ p ∈ acc, p ∈ cl) ∧ ∀ y ∈ names, y.2 = .free → ∃ c, (y.1, c) ∈ cl
  | [], acc, _ => ⟨acc, by simp, fun p hp => .inl hp, fun p hp => hp, fun y hy => by cases hy⟩
  | (n, k) :: r, acc, h => by
    by_cases hk : k = .free
    · subst hk
      obtain ⟨c, hc⟩ := h (n, .free) List.mem_cons_self rfl
      obtain ⟨cl, e, h1, h2, h3⟩ := closure_of r ((n, c) :: acc) fun y hy => h y (List.mem_cons_of_mem _ hy)
      refine ⟨cl, ?_, fun p hp => ?_, fun p hp => h2 p (List.mem_cons_of_mem _ hp), fun y hy hf => ?_⟩
      · have hco : cellOf env n = pure c := by unfold cellOf; rw [hc]
        rw [List.forIn_cons]
        simp only [beq_self_eq_true, if_true, hco, pure_bind]
        exact e
      · rcases h1 p hp with z | z
        · rcases List.mem_cons.mp z with rfl | z
          · exact .inr hc
          · exact .inl z
        · exact .inr z
      · rcases List.mem_cons.mp hy with rfl | hy
        · exact ⟨c, h2 _ List.mem_cons_self⟩
        · exact h3 y hy hf
    · obtain ⟨cl, e, h1, h2, h3⟩ := closure_of r acc fun y hy => h y (List.mem_cons_of_mem _ hy)
      refine ⟨cl, ?_, h1, h2, fun y hy hf => ?_⟩
      · have hb : (k == NameKind.free) = false := by simpa using hk
        rw [List.forIn_cons]
        simp only [hb, Bool.false_eq_true, if_false, pure_bind]
        exact e
      · rcases List.mem_cons.mp hy with rfl | hy
        · exact absurd hf hk
        · exact h3 y hy hf
theorem lookup_of_all {f : Str → Option Addr} : ∀ {cl : List (Str × Addr)} {x : Str} {c : Addr}, (∀ p ∈ cl, f p.1 = some p.2) → (x, c) ∈ cl → cl.lookup x = some c
  | [], _, _, _, h => by cases h
  | (n, d) :: r, x, c, h, hm => by
    rw [List.lookup_cons]
    cases e : x == n with
    | true =>
      have e' : x = n := by simpa using e
      subst e'
      have z1 := h (x, d) List.mem_cons_self
      have z2 := h (x, c) hm
      rw [z1] at z2
      simpa using z2
    | false =>
      rcases List.mem_cons.mp hm with z | z
      · cases z; simp at e
      · exact lookup_of_all (fun p hp => h p (List.mem_cons_of_mem _ hp)) z
theorem closureFor_of {scope : Scope} {env : Env} (h : ∀ y ∈ scope.names, y.2 = .free → ∃ c, env.cells.lookup y.1 = some c) :
    ∃ cl, closureFor scope env = pure cl ∧ (∀ x c, cl.lookup x = some c → env.cells.lookup x = some c) ∧ ∀ y ∈ scope.names, y.2 = .free → cl.lookup y.1 = env.cells.lookup y.1 := by
  obtain ⟨cl, e, h1, _, h3⟩ := closure_of scope.names [] h
  have all : ∀ p ∈ cl, env.cells.lookup p.1 = some p.2 := fun p hp => (h1 p hp).elim (fun z => by cases z) id
  refine ⟨cl, ?_, fun x c z => all (x, c) (PySem.mem_of_lookup z), fun y hy hf => ?_⟩
  · simp only [closureFor]
    rw [e]
    rfl
  · obtain ⟨c, hc⟩ := h3 y hy hf
    rw [all _ hc]
    exact lookup_of_all (f := fun x => env.cells.lookup x) all hc
end L2
namespace L2
open PySem PySem.Spec PyProof.Rows
section
variable {prog : Program} {w : World} {A : Around} {R : Result → Shared → Prop} {s : Shared}
theorem compLoop_gen {elt target iter : Expr} {ifs : List Expr} {scope : Scope} {pos : Pos} {it acc : Value} {env : Env} (I : Nat → Shared → Prop)
    (turn : ∀ n s, I n s → wpAny (model prog w) A (pyNext it) (fun r s₁ => match r with
      | none => R (.ok .next) s₁
      | some v => wpAny (model prog w) A (letOwnedTupleGo target it v) (fun _ s₁' => wpAny (model prog w) A (assign target env v) (fun _ s₂ =>
          wpAny (model prog w) A (forIn ifs true fun c r => if r = true then do let ok ← isTrue c env (eval c env); pure (ForInStep.yield ok) else pure (ForInStep.yield r)) (fun ok s₃ =>
            if ok = true then wpAny (model prog w) A (eval elt env) (fun x s₄ =>
              wpAny (model prog w) A (call (.builtin "list.append") [acc, x]) (fun _ s₅ => ∃ m, m < n ∧ I m s₅) (fun _ _ => False) s₄) (fun _ _ => False) s₃
            else ∃ m, m < n ∧ I m s₃) (fun _ _ => False) s₂) (fun _ _ => False) s₁') (fun _ _ => False) s₁) (fun _ _ => False) s)
    (n : Nat) (h : I n s) :
    codeAny (model prog w) A (.compLoop (.ListComp elt [⟨target, iter, ifs, 0⟩] scope pos) 0 it acc env) R s := by
  refine codeAny_loop rfl I (fun n s hI => ?_) n h
  show wpAny _ A ((compTurn (.ListComp elt [⟨target, iter, ifs, 0⟩] scope pos) 0 it acc env).onRaise (fun x => do noteFrame x env; theTreesLotGoes x)) _ _ s
  refine wpAny_noted ?_
  rw [compTurn_list]
  refine wpAny_bind (wpAny_standAt (wpAny_bind (wpAny_mono (turn n s hI) (fun r s₁ h₁ => ?_) fun _ _ h' => h'.elim)))
  cases r with
  | none => exact wpAny_pure h₁
  | some v =>
    refine wpAny_bind (wpAny_mono h₁ (fun _ s₁' h₁' => ?_) fun _ _ h' => h'.elim)
    refine wpAny_bind (wpAny_mono h₁' (fun _ s₂ h₂ => wpAny_bind (wpAny_mono h₂ (fun ok s₃ h₃ => ?_) fun _ _ h' => h'.elim)) fun _ _ h' => h'.elim)
    cases ok with
    | false => exact wpAny_pure ⟨rfl, h₃⟩
    | true =>
      exact wpAny_bind (wpAny_bind (wpAny_mono h₃ (fun x s₄ h₄ => wpAny_bind (wpAny_mono h₄ (fun _ s₅ h₅ => wpAny_pure (wpAny_pure ⟨rfl, h₅⟩)) fun _ _ h' => h'.elim)) fun _ _ h' => h'.elim))
end
def Cx.comp (X : Cx) (scope : Scope) (cl : List (Str × Addr)) (C : Addr) (N' : List Str) (s : Shared) (H : Hp) (fp : List Addr) (pins : List (Addr × Obj)) : Cx :=
  { X with N := N', s₀ := s, H₀ := H, env := compEnvC scope cl C X.env, outer := X.stack, stack := X.stack, ex := fp, fn := fun x => scope.names.lookup x == some .cell, pn := X.pn ++ pins, xe := fun _ _ => False }
def startC (σ : St) (ix : List Nat) (n : Nat) : St := ix.map (fun i => (σ[i]?).getD none) ++ List.replicate n none
def tTests : Option TT → TT
  | none => fun _ H Q => Q true H
  | some t => t
def CompW (D : Addr) (J : It) (g : TG) (tc : Option TT) (te : TE) (Q : VK) (σ0 : St) (H0 : Hp) : Prop :=
  ∃ W : Nat → Nat → List V → St → Hp → Prop, (∃ m, W 0 m [] σ0 H0) ∧ ∀ i m ys σ2 H2, W i m ys σ2 H2 → H2 D = some (.lst ys) ∧
    ((J.stop i H2 ∧ Q (.ref D) H2) ∨ (J.go i H2 ∧ ∃ N : List V → St → Hp → Prop, (∀ ys' σ' H', N ys' σ' H' → ∃ m', m' < m ∧ W (i + 1) m' ys' σ' H') ∧
      ∀ x H', J.yld i H2 x H' → g x σ2 H' fun σ3 H3 => tTests tc σ3 H3 fun b H4 => if b = true then te σ3 H4 fun y H5 => H5 D = some (.lst ys) ∧ ys.length < sizeLine ∧ N (ys ++ [y]) σ3 (upd H5 D (.lst (ys ++ [y]))) else N ys σ3 H4))
def tComp (wi : TI) (ix : List Nat) (n : Nat) (g : TG) (tc : Option TT) (te : TE) : TE := fun σ H Q => wi σ H fun J H1 => ∀ D, H1 D = none → CompW D J g tc te Q (startC σ ix n) (upd H1 D (.lst []))
structure CompOk (X : Cx) (scope : Scope) (N' : List Str) (ix : List Nat) (n : Nat) (tg elt : Expr) (ifs : List Expr) (g : TG) (tc : Option TT) (te : TE) : Prop where
  kind : scope.kind = .function
  nocell : ∀ y ∈ scope.names, y.2 = .free → (y.1, NameKind.cell) ∉ scope.names
  names : ∀ y ∈ scope.names, y.2 = .local → scope.names.lookup y.1 = some .local
  free : ∀ y ∈ scope.names, y.2 = .free → X.env.kindOf y.1 = some .cell ∨ X.env.kindOf y.1 = some .free
  len : ix.length + n = N'.length
  take : ∀ (j i : Nat), ix[j]? = some i → ∃ x, N'[j]? = some x ∧ X.N[i]? = some x ∧ scope.names.lookup x = some .free
  tgt : ∀ (cl : List (Str × Addr)) (C : Addr) (s : Shared) (H : Hp) (fp : List Addr) (pins : List (Addr × Obj)), PG (X.comp scope cl C N' s H fp pins) tg g
  elt : ∀ (cl : List (Str × Addr)) (C : Addr) (s : Shared) (H : Hp) (fp : List Addr) (pins : List (Addr × Obj)), PE (X.comp scope cl C N' s H fp pins) elt te
  test : (ifs = [] ∧ tc = none) ∨ ∃ c t, ifs = [c] ∧ tc = some t ∧ ∀ (cl : List (Str × Addr)) (C : Addr) (s : Shared) (H : Hp) (fp : List Addr) (pins : List (Addr × Obj)), PT (X.comp scope cl C N' s H fp pins) c t
theorem lookup_relabel_free {env : Env} : ∀ {names : List (Str × NameKind)} {x : Str}, names.lookup x = some .free →
    (names.map fun (n, k) => if (k == NameKind.free && env.scope.kind == .function && env.kindOf n == some .cell) then (n, NameKind.cell) else (n, k)).lookup x = some .cell ∨
    (names.map fun (n, k) => if (k == NameKind.free && env.scope.kind == .function && env.kindOf n == some .cell) then (n, NameKind.cell) else (n, k)).lookup x = some .free
  | [], _, h => by simp at h
  | (n, k) :: r, x, h => by
    have ih := @lookup_relabel_free env r x
    show List.lookup x ((if (k == NameKind.free && env.scope.kind == .function && env.kindOf n == some .cell) = true then (n, NameKind.cell) else (n, k)) :: _) = _ ∨ List.lookup x ((if (k == NameKind.free && env.scope.kind == .function && env.kindOf n == some .cell) = true then (n, NameKind.cell) else (n, k)) :: _) = _
    cases hx : x == n with
    | true =>
      simp only [List.lookup_cons, hx] at h
      cases h
      by_cases hc : (NameKind.free == NameKind.free && env.scope.kind == .function && env.kindOf n == some .cell) = true
      · rw [if_pos hc]; left; simp only [List.lookup_cons, hx]
      · rw [if_neg hc]; right; simp only [List.lookup_cons, hx]
    | false =>
      simp only [List.lookup_cons, hx] at h
      by_cases hc : (k == NameKind.free && env.scope.kind == .function && env.kindOf n == some .cell) = true
      · rw [if_pos hc]; simp only [List.lookup_cons, hx]; exact ih h
      · rw [if_neg hc]; simp only [List.lookup_cons, hx]; exact ih h
theorem relabel_back {env : Env} : ∀ {names : List (Str × NameKind)} {x : Str},
    ((names.map fun (n, k) => if (k == NameKind.free && env.scope.kind == .function && env.kindOf n == some .cell) then (n, NameKind.cell) else (n, k)).lookup x = some .cell ∨
    (names.map fun (n, k) => if (k == NameKind.free && env.scope.kind == .function && env.kindOf n == some .cell) then (n, NameKind.cell) else (n, k)).lookup x = some .free) → (x, NameKind.free) ∈ names ∨ (names.lookup x = some .cell ∧ (x, NameKind.cell) ∈ names)
  | [], _, h => by simp at h
  | (n, k) :: r, x, h => by
    have ih := @relabel_back env r x
    cases hx : x == n with
    | true =>
      have e : x = n := by simpa using hx
      subst e
      by_cases hc : (k == NameKind.free && env.scope.kind == .function && env.kindOf x == some .cell) = true
      · have hk : k = .free := by
          have : (k == NameKind.free) = true := by
            simp only [Bool.and_eq_true] at hc
            exact hc.1.1
          simpa using this
        subst hk
        exact .inl List.mem_cons_self
      · rw [List.map_cons] at h
        have e2 : (match (x, k) with | (n, k) => if (k == NameKind.free && env.scope.kind == .function && env.kindOf n == some .cell) = true then (n, NameKind.cell) else (n, k)) = (x, k) := if_neg hc
        rw [e2] at h
        simp only [List.lookup_cons, beq_self_eq_true] at h
        rcases h with h | h
        · cases h; exact .inr ⟨by simp only [List.lookup_cons, beq_self_eq_true], List.mem_cons_self⟩
        · cases h; exact .inl List.mem_cons_self
    | false =>
      refine (ih ?_).imp (List.mem_cons_of_mem _) fun z => ⟨by simp only [List.lookup_cons, hx]; exact z.1, List.mem_cons_of_mem _ z.2⟩
      rw [List.map_cons] at h
      by_cases hc : (k == NameKind.free && env.scope.kind == .function && env.kindOf n == some .cell) = true
      · have e2 : (match (n, k) with | (n, k) => if (k == NameKind.free && env.scope.kind == .function && env.kindOf n == some .cell) = true then (n, NameKind.cell) else (n, k)) = (n, NameKind.cell) := if_pos hc
        rw [e2] at h
        simpa only [List.lookup_cons, hx] using h
      · have e2 : (match (n, k) with | (n, k) => if (k == NameKind.free && env.scope.kind == .function && env.kindOf n == some .cell) = true then (n, NameKind.cell) else (n, k)) = (n, k) := if_neg hc
        rw [e2] at h
        simpa only [List.lookup_cons, hx] using h
theorem cellsFrom_own {x : Str} {c : Addr} : ∀ (names : List (Str × NameKind)) (n : Nat) (acc : List (Str × Addr)), (x, NameKind.cell) ∈ names → (cellsFrom n names acc).lookup x = some c → (∀ y, acc.lookup x = some y → n ≤ y ∨ True) → n ≤ c
  | [], _, _, h, _, _ => by cases h
  | (y, k) :: r, n, acc, h, e, _ => by
    unfold cellsFrom at e
    by_cases hr : (x, NameKind.cell) ∈ r
    · split at e
      · exact Nat.le_of_succ_le (cellsFrom_own r (n + 1) _ hr e fun _ _ => .inr trivial)
      · exact cellsFrom_own r n _ hr e fun _ _ => .inr trivial
    · rcases List.mem_cons.mp h with z | z
      · cases z
        rw [if_pos (by rfl)] at e
        have key : ∀ (r : List (Str × NameKind)) (n' : Nat) (acc : List (Str × Addr)), (x, NameKind.cell) ∉ r → (cellsFrom n' r acc).lookup x = acc.lookup x := by
          intro r
          induction r with
          | nil => intro _ _ _; rfl
          | cons p r ih =>
            intro n' acc hp
            obtain ⟨y', k'⟩ := p
            unfold cellsFrom
            split
            · rename_i hk
              have hk' : k' = .cell := by simpa using hk
              subst hk'
              have ne : ¬ x = y' := fun z => hp (by rw [z]; exact List.mem_cons_self)
              rw [ih _ _ fun z => hp (List.mem_cons_of_mem _ z), List.lookup_cons, show (x == y') = false by simpa using ne]
            · exact ih _ _ fun z => hp (List.mem_cons_of_mem _ z)
        rw [key r _ _ hr] at e
        simp only [List.lookup_cons, beq_self_eq_true] at e
        cases e; exact Nat.le_refl _
      · exact absurd z hr
theorem cellsFrom_not {x : Str} : ∀ (names : List (Str × NameKind)) (n : Nat) (acc : List (Str × Addr)), (x, NameKind.cell) ∉ names → (cellsFrom n names acc).lookup x = acc.lookup x
  | [], _, _, _ => rfl
  | (y, k) :: r, n, acc, h => by
    unfold cellsFrom
    split
    · rename_i hk
      have hk' : k = .cell := by simpa using hk
      subst hk'
      have ne : ¬ x = y := fun z => h (by rw [z]; exact List.mem_cons_self)
      rw [cellsFrom_not r _ _ fun z => h (List.mem_cons_of_mem _ z), List.lookup_cons, show (x == y) = false by simpa using ne]
    · exact cellsFrom_not r _ _ fun z => h (List.mem_cons_of_mem _ z)
theorem cellsFrom_inj : ∀ (names : List (Str × NameKind)) (n : Nat) (acc : List (Str × Addr)), (∀ x c, acc.lookup x = some c → c < n) → (∀ x y c, acc.lookup x = some c → acc.lookup y = some c → x = y) →
    ∀ x y c, (cellsFrom n names acc).lookup x = some c → (cellsFrom n names acc).lookup y = some c → x = y
  | [], _, _, _, h => h
  | (z, k) :: r, n, acc, h1, h2 => by
    unfold cellsFrom
    split
    · have lk : ∀ x c, ((z, n) :: acc).lookup x = some c → (x = z ∧ c = n) ∨ acc.lookup x = some c := fun x c h => by
        rw [List.lookup_cons] at h
        cases hb : x == z with
        | true => rw [hb] at h; cases h; exact .inl ⟨by simpa using hb, rfl⟩
        | false => rw [hb] at h; exact .inr h
      refine cellsFrom_inj r (n + 1) _ (fun x c h => ?_) fun x y c e1 e2 => ?_
      · rcases lk x c h with ⟨_, z⟩ | z
        · rw [z]; exact Nat.lt_succ_self _
        · exact Nat.lt_succ_of_lt (h1 x c z)
      · rcases lk x c e1 with ⟨a1, a2⟩ | a <;> rcases lk y c e2 with ⟨b1, b2⟩ | b
        · rw [a1, b1]
        · have := h1 y c b; rw [a2] at this; exact absurd this (Nat.lt_irrefl _)
        · have := h1 x c a; rw [b2] at this; exact absurd this (Nat.lt_irrefl _)
        · exact h2 x y c a b
    · exact cellsFrom_inj r n acc h1 h2
theorem newEnv_comp {M : Model} {A : Around} {E : Value → Shared → Prop} {s : Shared} {scope : Scope} {globals : Addr} {cl : List (Str × Addr)} {qual : Str} {env : Env} {Q : Env → Shared → Prop}
    (hQ : Q (newEnv scope s.heap.objs.size globals (cellsFrom (s.heap.objs.size + 1) scope.names cl) qual none .none (some env) builtinsNs) { s with heap := pushCells (s.heap.push { cls := .type "dict", data := .dict #[] }) scope.names }) :
    wpAny M A (newFunctionEnv scope globals cl [] qual none .none (some env)) Q E s := by
  simp only [newFunctionEnv, Option.isSome_some, if_true]
  refine wpAny_bind (wpAny_alloc ?_)
  refine wpAny_bind (wpAny_layCells _ (fun name kind cells => by cases hkc : kind == NameKind.cell <;> simp [hkc]) _ _ _ _ ?_)
  rw [show ({ s with heap := s.heap.push { cls := .type "dict", data := .dict #[] } } : Shared).heap.objs.size = s.heap.objs.size + 1 from Heap.size_push ..]
  refine wpAny_bind ?_
  rw [List.forIn_nil]
  exact wpAny_pure (wpAny_pure hQ)
section
variable {X : Cx} {scope : Scope} {N' : List Str} {ix : List Nat} {n : Nat} {tg elt iter : Expr} {ifs : List Expr} {g : TG} {tc : Option TT} {te : TE} {pos : Pos}
theorem comp_start {pins : List (Addr × Obj)} {σ : St} {H : Hp} {s : Shared} {fp : List Addr} {cl : List (Str × Addr)} {h1 : Heap} {tk : Nat} {m : Str → Option Value} (B : CompOk X scope N' ix n tg elt ifs g tc te) (I : Inv X pins σ H s)
    (hf : ∀ b ∈ fp, FpOk X pins H b) (hfo : ∀ b ∈ fp, ∃ o, s.heap.get? b = some o) (hcl : ∀ x c, cl.lookup x = some c → X.env.cells.lookup x = some c ∨ (s.heap.objs.size + 1 < c ∧ ∃ v, h1.IsCell c v)) (hcf : ∀ y ∈ scope.names, y.2 = .free → cl.lookup y.1 = X.env.cells.lookup y.1)
    (hinj : ∀ x y c, cl.lookup x = some c → cl.lookup y = some c → x = y) (hown : ∀ x, scope.names.lookup x = some .cell → ∃ c, cl.lookup x = some c) (hnew : ∀ x c, scope.names.lookup x = some .cell → cl.lookup x = some c → s.heap.objs.size + 1 < c)
    (hk : ∀ b o, s.heap.get? b = some o → h1.get? b = some o) (hD : h1.get? s.heap.objs.size = some { cls := .type "list", data := .seq #[] 0 }) (hC : h1.Ns (s.heap.objs.size + 1) m) :
    Inv (X.comp scope cl (s.heap.objs.size + 1) N' s H fp pins) [] (startC σ ix n) (upd H s.heap.objs.size (.lst [])) { s with heap := h1, toks := tk } := by
  have hn : H s.heap.objs.size = none := I.hok.fresh (Nat.le_refl _)
  have lt : ∀ {b : Addr} {o : Obj}, s.heap.get? b = some o → b ≠ s.heap.objs.size ∧ b ≠ s.heap.objs.size + 1 := fun e => ⟨Nat.ne_of_lt (Heap.lt_size e), Nat.ne_of_lt (Nat.lt_succ_of_lt (Heap.lt_size e))⟩
  have cellLt : ∀ x c, X.env.cells.lookup x = some c → c < s.heap.objs.size := fun x c e => by
    obtain ⟨v, o, ho, _⟩ := I.cell x c e
    exact Heap.lt_size ho
  have fpLt : ∀ b ∈ fp, b ≠ s.heap.objs.size + 1 := fun b hb => by
    obtain ⟨o, e⟩ := hfo b hb
    exact (lt e).2
  · have keep : Un (frs X.stack) fp H (upd H s.heap.objs.size (.lst [])) s.heap h1 := Un.laid hk (Nat.le_refl _) hn
    refine ⟨⟨I.ok.mod, ?_, I.ok.glob, I.ok.blt, Nat.le_succ _, hinj, fun x hx => ?_, fun x c z e => Nat.le_of_lt (Nat.lt_trans (Nat.lt_succ_self _) (hnew x c (by simpa using (show (scope.names.lookup x == some NameKind.cell) = true from z)) e)), I.ok.hd, I.ok.frames, .inl rfl, fun b hb => ⟨fpLt b hb, fun x c e => (hcl x c e).elim (fun z => (hf b hb).2.2.2.2.1 x c z) fun z w => by
          obtain ⟨o, ho⟩ := hfo b hb
          have := Heap.lt_size ho
          rw [← w] at this; exact Nat.lt_irrefl _ (Nat.lt_trans (Nat.lt_trans (Nat.lt_succ_self _) z.1) this)⟩,
        I.bs, Nat.le_trans I.ok.bsz I.sz, fun b o e hb => ?_, fun b hb z => ?_, I.stack, I.stkFree, I.ok.tb.grown I.base.tbls⟩,
      rfl, I.bare, keep, ⟨m, hC, fun i x v e1 e2 e3 => ?_⟩, fun x c e => ?_, ?_, fun x c e => ?_, fun p hp => ?_, ?_, ?_⟩
    · show (relabel scope X.env).kind = .function
      exact B.kind
    · show ∃ c, cl.lookup x = some c
      rcases relabel_back hx with hx' | hx'
      case inr => exact hown x hx'.1
      have z := hcf _ hx' rfl
      dsimp only at z
      rw [z]
      exact I.ok.has x (B.free _ hx' rfl)
    · obtain ⟨_, _, _, f3, _⟩ := hf b hb
      rcases f3 with z | z
      · exact I.ok.noex b o e z
      · exact absurd (Nat.lt_of_lt_of_le (Heap.lt_size e) (Nat.le_trans I.ok.bsz z)) (Nat.lt_irrefl _)
    · rcases List.mem_cons.mp (I.stkSub b z) with e | e
      · exact (hf b hb).2.1 e
      · exact (hf b hb).2.2.1 e
    · have hj : i < ix.length := by
        unfold startC at e2
        by_cases hj : i < ix.length
        · exact hj
        · rw [List.getElem?_append_right (by simpa using hj), List.getElem?_replicate] at e2
          split at e2 <;> cases e2
      obtain ⟨j, hj2⟩ : ∃ j, ix[i]? = some j := ⟨ix[i], by simp [hj]⟩
      obtain ⟨y, y1, y2, y3⟩ := B.take i j hj2
      have exy : x = y := by
        have z : N'[i]? = some x := e1
        rw [y1] at z
        exact (Option.some.inj z).symm
      subst exy
      have ev : σ[j]? = some (some v) := by
        unfold startC at e2
        rw [List.getElem?_append_left (by simpa using hj), List.getElem?_map, hj2] at e2
        have z : (σ[j]?).getD none = some v := Option.some.inj e2
        cases q : σ[j]? with
        | none => rw [q] at z; cases z
        | some w => rw [q] at z; exact congrArg some z
      obtain ⟨m0, hn0, hl⟩ := I.loc
      have hm : (x, NameKind.free) ∈ scope.names := PySem.mem_of_lookup y3
      have kx := B.free _ hm rfl
      have vis : Vis X.env.scope x := kx.elim (fun z => .inr (.inl z)) fun z => .inr (.inr z)
      obtain ⟨u, ru, lu⟩ := hl j x v y2 ev vis
      refine ⟨u, ru, .inr ⟨?_, ?_⟩⟩
      · exact lookup_relabel_free y3
      · rcases lu with ⟨z, _⟩ | ⟨_, c, hc, hcell⟩
        · rcases kx with w | w <;> (rw [w] at z; cases z)
        · refine ⟨c, ?_, ?_⟩
          · show cl.lookup x = some c
            rw [hcf _ hm rfl]
            exact hc
          · obtain ⟨o, ho, hd⟩ := hcell
            exact ⟨o, hk c o ho, hd⟩
    · rcases hcl x c e with z | ⟨_, z⟩
      · obtain ⟨v, o, ho, hd⟩ := I.cell x c z
        exact ⟨v, o, hk c o ho, hd⟩
      · exact z
    · show upd H s.heap.objs.size (.lst []) (s.heap.objs.size + 1) = none
      rw [upd_ne (Nat.succ_ne_self _)]
      exact I.hok.fresh (Nat.le_succ _)
    · rcases hcl x c e with z | ⟨z, _⟩
      · have := cellLt x c z
        rw [upd_ne (Nat.ne_of_lt this)]
        exact I.freeC x c z
      · rw [upd_ne (Nat.ne_of_gt (Nat.lt_trans (Nat.lt_succ_self _) z))]
        exact I.hok.fresh (Nat.le_of_lt (Nat.lt_trans (Nat.lt_succ_self _) z))
    · rw [List.append_nil] at hp
      obtain ⟨q1, q2, q3, q4, q5⟩ := I.pin p hp
      refine ⟨hk _ _ q1, by rw [upd_ne (lt q1).1]; exact q2, (lt q1).2, fun z => ?_, q5⟩
      rcases List.mem_cons.mp (I.stkSub _ z) with e | e
      · exact q3 e
      · exact q4 e
    · exact I.hok.laid hk (Nat.le_refl _) ⟨Nat.zero_le _, [], 0, .nil, hD⟩
    · show (startC σ ix n).length = N'.length
      unfold startC
      rw [List.length_append, List.length_map, List.length_replicate]
      exact B.len
theorem comp_back {pins : List (Addr × Obj)} {σ σ' : St} {H H' : Hp} {s s' : Shared} {fp : List Addr} {cl : List (Str × Addr)} {C : Addr} (I : Inv X pins σ H s) (hf : ∀ b ∈ fp, FpOk X pins H b)
    (J : Inv (X.comp scope cl C N' s H fp pins) [] σ' H' s') : Inv X pins σ H' s' := by
  obtain ⟨hh, g, d, t, os'⟩ := s'
  obtain rfl : os' = s.os := J.os
  exact I.call (h' := hh) (g' := g) (d' := d) (t' := t) (ch := fp) J.base J.hok J.bare fun b hb => ⟨(hf b hb).2.2.2.1, (hf b hb).2.1, (hf b hb).2.2.2.2.1, (hf b hb).2.2.2.2.2⟩
theorem comp_run {pins : List (Addr × Obj)} {σ : St} {H : Hp} {s : Shared} {Q : VK} {it : Addr} {fp : List Addr} {tn : Nat → Heap → Prop} {J : It} {cl : List (Str × Addr)} {RR : Value → Addr → Result → Shared → Prop} {E : Value → Shared → Prop}
    (B : CompOk X scope N' ix n tg elt ifs g tc te) (hc : X.calm = true) (I : Inv X pins σ H s) (T : Turn X.prog X.w X.K tg J fp it tn) (st : tn 0 s.heap) (hf : ∀ b ∈ fp, FpOk X pins H b)
    (hcl : ∀ x c, cl.lookup x = some c → X.env.cells.lookup x = some c) (hcf : ∀ y ∈ scope.names, y.2 = .free → cl.lookup y.1 = X.env.cells.lookup y.1)
    (body : ∀ D, H D = none → CompW D J g tc te Q (startC σ ix n) (upd H D (.lst [])))
    (hRR : ∀ D C H' s' m, Inv X pins σ H' s' → s'.heap.Ns C m → FpOk X pins H' C → Q (.ref D) H' → RR (.ref D) C (.ok .next) s') :
    wpAny (model X.prog X.w) X.A (newList []) (fun acc s₃ => wpAny (model X.prog X.w) X.A (newFunctionEnv scope X.env.globals cl [] X.env.qual none .none (some X.env)) (fun cenv s₄ =>
      codeAny (model X.prog X.w) X.A (.compStart (.ListComp elt [⟨tg, iter, ifs, 0⟩] scope pos) 0 (.ref it) acc { cenv with scope := relabel scope X.env }) (RR acc cenv.locals) s₄) E s₃) E s := by
  refine wpAny_newObj_type (newEnv_comp ?_)
  dsimp only
  generalize hH2 : s.heap.push { cls := .type "list", dict := none, data := .seq ([] : List Value).toArray } = H2
  have hC : H2.objs.size = s.heap.objs.size + 1 := by rw [← hH2, Heap.size_push]
  obtain ⟨cs, ecs⟩ : ∃ cs, cs = cellsFrom (H2.objs.size + 1) scope.names cl := ⟨_, rfl⟩
  rw [← ecs]
  obtain ⟨h₁, eh⟩ : ∃ h₁, h₁ = pushCells (H2.push { cls := .type "dict", data := .dict #[] }) scope.names := ⟨_, rfl⟩
  rw [← eh]
  have kp : ∀ b o, H2.get? b = some o → h₁.get? b = some o := fun b o e => by rw [eh]; exact pushCells_keeps _ _ b o (Heap.get?_push_of_some _ e)
  have hns₁ : h₁.Ns H2.objs.size fun _ => none := by rw [eh]; exact (Heap.Ns.new H2 (.type "dict")).keeps (pushCells_keeps _ _)
  have below : ∀ b, b < s.heap.objs.size → b ≠ H2.objs.size := fun b hb => by rw [hC]; exact Nat.ne_of_lt (Nat.lt_succ_of_lt hb)
  have old : ∀ b o, s.heap.get? b = some o → h₁.get? b = some o := fun b o e => kp b o (hH2 ▸ Heap.get?_push_of_some _ e)
  have hacc : h₁.get? s.heap.objs.size = some { cls := .type "list", data := .seq #[] 0 } := kp _ _ (hH2 ▸ Heap.get?_push_size _ rfl)
  have clt : ∀ x c, cl.lookup x = some c → c < s.heap.objs.size := fun x c e => by
    obtain ⟨v, o, ho, _⟩ := I.cell x c (hcl x c e)
    exact Heap.lt_size ho
  have own : ∀ x c, (x, NameKind.cell) ∈ scope.names → cs.lookup x = some c → s.heap.objs.size + 1 < c := fun x c h e => by
    rw [ecs] at e
    have := cellsFrom_own scope.names _ cl h e fun _ _ => .inr trivial
    omega
  have hcl2 : ∀ x c, cs.lookup x = some c → X.env.cells.lookup x = some c ∨ (s.heap.objs.size + 1 < c ∧ ∃ v, h₁.IsCell c v) := fun x c e => by
    by_cases hx : (x, NameKind.cell) ∈ scope.names
    · refine .inr ⟨own x c hx e, none, ?_⟩
      have okc := cellsFrom_ok scope.names (H2.push { cls := .type "dict", data := .dict #[] }) 0 [] ⟨fun _ _ hm => (nomatch hm), List.Pairwise.nil⟩ (Nat.zero_le _)
      have e2 : (cellsFrom (H2.objs.size + 1) scope.names []).lookup x = some c := by
        have gen : ∀ (names : List (Str × NameKind)) (n : Nat) (acc : List (Str × Addr)), (x, NameKind.cell) ∈ names → (cellsFrom n names acc).lookup x = (cellsFrom n names []).lookup x := by
          have gen2 : ∀ (names : List (Str × NameKind)) (n : Nat) (acc acc' : List (Str × Addr)), (x, NameKind.cell) ∈ names ∨ acc.lookup x = acc'.lookup x → (cellsFrom n names acc).lookup x = (cellsFrom n names acc').lookup x := by
            intro names
            induction names with
            | nil => intro n acc acc' h; exact h.elim (fun z => by cases z) id
            | cons p r ih =>
              intro n acc acc' h
              obtain ⟨y, k⟩ := p
              unfold cellsFrom
              split
              · rename_i hk
                have hk' : k = .cell := by simpa using hk
                subst hk'
                refine ih _ _ _ ?_
                by_cases exy : x = y
                · subst exy; exact .inr (by simp only [List.lookup_cons, beq_self_eq_true])
                · rcases h with z | z
                  · rcases List.mem_cons.mp z with w | w
                    · cases w; exact absurd rfl exy
                    · exact .inl w
                  · exact .inr (by simp only [List.lookup_cons, show (x == y) = false by simpa using exy]; exact z)
              · rename_i hk
                refine ih _ _ _ ?_
                rcases h with z | z
                · rcases List.mem_cons.mp z with w | w
                  · cases w; exact absurd rfl hk
                  · exact .inl w
                · exact .inr z
          exact fun names n acc h => gen2 names n acc [] (.inl h)
        rw [← gen scope.names _ cl hx, ← ecs]; exact e
      rw [Heap.size_push] at okc
      rw [eh]
      exact (okc.empty x c (PySem.mem_of_lookup e2)).1
    · rw [ecs, cellsFrom_not _ _ _ hx] at e
      exact .inl (hcl x c e)
  have hcf2 : ∀ y ∈ scope.names, y.2 = .free → cs.lookup y.1 = X.env.cells.lookup y.1 := fun y hy hf => by
    rw [ecs, cellsFrom_not _ _ _ (B.nocell y hy hf)]
    exact hcf y hy hf
  have hinj : ∀ x y c, cs.lookup x = some c → cs.lookup y = some c → x = y := by
    rw [ecs]
    exact cellsFrom_inj scope.names _ cl (fun x c e => Nat.lt_of_lt_of_le (clt x c e) (by rw [hC]; omega)) fun x y c e1 e2 => I.ok.inj x y c (hcl x c e1) (hcl y c e2)
  have hown : ∀ x, scope.names.lookup x = some .cell → ∃ c, cs.lookup x = some c := fun x h => by
    rw [ecs]
    exact Option.isSome_iff_exists.mp (PySem.W.cellsFrom_some scope.names _ cl (.inl h))
  have hnew : ∀ x c, scope.names.lookup x = some .cell → cs.lookup x = some c → s.heap.objs.size + 1 < c := fun x c h e => own x c (PySem.mem_of_lookup h) e
  have cne : ∀ b, b < s.heap.objs.size → (∀ x c, X.env.cells.lookup x = some c → c ≠ b) → ∀ x c, cs.lookup x = some c → c ≠ b := fun b hb hold x c e z => by
    rcases hcl2 x c e with w | ⟨w, _⟩
    · exact hold x c w z
    · rw [z] at w; exact Nat.lt_irrefl _ (Nat.lt_trans (Nat.lt_trans (Nat.lt_succ_self _) w) hb)
  have hfo : ∀ b ∈ fp, ∃ o, s.heap.get? b = some o := fun b hb => let ⟨o, e, _⟩ := T.obj 0 _ st b hb; ⟨o, e⟩
  have st1 : tn 0 h₁ := T.keep 0 _ _ st fun b _ o e => old b o e
  have hD0 : H s.heap.objs.size = none := I.hok.fresh (Nat.le_refl _)
  obtain ⟨W, ⟨m0, w0⟩, turn⟩ := body _ hD0
  have J0 : Inv (X.comp scope cs H2.objs.size N' s H fp pins) [] (startC σ ix n) (upd H s.heap.objs.size (.lst [])) { s with heap := h₁ } := by
    rw [hC] at hns₁ ⊢
    exact comp_start (tk := s.toks) B I hf hfo hcl2 hcf2 hinj hown hnew old hacc hns₁
  have fpOk : ∀ {H' : Hp}, (∀ b ∈ fp, H' b = none) → ∀ b ∈ fp, FpOk (X.comp scope cs H2.objs.size N' s H fp pins) [] H' b := fun hn b hb => by
    obtain ⟨f0, f1, f2, f3, f4, f5⟩ := hf b hb
    obtain ⟨o, e⟩ := hfo b hb
    refine ⟨hn b hb, below b (Heap.lt_size e), fun z => ?_, .inl hb, cne b (Heap.lt_size e) f4, fun p hp => f5 p ?_⟩
    · rcases List.mem_cons.mp (I.stkSub b z) with q | q
      · exact f1 q
      · exact f2 q
    · rw [List.append_nil] at hp
      exact hp
  have fp0 : ∀ b ∈ fp, upd H s.heap.objs.size (.lst []) b = none := fun b hb => by
    obtain ⟨o, e⟩ := hfo b hb
    rw [upd_ne (Nat.ne_of_lt (Heap.lt_size e))]
    exact (hf b hb).1
  have loop : ∀ s₃ : Shared, s₃ = { s with heap := h₁ } →
      codeAny (model X.prog X.w) X.A (.compLoop (.ListComp elt [⟨tg, iter, ifs, 0⟩] scope pos) 0 (.ref it) (.ref s.heap.objs.size) (compEnvC scope cs H2.objs.size X.env)) (RR (.ref s.heap.objs.size) H2.objs.size) s₃ := by
    rintro s₃ rfl
    refine compLoop_gen (fun k s' => ∃ i ys σ2 H3, Inv (X.comp scope cs H2.objs.size N' s H fp pins) [] σ2 H3 s' ∧ tn i s'.heap ∧ (∀ b ∈ fp, H3 b = none) ∧ W i k ys σ2 H3) ?_ m0 ⟨0, [], _, _, J0, st1, fp0, w0⟩
    rintro k s3 ⟨i, ys, σ3, H3, I3, st3, fr3, w3⟩
    obtain ⟨hD3, alt⟩ := turn i k ys σ3 H3 w3
    rcases alt with ⟨stop, q⟩ | ⟨go, N, hN, step⟩
    · refine thn (T.done (X.comp scope cs H2.objs.size N' s H fp pins) rfl rfl rfl hc i [] s3 σ3 H3 _ I3 (fpOk fr3) st3 stop) fun r s4 ⟨hr, I4⟩ => ?_
      subst hr
      obtain ⟨m4, hn4, _⟩ := I4.loc
      refine hRR _ _ H3 s4 m4 (comp_back I hf I4) hn4 ⟨I4.free, fun z => ?_, fun z => ?_, .inr (Nat.le_trans I.sz (by omega)), fun x c e z => ?_, fun p hp z => ?_⟩ q
      · have lt := I.lt
        rw [← z, hC] at lt
        exact absurd lt (Nat.not_lt.mpr (Nat.le_succ _))
      · exact I.nofs (show s.heap.objs.size ≤ H2.objs.size by omega) z
      · obtain ⟨v, o, ho, _⟩ := I.cell x c e
        have lt := Heap.lt_size ho
        rw [z, hC] at lt
        exact absurd lt (Nat.not_lt.mpr (Nat.le_succ _))
      · have lt := Heap.lt_size (I.pin p hp).1
        rw [z, hC] at lt
        exact absurd lt (Nat.not_lt.mpr (Nat.le_succ _))
    · refine thn (T.item (X.comp scope cs H2.objs.size N' s H fp pins) rfl rfl rfl hc i [] s3 σ3 H3 _ I3 (fpOk fr3) st3 go) fun r s4 ⟨u, hr, h4⟩ => ?_
      subst hr
      refine thn h4 fun _ s5 ⟨x, H5, I5, r5, y5, st5, fr5⟩ => ?_
      have I5' := I5.pinned (fpOk fr5) (T.obj _ _ st5)
      have back : ∀ {σ7 : St} {H7 : Hp} {s7 : Shared} {ys' : List V}, Inv (X.comp scope cs H2.objs.size N' s H fp pins) ([] ++ pinsAt fp s5.heap) σ7 H7 s7 → N ys' σ7 H7 →
          ∃ m, m < k ∧ ∃ i ys σ2 H3, Inv (X.comp scope cs H2.objs.size N' s H fp pins) [] σ2 H3 s7 ∧ tn i s7.heap ∧ (∀ b ∈ fp, H3 b = none) ∧ W i m ys σ2 H3 := fun {σ7 H7 s7 ys'} I7 n7 => by
        obtain ⟨m', hm, w7⟩ := hN ys' σ7 H7 n7
        refine ⟨m', hm, i + 1, ys', σ7, H7, I7.unpinned, T.keep _ _ _ st5 fun b hb o e => (I7.pin (b, o) (List.mem_append_right _ (List.mem_append_right _ (mem_pinsAt hb e)))).1, fun b hb => ?_, w7⟩
        obtain ⟨o, e, d⟩ := T.obj _ _ st5 b hb
        exact (I7.pin (b, o) (List.mem_append_right _ (List.mem_append_right _ (mem_pinsAt hb e)))).2.1
      refine thn (B.tgt cs H2.objs.size s H fp pins _ s5 σ3 H5 x u _ I5' r5 (step x H5 y5)) fun _ s6 ⟨σ6, H6, I6, q6⟩ => ?_
      have fin : ∀ (b : Bool) (s7 : Shared), TP (X.comp scope cs H2.objs.size N' s H fp pins) ([] ++ pinsAt fp s5.heap) σ6
          (fun b H4 => if b = true then te σ6 H4 fun y H5 => H5 s.heap.objs.size = some (.lst ys) ∧ ys.length < sizeLine ∧ N (ys ++ [y]) σ6 (upd H5 s.heap.objs.size (.lst (ys ++ [y]))) else N ys σ6 H4) b s7 →
          if b = true then wpAny (model X.prog X.w) X.A (eval elt (compEnvC scope cs H2.objs.size X.env)) (fun x s₄ =>
              wpAny (model X.prog X.w) X.A (call (.builtin "list.append") [.ref s.heap.objs.size, x]) (fun _ s₅ => ∃ m, m < k ∧ ∃ i ys σ2 H3, Inv (X.comp scope cs H2.objs.size N' s H fp pins) [] σ2 H3 s₅ ∧ tn i s₅.heap ∧ (∀ b ∈ fp, H3 b = none) ∧ W i m ys σ2 H3) (fun _ _ => False) s₄) (fun _ _ => False) s7
            else ∃ m, m < k ∧ ∃ i ys σ2 H3, Inv (X.comp scope cs H2.objs.size N' s H fp pins) [] σ2 H3 s7 ∧ tn i s7.heap ∧ (∀ b ∈ fp, H3 b = none) ∧ W i m ys σ2 H3 := by
        rintro b s7 ⟨H7, I7, q7⟩
        cases b with
        | false =>
          rw [if_neg Bool.false_ne_true] at q7 ⊢
          exact back I7 q7
        | true =>
          rw [if_pos rfl] at q7 ⊢
          refine thn (B.elt cs H2.objs.size s H fp pins _ s7 σ6 H7 _ I7 q7) fun y s8 ⟨yv, H8, I8, r8, hD8, hz, n8⟩ => ?_
          refine thn (mt_append _ s8 σ6 H8 (.ref s.heap.objs.size) [yv] (.ref s.heap.objs.size) [y] (fun _ H9 => N (ys ++ [yv]) σ6 H9) I8 rfl (.cons r8 .nil) ⟨_, ys, yv, rfl, rfl, hD8, hz, n8⟩) fun _ s9 ⟨_, H9, I9, _, n9⟩ => ?_
          exact back I9 n9
      rcases B.test with ⟨e1, e2⟩ | ⟨c, t, e1, e2, ht⟩
      · subst e1; subst e2
        exact wpAny_tests_nil (fin true s6 ⟨H6, I6, q6⟩)
      · subst e1; subst e2
        exact wpAny_tests_one (thn (ht cs H2.objs.size s H fp pins _ s6 σ6 H6 _ I6 q6) fun b s7 z => fin b s7 z)
  exact codeAny_compStart_list (loop _ rfl) (T.self X.A 0 _ _ _ st1 (loop _ rfl))
theorem pe_comp {wi : TI} (hc : X.calm = true) (hi : PI X tg iter wi) (B : CompOk X scope N' ix n tg elt ifs g tc te) (hs : ∀ x, foldedSetIterable iter X.env x = pure x := by intro _; rfl) :
    PE X (.ListComp elt [⟨tg, iter, ifs, 0⟩] scope pos) (tComp wi ix n g tc te) := by
  intro pins s σ H Q I h
  rw [eval_ListComp]
  obtain ⟨cl, hclos, hcl, hcf⟩ := closureFor_of (scope := scope) (env := X.env) fun y hy hf => I.ok.has _ (B.free y hy hf)
  refine wpAny_comprehension_free (use := none) rfl hs hclos B.kind B.names (thn (hi pins s σ H _ I h) fun v s1 h1 => thn h1 fun itv s2 h2 => ?_)
  obtain ⟨it, fp, tn, J, H2, rfl, I2, T, st2, f2, body⟩ := h2
  refine comp_run (RR := fun acc C => compPost (model X.prog X.w) X.A X.xe none (EP X pins σ Q) acc C) B hc I2 T st2 f2 hcl hcf body fun D C H' s' m I' hn hC q => ⟨m, hn, fun h' hs' => ?_⟩
  obtain ⟨f0, f1, f2', f3, f4, f5⟩ := hC
  exact ⟨.ref D, H', I'.turned (t' := s'.toks) (fun b o hb e => (hs'.2 b hb).trans e) f0 f1 f3 f4 f5, rfl, q⟩
theorem ps_setC {wi : TI} {i : Nat} {y : Str} {py spos : Pos} (hN : X.N.Nodup) (hiN : X.N[i]? = some y) (hy : Loc X.env.scope y) (hc : X.calm = true) (hi : PI X tg iter wi) (B : CompOk X scope N' ix n tg elt ifs g tc te)
    (hsw : swapsWith (.ListComp elt [⟨tg, iter, ifs, 0⟩] scope pos) (some (.Name y py)) spos.line X.env = pure true) (hf : X.fn y = true ∨ X.env.scope.names.lookup y = some .local := by first | exact .inl rfl | exact .inr rfl | assumption)
    (hs : ∀ x, foldedSetIterable iter X.env x = pure x := by intro _; rfl) :
    PS X (.Assign [.Name y py] (.ListComp elt [⟨tg, iter, ifs, 0⟩] scope pos) spos) (tAsg (tComp wi ix n g tc te) (gName i)) := by
  intro pins s σ H D I h
  rw [exec_Assign_Name_used _ _ _ _ hsw]
  refine wpAny_bind (wpAny_standAt (wpAny_bind ?_))
  show wpAny _ X.A (do let _ ← comprehension (.ListComp elt [⟨tg, iter, ifs, 0⟩] scope pos) scope X.env _ (newList []) false (eval iter X.env) (some (assign (.Name y py) X.env))) _ _ s
  obtain ⟨cl, hclos, hcl, hcf⟩ := closureFor_of (scope := scope) (env := X.env) fun y hy hf => I.ok.has _ (B.free y hy hf)
  refine wpAny_bind (wpAny_mono (wpAny_comprehension_free (use := some (assign (.Name y py) X.env)) (Q := fun _ s' => SP X pins D .next s') rfl hs hclos B.kind B.names
    (thn (hi pins s σ H _ I h) fun v s1 h1 => thn h1 fun itv s2 h2 => ?_)) (fun _ s' hq => wpAny_pure (wpAny_pure hq)) fun _ _ e => e)
  obtain ⟨it, fp, tn, J, H2, rfl, I2, T, st2, f2, body⟩ := h2
  refine comp_run (Q := fun x H1 => gName i x σ H1 D.nx) (RR := fun acc C => compPost (model X.prog X.w) X.A X.xe (some (assign (.Name y py) X.env)) (fun _ s' => SP X pins D .next s') acc C) B hc I2 T st2 f2 hcl hcf body fun D' C H' s' m I' hn hC q => ?_
  obtain ⟨f0, f1, f2', f3, f4, f5⟩ := hC
  have Ip := I'.pinned (fp := [C]) (fun b hb => by have e : b = C := by simpa using hb
                                                   subst e; exact ⟨f0, f1, f2', f3, f4, f5⟩) (fun b hb => by
    have e : b = C := by simpa using hb
    subst e
    obtain ⟨o, es, ep, ho, hd, _⟩ := hn
    exact ⟨o, ho, fun v z => by rw [hd] at z; cases z⟩)
  refine wpAny_assign_Name (store_ok Ip hN hiN hy (v := .ref D') rfl (fun s'' I'' => ?_) hf)
  obtain ⟨o, es, ep, ho, hd, hr⟩ := hn
  have pinC := I''.pin (C, o) (List.mem_append_right _ (List.mem_append_right _ (mem_pinsAt (by simp) ho)))
  refine ⟨m, ⟨o, es, ep, pinC.1, hd, hr⟩, fun h' hs' => ?_⟩
  exact ⟨_, H', (I''.unpinned).turned (t' := s''.toks) (fun b o hb e => (hs'.2 b hb).trans e) pinC.2.1 f1 f3 f4 f5, q⟩
end
end L2
namespace L2
open PySem PySem.Spec PyProof.Rows
section
variable {X : Cx} {scope : Scope} {tg elt : Expr} {ifs : List Expr} {g : TG} {tc : Option TT} {te : TE}
theorem compOk (osc : Scope) (oN N' : List Str) (ix : List Nat) (n : Nat) (hosc : X.env.scope = osc) (hoN : X.N = oN) (kind : scope.kind = .function) (nocell : (scope.names.all fun y => y.2 != .free || scope.names.all fun z => !(z.1 == y.1) || z.2 != .cell) = true) (names : ∀ y ∈ scope.names, y.2 = .local → scope.names.lookup y.1 = some .local)
    (free : (scope.names.all fun y => y.2 != .free || (osc.names.lookup y.1 == some .cell || osc.names.lookup y.1 == some .free)) = true) (len : ix.length + n = N'.length)
    (take : ((List.range ix.length).all fun j => match N'[j]?, oN[ix.getD j 0]? with | some x, some y => x == y && scope.names.lookup x == some .free | _, _ => false) = true)
    (tgt : ∀ (cl : List (Str × Addr)) (C : Addr) (s : Shared) (H : Hp) (fp : List Addr) (pins : List (Addr × Obj)), PG (X.comp scope cl C N' s H fp pins) tg g)
    (elt' : ∀ (cl : List (Str × Addr)) (C : Addr) (s : Shared) (H : Hp) (fp : List Addr) (pins : List (Addr × Obj)), PE (X.comp scope cl C N' s H fp pins) elt te)
    (test : (ifs = [] ∧ tc = none) ∨ ∃ c t, ifs = [c] ∧ tc = some t ∧ ∀ (cl : List (Str × Addr)) (C : Addr) (s : Shared) (H : Hp) (fp : List Addr) (pins : List (Addr × Obj)), PT (X.comp scope cl C N' s H fp pins) c t) :
    CompOk X scope N' ix n tg elt ifs g tc te :=
  ⟨kind, fun y hy e hc => by
    have z := List.all_eq_true.mp nocell y hy
    rw [e] at z
    have z2 : (scope.names.all fun w => !(w.1 == y.1) || w.2 != .cell) = true := by simpa using z
    have z3 := List.all_eq_true.mp z2 _ hc
    simp at z3, names, fun y hy e => by
    have z := List.all_eq_true.mp free y hy
    rw [e] at z
    have z' : (osc.names.lookup y.1 == some .cell || osc.names.lookup y.1 == some .free) = true := by simpa using z
    show X.env.scope.names.lookup y.1 = _ ∨ X.env.scope.names.lookup y.1 = _
    rw [hosc]
    simpa using z', len, fun j i e => by
    obtain ⟨hj, _⟩ := List.getElem?_eq_some_iff.mp e
    have e2 : ix.getD j 0 = i := by
      rw [List.getD_eq_getElem?_getD, e]
      rfl
    have z := List.all_eq_true.mp take j (List.mem_range.mpr hj)
    rw [e2] at z
    cases h1 : N'[j]? with
    | none => rw [h1] at z; cases z
    | some x =>
      cases h2 : oN[i]? with
      | none => rw [h1, h2] at z; cases z
      | some y =>
        rw [h1, h2] at z
        have z' : x = y ∧ scope.names.lookup x = some .free := by simpa using z
        obtain ⟨rfl, z2⟩ := z'
        exact ⟨x, rfl, by rw [hoN]; exact h2, z2⟩, tgt, elt', test⟩
end
structure Has (P : Program) (w : World) (K : PySem.W.Frag) (mg : Str → Option Value) (base : Heap) (CX : CXT) (k : Nat) (x : Str) (ps : List Str) (sp : Sp) : Prop where
  ex : ∃ (f : Addr) (fd : FuncData), FnOk P w K mg base CX k f fd ps sp ∧ mg x = some (.ref f) ∧ PySem.W.keepIn K (.ref f) = true ∧ Binds K fd ps []
section
variable {X : Cx} {CX : CXT} {k : Nat} {x : Str} {ps : List Str} {sp : Sp} {E : XK} {p pos : Pos} {e : Expr} {es : List Expr} {t : TA}
theorem pe_has (G : Has X.prog X.w X.K X.mg X.base CX k x ps sp) (hr : Room k X.A) (hg : Gl X x) (hx : Passes CX X E)
    (ha : PA X (e :: es) t) (hdb : (x == ("__debug__" : Str)) = false := by decide) (he : starEach (e :: es) X.env = (false, eval e X.env) :: starEach es X.env := by rfl) (hpl : (backTo pos (starEach es X.env)).any (·.1) = false := by rfl) :
    PE X (.Call (.Name x p) (e :: es) [] pos) (tCall sp [] E t) := by
  obtain ⟨f, fd, F, hm, hk, hb⟩ := G.ex
  exact pe_call F hr hg hm hk hb .nil hx ha hdb he hpl
end
structure DefAt (K : PySem.W.Frag) (x : Str) (st : Stmt) (f : Addr) (fd : FuncData) : Prop where
  ns : PySem.W.nsIn K mainGlobals x = some (some (.ref f))
  fn : Fun K x x st f fd
theorem defAt_mk {K : PySem.W.Frag} {x : Str} {st : Stmt} {f : Addr} {oc : Value} {od an : Option Addr} {osl : Array (Option Value)} {kV doc pm cdv ct : Value} (a : PySem.W.nsIn K mainGlobals x = some (some (.ref f)))
    (l : K.lookup f = some ⟨oc, od, .func (PySem.W.fnOf x x (defArgs st) (defBody st) (defScope st) .none kV doc pm an cdv ct), osl⟩) (c : PySem.W.codeIn K cdv x = true) (k : PySem.W.keepIn K (.ref f) = true) : ∃ f fd, DefAt K x st f fd :=
  ⟨f, _, a, fun_mk l c k⟩
theorem DefAt.has {P : Program} {w : World} {K : PySem.W.Frag} {mg : Str → Option Value} {base h : Heap} {CX : CXT} {k : Nat} {x : Str} {st : Stmt} {f : Addr} {fd : FuncData} {ps : List Str} {sp : Sp} (D : DefAt K x st f fd) (X : K.In h) (G : h.Ns mainGlobals mg)
    (ok : FnOk P w K mg base CX k f fd ps sp) (b : Binds K fd ps []) : Has P w K mg base CX k x ps sp := ⟨f, fd, ok, PySem.W.mg_of X G D.ns, D.fn.kp, b⟩
theorem upd_at {H : Hp} {a b : Addr} {o u : HO} (hn : H b = none) (h : H a = some o) : upd H b u a = some o := (upd_ne (ne_of_none h hn)).trans h
theorem Same.upd {H : Hp} {b : Addr} {u : HO} (hn : H b = none) : Same H (upd H b u) := fun _ _ h => upd_at hn h
theorem Fit.of {i : Int} {n : Nat} (h1 : i.natAbs ≤ n) (h2 : n < 2 ^ 8000) : Fit i := Nat.lt_of_le_of_lt h1 h2
end L2
namespace L2
open PySem PySem.Spec PyProof.Rows
section
variable {X : Cx} {pos : Pos}
def gLst (K : PySem.W.Frag) (n : Nat) (t : TGs) : TG := fun v σ H Q => ∃ a xs, v = .ref a ∧ SqL K H a xs ∧ xs.length = n ∧ t xs σ H Q
theorem pg_unlist {es : List Expr} {k : Nat} {t : TGs} {n : Nat} (hc : X.calm = true) (h : PGs X es t)
    (hn : (assignEach es X.env).length = n := by rfl) (hst : (assignEach es X.env).findIdx? (·.1) = none := by rfl) : PG X (.Tuple es k pos) (gLst X.K n t) := by
  intro pins s σ H v u Q I r hw
  obtain ⟨a, xs, e1, hq, hl, hw⟩ := hw
  subst e1
  cases r
  obtain ⟨its, rv, ht, hz⟩ := I.list hq
  have hl2 := rv.length
  rw [assign_Tuple]
  refine wpAny_bind (wpAny_standAt ?_)
  unfold unpack
  rw [hn, hst]
  have e : n = its.toArray.size := by rw [List.size_toArray]; omega
  rw [e]
  refine wpAny_bind (wpAny_holding (PySem.W.kun_itemsOf (I.ok.hd hc) ht.isList fun h' hx => ?_))
  have I1 : Inv X pins σ H { s with heap := h' } := I.kept (t' := s.toks) fun b o e => hx b o (Nat.ne_of_lt (Heap.lt_size e)) e
  exact h pins _ σ H xs _ Q I1 (by simpa using rv) hw
end
end L2
namespace L2
open PySem PySem.Spec PyProof.Rows
theorem kit_self {K : PySem.W.Frag} {T : String} : PySem.W.kitOne K (.type T) (.type T) = some true := by
  unfold PySem.W.kitOne
  rw [if_pos (by simp)]
theorem kit_no {K : PySem.W.Frag} {S T : String} (h1 : ((Value.type S) == (Value.type T)) = false) (h2 : PySem.W.kitMeta T = true) (h3 : (PySem.fastBuiltinMro S).map (·.contains (.type T)) = some false) : PySem.W.kitOne K (.type S) (.type T) = some false := by
  unfold PySem.W.kitOne
  rw [h1, if_neg Bool.false_ne_true]
  show (if PySem.W.kitMeta T = true then PySem.W.subIn K (.type S) (.type T) else none) = some false
  rw [if_pos h2]
  exact h3
theorem kit_int_bool {K : PySem.W.Frag} : PySem.W.kitOne K (.type "int") (.type "bool") = some false := kit_no (by decide +kernel) (by decide +kernel) (by decide +kernel)
end L2
namespace L2
open PySem PySem.Spec PyProof.Rows
structure Tr (h : Heap) (e T : Addr) (cls : Value) (dct : Option Addr) (fl : Value) : Prop where
  ex : ∃ (oe : Obj) (vs : Array Value) (oT : Obj) (ts : Array Value), h.get? e = some oe ∧ oe.cls = cls ∧ oe.dict = dct ∧ oe.data = .fields vs ∧ vs[1]? = some (.ref T) ∧ h.get? T = some oT ∧ oT.data = .fields ts ∧ ts[3]? = some fl
  ne : T ≠ e
structure FlyD (B : Heap) (l : List Env) (e : Addr) (cls : Value) (dct : Option Addr) (fl : Value) (h : Heap) : Prop where
  stays : B.StaysIn h
  out : B.get? e = none
  fun' : h.FunFrames B l
  tr : ∃ T, B.get? T = none ∧ Tr h e T cls dct fl
section
variable {M : Model} {A : Around} {E : Value → Shared → Prop} {s : Shared} {B : Heap} {env : Env} {outer l : List Env} {L e : Addr} {cls : Value} {dct : Option Addr} {Q : Unit → Shared → Prop}
theorem FlyD.pop {h : Heap} {fl : Value} (F : FlyD B (env :: outer) e cls dct fl h) : FlyD B outer e cls dct fl h := ⟨F.stays, F.out, F.fun'.2.2, F.tr⟩
end
end L2
namespace L2
open PySem PySem.Spec PyProof.Rows
theorem HOk.none_of {P : Program} {w : World} {H : Hp} {B : Heap} {a : Addr} (x : HOk P w H B) (n : B.get? a = none) : H a = none := by
  cases q : H a with
  | none => rfl
  | some o =>
    have z := x.lt q
    have z2 := (x a o q)
    exfalso
    cases o with
    | lst xs => obtain ⟨_, _, _, _, e⟩ := z2; rw [n] at e; cases e
    | tup xs => obtain ⟨_, _, _, o, e, _⟩ := z2; rw [n] at e; cases e
    | dK kvs => obtain ⟨_, _, _, _, o, _, _, e, _⟩ := z2; rw [n] at e; cases e
    | dT kvs => obtain ⟨_, _, _, _, o, _, _, e, _⟩ := z2; rw [n] at e; cases e
    | set S n' => obtain ⟨o, _, _, _, e, _⟩ := z2; rw [n] at e; cases e
    | ins C dx fs => obtain ⟨_, _, _, e, _⟩ := z2; rw [n] at e; cases e
    | own y => obtain ⟨_, e⟩ := z2; rw [n] at e; cases e
    | xd fs => obtain ⟨_, ⟨_, _, _, e, _⟩, _⟩ := z2; rw [n] at e; cases e
    | rng lo hi => obtain ⟨_, _, _, e⟩ := z2; rw [n] at e; cases e
    | frz ob u => obtain ⟨e, _⟩ := z2; rw [n] at e; cases e
    | tbl ps => obtain ⟨_, _, _, _, _, _, _, e, _⟩ := z2; rw [n] at e; cases e
    | met f y => have e : B.get? a = some _ := z2; rw [n] at e; cases e
    | ext φ => obtain ⟨_, ⟨_, e⟩, _⟩ := z2; rw [n] at e; cases e
section
variable {P : Program} {w : World} {K : PySem.W.Frag} {mg : Str → Option Value} {base : Heap} {N : List Str} {qual : Str} {scope : Scope} {f : Addr} {cd : Value} {A : Around} {outer : List Env} {s0 : Shared} {H0 : Hp} {E : XK}
end
section
variable {X : Cx} {x : Str} {np cpos pos : Pos} {e₀ : Expr} {rest : List Expr} {C : Addr} {bmB bmN : List Value} {newId Bn B nid inN initId : String} {E : St → XK} {t : TA}
end
section
variable {X : Cx} {CX : CXT} {k : Nat} {x : Str} {ps : List Str} {sp : Sp} {E : St → XK} {p pos : Pos} {e : Expr} {es : List Expr} {t : TA}
end
def excO (C : Addr) (dct : Option Addr) (ea : Addr) : HO := .ext fun h => ∃ ob, h.get? ea = some ob ∧ ob.cls = .ref C ∧ ob.dict = dct ∧ ∃ vs, ob.data = .fields vs
theorem Inv.track {X : Cx} {pins : List (Addr × Obj)} {σ : St} {H : Hp} {s : Shared} {ea : Addr} {o : HO} (I : Inv X pins σ H s) (hn : H ea = none) (h0 : X.s₀.heap.get? ea = none) (hL : ea ≠ X.env.locals) (hc : ∀ x c, X.env.cells.lookup x = some c → c ≠ ea)
    (hp : ∀ p ∈ X.pn ++ pins, p.1 ≠ ea) (hnew : ObjOk X.prog X.w (upd H ea o) s.heap ea o) : Inv X pins σ (upd H ea o) s := by
  have ne : ∀ {b : Addr} {u : HO}, H b = some u → b ≠ ea := fun q z => by rw [z, hn] at q; cases q
  refine ⟨I.ok, I.os, I.bare, ⟨I.base.keep, I.base.slot, fun b ob q n hx => ?_, I.base.there, fun b xs q => ?_, fun b ob u q => ?_, fun b ps q => ?_⟩, I.loc, I.cell, ?_, fun x c q => ?_, fun p q => ?_, fun b u q => ?_, I.len⟩
  · rw [upd_ne (fun z => by rw [z, h0] at q; cases q)]
    exact I.base.free b ob q n hx
  · have z := I.base.tups b xs q
    rw [upd_ne (ne z)]; exact z
  · have z := I.base.frzs b ob u q
    rw [upd_ne (ne z)]; exact z
  · obtain ⟨m, z⟩ := I.base.tbls b ps q
    exact ⟨m, by rw [upd_ne (ne z)]; exact z⟩
  · rw [upd_ne (Ne.symm hL)]; exact I.free
  · rw [upd_ne (hc x c q)]; exact I.freeC x c q
  · obtain ⟨a1, a2, a3, a4, a5⟩ := I.pin p q
    exact ⟨a1, by rw [upd_ne (hp p q)]; exact a2, a3, a4, a5⟩
  · by_cases hb : b = ea
    · subst hb
      rw [upd_same] at q
      cases q
      exact hnew
    · rw [upd_ne hb] at q
      exact (I.hok b u q).stay (fun c v _ z => z) (fun c z => by rw [upd_ne (ne z)]; exact z) fun c xs z => by rw [upd_ne (ne z)]; exact z
def Cx.suite (X : Cx) (ea : Addr) : Cx := { X with A := X.A.mark (some (.ref ea)), calm := false, xe := fun _ _ => False }
theorem Inv.suite {X : Cx} {pins : List (Addr × Obj)} {σ : St} {H : Hp} {s : Shared} (I : Inv X pins σ H s) (ea : Addr) : Inv (X.suite ea) pins σ H s :=
  ⟨⟨I.ok.mod, I.ok.kind, I.ok.glob, I.ok.blt, I.ok.above, I.ok.inj, I.ok.has, I.ok.cab, fun z => (by cases (show false = true from z)), I.ok.frames, I.ok.stk, I.ok.exf, I.ok.bs, I.ok.bsz, I.ok.noex, I.ok.exfs, I.ok.funs, I.ok.frf, I.ok.tb⟩, I.os, I.bare, I.base, I.loc, I.cell, I.free, I.freeC, I.pin, I.hok, I.len⟩
section
variable {P : Program} {w : World} {X : Cx} {x n : Str} {np hpos pos : Pos} {body : List Stmt} {b₀ : Stmt} {suite : List Stmt} {D' : Addr} {tb : (St → XK) → TS} {th : TS} {i : Nat}
end
end L2
namespace L2
open PySem PySem.Spec PyProof.Rows
section
variable {X : Cx}
end
section
variable {P : Program} {w : World} {K : PySem.W.Frag} {mg : Str → Option Value} {base : Heap} {N : List Str} {qual : Str} {scope : Scope} {f : Addr} {cd : Value} {A : Around} {outer : List Env} {s0 : Shared} {H0 : Hp} {E : XK}
end
end L2
namespace PM
open PySem L2
inductive D where
  | non | bl (b : Bool) | int (i : Int) | str (x : Str) | tup (l : List D) | lst (l : List D) | dct (ks : List Key) (l : List D) | scr (l : List Int) | exc (c : Nat) | fd (ks : List Key) (l : List D) | obj (c : Nat) (ks : List Str) (l : List D)
structure Kx where
  f : W.Frag
  ca : Nat → Addr
  /-- the name of the attribute that a refusal has -/
  an : Nat → Str
def XA (K : Kx) (F : Hp) (c : Nat) (dct : Option Addr) : Prop := if c < 16 then dct = none else ∃ dx, dct = some dx ∧ F dx = some (.xd [(K.an c, .int (((c / 16 : Nat) : Int) - 1))])
section
variable (K : Kx)
mutual
/-- in the frozen heap F the value stands for the datum -/
def Rep (F : Hp) : D → V → Prop
  | .non, v => v = .non
  | .bl b, v => v = .bl b
  | .int i, v => v = .int i
  | .str x, v => v = .str x
  | .scr l, v => ∃ a, v = .ref a ∧ SqL K.f F a (l.map V.int)
  | .exc c, v => ∃ a dct, v = .ref a ∧ F a = some (excO (K.ca c) dct a) ∧ XA K F c dct
  | .tup l, v => ∃ a vs, v = .ref a ∧ F a = some (.tup vs) ∧ RepL F l vs
  | .fd ks l, v => ∃ a o kvs, v = .ref a ∧ F a = some (.frz o (.dK kvs)) ∧ kvs.map (·.1) = ks ∧ RepL F l (kvs.map (·.2))
  | .obj c ks l, v => ∃ a dx fs, v = .ref a ∧ F a = some (.ins (K.ca c) dx fs) ∧ fs.map (·.1) = ks ∧ RepL F l (fs.map (·.2))
  | .lst l, v => ∃ a vs, v = .ref a ∧ Rd F a (.lst vs) ∧ RepL F l vs
  | .dct ks l, v => ∃ a kvs, v = .ref a ∧ F a = some (.dK kvs) ∧ kvs.map (·.1) = ks ∧ RepL F l (kvs.map (·.2))
def RepL (F : Hp) : List D → List V → Prop
  | [], vs => vs = []
  | d :: l, vs => ∃ v r, vs = v :: r ∧ Rep F d v ∧ RepL F l r
end
end
noncomputable def ifC {α : Type} (p : Prop) (a b : α) : α := @ite α p (Classical.propDecidable p) a b
@[simp] theorem ifC_pos {α : Type} {p : Prop} {a b : α} (h : p) : ifC p a b = a := if_pos h
theorem ifC_neg {α : Type} {p : Prop} {a b : α} (h : ¬ p) : ifC p a b = b := if_neg h
structure Xc where
  c : Nat
inductive R (α : Type) where
  | no | ok (a : α) | ex (x : Xc)
namespace R
def bind {α β : Type} : R α → (α → R β) → R β
  | .no, _ => .no
  | .ok a, f => f a
  | .ex x, _ => .ex x
@[simp] theorem bind_ok {α β : Type} (a : α) (f : α → R β) : (R.ok a).bind f = f a := rfl
@[simp] theorem bind_no {α β : Type} (f : α → R β) : (R.no : R α).bind f = .no := rfl
@[simp] theorem bind_ex {α β : Type} (x : Xc) (f : α → R β) : (R.ex x : R α).bind f = .ex x := rfl
end R
inductive Sl where
  | no | v (d : D) | o (d : D) | l (d : D) | p (ll : List (List Int))
abbrev En := List Sl
inductive O where
  | no | nx (δ : En) | rt (d : D) | ro (d : D) | bk (δ : En) | ct (δ : En) | ex (δ : En) (x : Xc)
structure Ext (F H F' H' : Hp) : Prop where
  ff : Same F F'
  hh : Same H H'
  fh : Same F' H'
  nw : ∀ p o, F p = none → H p = some o → F' p = none
theorem Ext.refl {F H : Hp} (s : Same F H) : Ext F H F H := ⟨.refl _, .refl _, s, fun _ _ h _ => h⟩
theorem Ext.trans {F H F1 H1 F2 H2 : Hp} (a : Ext F H F1 H1) (b : Ext F1 H1 F2 H2) : Ext F H F2 H2 :=
  ⟨a.ff.trans b.ff, a.hh.trans b.hh, b.fh, fun p o h1 h2 => b.nw p o (a.nw p o h1 h2) (a.hh p o h2)⟩
theorem Ext.new {F H : Hp} {p : Addr} {o : HO} (s : Same F H) (h : H p = none) : Ext F H (upd F p o) (upd H p o) := by
  have hf := s.free h
  refine ⟨Same.upd hf, Same.upd h, fun b u q => ?_, fun q u h1 h2 => ?_⟩
  · by_cases e : b = p
    · subst e; rw [upd_same] at q ⊢; exact q
    · rw [upd_ne e] at q ⊢; exact s _ _ q
  · rw [upd_ne (ne_of_none h2 h)]; exact h1
theorem Ext.newO {F H : Hp} {p : Addr} {o : HO} (s : Same F H) (h : H p = none) : Ext F H F (upd H p o) := by
  refine ⟨.refl _, Same.upd h, s.trans (Same.upd h), fun q u h1 h2 => h1⟩
theorem Same.rd {H H' : Hp} {a : Addr} {u : HO} (e : Same H H') (h : Rd H a u) : Rd H' a u := h.elim (fun h => .inl (e _ _ h)) fun ⟨o, h⟩ => .inr ⟨o, e _ _ h⟩
section
variable {K : Kx} {F F' H H' : Hp}
theorem XA.mono {c : Nat} {dct : Option Addr} (h : XA K F c dct) (e : Same F F') : XA K F' c dct := by
  unfold XA at h ⊢
  split
  · rename_i hc; rw [if_pos hc] at h; exact h
  · rename_i hc
    rw [if_neg hc] at h
    obtain ⟨dx, h1, h2⟩ := h
    exact ⟨dx, h1, e _ _ h2⟩
mutual
theorem Rep.mono (e : Same F F') : ∀ (d : D) {v : V}, Rep K F d v → Rep K F' d v
  | .non, v, h => by simpa only [Rep] using h
  | .bl b, v, h => by simpa only [Rep] using h
  | .int b, v, h => by simpa only [Rep] using h
  | .str b, v, h => by simpa only [Rep] using h
  | .exc c, v, h => by
    simp only [Rep] at h ⊢
    obtain ⟨a, dct, h1, h2, h3⟩ := h
    exact ⟨a, dct, h1, e _ _ h2, h3.mono e⟩
  | .fd ks l, v, h => by
    simp only [Rep] at h ⊢
    obtain ⟨a, o, vs, h1, h2, h0, h3⟩ := h
    exact ⟨a, o, vs, h1, e _ _ h2, h0, RepL.mono e l h3⟩
  | .obj c ks l, v, h => by
    simp only [Rep] at h ⊢
    obtain ⟨a, o, vs, h1, h2, h0, h3⟩ := h
    exact ⟨a, o, vs, h1, e _ _ h2, h0, RepL.mono e l h3⟩
  | .scr l, v, h => by
    simp only [Rep] at h ⊢
    obtain ⟨a, h1, h2⟩ := h
    exact ⟨a, h1, e.seq h2⟩
  | .tup l, v, h => by
    simp only [Rep] at h ⊢
    obtain ⟨a, vs, h1, h2, h3⟩ := h
    exact ⟨a, vs, h1, e _ _ h2, RepL.mono e l h3⟩
  | .lst l, v, h => by
    simp only [Rep] at h ⊢
    obtain ⟨a, vs, h1, h2, h3⟩ := h
    exact ⟨a, vs, h1, PM.Same.rd e h2, RepL.mono e l h3⟩
  | .dct ks l, v, h => by
    simp only [Rep] at h ⊢
    obtain ⟨a, vs, h1, h2, h0, h3⟩ := h
    exact ⟨a, vs, h1, e _ _ h2, h0, RepL.mono e l h3⟩
theorem RepL.mono (e : Same F F') : ∀ (l : List D) {vs : List V}, RepL K F l vs → RepL K F' l vs
  | [], vs, h => by simpa only [RepL] using h
  | d :: l, vs, h => by
    simp only [RepL] at h ⊢
    obtain ⟨v, r, h1, h2, h3⟩ := h
    exact ⟨v, r, h1, Rep.mono e d h2, RepL.mono e l h3⟩
end
theorem RepL.length : ∀ {l : List D} {vs : List V}, RepL K F l vs → vs.length = l.length
  | [], vs, h => by simp only [RepL] at h; subst h; rfl
  | d :: l, vs, h => by
    simp only [RepL] at h
    obtain ⟨v, r, rfl, _, h3⟩ := h
    simp [RepL.length h3]
theorem RepL.get : ∀ {l : List D} {vs : List V} {i : Nat} {d : D}, RepL K F l vs → l[i]? = some d → ∃ v, vs[i]? = some v ∧ Rep K F d v
  | [], vs, i, d, h, e => by simp at e
  | x :: l, vs, 0, d, h, e => by
    simp only [RepL] at h
    obtain ⟨v, r, rfl, h2, h3⟩ := h
    simp at e; subst e
    exact ⟨v, rfl, h2⟩
  | x :: l, vs, i + 1, d, h, e => by
    simp only [RepL] at h
    obtain ⟨v, r, rfl, h2, h3⟩ := h
    obtain ⟨u, h4, h5⟩ := RepL.get h3 (i := i) (d := d) (by simpa using e)
    exact ⟨u, by simpa using h4, h5⟩
theorem RepL.nil : RepL K F [] [] := by simp only [RepL]
theorem RepL.cons {d : D} {l : List D} {v : V} {vs : List V} (h1 : Rep K F d v) (h2 : RepL K F l vs) : RepL K F (d :: l) (v :: vs) := by
  simp only [RepL]; exact ⟨v, vs, rfl, h1, h2⟩
theorem RepL.append : ∀ {l : List D} {vs : List V} {l' : List D} {vs' : List V}, RepL K F l vs → RepL K F l' vs' → RepL K F (l ++ l') (vs ++ vs')
  | [], vs, l', vs', h, h' => by simp only [RepL] at h; subst h; exact h'
  | d :: l, vs, l', vs', h, h' => by
    simp only [RepL] at h
    obtain ⟨v, r, rfl, h2, h3⟩ := h
    exact .cons h2 (RepL.append h3 h')
theorem RepL.drop : ∀ {l : List D} {vs : List V} (n : Nat), RepL K F l vs → RepL K F (l.drop n) (vs.drop n)
  | l, vs, 0, h => h
  | [], vs, n + 1, h => by simp only [RepL] at h; subst h; exact .nil
  | d :: l, vs, n + 1, h => by
    simp only [RepL] at h
    obtain ⟨v, r, rfl, h2, h3⟩ := h
    exact RepL.drop n h3
theorem RepL.take : ∀ {l : List D} {vs : List V} (n : Nat), RepL K F l vs → RepL K F (l.take n) (vs.take n)
  | l, vs, 0, h => by simpa using RepL.nil
  | [], vs, n + 1, h => by simp only [RepL] at h; subst h; exact .nil
  | d :: l, vs, n + 1, h => by
    simp only [RepL] at h
    obtain ⟨v, r, rfl, h2, h3⟩ := h
    exact .cons h2 (RepL.take n h3)
theorem RepL.set : ∀ {l : List D} {vs : List V} {d : D} {v : V} (i : Nat), RepL K F l vs → Rep K F d v → RepL K F (l.set i d) (vs.set i v)
  | [], vs, d, v, i, h, _ => by simp only [RepL] at h; subst h; exact .nil
  | x :: l, vs, d, v, 0, h, h' => by
    simp only [RepL] at h
    obtain ⟨u, r, rfl, h2, h3⟩ := h
    exact .cons h' h3
  | x :: l, vs, d, v, i + 1, h, h' => by
    simp only [RepL] at h
    obtain ⟨u, r, rfl, h2, h3⟩ := h
    exact .cons h2 (RepL.set i h3 h')
theorem RepL.ints {ns : List Int} : RepL K F (ns.map .int) (ns.map .int) := by
  induction ns with
  | nil => exact .nil
  | cons a l ih => exact .cons rfl ih
end
section
variable (K : Kx)
def Top (F H : Hp) : D → V → Prop
  | .lst l, v => ∃ a vs, v = .ref a ∧ Rd H a (.lst vs) ∧ RepL K F l vs
  | .dct ks l, v => ∃ a kvs, v = .ref a ∧ H a = some (.dK kvs) ∧ kvs.map (·.1) = ks ∧ RepL K F l (kvs.map (·.2))
  | d, v => Rep K F d v
def Own (F H : Hp) : D → Addr → Prop
  | .lst l, a => ∃ vs, H a = some (.lst vs) ∧ RepL K F l vs
  | .dct ks l, a => ∃ kvs, H a = some (.dK kvs) ∧ kvs.map (·.1) = ks ∧ RepL K F l (kvs.map (·.2))
  | _, _ => False
structure Tab (H : Hp) (a : Addr) (bs : List Addr) (ll : List (List Int)) : Prop where
  top : H a = some (.lst (bs.map .ref))
  len : bs.length = ll.length
  row : ∀ (i : Nat) (b : Addr) (l : List Int), bs[i]? = some b → ll[i]? = some l → H b = some (.lst (l.map .int))
  nd : (a :: bs).Nodup
def SlOk (H0 F H : Hp) : Option Sl → Option (Option V) → Prop
  | some (.v d), s => ∃ u, s = some (some u) ∧ Rep K F d u
  | some (.o d), s => ∃ a, s = some (some (.ref a)) ∧ H0 a = none ∧ F a = none ∧ Own K F H d a
  | some (.l d), s => ∃ a, s = some (some (.ref a)) ∧ H0 a = none ∧ F a = none ∧ Own K F H d a
  | some (.p ll), s => ∃ a bs, s = some (some (.ref a)) ∧ Tab H a bs ll ∧ ∀ b ∈ a :: bs, H0 b = none ∧ F b = none
  | _, _ => True
end
def Sl.own : Option Sl → Bool
  | some (.o _) => true
  | some (.l _) => true
  | some (.p _) => true
  | _ => false
structure EnvOk (K : Kx) (Λ : List (Nat × Addr × HO)) (F0 H0 F H : Hp) (σ : St) (δ : En) : Prop where
  ext : Ext F0 H0 F H
  len : σ.length = δ.length
  slot : ∀ i : Nat, SlOk K H0 F H δ[i]? σ[i]?
  dist : ∀ (i j : Nat) (a : Addr), i ≠ j → Sl.own δ[i]? = true → Sl.own δ[j]? = true → σ[i]? = some (some (.ref a)) → σ[j]? = some (some (.ref a)) → False
  lent : ∀ x ∈ Λ, (∃ d, δ[x.1]? = some (.l d)) ∧ σ[x.1]? = some (some (.ref x.2.1)) ∧ H x.2.1 = some x.2.2
  tabs : ∀ (i : Nat) (ll : List (List Int)) (a : Addr) (vs : List V), δ[i]? = some (.p ll) → σ[i]? = some (some (.ref a)) → H a = some (.lst vs) → (∀ (j : Nat) (b : Addr), j ≠ i → Sl.own δ[j]? = true → σ[j]? = some (some (.ref b)) → V.ref b ∉ vs) ∧ ∀ (j : Nat) (ll' : List (List Int)), δ[j]? = some (.p ll') → j = i
section
variable {K : Kx} {Λ : List (Nat × Addr × HO)} {F0 H0 F H F' H' F1 H1 : Hp} {σ : St} {δ : En}
theorem Own.mono (e1 : Same F F') (e2 : Same H H') : ∀ {d : D} {a : Addr}, Own K F H d a → Own K F' H' d a
  | .lst l, a, h => let ⟨vs, h1, h2⟩ := h; ⟨vs, e2 _ _ h1, h2.mono e1⟩
  | .dct ks l, a, h => let ⟨vs, h1, h0, h2⟩ := h; ⟨vs, e2 _ _ h1, h0, h2.mono e1⟩
  | .non, _, h => h.elim
  | .bl _, _, h => h.elim
  | .int _, _, h => h.elim
  | .str _, _, h => h.elim
  | .tup _, _, h => h.elim
  | .scr _, _, h => h.elim
  | .exc _, _, h => h.elim
  | .fd _ _, _, h => h.elim
  | .obj _ _ _, _, h => h.elim
theorem Own.obj : ∀ {d : D} {a : Addr}, Own K F H d a → ∃ o, H a = some o
  | .lst l, a, h => let ⟨vs, h1, h2⟩ := h; ⟨_, h1⟩
  | .dct ks l, a, h => let ⟨vs, h1, h2⟩ := h; ⟨_, h1⟩
  | .non, _, h => h.elim
  | .bl _, _, h => h.elim
  | .int _, _, h => h.elim
  | .str _, _, h => h.elim
  | .tup _, _, h => h.elim
  | .scr _, _, h => h.elim
  | .exc _, _, h => h.elim
  | .fd _ _, _, h => h.elim
  | .obj _ _ _, _, h => h.elim
theorem Own.at (e : H' a = H a) : ∀ {d : D}, Own K F H d a → Own K F H' d a
  | .lst l, h => let ⟨vs, h1, h2⟩ := h; ⟨vs, e.trans h1, h2⟩
  | .dct ks l, h => let ⟨vs, h1, h0, h2⟩ := h; ⟨vs, e.trans h1, h0, h2⟩
  | .non, h => h.elim
  | .bl _, h => h.elim
  | .int _, h => h.elim
  | .str _, h => h.elim
  | .tup _, h => h.elim
  | .scr _, h => h.elim
  | .exc _, h => h.elim
  | .fd _ _, h => h.elim
  | .obj _ _ _, h => h.elim
theorem Rep.top (s : Same F H) : ∀ {d : D} {v : V}, Rep K F d v → Top K F H d v
  | .lst l, v, h => by
    simp only [Rep] at h
    obtain ⟨a, vs, h1, h2, h3⟩ := h
    exact ⟨a, vs, h1, PM.Same.rd s h2, h3⟩
  | .dct ks l, v, h => by
    simp only [Rep] at h
    obtain ⟨a, vs, h1, h2, h3⟩ := h
    exact ⟨a, vs, h1, s _ _ h2, h3⟩
  | .non, _, h => h
  | .bl _, _, h => h
  | .int _, _, h => h
  | .str _, _, h => h
  | .tup _, _, h => h
  | .scr _, _, h => h
  | .exc _, _, h => h
  | .fd _ _, _, h => h
  | .obj _ _ _, _, h => h
theorem Own.top : ∀ {d : D} {a : Addr}, Own K F H d a → Top K F H d (.ref a)
  | .lst l, a, h => let ⟨vs, h1, h2⟩ := h; ⟨a, vs, rfl, .inl h1, h2⟩
  | .dct ks l, a, h => let ⟨vs, h1, h2⟩ := h; ⟨a, vs, rfl, h1, h2⟩
  | .non, _, h => h.elim
  | .bl _, _, h => h.elim
  | .int _, _, h => h.elim
  | .str _, _, h => h.elim
  | .tup _, _, h => h.elim
  | .scr _, _, h => h.elim
  | .exc _, _, h => h.elim
  | .fd _ _, _, h => h.elim
  | .obj _ _ _, _, h => h.elim
theorem Top.mono (e1 : Same F F') (e2 : Same H H') : ∀ {d : D} {v : V}, Top K F H d v → Top K F' H' d v
  | .lst l, v, h => let ⟨a, vs, h1, h2, h3⟩ := h; ⟨a, vs, h1, PM.Same.rd e2 h2, h3.mono e1⟩
  | .dct ks l, v, h => let ⟨a, vs, h1, h2, h0, h3⟩ := h; ⟨a, vs, h1, e2 _ _ h2, h0, h3.mono e1⟩
  | .non, _, h => h
  | .bl _, _, h => h
  | .int _, _, h => h
  | .str _, _, h => h
  | .tup l, v, h => Rep.mono e1 (.tup l) h
  | .scr l, v, h => Rep.mono e1 (.scr l) h
  | .exc l, v, h => Rep.mono e1 (.exc l) h
  | .fd ks l, v, h => Rep.mono e1 (.fd ks l) h
  | .obj c ks l, v, h => Rep.mono e1 (.obj c ks l) h
theorem Own.freeze {p : Addr} {d : D} (x : Ext F H F' H') (h0 : F' p = none) (h1 : H p = none) (o : Own K F' H' d p) : ∃ F'', Ext F H F'' H' ∧ Same F' F'' ∧ Rep K F'' d (.ref p) := by
  obtain ⟨u, hu⟩ := o.obj
  have hs : Same F' (upd F' p u) := Same.upd h0
  refine ⟨upd F' p u, ⟨x.ff.trans hs, x.hh, fun b w q => ?_, fun q w h2 h3 => ?_⟩, hs, ?_⟩
  · by_cases e : b = p
    · subst e; rw [upd_same] at q; cases q; exact hu
    · rw [upd_ne e] at q; exact x.fh _ _ q
  · rw [upd_ne (ne_of_none h3 h1)]; exact x.nw q w h2 h3
  · cases d with
    | lst l =>
      obtain ⟨vs, h2, h3⟩ := o
      rw [hu] at h2; cases h2
      simp only [Rep]
      exact ⟨p, vs, rfl, .inl upd_same, h3.mono hs⟩
    | dct ks l =>
      obtain ⟨vs, h2, h3, h4⟩ := o
      rw [hu] at h2; cases h2
      simp only [Rep]
      exact ⟨p, vs, rfl, upd_same, h3, h4.mono hs⟩
    | _ => exact o.elim
theorem Tab.mono {a : Addr} {bs : List Addr} {ll : List (List Int)} (e : Same H H') (t : Tab H a bs ll) : Tab H' a bs ll := ⟨e _ _ t.top, t.len, fun i b l h1 h2 => e _ _ (t.row i b l h1 h2), t.nd⟩
theorem Tab.obj {a : Addr} {bs : List Addr} {ll : List (List Int)} (t : Tab H a bs ll) : ∀ b ∈ a :: bs, ∃ o, H b = some o := fun b hb => by
  rcases List.mem_cons.mp hb with rfl | hb
  · exact ⟨_, t.top⟩
  · obtain ⟨i, hi, e⟩ := List.getElem_of_mem hb
    have hl : i < ll.length := by rw [← t.len]; exact hi
    exact ⟨_, t.row i b ll[i] (by rw [List.getElem?_eq_getElem hi, e]) (List.getElem?_eq_getElem hl)⟩
theorem Tab.at' {a : Addr} {bs : List Addr} {ll : List (List Int)} (t : Tab H a bs ll) (e : ∀ b ∈ a :: bs, H' b = H b) : Tab H' a bs ll :=
  ⟨(e a (by simp)).trans t.top, t.len, fun i b l h1 h2 => (e b (List.mem_cons_of_mem _ (List.mem_of_getElem? h1))).trans (t.row i b l h1 h2), t.nd⟩
theorem refs_mem {bs : List Addr} {b : Addr} : V.ref b ∈ bs.map V.ref ↔ b ∈ bs := by
  constructor
  · intro h
    obtain ⟨c, hc, e⟩ := List.mem_map.mp h
    cases e; exact hc
  · exact fun h => List.mem_map.mpr ⟨b, h, rfl⟩
theorem SlOk.mono (e : Ext F H F' H') : ∀ {x : Option Sl} {s : Option (Option V)}, SlOk K H0 F H x s → SlOk K H0 F' H' x s
  | some (.v d), s, h => let ⟨u, h1, h2⟩ := h; ⟨u, h1, Rep.mono e.ff d h2⟩
  | some (.o d), s, h => let ⟨a, h1, h2, h3, h4⟩ := h; let ⟨o, ho⟩ := h4.obj; ⟨a, h1, h2, e.nw a o h3 ho, h4.mono e.ff e.hh⟩
  | some (.l d), s, h => let ⟨a, h1, h2, h3, h4⟩ := h; let ⟨o, ho⟩ := h4.obj; ⟨a, h1, h2, e.nw a o h3 ho, h4.mono e.ff e.hh⟩
  | some (.p ll), s, h => let ⟨a, bs, h1, h2, h3⟩ := h; ⟨a, bs, h1, h2.mono e.hh, fun b hb => let ⟨o, ho⟩ := h2.obj b hb; ⟨(h3 b hb).1, e.nw b o (h3 b hb).2 ho⟩⟩
  | some .no, _, _ => trivial
  | none, _, _ => trivial
theorem EnvOk.tab (I : EnvOk K Λ F0 H0 F H σ δ) {i : Nat} {ll : List (List Int)} (hx : δ[i]? = some (.p ll)) : ∃ a bs, σ[i]? = some (some (.ref a)) ∧ Tab H a bs ll ∧ (∀ b ∈ a :: bs, H0 b = none ∧ F b = none) ∧ (∀ (j : Nat) (b : Addr), j ≠ i → Sl.own δ[j]? = true → σ[j]? = some (some (.ref b)) → b ∉ a :: bs) ∧ ∀ (j : Nat) (ll' : List (List Int)), δ[j]? = some (.p ll') → j = i := by
  have z := I.slot i
  rw [hx] at z
  obtain ⟨a, bs, h1, h2, h3⟩ := z
  obtain ⟨t1, t2⟩ := I.tabs i ll a _ hx h1 h2.top
  refine ⟨a, bs, h1, h2, h3, fun j b hj ho hs hb => ?_, t2⟩
  rcases List.mem_cons.mp hb with e | hb
  · subst e
    exact I.dist i j b (Ne.symm hj) (by rw [hx]; rfl) ho h1 hs
  · exact t1 j b hj ho hs (refs_mem.mpr hb)
theorem EnvOk.tabsOf {δ' : En} {σ' : St} (I : EnvOk K Λ F0 H0 F H σ δ) (h1 : ∀ (i : Nat) (ll : List (List Int)), δ'[i]? = some (.p ll) → δ[i]? = some (.p ll) ∧ σ'[i]? = σ[i]?) (h2 : ∀ (i : Nat) (a : Addr) (ll : List (List Int)), δ[i]? = some (.p ll) → σ[i]? = some (some (.ref a)) → H' a = H a)
    (h3 : ∀ (i j : Nat) (ll : List (List Int)) (a b : Addr) (bs : List Addr), δ[i]? = some (.p ll) → σ[i]? = some (some (.ref a)) → Tab H a bs ll → j ≠ i → Sl.own δ'[j]? = true → σ'[j]? = some (some (.ref b)) → (Sl.own δ[j]? = true ∧ σ[j]? = some (some (.ref b))) ∨ b ∉ bs) :
    ∀ (i : Nat) (ll : List (List Int)) (a : Addr) (vs : List V), δ'[i]? = some (.p ll) → σ'[i]? = some (some (.ref a)) → H' a = some (.lst vs) → (∀ (j : Nat) (b : Addr), j ≠ i → Sl.own δ'[j]? = true → σ'[j]? = some (some (.ref b)) → V.ref b ∉ vs) ∧ ∀ (j : Nat) (ll' : List (List Int)), δ'[j]? = some (.p ll') → j = i := by
  intro i ll a vs g1 g2 g3
  obtain ⟨d1, d2⟩ := h1 i ll g1
  rw [d2] at g2
  obtain ⟨a', bs, t1, t2, t3, t4, t5⟩ := I.tab d1
  rw [g2] at t1; cases t1
  rw [h2 i a ll d1 g2, t2.top] at g3; cases g3
  refine ⟨fun j b hj ho hs hb => ?_, fun j ll' hj => t5 j ll' (h1 j ll' hj).1⟩
  rcases h3 i j ll a b bs d1 g2 t2 hj ho hs with ⟨o1, o2⟩ | o
  · exact t4 j b hj o1 o2 (List.mem_cons_of_mem _ (refs_mem.mp hb))
  · exact o (refs_mem.mp hb)
theorem EnvOk.grow (I : EnvOk K Λ F0 H0 F H σ δ) (e : Ext F H F' H') : EnvOk K Λ F0 H0 F' H' σ δ :=
  ⟨I.ext.trans e, I.len, fun i => (I.slot i).mono e, I.dist, fun x hx => let ⟨h1, h2, h3⟩ := I.lent x hx; ⟨h1, h2, e.hh _ _ h3⟩, I.tabsOf (fun i ll h => ⟨h, rfl⟩) (fun i a ll h1 h2 => by
    obtain ⟨a', bs, t1, t2, _⟩ := I.tab h1
    rw [h2] at t1; cases t1
    rw [t2.top, e.hh _ _ t2.top]) fun i j ll a b bs _ _ _ _ ho hs => .inl ⟨ho, hs⟩⟩
theorem EnvOk.same (I : EnvOk K Λ F0 H0 F H σ δ) : Same F H := I.ext.fh
theorem Ext.down (a : Ext F0 H0 F1 H1) (hh : Same H1 H') (b : Ext F1 H0 F' H') : Ext F0 H0 F' H' :=
  ⟨a.ff.trans b.ff, b.hh, b.fh, fun p o h1 h2 => b.nw p o (a.nw p o h1 h2) h2⟩
theorem Ext.base (a : Ext F0 H0 F1 H1) (b : Ext F1 H0 F' H') : Ext F0 H0 F' H' :=
  ⟨a.ff.trans b.ff, b.hh, b.fh, fun p o h1 h2 => b.nw p o (a.nw p o h1 h2) h2⟩
theorem EnvOk.up (I : EnvOk K Λ F0 H0 F H σ δ) : EnvOk K Λ F H0 F H σ δ :=
  ⟨⟨.refl _, I.ext.hh, I.ext.fh, fun p o h1 h2 => h1⟩, I.len, I.slot, I.dist, I.lent, I.tabs⟩
theorem EnvOk.down (a : Ext F0 H0 F1 H1) (I : EnvOk K Λ F1 H0 F H σ δ) : EnvOk K Λ F0 H0 F H σ δ :=
  ⟨a.base I.ext, I.len, I.slot, I.dist, I.lent, I.tabs⟩
theorem EnvOk.put {i : Nat} {d : D} {v : V} (I : EnvOk K Λ F0 H0 F H σ δ) (hl : ∃ x, δ[i]? = some x ∧ ∀ d, x ≠ .l d) (r : Rep K F d v) : EnvOk K Λ F0 H0 F H (σ.set i (some v)) (δ.set i (.v d)) := by
  obtain ⟨x, hx, hn⟩ := hl
  have hi : i < δ.length := (List.getElem?_eq_some_iff.mp hx).1
  have hi' : i < σ.length := by rw [I.len]; exact hi
  refine ⟨I.ext, by simp [I.len], fun j => ?_, fun j k a hjk h1 h2 h3 h4 => ?_, fun y hy => ?_, I.tabsOf (fun k ll h => by
      by_cases e : i = k
      · subst e; rw [List.getElem?_set_self hi] at h; cases h
      · rw [List.getElem?_set_ne e] at h; exact ⟨h, List.getElem?_set_ne e⟩) (fun _ _ _ _ _ => rfl) fun k j ll a b bs _ _ _ _ ho hs => .inl (by
      by_cases e : i = j
      · subst e; rw [List.getElem?_set_self hi] at ho; cases ho
      · rw [List.getElem?_set_ne e] at ho hs; exact ⟨ho, hs⟩)⟩
  · by_cases e : i = j
    · subst e
      rw [List.getElem?_set_self hi, List.getElem?_set_self hi']
      exact ⟨v, rfl, r⟩
    · rw [List.getElem?_set_ne e, List.getElem?_set_ne e]
      exact I.slot j
  · have ne : ∀ k : Nat, Sl.own (δ.set i (.v d))[k]? = true → i ≠ k := by
      rintro k h rfl
      rw [List.getElem?_set_self hi] at h
      cases h
    have n1 := ne j h1
    have n2 := ne k h2
    rw [List.getElem?_set_ne n1] at h1 h3
    rw [List.getElem?_set_ne n2] at h2 h4
    exact I.dist j k a hjk h1 h2 h3 h4
  · obtain ⟨⟨d', h1⟩, h2, h3⟩ := I.lent y hy
    have n : i ≠ y.1 := by
      intro e
      rw [← e, hx] at h1
      exact hn d' (Option.some.inj h1)
    exact ⟨⟨d', by rw [List.getElem?_set_ne n]; exact h1⟩, by rw [List.getElem?_set_ne n]; exact h2, h3⟩
theorem EnvOk.putO {i : Nat} {d : D} {p : Addr} (I : EnvOk K Λ F0 H0 F H σ δ) (hl : ∃ x, δ[i]? = some x ∧ ∀ d, x ≠ .l d) (e : Ext F H F' H') (h0 : F' p = none) (h1 : H p = none) (o : Own K F' H' d p) :
    EnvOk K Λ F0 H0 F' H' (σ.set i (some (.ref p))) (δ.set i (.o d)) := by
  obtain ⟨x, hx, hn⟩ := hl
  have hi : i < δ.length := (List.getElem?_eq_some_iff.mp hx).1
  have hi' : i < σ.length := by rw [I.len]; exact hi
  have fresh : ∀ k : Nat, Sl.own δ[k]? = true → σ[k]? ≠ some (some (V.ref p)) := fun k hk e => by
    have z := I.slot k
    cases q : δ[k]? with
    | none => rw [q] at hk; cases hk
    | some y =>
      rw [q] at hk z
      cases y with
      | no => cases hk
      | v d => cases hk
      | o d =>
        obtain ⟨a, z1, _, _, z4⟩ := z
        rw [e] at z1; cases z1
        obtain ⟨u, hu⟩ := z4.obj
        rw [h1] at hu; cases hu
      | l d =>
        obtain ⟨a, z1, _, _, z4⟩ := z
        rw [e] at z1; cases z1
        obtain ⟨u, hu⟩ := z4.obj
        rw [h1] at hu; cases hu
      | p ll =>
        obtain ⟨a, bs, z1, z2, _⟩ := z
        rw [e] at z1; cases z1
        rw [z2.top] at h1; cases h1
  have J := I.grow e
  refine ⟨J.ext, by simp [I.len], fun j => ?_, fun j k a hjk g1 g2 g3 g4 => ?_, fun y hy => ?_, I.tabsOf (fun k ll h => by
      by_cases e : i = k
      · subst e; rw [List.getElem?_set_self hi] at h; cases h
      · rw [List.getElem?_set_ne e] at h; exact ⟨h, List.getElem?_set_ne e⟩) (fun k a ll g1 g2 => by
      obtain ⟨a', bs, t1, t2, _⟩ := I.tab g1
      rw [g2] at t1; cases t1
      rw [t2.top, e.hh _ _ t2.top]) fun k j ll a b bs _ _ t _ ho hs => by
      by_cases e : i = j
      · subst e
        rw [List.getElem?_set_self hi'] at hs
        cases hs
        refine .inr fun hb => ?_
        obtain ⟨u, hu⟩ := t.obj p (List.mem_cons_of_mem _ hb)
        rw [h1] at hu; cases hu
      · rw [List.getElem?_set_ne e] at ho hs; exact .inl ⟨ho, hs⟩⟩
  · by_cases e : i = j
    · subst e
      rw [List.getElem?_set_self hi, List.getElem?_set_self hi']
      exact ⟨p, rfl, I.ext.hh.free h1, h0, o⟩
    · rw [List.getElem?_set_ne e, List.getElem?_set_ne e]
      exact J.slot j
  · by_cases e1 : i = j
    · subst e1
      rw [List.getElem?_set_self hi'] at g3
      cases g3
      rw [List.getElem?_set_ne hjk] at g2 g4
      exact fresh k g2 g4
    · by_cases e2 : i = k
      · subst e2
        rw [List.getElem?_set_self hi'] at g4
        cases g4
        rw [List.getElem?_set_ne e1] at g1 g3
        exact fresh j g1 g3
      · rw [List.getElem?_set_ne e1] at g1 g3
        rw [List.getElem?_set_ne e2] at g2 g4
        exact I.dist j k a hjk g1 g2 g3 g4
  · obtain ⟨⟨d', g1⟩, g2, g3⟩ := J.lent y hy
    have n : i ≠ y.1 := by
      intro e
      rw [← e, hx] at g1
      exact hn d' (Option.some.inj g1)
    exact ⟨⟨d', by rw [List.getElem?_set_ne n]; exact g1⟩, by rw [List.getElem?_set_ne n]; exact g2, g3⟩
theorem EnvOk.chg {i : Nat} {d d' : D} {a : Addr} {u : HO} (I : EnvOk K Λ F0 H0 F H σ δ) (hx : δ[i]? = some (.o d)) (ha : σ[i]? = some (some (.ref a))) (o : Own K F (upd H a u) d' a) :
    EnvOk K Λ F0 H0 F (upd H a u) σ (δ.set i (.o d')) := by
  have hi : i < δ.length := (List.getElem?_eq_some_iff.mp hx).1
  have z := I.slot i
  rw [hx] at z
  obtain ⟨a', z1, z2, z3, z4⟩ := z
  rw [ha] at z1; cases z1
  have oth : ∀ (k : Nat) (b : Addr), i ≠ k → Sl.own δ[k]? = true → σ[k]? = some (some (.ref b)) → b ≠ a := fun k b hk h1 h2 e => by
    subst e
    exact I.dist i k b hk (by rw [hx]; rfl) h1 ha h2
  refine ⟨⟨I.ext.ff, fun b w q => ?_, fun b w q => ?_, I.ext.nw⟩, by simp [I.len], fun j => ?_, fun j k b hjk g1 g2 g3 g4 => ?_, fun y hy => ?_, I.tabsOf (fun k ll h => by
      by_cases e : i = k
      · subst e; rw [List.getElem?_set_self hi] at h; cases h
      · rw [List.getElem?_set_ne e] at h; exact ⟨h, rfl⟩) (fun k r ll g1 g2 => upd_ne (by
      by_cases e : i = k
      · subst e; rw [hx] at g1; cases g1
      · exact oth k r e (by rw [g1]; rfl) g2)) fun k j ll r b bs _ _ _ _ ho hs => .inl (by
      by_cases e : i = j
      · subst e; exact ⟨by rw [hx]; rfl, hs⟩
      · rw [List.getElem?_set_ne e] at ho; exact ⟨ho, hs⟩)⟩
  · rw [upd_ne (ne_of_none q z2)]; exact I.ext.hh b w q
  · rw [upd_ne (ne_of_none q z3)]; exact I.ext.fh b w q
  · by_cases e : i = j
    · subst e
      rw [List.getElem?_set_self hi]
      exact ⟨a, ha, z2, z3, o⟩
    · rw [List.getElem?_set_ne e]
      have w := I.slot j
      cases q : δ[j]? with
      | none => trivial
      | some y =>
        rw [q] at w
        cases y with
        | no => trivial
        | v d => exact w
        | o d =>
          obtain ⟨b, w1, w2, w3, w4⟩ := w
          exact ⟨b, w1, w2, w3, w4.at (upd_ne (oth j b e (by rw [q]; rfl) w1))⟩
        | l d =>
          obtain ⟨b, w1, w2, w3, w4⟩ := w
          exact ⟨b, w1, w2, w3, w4.at (upd_ne (oth j b e (by rw [q]; rfl) w1))⟩
        | p ll =>
          obtain ⟨r, bs, t1, t2, t3, t4, t5⟩ := I.tab q
          exact ⟨r, bs, t1, t2.at' fun b hb => upd_ne fun e' => t4 i a e (by rw [hx]; rfl) ha (e' ▸ hb), t3⟩
  · have ow : ∀ k : Nat, Sl.own (δ.set i (.o d'))[k]? = true → Sl.own δ[k]? = true := by
      intro k h
      by_cases e : i = k
      · subst e; rw [hx]; rfl
      · rw [List.getElem?_set_ne e] at h; exact h
    exact I.dist j k b hjk (ow j g1) (ow k g2) g3 g4
  · obtain ⟨⟨d2, g1⟩, g2, g3⟩ := I.lent y hy
    have n : i ≠ y.1 := by
      intro e
      rw [← e, hx] at g1
      cases g1
    exact ⟨⟨d2, by rw [List.getElem?_set_ne n]; exact g1⟩, g2, by rw [upd_ne (oth y.1 y.2.1 n (by rw [g1]; rfl) g2)]; exact g3⟩
theorem EnvOk.frz {i : Nat} {d : D} (I : EnvOk K Λ F0 H0 F H σ δ) (hx : δ[i]? = some (.o d)) : ∃ F', Same F F' ∧ EnvOk K Λ F0 H0 F' H σ (δ.set i (.v d)) := by
  have hi : i < δ.length := (List.getElem?_eq_some_iff.mp hx).1
  have z := I.slot i
  rw [hx] at z
  obtain ⟨a, z1, z2, z3, z4⟩ := z
  obtain ⟨u, hu⟩ := z4.obj
  have hs : Same F (upd F a u) := Same.upd z3
  have sl : ∀ j : Nat, i ≠ j → Sl.own δ[j]? = true → σ[j]? ≠ some (some (V.ref a)) := fun j hj h e => I.dist i j a hj (by rw [hx]; rfl) h z1 e
  refine ⟨upd F a u, hs, ⟨I.ext.ff.trans hs, I.ext.hh, fun b w q => ?_, fun p o h1 h2 => ?_⟩, by simp [I.len], fun j => ?_, fun j k b hjk g1 g2 g3 g4 => ?_, fun y hy => ?_, I.tabsOf (fun k ll h => by
      by_cases e : i = k
      · subst e; rw [List.getElem?_set_self hi] at h; cases h
      · rw [List.getElem?_set_ne e] at h; exact ⟨h, rfl⟩) (fun _ _ _ _ _ => rfl) fun k j ll r b bs _ _ _ _ ho hs => .inl (by
      by_cases e : i = j
      · subst e; rw [List.getElem?_set_self hi] at ho; cases ho
      · rw [List.getElem?_set_ne e] at ho; exact ⟨ho, hs⟩)⟩
  · by_cases e : b = a
    · subst e; rw [upd_same] at q; cases q; exact hu
    · rw [upd_ne e] at q; exact I.ext.fh _ _ q
  · rw [upd_ne (ne_of_none h2 z2)]; exact I.ext.nw p o h1 h2
  · by_cases e : i = j
    · subst e
      rw [List.getElem?_set_self hi]
      refine ⟨.ref a, z1, ?_⟩
      cases d with
      | lst l =>
        obtain ⟨vs, h2, h3⟩ := z4
        rw [hu] at h2; cases h2
        simp only [Rep]
        exact ⟨a, vs, rfl, .inl upd_same, h3.mono hs⟩
      | dct ks l =>
        obtain ⟨vs, h2, h3, h4⟩ := z4
        rw [hu] at h2; cases h2
        simp only [Rep]
        exact ⟨a, vs, rfl, upd_same, h3, h4.mono hs⟩
      | _ => exact z4.elim
    · rw [List.getElem?_set_ne e]
      have w := I.slot j
      cases q : δ[j]? with
      | none => trivial
      | some y =>
        rw [q] at w
        cases y with
        | no => trivial
        | v d => obtain ⟨v, w1, w2⟩ := w; exact ⟨v, w1, Rep.mono hs d w2⟩
        | o d =>
          obtain ⟨b, w1, w2, w3, w4⟩ := w
          exact ⟨b, w1, w2, by rw [upd_ne (show b ≠ a from fun e' => sl j e (by rw [q]; rfl) (by rw [w1, e']))]; exact w3, w4.mono hs (.refl _)⟩
        | p ll =>
          obtain ⟨r, bs, t1, t2, t3, t4, t5⟩ := I.tab q
          exact ⟨r, bs, t1, t2, fun b hb => ⟨(t3 b hb).1, by rw [upd_ne (show b ≠ a from fun e' => t4 i a e (by rw [hx]; rfl) z1 (e' ▸ hb))]; exact (t3 b hb).2⟩⟩
        | l d =>
          obtain ⟨b, w1, w2, w3, w4⟩ := w
          exact ⟨b, w1, w2, by rw [upd_ne (show b ≠ a from fun e' => sl j e (by rw [q]; rfl) (by rw [w1, e']))]; exact w3, w4.mono hs (.refl _)⟩
  · have ow : ∀ k : Nat, Sl.own (δ.set i (.v d))[k]? = true → Sl.own δ[k]? = true := by
      intro k h
      by_cases e : i = k
      · subst e; rw [List.getElem?_set_self hi] at h; cases h
      · rw [List.getElem?_set_ne e] at h; exact h
    exact I.dist j k b hjk (ow j g1) (ow k g2) g3 g4
  · obtain ⟨⟨d2, g1⟩, g2, g3⟩ := I.lent y hy
    have n : i ≠ y.1 := by
      intro e
      rw [← e, hx] at g1
      cases g1
    exact ⟨⟨d2, by rw [List.getElem?_set_ne n]; exact g1⟩, g2, g3⟩
end
end PM
namespace PM
open PySem L2
abbrev XOT := Xc → Hp → Hp → Value → Option Addr → Prop
def Aft {α : Type} (E : St → XK) (XO : XOT) (σ : St) (F H : Hp) (P : α → Hp → Hp → Prop) : R α → Prop
  | .no => False
  | .ok a => ∀ F' H', Ext F H F' H' → P a F' H'
  | .ex x => ∀ C dct F' H', Ext F H F' H' → XO x F' H' C dct → E σ C dct H'
section
variable {E : St → XK} {XO : XOT} {σ : St} {F H F1 H1 : Hp} {α β : Type} {P P' : α → Hp → Hp → Prop}
theorem Aft.mono (e : Ext F H F1 H1) : ∀ {r : R α}, Aft E XO σ F H P r → Aft E XO σ F1 H1 P r
  | .no, h => h
  | .ok _, h => fun F' H' e' => h F' H' (e.trans e')
  | .ex _, h => fun C dct F' H' e' x => h C dct F' H' (e.trans e') x
theorem Aft.imp (i : ∀ a F1 H1, Ext F H F1 H1 → P a F1 H1 → P' a F1 H1) : ∀ {r : R α}, Aft E XO σ F H P r → Aft E XO σ F H P' r
  | .no, h => h
  | .ok _, h => fun F' H' e' => i _ F' H' e' (h F' H' e')
  | .ex _, h => h
theorem Aft.bind {P : β → Hp → Hp → Prop} {f : α → R β} : ∀ {r : R α}, Aft E XO σ F H P (r.bind f) → Aft E XO σ F H (fun a F1 H1 => Aft E XO σ F1 H1 P (f a)) r
  | .no, h => h
  | .ok _, h => fun F' H' e' => Aft.mono e' h
  | .ex _, h => h
end
inductive Prd (T : D → V → Prop) : List D → List V → Prop where
  | nil : Prd T [] []
  | cons {d : D} {v : V} {ds : List D} {vs : List V} : T d v → Prd T ds vs → Prd T (d :: ds) (v :: vs)
section
variable (K : Kx) (XO : XOT) (E : St → XK)
def SE (t : TE) (m : En → R D) : Prop := ∀ Λ F0 H0 F H σ δ Q, EnvOk K Λ F0 H0 F H σ δ → Aft E XO σ F H (fun d F' H' => ∀ v, Rep K F' d v → Q v H') (m δ) → t σ H Q
def SEr (t : TE) (m : En → R D) : Prop := ∀ Λ F0 H0 F H σ δ Q, EnvOk K Λ F0 H0 F H σ δ → Aft E XO σ F H (fun d F' H' => ∀ v, Top K F' H' d v → Q v H') (m δ) → t σ H Q
def SEo (t : TE) (m : En → R D) : Prop := ∀ Λ F0 H0 F H σ δ Q, EnvOk K Λ F0 H0 F H σ δ → Aft E XO σ F H (fun d F' H' => ∀ p, F' p = none → H p = none → Own K F' H' d p → Q (.ref p) H') (m δ) → t σ H Q
def ST (t : TT) (m : En → R Bool) : Prop := ∀ Λ F0 H0 F H σ δ Q, EnvOk K Λ F0 H0 F H σ δ → Aft E XO σ F H (fun b _ H' => Q b H') (m δ) → t σ H Q
def SA (t : TA) (m : En → R (List D)) : Prop := ∀ Λ F0 H0 F H σ δ Q, EnvOk K Λ F0 H0 F H σ δ → Aft E XO σ F H (fun ds F' H' => ∀ vs, RepL K F' ds vs → Q vs H') (m δ) → t σ H Q
def SAr (t : TA) (m : En → R (List D)) : Prop := ∀ Λ F0 H0 F H σ δ Q, EnvOk K Λ F0 H0 F H σ δ → Aft E XO σ F H (fun ds F' H' => ∀ vs, Prd (Top K F' H') ds vs → Q vs H') (m δ) → t σ H Q
end
section
variable {K : Kx} {XO : XOT} {E : St → XK} {t ta tb te : TE} {m ma mb me : En → R D}
theorem SE.r (h : SE K XO E t m) : SEr K XO E t m := fun Λ F0 H0 F H σ δ Q I a => h Λ F0 H0 F H σ δ Q I (a.imp fun d F1 H1 e p v r => p v (r.top e.fh))
theorem SEo.e (h : SEo K XO E t m) : SE K XO E t m := fun Λ F0 H0 F H σ δ Q I a => h Λ F0 H0 F H σ δ Q I (by
  cases q : m δ with
  | no => rw [q] at a; exact a
  | ex x => rw [q] at a; exact a
  | ok d =>
    rw [q] at a
    intro F1 H1 e p h0 h1 o
    obtain ⟨F2, e2, s2, r⟩ := o.freeze e h0 h1
    exact a F2 H1 e2 _ r)
def mVar (i : Nat) (δ : En) : R D := match δ[i]? with | some (.v d) => .ok d | _ => .no
def mRd (i : Nat) (δ : En) : R D := match δ[i]? with | some (.v d) => .ok d | some (.o d) => .ok d | some (.l d) => .ok d | _ => .no
theorem se_var {i : Nat} : SE K XO E (tVar i) (mVar i) := by
  intro Λ F0 H0 F H σ δ Q I a
  unfold mVar at a
  have z := I.slot i
  split at a
  · rename_i d q
    rw [q] at z
    obtain ⟨u, h1, h2⟩ := z
    exact ⟨u, h1, a F H (.refl I.same) u h2⟩
  · exact a.elim
theorem ser_var {i : Nat} : SEr K XO E (tVar i) (mRd i) := by
  intro Λ F0 H0 F H σ δ Q I a
  unfold mRd at a
  have z := I.slot i
  split at a
  · rename_i d q
    rw [q] at z
    obtain ⟨u, h1, h2⟩ := z
    exact ⟨u, h1, a F H (.refl I.same) u (h2.top I.same)⟩
  · rename_i d q
    rw [q] at z
    obtain ⟨u, h1, _, _, h2⟩ := z
    exact ⟨_, h1, a F H (.refl I.same) _ h2.top⟩
  · rename_i d q
    rw [q] at z
    obtain ⟨u, h1, _, _, h2⟩ := z
    exact ⟨_, h1, a F H (.refl I.same) _ h2.top⟩
  · exact a.elim
def mC (d : D) (_ : En) : R D := .ok d
theorem se_int {i : Int} : SE K XO E (tC (.int i)) (mC (.int i)) := fun Λ F0 H0 F H σ δ Q I a => a F H (.refl I.same) _ (by simp only [Rep])
theorem se_bl {i : Bool} : SE K XO E (tC (.bl i)) (mC (.bl i)) := fun Λ F0 H0 F H σ δ Q I a => a F H (.refl I.same) _ (by simp only [Rep])
def R.of {α : Type} : Option α → R α
  | some a => .ok a
  | none => .no
@[simp] theorem R.of_some {α : Type} (a : α) : R.of (some a) = .ok a := rfl
@[simp] theorem R.of_none {α : Type} : R.of (none : Option α) = .no := rfl
def m2 (f : D → D → Option D) (ma mb : En → R D) (δ : En) : R D := (ma δ).bind fun x => (mb δ).bind fun y => R.of (f x y)
def m1 (f : D → Option D) (ma : En → R D) (δ : En) : R D := (ma δ).bind fun x => R.of (f x)
@[simp] theorem m2_eq {f : D → D → Option D} {ma mb : En → R D} {δ : En} : m2 f ma mb δ = (ma δ).bind fun x => (mb δ).bind fun y => R.of (f x y) := rfl
@[simp] theorem m1_eq {f : D → Option D} {ma : En → R D} {δ : En} : m1 f ma δ = (ma δ).bind fun x => R.of (f x) := rfl
variable (K) in
def SR (r : R2) (f : D → D → Option D) : Prop := ∀ F H x y dx dy d Q, Same F H → Top K F H dx x → Top K F H dy y → f dx dy = some d → (∀ v F' H', Ext F H F' H' → Rep K F' d v → Q v H') → r x y H Q
variable (K) in
def SRo (r : R2) (f : D → D → Option D) : Prop := ∀ F H x y dx dy d Q, Same F H → Top K F H dx x → Top K F H dy y → f dx dy = some d → (∀ p F' H', Ext F H F' H' → F' p = none → H p = none → Own K F' H' d p → Q (.ref p) H') → r x y H Q
theorem se_op {r : R2} {f : D → D → Option D} (hr : SR K r f) (ha : SEr K XO E ta ma) (hb : SEr K XO E tb mb) : SE K XO E (tOp r ta tb) (m2 f ma mb) := by
  intro Λ F0 H0 F H σ δ Q I a
  refine ha Λ F0 H0 F H σ δ _ I (a.bind.imp fun dx F1 H1 e1 a1 x rx => ?_)
  refine hb Λ F0 H0 F1 H1 σ δ _ (I.grow e1) (a1.bind.imp fun dy F2 H2 e2 a2 y ry => ?_)
  cases q : f dx dy with
  | none => rw [q] at a2; exact a2.elim
  | some d =>
    rw [q] at a2
    exact hr F2 H2 x y dx dy d Q e2.fh (rx.mono e2.ff e2.hh) ry q fun v F' H' e r => a2 F' H' e v r
theorem seo_op {r : R2} {f : D → D → Option D} (hr : SRo K r f) (ha : SEr K XO E ta ma) (hb : SEr K XO E tb mb) : SEo K XO E (tOp r ta tb) (m2 f ma mb) := by
  intro Λ F0 H0 F H σ δ Q I a
  refine ha Λ F0 H0 F H σ δ _ I (a.bind.imp fun dx F1 H1 e1 a1 x rx => ?_)
  refine hb Λ F0 H0 F1 H1 σ δ _ (I.grow e1) (a1.bind.imp fun dy F2 H2 e2 a2 y ry => ?_)
  cases q : f dx dy with
  | none => rw [q] at a2; exact a2.elim
  | some d =>
    rw [q] at a2
    exact hr F2 H2 x y dx dy d Q e2.fh (rx.mono e2.ff e2.hh) ry q fun p F' H' e h0 h1 o => a2 F' H' e p h0 (e1.hh.free (e2.hh.free h1)) o
def mNil (_ : En) : R (List D) := .ok []
def mCons (ma : En → R D) (mr : En → R (List D)) (δ : En) : R (List D) := (ma δ).bind fun x => (mr δ).bind fun l => .ok (x :: l)
theorem sa_nil : SA K XO E tNil mNil := fun Λ F0 H0 F H σ δ Q I a => a F H (.refl I.same) _ .nil
theorem sa_cons {tr : TA} {mr : En → R (List D)} (ha : SE K XO E ta ma) (hr : SA K XO E tr mr) : SA K XO E (tCons ta tr) (mCons ma mr) := by
  intro Λ F0 H0 F H σ δ Q I a
  refine ha Λ F0 H0 F H σ δ _ I (a.bind.imp fun dx F1 H1 e1 a1 x rx => ?_)
  refine hr Λ F0 H0 F1 H1 σ δ _ (I.grow e1) (a1.bind.imp fun dy F2 H2 e2 a2 y ry => ?_)
  exact a2 F2 H2 (.refl e2.fh) _ (.cons (Rep.mono e2.ff _ rx) ry)
theorem sar_nil : SAr K XO E tNil mNil := fun Λ F0 H0 F H σ δ Q I a => a F H (.refl I.same) _ .nil
theorem Pair.mono {F H F' H' : Hp} (e : Ext F H F' H') : ∀ {ds : List D} {vs : List V}, Prd (Top K F H) ds vs → Prd (Top K F' H') ds vs
  | _, _, .nil => .nil
  | _, _, .cons r t => .cons (r.mono e.ff e.hh) (Pair.mono e t)
theorem sar_cons {tr : TA} {mr : En → R (List D)} (ha : SEr K XO E ta ma) (hr : SAr K XO E tr mr) : SAr K XO E (tCons ta tr) (mCons ma mr) := by
  intro Λ F0 H0 F H σ δ Q I a
  refine ha Λ F0 H0 F H σ δ _ I (a.bind.imp fun dx F1 H1 e1 a1 x rx => ?_)
  refine hr Λ F0 H0 F1 H1 σ δ _ (I.grow e1) (a1.bind.imp fun dy F2 H2 e2 a2 y ry => ?_)
  exact a2 F2 H2 (.refl e2.fh) _ (.cons (rx.mono e2.ff e2.hh) ry)
noncomputable def mLst (ml : En → R (List D)) (δ : En) : R D := (ml δ).bind fun l => ifC (l.length ≤ sizeLine) (.ok (.lst l)) .no
theorem seo_lst {tl : TA} {ml : En → R (List D)} (h : SA K XO E tl ml) : SEo K XO E (tLst tl) (mLst ml) := by
  intro Λ F0 H0 F H σ δ Q I a
  refine h Λ F0 H0 F H σ δ _ I (a.bind.imp fun ds F1 H1 e1 a1 vs r => ?_)
  unfold ifC at a1
  split at a1
  · rename_i hl
    refine ⟨by rw [r.length]; exact hl, fun p hp => a1 _ _ (.newO e1.fh hp) _ (e1.fh.free hp) (e1.hh.free hp) ⟨vs, upd_same, r⟩⟩
  · exact a1.elim
def asB : D → Option Bool
  | .bl b => some b
  | _ => none
def mTest (me : En → R D) (δ : En) : R Bool := (me δ).bind fun d => R.of (asB d)
theorem st_test (h : SE K XO E te me) : ST K XO E (tTest te) (mTest me) := by
  intro Λ F0 H0 F H σ δ Q I a
  refine h Λ F0 H0 F H σ δ _ I (a.bind.imp fun d F1 H1 e1 a1 v r => ?_)
  cases d with
  | bl b => simp only [Rep] at r; exact ⟨b, r, a1 F1 H1 (.refl e1.fh)⟩
  | _ => exact a1.elim
theorem st_b (h : SE K XO E te me) : ST K XO E (tB te) (mTest me) := st_test h
variable {tA tB' : TT} {nA nB : En → R Bool}
def mAnd (nA nB : En → R Bool) (δ : En) : R Bool := (nA δ).bind fun b => if b = true then nB δ else .ok false
def mOr (nA nB : En → R Bool) (δ : En) : R Bool := (nA δ).bind fun b => if b = true then .ok true else nB δ
def mNot (nA : En → R Bool) (δ : En) : R Bool := (nA δ).bind fun b => .ok (!b)
theorem st_and (h : ST K XO E tA nA) (h' : ST K XO E tB' nB) : ST K XO E (tAnd tA tB') (mAnd nA nB) := by
  intro Λ F0 H0 F H σ δ Q I a
  refine h Λ F0 H0 F H σ δ _ I (a.bind.imp fun b F1 H1 e1 a1 => ?_)
  cases b with
  | true => exact h' Λ F0 H0 F1 H1 σ δ _ (I.grow e1) a1
  | false => exact a1 F1 H1 (.refl e1.fh)
theorem st_or (h : ST K XO E tA nA) (h' : ST K XO E tB' nB) : ST K XO E (tOr tA tB') (mOr nA nB) := by
  intro Λ F0 H0 F H σ δ Q I a
  refine h Λ F0 H0 F H σ δ _ I (a.bind.imp fun b F1 H1 e1 a1 => ?_)
  cases b with
  | false => exact h' Λ F0 H0 F1 H1 σ δ _ (I.grow e1) a1
  | true => exact a1 F1 H1 (.refl e1.fh)
theorem st_not (h : ST K XO E tA nA) : ST K XO E (tNot tA) (mNot nA) := by
  intro Λ F0 H0 F H σ δ Q I a
  exact h Λ F0 H0 F H σ δ _ I (a.bind.imp fun b F1 H1 e1 a1 => a1 F1 H1 (.refl e1.fh))
def spM (K : Kx) (XO : XOT) (f : List D → R D) : Sp := fun vs H Q E => ∃ F ds, Same F H ∧ RepL K F ds vs ∧ Aft (fun _ => E) XO [] F H (fun d F' H' => ∀ v, Rep K F' d v → Q v H') (f ds)
def R.nev {α : Type} : R α → R α
  | .ex _ => .no
  | r => r
@[simp] theorem R.nev_ok {α : Type} (a : α) : (R.ok a).nev = .ok a := rfl
def mCallN (f : List D → R D) (ml : En → R (List D)) (δ : En) : R D := (ml δ).bind fun l => (f l).nev
theorem Aft.any {α : Type} {E E' : St → XK} {σ σ' : St} {F H : Hp} {P : α → Hp → Hp → Prop} {r : R α} (h : Aft E XO σ F H P r.nev) : Aft E' XO σ' F H P r := by
  cases r with
  | no => exact h
  | ok a => exact h
  | ex x => exact h.elim
theorem se_callN {f : List D → R D} {tl : TA} {ml : En → R (List D)} {E' : XK} (h : SA K XO E tl ml) : SE K XO E (tCall (spM K XO f) [] E' tl) (mCallN f ml) := by
  intro Λ F0 H0 F H σ δ Q I a
  refine h Λ F0 H0 F H σ δ _ I (a.bind.imp fun ds F1 H1 e1 a1 vs r => ⟨F1, ds, e1.fh, by rw [List.append_nil]; exact r, a1.any⟩)
variable (K) in
def SG (g : TG) (b : D → En → Option En) : Prop := ∀ Λ F0 H0 F H σ δ d v δ' Q, EnvOk K Λ F0 H0 F H σ δ → Rep K F d v → b d δ = some δ' → (∀ σ', EnvOk K Λ F0 H0 F H σ' δ' → Q σ' H) → g v σ H Q
variable (K) in
def SGs (g : TGs) (b : List D → En → Option En) : Prop := ∀ Λ F0 H0 F H σ δ d v δ' Q, EnvOk K Λ F0 H0 F H σ δ → RepL K F d v → b d δ = some δ' → (∀ σ', EnvOk K Λ F0 H0 F H σ' δ' → Q σ' H) → g v σ H Q
def bName (i : Nat) (d : D) (δ : En) : Option En := match δ[i]? with | none => none | some (.l _) => none | some _ => some (δ.set i (.v d))
def bNameC (i : Nat) (d : D) (δ : En) : Option En := match δ[i]? with | some .no => some (δ.set i (.v d)) | _ => none
def bNil (l : List D) (δ : En) : Option En := match l with | [] => some δ | _ => none
def bCons (b : D → En → Option En) (c : List D → En → Option En) (l : List D) (δ : En) : Option En := match l with | d :: r => (b d δ).bind (c r) | [] => none
def bTup (n : Nat) (c : List D → En → Option En) (d : D) (δ : En) : Option En := match d with | .tup l => if l.length = n then c l δ else none | _ => none
def bLst (n : Nat) (c : List D → En → Option En) (d : D) (δ : En) : Option En := match d with | .lst l => if l.length = n then c l δ else none | _ => none
theorem sg_name {i : Nat} : SG K (gName i) (bName i) := by
  intro Λ F0 H0 F H σ δ d v δ' Q I r e q
  unfold bName at e
  split at e
  · cases e
  · cases e
  · rename_i x h2 h1
    cases e
    exact q _ (I.put ⟨x, h1, fun d' z => h2 d' (by rw [z])⟩ r)
theorem sg_nameC {i : Nat} : SG K (gName i) (bNameC i) := by
  intro Λ F0 H0 F H σ δ d v δ' Q I r e q
  unfold bNameC at e
  split at e
  · rename_i h1
    cases e
    exact q _ (I.put ⟨_, h1, fun d' z => by cases z⟩ r)
  · cases e
theorem sgs_nil : SGs K gNil bNil := by
  intro Λ F0 H0 F H σ δ d v δ' Q I r e q
  cases d with
  | nil => simp only [RepL] at r; cases e; exact ⟨r, q _ I⟩
  | cons x l => cases e
theorem sgs_cons {g : TG} {h : TGs} {b : D → En → Option En} {c : List D → En → Option En} (hg : SG K g b) (hh : SGs K h c) : SGs K (gCons g h) (bCons b c) := by
  intro Λ F0 H0 F H σ δ d v δ' Q I r e q
  cases d with
  | nil => cases e
  | cons x l =>
    simp only [RepL] at r
    obtain ⟨u, w, rfl, r1, r2⟩ := r
    change (b x δ).bind (c l) = some δ' at e
    cases z : b x δ with
    | none => rw [z] at e; cases e
    | some δ1 =>
      rw [z] at e
      exact ⟨u, w, rfl, hg Λ F0 H0 F H σ δ x u δ1 _ I r1 z fun σ1 I1 => hh Λ F0 H0 F H σ1 δ1 l w δ' Q I1 r2 e q⟩
theorem sg_tup {n : Nat} {h : TGs} {c : List D → En → Option En} (hh : SGs K h c) : SG K (gTup K.f n h) (bTup n c) := by
  intro Λ F0 H0 F H σ δ d v δ' Q I r e q
  cases d with
  | tup l =>
    simp only [Rep] at r
    obtain ⟨a, vs, rfl, h1, h2⟩ := r
    simp only [bTup] at e
    split at e
    · rename_i hn
      exact ⟨a, vs, rfl, .inl (.inl (I.same _ _ h1)), by rw [h2.length]; exact hn, hh Λ F0 H0 F H σ δ l vs δ' Q I h2 e q⟩
    · cases e
  | _ => cases e
theorem sg_lst {n : Nat} {h : TGs} {c : List D → En → Option En} (hh : SGs K h c) : SG K (gLst K.f n h) (bLst n c) := by
  intro Λ F0 H0 F H σ δ d v δ' Q I r e q
  cases d with
  | lst l =>
    simp only [Rep] at r
    obtain ⟨a, vs, rfl, h1, h2⟩ := r
    simp only [bLst] at e
    split at e
    · rename_i hn
      exact ⟨a, vs, rfl, .inl (PM.Same.rd I.same h1), by rw [h2.length]; exact hn, hh Λ F0 H0 F H σ δ l vs δ' Q I h2 e q⟩
    · cases e
  | _ => cases e
def Weak (δ δ' : En) : Prop := δ.length = δ'.length ∧ ∀ i : Nat, δ[i]? = some .no ∨ δ[i]? = δ'[i]?
theorem Weak.refl (δ : En) : Weak δ δ := ⟨rfl, fun _ => .inr rfl⟩
theorem Weak.trans {a b c : En} (h : Weak a b) (h' : Weak b c) : Weak a c := ⟨h.1.trans h'.1, fun i => by
  rcases h.2 i with z | z
  · exact .inl z
  · rcases h'.2 i with y | y
    · exact .inl (z.trans y)
    · exact .inr (z.trans y)⟩
def BW (b : D → En → Option En) : Prop := ∀ d δ δ', b d δ = some δ' → Weak δ δ'
def BWs (b : List D → En → Option En) : Prop := ∀ d δ δ', b d δ = some δ' → Weak δ δ'
theorem bw_name {i : Nat} : BW (bNameC i) := by
  intro d δ δ' e
  unfold bNameC at e
  split at e
  · rename_i h1
    cases e
    refine ⟨by simp, fun j => ?_⟩
    by_cases h : i = j
    · subst h; exact .inl h1
    · exact .inr (by rw [List.getElem?_set_ne h])
  · cases e
theorem bws_nil : BWs bNil := by
  intro d δ δ' e
  cases d with
  | nil => cases e; exact .refl _
  | cons x l => cases e
theorem bws_cons {b : D → En → Option En} {c : List D → En → Option En} (h : BW b) (h' : BWs c) : BWs (bCons b c) := by
  intro d δ δ' e
  cases d with
  | nil => cases e
  | cons x l =>
    change (b x δ).bind (c l) = some δ' at e
    cases z : b x δ with
    | none => rw [z] at e; cases e
    | some δ1 => rw [z] at e; exact (h _ _ _ z).trans (h' _ _ _ e)
theorem bw_tup {n : Nat} {c : List D → En → Option En} (h : BWs c) : BW (bTup n c) := by
  intro d δ δ' e
  cases d with
  | tup l =>
    simp only [bTup] at e
    split at e
    · exact h _ _ _ e
    · cases e
  | _ => cases e
variable (K) in
def IsIt (J : It) (P : Hp → Hp → Prop) (ds : List D) : Prop := ∀ F2 H2, P F2 H2 → ∀ i : Nat, (∀ d, ds[i]? = some d → J.go i H2 ∧ ∀ x H', J.yld i H2 x H' → ∃ F3, Ext F2 H2 F3 H' ∧ Rep K F3 d x) ∧ (ds[i]? = none → J.stop i H2)
variable (K XO E) in
def SI (wi : TI) (m : En → R (List D)) : Prop := ∀ Λ F0 H0 F H σ δ R, EnvOk K Λ F0 H0 F H σ δ → Aft E XO σ F H (fun ds F1 H1 => ∀ J, IsIt K J (fun F2 H2 => Same F1 F2 ∧ Same F2 H2) ds → R J H1) (m δ) → wi σ H R
variable (K XO E) in
def SIc (wi : TI) (m : En → R (List D)) : Prop := ∀ Λ F0 H0 F H σ δ R, EnvOk K Λ F0 H0 F H σ δ → Aft E XO σ F H (fun ds F1 H1 => ∀ J, IsIt K J (fun F2 H2 => Ext F1 H1 F2 H2) ds → R J H1) (m δ) → wi σ H R
theorem SI.c {wi : TI} {m : En → R (List D)} (h : SI K XO E wi m) : SIc K XO E wi m := fun Λ F0 H0 F H σ δ R I a => h Λ F0 H0 F H σ δ R I (a.imp fun ds F1 H1 e p J hJ => p J fun F2 H2 x => hJ F2 H2 ⟨x.ff, x.fh⟩)
def asL : D → Option (List D)
  | .lst l => some l
  | .scr l => some (l.map .int)
  | _ => none
def asT : D → Option (List D)
  | .tup l => some l
  | _ => none
def mItL (ml : En → R D) (δ : En) : R (List D) := (ml δ).bind fun d => R.of (asL d)
theorem isIt_list {a : Addr} {ds : List D} {vs : List V} {F1 : Hp} {P : Hp → Hp → Prop} (r : RepL K F1 ds vs) (h : ∀ F2 H2, P F2 H2 → Same F1 F2 ∧ Same F2 H2 ∧ SqL K.f H2 a vs) : IsIt K (Itl K.f a) P ds := by
  intro F2 H2 p i
  obtain ⟨s1, s2, q⟩ := h F2 H2 p
  refine ⟨fun d hd => ?_, fun hn => ?_⟩
  · obtain ⟨v, hv, rv⟩ := r.get hd
    refine ⟨⟨vs, v, q, hv⟩, fun x H' y => ?_⟩
    obtain ⟨rfl, y⟩ := y
    have z := y vs q
    rw [hv] at z; cases z
    exact ⟨F2, .refl s2, Rep.mono s1 _ rv⟩
  · exact ⟨vs, q, by rw [r.length]; exact List.getElem?_eq_none_iff.mp hn⟩
theorem si_list (h : SE K XO E te me) : SI K XO E (iList K.f te) (mItL me) := by
  intro Λ F0 H0 F H σ δ R I a
  refine h Λ F0 H0 F H σ δ _ I (a.bind.imp fun d F1 H1 e1 a1 v r => ?_)
  cases d with
  | lst l =>
    simp only [Rep] at r
    obtain ⟨a, vs, rfl, h1, h2⟩ := r
    exact ⟨a, rfl, ⟨vs, .inl (PM.Same.rd e1.fh h1)⟩, a1 F1 H1 (.refl e1.fh) _ (isIt_list h2 fun F2 H2 x => ⟨x.1, x.2, .inl (PM.Same.rd x.2 (PM.Same.rd x.1 h1))⟩)⟩
  | scr l =>
    simp only [Rep] at r
    obtain ⟨a, rfl, h1⟩ := r
    exact ⟨a, rfl, ⟨_, e1.fh.seq h1⟩, a1 F1 H1 (.refl e1.fh) _ (isIt_list .ints fun F2 H2 x => ⟨x.1, x.2, x.2.seq (x.1.seq h1)⟩)⟩
  | _ => exact a1.elim
theorem sic_list (h : SEr K XO E te me) : SIc K XO E (iList K.f te) (mItL me) := by
  intro Λ F0 H0 F H σ δ R I a
  refine h Λ F0 H0 F H σ δ _ I (a.bind.imp fun d F1 H1 e1 a1 v r => ?_)
  cases d with
  | lst l =>
    obtain ⟨a, vs, rfl, h1, h2⟩ := r
    exact ⟨a, rfl, ⟨vs, .inl h1⟩, a1 F1 H1 (.refl e1.fh) _ (isIt_list h2 fun F2 H2 x => ⟨x.ff, x.fh, .inl (PM.Same.rd x.hh h1)⟩)⟩
  | scr l =>
    simp only [Top, Rep] at r
    obtain ⟨a, rfl, h1⟩ := r
    exact ⟨a, rfl, ⟨_, e1.fh.seq h1⟩, a1 F1 H1 (.refl e1.fh) _ (isIt_list .ints fun F2 H2 x => ⟨x.ff, x.fh, x.fh.seq (x.ff.seq h1)⟩)⟩
  | _ => exact a1.elim
def rangeD (lo : Int) (n : Nat) : List D := (List.range n).map fun (k : Nat) => D.int (lo + (k : Int))
theorem isIt_range {lo : Int} {n : Nat} {P : Hp → Hp → Prop} (h : ∀ F2 H2, P F2 H2 → Same F2 H2) : IsIt K (Itr lo n) P (rangeD lo n) := by
  intro F2 H2 p i
  unfold rangeD
  rw [List.getElem?_map]
  have er : (List.range n)[i]? = if i < n then some i else none := by
    by_cases hi : i < n
    · rw [if_pos hi, List.getElem?_range hi]
    · rw [if_neg hi, List.getElem?_eq_none_iff]; simpa using hi
  rw [er]
  refine ⟨fun d hd => ?_, fun hn => ?_⟩
  · by_cases hi : i < n
    · rw [if_pos hi] at hd
      cases hd
      refine ⟨hi, fun x H' y => ?_⟩
      obtain ⟨rfl, rfl⟩ := y
      exact ⟨F2, .refl (h F2 _ p), by simp only [Rep]⟩
    · rw [if_neg hi] at hd; cases hd
  · by_cases hi : i < n
    · rw [if_pos hi] at hn; cases hn
    · exact Nat.le_of_not_lt hi
noncomputable def rng (l : List D) : Option (List D) := match l with
  | [.int j] => ifC (-(2 ^ 62) ≤ j ∧ j < 2 ^ 62) (some (rangeD 0 j.toNat)) none
  | [.int i, .int j] => ifC (-(2 ^ 62) ≤ i ∧ i < 2 ^ 62 ∧ -(2 ^ 62) ≤ j ∧ j < 2 ^ 62) (some (rangeD i (j - i).toNat)) none
  | _ => none
noncomputable def mRng (ml : En → R (List D)) (δ : En) : R (List D) := (ml δ).bind fun l => R.of (rng l)
theorem RepL.one {F : Hp} {d : D} {vs : List V} (r : RepL K F [d] vs) : ∃ v, vs = [v] ∧ Rep K F d v := by
  simp only [RepL] at r
  obtain ⟨v, r', rfl, h, rfl⟩ := r
  exact ⟨v, rfl, h⟩
theorem RepL.two {F : Hp} {d e : D} {vs : List V} (r : RepL K F [d, e] vs) : ∃ v u, vs = [v, u] ∧ Rep K F d v ∧ Rep K F e u := by
  simp only [RepL] at r
  obtain ⟨v, r', rfl, h, v2, r2, rfl, h2, rfl⟩ := r
  exact ⟨v, v2, rfl, h, h2⟩
theorem si_range1 {tl : TA} {ml : En → R (List D)} (hn : ∀ δ l, ml δ = .ok l → l.length = 1) (h : SA K XO E tl ml) : SI K XO E (iRng1 tl) (mRng ml) := by
  intro Λ F0 H0 F H σ δ R I a
  unfold mRng at a
  cases hm : ml δ with
  | no => rw [hm] at a; exact a.elim
  | ex x => refine h Λ F0 H0 F H σ δ _ I ?_; rw [hm] at a ⊢; exact a
  | ok l =>
    refine h Λ F0 H0 F H σ δ _ I ?_
    rw [hm] at a ⊢
    intro F1 H1 e1 vs r
    have h1 := hn δ l hm
    match l, h1 with
    | [d], _ =>
      obtain ⟨v, rfl, rv⟩ := r.one
      have a1 := Aft.mono e1 a
      cases d with
      | int j =>
        simp only [Rep] at rv
        subst rv
        change Aft E XO σ F1 H1 _ (PM.R.of (ifC (-(2 ^ 62) ≤ j ∧ j < 2 ^ 62) _ _)) at a1
        by_cases hj : -(2 ^ 62) ≤ j ∧ j < 2 ^ 62
        · rw [ifC_pos hj] at a1
          exact ⟨j, rfl, hj.1, hj.2, a1 F1 H1 (.refl e1.fh) _ (isIt_range fun F2 H2 x => x.2)⟩
        · rw [ifC_neg hj] at a1; exact a1.elim
      | _ => exact a1.elim
theorem si_range2 {tl : TA} {ml : En → R (List D)} (hn : ∀ δ l, ml δ = .ok l → l.length = 2) (h : SA K XO E tl ml) : SI K XO E (iRng2 tl) (mRng ml) := by
  intro Λ F0 H0 F H σ δ R I a
  unfold mRng at a
  cases hm : ml δ with
  | no => rw [hm] at a; exact a.elim
  | ex x => refine h Λ F0 H0 F H σ δ _ I ?_; rw [hm] at a ⊢; exact a
  | ok l =>
    refine h Λ F0 H0 F H σ δ _ I ?_
    rw [hm] at a ⊢
    intro F1 H1 e1 vs r
    have h1 := hn δ l hm
    match l, h1 with
    | [d, d'], _ =>
      obtain ⟨v, u, rfl, rv, ru⟩ := r.two
      have a1 := Aft.mono e1 a
      cases d with
      | int i =>
        cases d' with
        | int j =>
          simp only [Rep] at rv ru
          subst rv ru
          change Aft E XO σ F1 H1 _ (PM.R.of (ifC (-(2 ^ 62) ≤ i ∧ i < 2 ^ 62 ∧ -(2 ^ 62) ≤ j ∧ j < 2 ^ 62) _ _)) at a1
          by_cases hj : -(2 ^ 62) ≤ i ∧ i < 2 ^ 62 ∧ -(2 ^ 62) ≤ j ∧ j < 2 ^ 62
          · rw [ifC_pos hj] at a1
            exact ⟨i, j, rfl, hj, a1 F1 H1 (.refl e1.fh) _ (isIt_range fun F2 H2 x => x.2)⟩
          · rw [ifC_neg hj] at a1; exact a1.elim
        | _ => exact a1.elim
      | _ => exact a1.elim
theorem len1 {ma : En → R D} : ∀ δ l, mCons ma mNil δ = .ok l → l.length = 1 := by
  intro δ l h
  unfold mCons mNil at h
  cases e : ma δ with
  | ok d => rw [e] at h; cases h; rfl
  | no => rw [e] at h; cases h
  | ex x => rw [e] at h; cases h
theorem len2 {ma mb : En → R D} : ∀ δ l, mCons ma (mCons mb mNil) δ = .ok l → l.length = 2 := by
  intro δ l h
  unfold mCons mNil at h
  cases e : ma δ with
  | ok d =>
    rw [e] at h
    cases e2 : mb δ with
    | ok d => rw [R.bind_ok, e2] at h; cases h; rfl
    | no => rw [R.bind_ok, e2] at h; cases h
    | ex x => rw [R.bind_ok, e2] at h; cases h
  | no => rw [e] at h; cases h
  | ex x => rw [e] at h; cases h
def asL' : D → Option (List D)
  | .lst l => some l
  | _ => none
end
end PM
namespace PM
open PySem L2
section
variable (K : Kx) (XO : XOT) (E : St → XK)
def AftS (Λ : List (Nat × Addr × HO)) (F0 H0 : Hp) (Dn : Ends) : O → Prop
  | .no => False
  | .nx δ => ∀ σ F H, EnvOk K Λ F0 H0 F H σ δ → Dn.nx σ H
  | .bk δ => ∀ σ F H, EnvOk K Λ F0 H0 F H σ δ → Dn.bk σ H
  | .ct δ => ∀ σ F H, EnvOk K Λ F0 H0 F H σ δ → Dn.ct σ H
  | .rt d => ∀ v F H, Ext F0 H0 F H → Rep K F d v → Dn.rt v H
  | .ro d => ∀ p F H, Ext F0 H0 F H → F p = none → H0 p = none → Own K F H d p → Dn.rt (.ref p) H
  | .ex δ x => ∀ σ F H C dct, EnvOk K Λ F0 H0 F H σ δ → XO x F H C dct → E σ C dct H
def SS (t : TS) (m : En → O) : Prop := ∀ Λ F0 H0 F H σ δ Dn, EnvOk K Λ F0 H0 F H σ δ → AftS K XO E Λ F0 H0 Dn (m δ) → t Dn σ H
end
def R.toO {α : Type} (r : R α) (δ : En) (f : α → O) : O := match r with | .no => .no | .ok a => f a | .ex x => .ex δ x
@[simp] theorem R.toO_ok {α : Type} (a : α) (δ : En) (f : α → O) : (R.ok a).toO δ f = f a := rfl
@[simp] theorem R.toO_no {α : Type} (δ : En) (f : α → O) : (R.no : R α).toO δ f = .no := rfl
@[simp] theorem R.toO_ex {α : Type} (x : Xc) (δ : En) (f : α → O) : (R.ex x : R α).toO δ f = .ex δ x := rfl
section
variable {K : Kx} {XO : XOT} {E : St → XK} {ta tb te : TE} {ma mb me : En → R D} {t u : TS} {m n : En → O} {Λ : List (Nat × Addr × HO)} {F0 H0 F H F1 H1 : Hp} {σ : St} {δ : En} {Dn : Ends}
theorem AftS.of {α : Type} {r : R α} {f : α → O} (I : EnvOk K Λ F0 H0 F H σ δ) (a : AftS K XO E Λ F0 H0 Dn (r.toO δ f)) : Aft E XO σ F H (fun a _ _ => AftS K XO E Λ F0 H0 Dn (f a)) r := by
  cases r with
  | no => exact a
  | ok b => exact fun _ _ _ => a
  | ex x => exact fun C dct F' H' e h => a σ F' H' C dct (I.grow e) h
theorem AftS.up (e : Ext F0 H0 F1 H1) : ∀ {o : O}, AftS K XO E Λ F0 H0 Dn o → AftS K XO E Λ F1 H0 Dn o
  | .no, h => h
  | .nx _, h => fun σ F H I => h σ F H (I.down e)
  | .bk _, h => fun σ F H I => h σ F H (I.down e)
  | .ct _, h => fun σ F H I => h σ F H (I.down e)
  | .rt _, h => fun v F H x => h v F H (e.base x)
  | .ro _, h => fun p F H x => h p F H (e.base x)
  | .ex _ _, h => fun σ F H C d I => h σ F H C d (I.down e)
def mNext (δ : En) : O := .nx δ
def mSeq (m n : En → O) (δ : En) : O := match m δ with | .nx δ' => n δ' | r => r
theorem ss_next : SS K XO E tNext mNext := fun Λ F0 H0 F H σ δ Dn I a => a σ F H I
theorem ss_seq (h : SS K XO E t m) (h' : SS K XO E u n) : SS K XO E (tSeq t u) (mSeq m n) := by
  intro Λ F0 H0 F H σ δ Dn I a
  refine h Λ F0 H0 F H σ δ _ I ?_
  unfold mSeq at a
  cases q : m δ with
  | no => rw [q] at a; exact a
  | nx δ' => rw [q] at a; exact fun σ' F' H' I' => h' Λ F0 H0 F' H' σ' δ' Dn I' a
  | rt d => rw [q] at a; exact a
  | ro d => rw [q] at a; exact a
  | bk δ' => rw [q] at a; exact a
  | ct δ' => rw [q] at a; exact a
  | ex δ' x => rw [q] at a; exact a
def mRet (me : En → R D) (δ : En) : O := (me δ).toO δ .rt
theorem ss_ret (h : SE K XO E te me) : SS K XO E (tRet te) (mRet me) := by
  intro Λ F0 H0 F H σ δ Dn I a
  exact h Λ F0 H0 F H σ δ _ I ((AftS.of I a).imp fun d F1 H1 e p v r => p v F1 H1 (I.ext.trans e) r)
def mRetO (me : En → R D) (δ : En) : O := (me δ).toO δ .ro
theorem ss_retO (h : SEo K XO E te me) : SS K XO E (tRet te) (mRetO me) := by
  intro Λ F0 H0 F H σ δ Dn I a
  exact h Λ F0 H0 F H σ δ _ I ((AftS.of I a).imp fun d F1 H1 e p v h0 h1 o => p v F1 H1 (I.ext.trans e) h0 (I.ext.hh.free h1) o)
def mRetM (i : Nat) (δ : En) : O := match δ[i]? with | some (.o d) => .ro d | _ => .no
theorem ss_retM {i : Nat} : SS K XO E (tRet (tVar i)) (mRetM i) := by
  intro Λ F0 H0 F H σ δ Dn I a
  unfold mRetM at a
  split at a
  · rename_i d q
    have z := I.slot i
    rw [q] at z
    obtain ⟨p, z1, z2, z3, z4⟩ := z
    exact ⟨_, z1, a p F H I.ext z3 z2 z4⟩
  · exact a.elim
def mIfS (n : En → R Bool) (m m' : En → O) (δ : En) : O := (n δ).toO δ fun b => if b = true then m δ else m' δ
theorem ss_if {tc : TT} {nc : En → R Bool} (h : ST K XO E tc nc) (ha : SS K XO E t m) (hb : SS K XO E u n) : SS K XO E (tIfS tc t u) (mIfS nc m n) := by
  intro Λ F0 H0 F H σ δ Dn I a
  refine h Λ F0 H0 F H σ δ _ I ((AftS.of I a).imp fun b F1 H1 e p => ?_)
  cases b with
  | true => exact ha Λ F0 H0 F1 H1 σ δ Dn (I.grow e) p
  | false => exact hb Λ F0 H0 F1 H1 σ δ Dn (I.grow e) p
def O.of : Option En → O
  | some δ => .nx δ
  | none => .no
@[simp] theorem O.of_some (δ : En) : O.of (some δ) = .nx δ := rfl
@[simp] theorem O.of_none : O.of none = .no := rfl
def mAsg (me : En → R D) (b : D → En → Option En) (δ : En) : O := (me δ).toO δ fun d => O.of (b d δ)
theorem ss_asg {g : TG} {b : D → En → Option En} (h : SE K XO E te me) (hg : SG K g b) : SS K XO E (tAsg te g) (mAsg me b) := by
  intro Λ F0 H0 F H σ δ Dn I a
  refine h Λ F0 H0 F H σ δ _ I ((AftS.of I a).imp fun d F1 H1 e p v r => ?_)
  cases q : b d δ with
  | none => rw [q] at p; exact p.elim
  | some δ' => rw [q] at p; exact hg Λ F0 H0 F1 H1 σ δ d v δ' _ (I.grow e) r q fun σ' I' => p σ' F1 H1 I'
def bNew (i : Nat) (d : D) (δ : En) : Option En := match δ[i]? with | none => none | some (.l _) => none | some _ => some (δ.set i (.o d))
theorem ss_new {i : Nat} (h : SEo K XO E te me) : SS K XO E (tAsg te (gName i)) (mAsg me (bNew i)) := by
  intro Λ F0 H0 F H σ δ Dn I a
  refine h Λ F0 H0 F H σ δ _ I ((AftS.of I a).imp fun d F1 H1 e p v h0 h1 o => ?_)
  unfold bNew at p
  split at p
  · exact p.elim
  · exact p.elim
  · rename_i x h3 h2
    exact p _ F1 H1 (I.putO ⟨x, h2, fun d' z => h3 d' (by rw [z])⟩ e h0 h1 o)
def mLoop (b : D → En → Option En) (m : En → O) : List D → En → O
  | [], δ => .nx δ
  | d :: l, δ => match b d δ with
    | none => .no
    | some δ1 => match m δ1 with
      | .nx δ2 => mLoop b m l δ2
      | .ct δ2 => mLoop b m l δ2
      | .bk δ2 => .nx δ2
      | r => r
def mFor (mi : En → R (List D)) (b : D → En → Option En) (m : En → O) (δ : En) : O := (mi δ).toO δ fun l => mLoop b m l δ
theorem loop_ok {J : It} {P : Hp → Hp → Prop} {g : TG} {b : D → En → Option En} {ds : List D} (hJ : IsIt K J P ds) (hP : ∀ σ δ F H, EnvOk K Λ F0 H0 F H σ δ → P F H) (hg : SG K g b) (hb : SS K XO E t m) (I : EnvOk K Λ F0 H0 F H σ δ)
    (a : AftS K XO E Λ F0 H0 Dn (mLoop b m ds δ)) : ∃ W : Nat → Nat → St → Hp → Prop, (∃ k, W 0 k σ H) ∧ ∀ i k σ H, W i k σ H →
      (J.stop i H ∧ Dn.nx σ H) ∨ (J.go i H ∧ ∃ N : St → Hp → Prop, (∀ σ' H', N σ' H' → ∃ k', k' < k ∧ W (i + 1) k' σ' H') ∧ ∀ x H', J.yld i H x H' → g x σ H' fun σ2 H2 => t { Dn with nx := N, ct := N, bk := Dn.nx } σ2 H2) := by
  let W : Nat → Nat → St → Hp → Prop := fun i k σ H => ∃ F δ, EnvOk K Λ F0 H0 F H σ δ ∧ k = ds.length - i ∧ i ≤ ds.length ∧ AftS K XO E Λ F0 H0 Dn (mLoop b m (ds.drop i) δ)
  refine ⟨W, ⟨ds.length, F, δ, I, rfl, Nat.zero_le _, a⟩, ?_⟩
  rintro i k σ H ⟨F, δ, I, rfl, hi, a⟩
  have hP' := hP σ δ F H I
  by_cases hlt : i < ds.length
  · have e : ds.drop i = ds[i] :: ds.drop (i + 1) := List.drop_eq_getElem_cons hlt
    obtain ⟨h1, h2⟩ := (hJ F H hP' i).1 ds[i] (by simp [hlt])
    refine .inr ⟨h1, W (i + 1) (ds.length - (i + 1)), fun σ' H' w => ⟨_, by omega, w⟩, fun x H' y => ?_⟩
    obtain ⟨F3, e3, r⟩ := h2 x H' y
    rw [e] at a
    unfold mLoop at a
    cases q : b ds[i] δ with
    | none => rw [q] at a; exact a.elim
    | some δ1 =>
      rw [q] at a
      refine hg Λ F0 H0 F3 H' σ δ _ x δ1 _ (I.grow e3) r q fun σ1 I1 => hb Λ F0 H0 F3 H' σ1 δ1 _ I1 ?_
      cases q2 : m δ1 with
      | no => simp only [q2] at a; exact a
      | nx δ2 => simp only [q2] at a; exact fun σ' F' H' I' => ⟨F', δ2, I', rfl, hlt, a⟩
      | ct δ2 => simp only [q2] at a; exact fun σ' F' H' I' => ⟨F', δ2, I', rfl, hlt, a⟩
      | bk δ2 => simp only [q2] at a; exact a
      | rt d => simp only [q2] at a; exact a
      | ro d => simp only [q2] at a; exact a
      | ex δ' x => simp only [q2] at a; exact a
  · have e : i = ds.length := by omega
    subst e
    rw [List.drop_length] at a
    exact .inl ⟨(hJ F H hP' _).2 (by simp), a σ F H I⟩
theorem ss_for {wi : TI} {mi : En → R (List D)} {g : TG} {b : D → En → Option En} (hi : SI K XO E wi mi) (hg : SG K g b) (hb : SS K XO E t m) : SS K XO E (tFor wi g t) (mFor mi b m) := by
  intro Λ F0 H0 F H σ δ Dn I a
  refine hi Λ F0 H0 F H σ δ _ I ((AftS.of I a).imp fun ds F1 H1 e p J hJ => ?_)
  have I1 := I.grow e
  exact loop_ok (F0 := F1) hJ (fun σ δ F H I => ⟨I.ext.ff, I.ext.fh⟩) hg hb I1.up (p.up I1.ext)
theorem EnvOk.back {i : Nat} {d : D} {x : Addr × HO} (hn : ∀ y ∈ Λ, y.1 ≠ i) (I : EnvOk K ((i, x) :: Λ) F0 H0 F H σ δ) (hx : δ[i]? = some (.l d)) : EnvOk K Λ F0 H0 F H σ (δ.set i (.o d)) := by
  have hi : i < δ.length := (List.getElem?_eq_some_iff.mp hx).1
  refine ⟨I.ext, by simp [I.len], fun j => ?_, fun j k b hjk g1 g2 g3 g4 => ?_, fun y hy => ?_, I.tabsOf (fun k ll h => by
      by_cases e : i = k
      · subst e; rw [List.getElem?_set_self hi] at h; cases h
      · rw [List.getElem?_set_ne e] at h; exact ⟨h, rfl⟩) (fun _ _ _ _ _ => rfl) fun k j ll r b bs _ _ _ _ ho hs => .inl (by
      by_cases e : i = j
      · subst e; exact ⟨by rw [hx]; rfl, hs⟩
      · rw [List.getElem?_set_ne e] at ho; exact ⟨ho, hs⟩)⟩
  · by_cases e : i = j
    · subst e
      rw [List.getElem?_set_self hi]
      have z := I.slot i
      rw [hx] at z
      exact z
    · rw [List.getElem?_set_ne e]; exact I.slot j
  · have ow : ∀ k : Nat, Sl.own (δ.set i (.o d))[k]? = true → Sl.own δ[k]? = true := by
      intro k h
      by_cases e : i = k
      · subst e; rw [hx]; rfl
      · rw [List.getElem?_set_ne e] at h; exact h
    exact I.dist j k b hjk (ow j g1) (ow k g2) g3 g4
  · obtain ⟨⟨d2, g1⟩, g2, g3⟩ := I.lent y (List.mem_cons_of_mem _ hy)
    exact ⟨⟨d2, by rw [List.getElem?_set_ne (Ne.symm (hn y hy))]; exact g1⟩, g2, g3⟩
end
end PM
namespace PM
open PySem L2
def asK : D → Option Key
  | .int i => some (.inl i)
  | .str x => some (.inr x)
  | _ => none
def getK (ks : List Key) (l : List D) (k : Key) : Option D := match ks, l with
  | a :: r, d :: t => if a = k then some d else getK r t k
  | _, _ => none
section
variable {K : Kx} {F H : Hp}
end
section
variable {K : Kx} {XO : XOT} {E : St → XK} {ta tb te ty td : TE} {ma mb me my md : En → R D} {t u : TS} {m n : En → O} {Λ : List (Nat × Addr × HO)} {F0 H0 F H F1 H1 : Hp} {σ : St} {δ : En} {Dn : Ends}
theorem EnvOk.own {i : Nat} {d : D} (I : EnvOk K Λ F0 H0 F H σ δ) (hx : δ[i]? = some (.o d)) : ∃ a, σ[i]? = some (some (.ref a)) ∧ Own K F H d a := by
  have z := I.slot i
  rw [hx] at z
  obtain ⟨a, z1, z2, z3, z4⟩ := z
  exact ⟨a, z1, z4⟩
noncomputable def mAppend (i : Nat) (me : En → R D) (δ : En) : O := match δ[i]? with
  | some (.o (.lst l)) => (me δ).toO δ fun d => ifC (l.length < sizeLine) (.nx (δ.set i (.o (.lst (l ++ [d]))))) .no
  | _ => .no
def mSetL (i : Nat) (mi me : En → R D) (δ : En) : O := match δ[i]? with
  | some (.o (.lst l)) => (me δ).toO δ fun d => (mi δ).toO δ fun k => match k with
    | .int k => (match ixN l.length k with | some j => .nx (δ.set i (.o (.lst (l.set j d)))) | none => .no)
    | _ => .no
  | _ => .no
theorem ss_setL {i : Nat} {ti : TE} {mi : En → R D} (hi : SE K XO E ti mi) (h : SE K XO E te me) : SS K XO E (tAsg te (gSub (tVar i) ti rSetL)) (mSetL i mi me) := by
  intro Λ F0 H0 F H σ δ Dn I a
  unfold mSetL at a
  split at a
  · rename_i l q
    obtain ⟨p, s1, vs, s2, s3⟩ := I.own q
    refine h Λ F0 H0 F H σ δ _ I ((AftS.of I a).imp fun d F1 H1 e c v r => ⟨_, s1, ?_⟩)
    refine hi Λ F0 H0 F1 H1 σ δ _ (I.grow e) ((AftS.of (I.grow e) c).imp fun k F2 H2 e2 c2 v2 r2 => ?_)
    cases k with
    | int k =>
      simp only [Rep] at r2
      subst r2
      dsimp only at c2
      cases z : ixN l.length k with
      | none => rw [z] at c2; exact c2.elim
      | some j =>
        rw [z] at c2
        refine ⟨p, vs, k, j, rfl, rfl, e2.hh _ _ (e.hh _ _ s2), by rw [s3.length]; exact z, ?_⟩
        exact c2 σ F2 _ (((I.grow e).grow e2).chg q s1 ⟨_, upd_same, ((s3.mono e.ff).mono e2.ff).set j (Rep.mono e2.ff _ r)⟩)
    | _ => exact c2.elim
  · exact a.elim
def mAugL (f : Int → Int → Int) (i : Nat) (mi me : En → R D) (δ : En) : O := match δ[i]? with
  | some (.o (.lst l)) => (mi δ).toO δ fun k => (match k with
    | .int k => (match ixN l.length k with
      | some j => (match l[j]? with
        | some (.int x) => (me δ).toO δ fun y => (match y with | .int y => .nx (δ.set i (.o (.lst (l.set j (.int (f x y)))))) | _ => .no)
        | _ => .no)
      | none => .no)
    | _ => .no)
  | _ => .no
theorem ss_augL {f : Int → Int → Int} {i : Nat} {ti : TE} {mi : En → R D} (hi : SE K XO E ti mi) (h : SE K XO E te me) : SS K XO E (tAugS (tVar i) ti te (rIxL K.f) (ipI f) rSetL) (mAugL f i mi me) := by
  intro Λ F0 H0 F H σ δ Dn I a
  unfold mAugL at a
  split at a
  · rename_i l q
    obtain ⟨p, s1, vs, s2, s3⟩ := I.own q
    refine ⟨_, s1, ?_⟩
    refine hi Λ F0 H0 F H σ δ _ I ((AftS.of I a).imp fun k F1 H1 e c v r => ?_)
    cases k with
    | int k =>
      simp only [Rep] at r
      subst r
      dsimp only at c
      cases z : ixN l.length k with
      | none => rw [z] at c; exact c.elim
      | some j =>
        rw [z] at c
        dsimp only at c
        cases z2 : l[j]? with
        | none => rw [z2] at c; exact c.elim
        | some d =>
          rw [z2] at c
          cases d with
          | int x =>
            obtain ⟨w, w1, w2⟩ := s3.get z2
            simp only [Rep] at w2
            subst w2
            have h1 := e.hh _ _ s2
            refine ⟨p, vs, k, _, rfl, rfl, .inl (.inl h1), by unfold atI; rw [s3.length, z]; exact w1, ?_⟩
            refine h Λ F0 H0 F1 H1 σ δ _ (I.grow e) ((AftS.of (I.grow e) c).imp fun y F2 H2 e2 c2 v2 r2 => ?_)
            cases y with
            | int y =>
              simp only [Rep] at r2
              subst r2
              refine ⟨x, y, rfl, rfl, p, vs, k, j, rfl, rfl, e2.hh _ _ h1, by rw [s3.length]; exact z, ?_⟩
              exact c2 σ F2 _ (((I.grow e).grow e2).chg q s1 ⟨_, upd_same, ((s3.mono e.ff).mono e2.ff).set j (by simp only [Rep])⟩)
            | _ => exact c2.elim
          | _ => exact c.elim
    | _ => exact c.elim
  · exact a.elim
def dIn (k d : D) : Option D := match asK k, d with | some k, .dct ks l => some (.bl (getK ks l k).isSome) | _, _ => none
def dNotIn (k d : D) : Option D := match asK k, d with | some k, .dct ks l => some (.bl (!(getK ks l k).isSome)) | _, _ => none
def i2 (f : Int → Int → D) (x y : D) : Option D := match x, y with | .int i, .int j => some (f i j) | _, _ => none
noncomputable def i2c (C : Int → Int → Prop) (f : Int → Int → D) (x y : D) : Option D := match x, y with | .int i, .int j => ifC (C i j) (some (f i j)) none | _, _ => none
theorem sr_i2 {g : Int → Int → V} {f : Int → Int → D} (h : ∀ i j F, Rep K F (f i j) (g i j)) : SR K (rI0 g) (i2 f) := by
  intro F H x y dx dy d Q s hx hy e q
  cases dx with
  | int i =>
    cases dy with
    | int j =>
      cases e
      simp only [Top, Rep] at hx hy
      exact ⟨i, j, hx, hy, q _ F H (.refl s) (h i j F)⟩
    | _ => cases e
  | _ => cases e
theorem sr_i2c {C : Int → Int → Prop} {g : Int → Int → V} {f : Int → Int → D} (h : ∀ i j F, Rep K F (f i j) (g i j)) : SR K (rI C g) (i2c C f) := by
  intro F H x y dx dy d Q s hx hy e q
  cases dx with
  | int i =>
    cases dy with
    | int j =>
      simp only [Top, Rep] at hx hy
      simp only [i2c] at e
      unfold ifC at e
      split at e
      · rename_i hc
        cases e
        exact ⟨i, j, hx, hy, hc, q _ F H (.refl s) (h i j F)⟩
      · cases e
    | _ => cases e
  | _ => cases e
def oAdd : D → D → Option D := i2 fun i j => .int (i + j)
def oSub : D → D → Option D := i2 fun i j => .int (i - j)
noncomputable def oMul : D → D → Option D := i2c (fun i j => Fit i ∧ Fit j) fun i j => .int (i * j)
noncomputable def oDiv : D → D → Option D := i2c (fun _ j => j ≠ 0 ∧ Fit j) fun i j => .int (i.fdiv j)
noncomputable def oMod : D → D → Option D := i2c (fun _ j => 0 < j) fun i j => .int (i % j)
noncomputable def oPow : D → D → Option D := i2c CPow fun i j => .int (i ^ j.toNat)
def oLt : D → D → Option D := i2 fun i j => .bl (decide (i < j))
def oLe : D → D → Option D := i2 fun i j => .bl (decide (i ≤ j))
def oGt : D → D → Option D := i2 fun i j => .bl (decide (j < i))
def oGe : D → D → Option D := i2 fun i j => .bl (decide (j ≤ i))
theorem sr_add : SR K (rI0 fun i j => .int (i + j)) oAdd := sr_i2 fun _ _ _ => by simp only [Rep]
theorem sr_sub : SR K (rI0 fun i j => .int (i - j)) oSub := sr_i2 fun _ _ _ => by simp only [Rep]
theorem sr_mul : SR K (rI (fun i j => Fit i ∧ Fit j) fun i j => .int (i * j)) oMul := sr_i2c fun _ _ _ => by simp only [Rep]
theorem sr_div : SR K (rI (fun _ j => j ≠ 0 ∧ Fit j) fun i j => .int (i.fdiv j)) oDiv := sr_i2c fun _ _ _ => by simp only [Rep]
theorem sr_mod : SR K (rI (fun _ j => 0 < j) fun i j => .int (i % j)) oMod := sr_i2c fun _ _ _ => by simp only [Rep]
theorem sr_pow : SR K (rI CPow fun i j => .int (i ^ j.toNat)) oPow := sr_i2c fun _ _ _ => by simp only [Rep]
theorem sr_lt : SR K (rI0 fun i j => .bl (decide (i < j))) oLt := sr_i2 fun _ _ _ => by simp only [Rep]
theorem sr_le : SR K (rI0 fun i j => .bl (decide (i ≤ j))) oLe := sr_i2 fun _ _ _ => by simp only [Rep]
theorem sr_ge : SR K (rI0 fun i j => .bl (decide (j ≤ i))) oGe := sr_i2 fun _ _ _ => by simp only [Rep]
def oNeg : D → Option D
  | .int i => some (.int (-i))
  | _ => none
def fl : D → Option V
  | .non => some .non
  | .bl b => some (.bl b)
  | .int i => some (.int i)
  | .str x => some (.str x)
  | _ => none
theorem fl_top {d : D} {v x : V} (h : fl d = some v) (r : Top K F H d x) : x = v := by
  cases d with
  | non => cases h; simpa only [Top, Rep] using r
  | bl _ => cases h; simpa only [Top, Rep] using r
  | int _ => cases h; simpa only [Top, Rep] using r
  | str _ => cases h; simpa only [Top, Rep] using r
  | _ => cases h
def oEq (x y : D) : Option D := match fl x, fl y with | some a, some b => if scal a b = true then some (.bl (decide (a = b))) else none | _, _ => none
def oNe (x y : D) : Option D := match fl x, fl y with | some a, some b => if scal a b = true then some (.bl (!decide (a = b))) else none | _, _ => none
theorem sr_eq : SR K rEq oEq := by
  intro F H x y dx dy d Q s hx hy e q
  unfold oEq at e
  split at e
  · rename_i a b h1 h2
    split at e
    · rename_i hs
      cases e
      cases fl_top h1 hx; cases fl_top h2 hy
      exact ⟨hs, q _ F H (.refl s) (by simp only [Rep])⟩
    · cases e
  · cases e
theorem sr_ne : SR K rNe oNe := by
  intro F H x y dx dy d Q s hx hy e q
  unfold oNe at e
  split at e
  · rename_i a b h1 h2
    split at e
    · rename_i hs
      cases e
      cases fl_top h1 hx; cases fl_top h2 hy
      exact ⟨hs, q _ F H (.refl s) (by simp only [Rep])⟩
    · cases e
  · cases e
def isN : D → Bool
  | .non => true
  | _ => false
def oIs (x y : D) : Option D := match y with | .non => some (.bl (isN x)) | _ => none
def oIxL (x y : D) : Option D := match x, y with | .lst l, .int i => atI l i | .scr l, .int i => (atI l i).map .int | _, _ => none
def oIxT (x y : D) : Option D := match x, y with | .tup l, .int i => atI l i | _, _ => none
theorem atI_rep {l : List D} {vs : List V} {i : Int} {d : D} (r : RepL K F l vs) (h : atI l i = some d) : ∃ v, atI vs i = some v ∧ Rep K F d v := by
  unfold atI at h ⊢
  rw [r.length]
  cases q : ixN l.length i with
  | none => rw [q] at h; cases h
  | some j => rw [q] at h; exact r.get h
theorem sr_ixL : SR K (rIxL K.f) oIxL := by
  intro F H x y dx dy d Q s hx hy e q
  cases dx with
  | lst l =>
    cases dy with
    | int i =>
      obtain ⟨a, vs, rfl, h1, h2⟩ := hx
      simp only [Top, Rep] at hy
      obtain ⟨v, g1, g2⟩ := atI_rep h2 e
      exact ⟨a, vs, i, v, rfl, hy, .inl h1, g1, q _ F H (.refl s) g2⟩
    | _ => cases e
  | scr l =>
    cases dy with
    | int i =>
      simp only [Top, Rep] at hx hy
      obtain ⟨a, rfl, h1⟩ := hx
      simp only [oIxL] at e
      cases z : atI l i with
      | none => rw [z] at e; cases e
      | some n =>
        rw [z] at e; cases e
        obtain ⟨v, g1, g2⟩ := atI_rep (F := F) (K := K) (l := l.map .int) (vs := l.map V.int) (i := i) (d := .int n) .ints (by
          unfold atI at z ⊢
          rw [List.length_map]
          cases q : ixN l.length i with
          | none => rw [q] at z; cases z
          | some j =>
            rw [q] at z
            change l[j]? = some n at z
            show (l.map D.int)[j]? = _
            rw [List.getElem?_map, z]; rfl)
        exact ⟨a, _, i, v, rfl, hy, s.seq h1, g1, q _ F H (.refl s) g2⟩
    | _ => cases e
  | _ => cases e
end
end PM
namespace PM
open PySem L2
section
variable {K : Kx} {XO : XOT} {E : St → XK} {ta tb te ty td : TE} {ma mb me my md : En → R D} {t u : TS} {m n : En → O} {Λ : List (Nat × Addr × HO)} {F0 H0 F H F1 H1 : Hp} {σ : St} {δ : En} {Dn : Ends}
abbrev EN : St → XK := fun _ _ _ _ => False
def lendS : Sl → Sl
  | .o d => .l d
  | .p _ => .no
  | s => s
def startD (δ : En) (ix : List Nat) (n : Nat) : En := ix.map (fun i => lendS (δ[i]?.getD .no)) ++ List.replicate n .no
def gather (f : D → R (Option D)) : List D → R (List D)
  | [] => .ok []
  | d :: l => (f d).bind fun o => (gather f l).bind fun r => .ok (o.toList ++ r)
def stepC (b : D → En → Option En) (nc : Option (En → R Bool)) (me : En → R D) (δ : En) (d : D) : R (Option D) := match b d δ with
  | none => .no
  | some δ1 => (match nc with
    | none => (me δ1).nev.bind fun x => .ok (some x)
    | some c => (c δ1).nev.bind fun k => if k = true then (me δ1).nev.bind fun x => .ok (some x) else .ok none)
noncomputable def mComp (mi : En → R (List D)) (ix : List Nat) (n : Nat) (b : D → En → Option En) (nc : Option (En → R Bool)) (me : En → R D) (δ : En) : R D :=
  (mi δ).bind fun ds => ifC (ds.length ≤ sizeLine) ((gather (stepC b nc me (startD δ ix n)) ds).nev.bind fun l => .ok (.lst l)) .no
theorem startD_ok {ix : List Nat} {n : Nat} (I : EnvOk K Λ F0 H0 F H σ δ) (hix : ix.Nodup) :
    ∃ Λc, EnvOk K Λc F0 H0 F H (startC σ ix n) (startD δ ix n) ∧ (∀ i : Nat, Sl.own (startD δ ix n)[i]? = true → ∃ x ∈ Λc, x.1 = i) ∧ ∀ x ∈ Λc, ∃ o, H x.2.1 = some o := by
  have gd : ∀ j : Nat, j < ix.length → (startD δ ix n)[j]? = some (lendS (δ[ix.getD j 0]?.getD .no)) := fun j hj => by
    unfold startD
    rw [List.getElem?_append_left (by simpa using hj), List.getElem?_map, List.getElem?_eq_getElem hj]
    simp [List.getD_eq_getElem?_getD, List.getElem?_eq_getElem hj]
  have gs : ∀ j : Nat, j < ix.length → (startC σ ix n)[j]? = some ((σ[ix.getD j 0]?).getD none) := fun j hj => by
    unfold startC
    rw [List.getElem?_append_left (by simpa using hj), List.getElem?_map, List.getElem?_eq_getElem hj]
    simp [List.getD_eq_getElem?_getD, List.getElem?_eq_getElem hj]
  have gn : ∀ j : Nat, ¬ j < ix.length → (startD δ ix n)[j]? = some .no ∨ (startD δ ix n)[j]? = none := fun j hj => by
    unfold startD
    rw [List.getElem?_append_right (by simpa using hj), List.getElem?_replicate]
    split
    · exact .inl rfl
    · exact .inr rfl
  have own : ∀ j : Nat, Sl.own (startD δ ix n)[j]? = true → j < ix.length ∧ ∃ d a o, δ[ix.getD j 0]? = some d ∧ Sl.own (some d) = true ∧ (startD δ ix n)[j]? = some (lendS d) ∧ (∃ e, lendS d = .l e) ∧ σ[ix.getD j 0]? = some (some (.ref a)) ∧ (startC σ ix n)[j]? = some (some (.ref a)) ∧ H a = some o ∧ H0 a = none ∧ F a = none := fun j h => by
    by_cases hj : j < ix.length
    · refine ⟨hj, ?_⟩
      rw [gd j hj] at h
      have z := I.slot (ix.getD j 0)
      cases q : δ[ix.getD j 0]? with
      | none => rw [q] at h; cases h
      | some s =>
        rw [q] at h z
        cases s with
        | no => cases h
        | v d => cases h
        | o d =>
          obtain ⟨a, z1, z2, z3, z4⟩ := z
          obtain ⟨o, ho⟩ := z4.obj
          exact ⟨_, a, o, rfl, rfl, by rw [gd j hj, q]; rfl, ⟨d, rfl⟩, z1, by rw [gs j hj, z1]; rfl, ho, z2, z3⟩
        | l d =>
          obtain ⟨a, z1, z2, z3, z4⟩ := z
          obtain ⟨o, ho⟩ := z4.obj
          exact ⟨_, a, o, rfl, rfl, by rw [gd j hj, q]; rfl, ⟨d, rfl⟩, z1, by rw [gs j hj, z1]; rfl, ho, z2, z3⟩
        | p ll => cases h
    · rcases gn j hj with z | z <;> (rw [z] at h; cases h)
  let Λc : List (Nat × Addr × HO) := (List.range ix.length).filterMap fun (j : Nat) => match (startC σ ix n)[j]? with
    | some (some (V.ref a)) => if Sl.own (startD δ ix n)[j]? = true then (H a).map fun o => (j, a, o) else none
    | _ => none
  have mem : ∀ x ∈ Λc, (startC σ ix n)[x.1]? = some (some (.ref x.2.1)) ∧ Sl.own (startD δ ix n)[x.1]? = true ∧ H x.2.1 = some x.2.2 := fun x hx => by
    obtain ⟨j, _, h⟩ := List.mem_filterMap.mp hx
    split at h
    · rename_i a q
      split at h
      · rename_i ow
        cases q2 : H a with
        | none => rw [q2] at h; cases h
        | some o => rw [q2] at h; cases h; exact ⟨q, ow, q2⟩
      · cases h
    · cases h
  have noTab : ∀ (j : Nat) (ll : List (List Int)), (startD δ ix n)[j]? ≠ some (.p ll) := fun j ll h => by
    by_cases hj : j < ix.length
    · rw [gd j hj] at h
      cases q : δ[ix.getD j 0]? with
      | none => rw [q] at h; cases h
      | some s => rw [q] at h; cases s <;> cases h
    · rcases gn j hj with z | z <;> (rw [z] at h; cases h)
  refine ⟨Λc, ⟨I.ext, ?_, fun j => ?_, fun i j a hij h1 h2 h3 h4 => ?_, fun x hx => ?_, fun j ll a vs h => absurd h (noTab j ll)⟩, fun j h => ?_, fun x hx => ⟨_, (mem x hx).2.2⟩⟩
  · unfold startC startD
    simp
  · by_cases hj : j < ix.length
    · rw [gd j hj, gs j hj]
      have z := I.slot (ix.getD j 0)
      cases q : δ[ix.getD j 0]? with
      | none => trivial
      | some s =>
        rw [q] at z
        cases s with
        | no => trivial
        | v d => obtain ⟨u, z1, z2⟩ := z; exact ⟨u, by rw [z1]; rfl, z2⟩
        | o d => obtain ⟨a, z1, z2⟩ := z; exact ⟨a, by rw [z1]; rfl, z2⟩
        | l d => obtain ⟨a, z1, z2⟩ := z; exact ⟨a, by rw [z1]; rfl, z2⟩
        | p ll => trivial
    · rcases gn j hj with z | z <;> (rw [z]; trivial)
  · obtain ⟨i1, d1, a1, o1, i2, i3, i4, i5, i6, i7, i8⟩ := own i h1
    obtain ⟨j1, d2, a2, o2, j2, j3, j4, j5, j6, j7, j8⟩ := own j h2
    rw [i7] at h3; cases h3
    rw [j7] at h4; cases h4
    refine I.dist (ix.getD i 0) (ix.getD j 0) a (fun e => hij ?_) (by rw [i2]; exact i3) (by rw [j2]; exact j3) i6 j6
    rw [List.getD_eq_getElem?_getD, List.getD_eq_getElem?_getD, List.getElem?_eq_getElem i1, List.getElem?_eq_getElem j1] at e
    exact ((List.getElem?_inj i1 hix).mp (by rw [List.getElem?_eq_getElem i1, List.getElem?_eq_getElem j1]; exact congrArg some e))
  · obtain ⟨m1, m2, m3⟩ := mem x hx
    obtain ⟨_, d, _, _, _, _, h4, ⟨e, h5⟩, _⟩ := own x.1 m2
    exact ⟨⟨e, by rw [h4, h5]⟩, m1, m3⟩
  · obtain ⟨i1, d1, a1, o1, i2, i3, i4, i5, i6, i7, i8, _⟩ := own j h
    refine ⟨(j, a1, o1), List.mem_filterMap.mpr ⟨j, List.mem_range.mpr i1, ?_⟩, rfl⟩
    rw [i7]
    show (if Sl.own (startD δ ix n)[j]? = true then (H a1).map fun o => (j, a1, o) else none) = _
    rw [if_pos h, i8]
    rfl
theorem EnvOk.side {p : Addr} {w : HO} (I : EnvOk K Λ F0 H0 F H σ δ) (ho : ∀ i : Nat, Sl.own δ[i]? = true → ∃ x ∈ Λ, x.1 = i) (hp : ∀ x ∈ Λ, x.2.1 ≠ p) (h0 : H0 p = none) (h1 : F p = none) : EnvOk K Λ F0 H0 F (upd H p w) σ δ := by
  have ne : ∀ (i : Nat) (a : Addr), Sl.own δ[i]? = true → σ[i]? = some (some (.ref a)) → a ≠ p := fun i a h h' => by
    obtain ⟨x, hx, e⟩ := ho i h
    have z := (I.lent x hx).2.1
    rw [e, h'] at z
    cases z
    exact hp x hx
  have noTab : ∀ (j : Nat) (ll : List (List Int)), δ[j]? ≠ some (.p ll) := fun j ll h => by
    obtain ⟨x, hx, e⟩ := ho j (by rw [h]; rfl)
    obtain ⟨d, hd⟩ := (I.lent x hx).1
    rw [e, h] at hd; cases hd
  refine ⟨⟨I.ext.ff, fun b o q => ?_, fun b o q => ?_, I.ext.nw⟩, I.len, fun i => ?_, I.dist, fun x hx => ?_, fun j ll a vs h => absurd h (noTab j ll)⟩
  · rw [upd_ne (ne_of_none q h0)]; exact I.ext.hh b o q
  · rw [upd_ne (ne_of_none q h1)]; exact I.ext.fh b o q
  · have z := I.slot i
    cases q : δ[i]? with
    | none => trivial
    | some s =>
      rw [q] at z
      cases s with
      | no => trivial
      | v d => exact z
      | o d => obtain ⟨a, z1, z2, z3, z4⟩ := z; exact ⟨a, z1, z2, z3, z4.at (upd_ne (ne i a (by rw [q]; rfl) z1))⟩
      | l d => obtain ⟨a, z1, z2, z3, z4⟩ := z; exact ⟨a, z1, z2, z3, z4.at (upd_ne (ne i a (by rw [q]; rfl) z1))⟩
      | p ll => exact absurd q (noTab i ll)
  · obtain ⟨z1, z2, z3⟩ := I.lent x hx
    exact ⟨z1, z2, by rw [upd_ne (hp x hx)]; exact z3⟩
theorem EnvOk.weakL {δ' : En} (w : Weak δ δ') (hl : ∀ x ∈ Λ, ∃ d, δ[x.1]? = some (.l d)) (I : EnvOk K Λ F0 H0 F H σ δ') : EnvOk K Λ F0 H0 F H σ δ := by
  refine ⟨I.ext, I.len.trans w.1.symm, fun i => ?_, fun i j a hij h1 h2 h3 h4 => ?_, fun x hx => ⟨hl x hx, (I.lent x hx).2⟩, I.tabsOf (fun k ll h => ⟨(w.2 k).elim (fun z => by rw [z] at h; cases h) fun z => by rw [← z]; exact h, rfl⟩) (fun _ _ _ _ _ => rfl) fun k j ll r b bs _ _ _ _ ho hs => .inl ⟨(w.2 j).elim (fun z => by rw [z] at ho; cases ho) fun z => by rw [← z]; exact ho, hs⟩⟩
  · rcases w.2 i with z | z
    · rw [z]; trivial
    · rw [z]; exact I.slot i
  · have ow : ∀ k : Nat, Sl.own δ[k]? = true → Sl.own δ'[k]? = true := fun k h => by
      rcases w.2 k with z | z
      · rw [z] at h; cases h
      · rw [← z]; exact h
    exact I.dist i j a hij (ow i h1) (ow j h2) h3 h4
theorem gather_cons {f : D → R (Option D)} {d : D} {l r : List D} (h : (gather f (d :: l)).nev = .ok r) : ∃ o r', f d = .ok o ∧ (gather f l).nev = .ok r' ∧ r = o.toList ++ r' := by
  unfold gather at h
  cases q : f d with
  | no => rw [q] at h; cases h
  | ex x => rw [q] at h; cases h
  | ok o =>
    rw [q] at h
    cases q2 : gather f l with
    | no => rw [R.bind_ok, q2] at h; cases h
    | ex x => rw [R.bind_ok, q2] at h; cases h
    | ok r' => rw [R.bind_ok, q2] at h; cases h; exact ⟨o, r', rfl, rfl, rfl⟩
theorem nev_ok {α : Type} {r : R α} {a : α} (h : r.nev = .ok a) : r = .ok a := by
  cases r with
  | no => cases h
  | ok b => cases h; rfl
  | ex x => cases h
theorem seo_comp {wi : TI} {mi : En → R (List D)} {ix : List Nat} {n : Nat} {g : TG} {b : D → En → Option En} {tc : Option TT} {nc : Option (En → R Bool)}
    (hi : SIc K XO E wi mi) (hix : ix.Nodup) (hg : SG K g b) (hw : BW b) (hc : (tc = none ∧ nc = none) ∨ ∃ c k, tc = some c ∧ nc = some k ∧ ST K XO EN c k) (he : SE K XO EN te me) : SEo K XO E (tComp wi ix n g tc te) (mComp mi ix n b nc me) := by
  intro Λ F0 H0 F H σ δ Q I a
  refine hi Λ F0 H0 F H σ δ _ I (a.bind.imp fun ds F1 H1 e1 a1 J hJ p hp => ?_)
  unfold ifC at a1
  split at a1
  case isFalse => exact a1.elim
  rename_i hsz
  have I1 := I.grow e1
  obtain ⟨Λc, Ic, hown, hall⟩ := startD_ok (n := n) I1 hix
  cases qg : (gather (stepC b nc me (startD δ ix n)) ds).nev with
  | no => rw [qg] at a1; exact a1.elim
  | ex x => cases q2 : gather (stepC b nc me (startD δ ix n)) ds <;> (rw [q2] at qg; cases qg)
  | ok l =>
  rw [qg] at a1
  have hlent : ∀ x ∈ Λc, ∃ d, (startD δ ix n)[x.1]? = some (.l d) := fun x hx => (Ic.lent x hx).1
  have hpn : ∀ x ∈ Λc, x.2.1 ≠ p := fun x hx e => by
    obtain ⟨o, ho⟩ := hall x hx
    rw [e, hp] at ho; cases ho
  have p0 : H0 p = none := I1.ext.hh.free hp
  have f1 : F1 p = none := e1.fh.free hp
  refine ⟨fun i k ys σ2 H2 => ∃ F2 l1 l2, EnvOk K Λc F0 H0 F2 H2 σ2 (startD δ ix n) ∧ Ext F1 H1 F2 H2 ∧ H2 p = some (.lst ys) ∧ F2 p = none ∧ RepL K F2 l1 ys ∧ (gather (stepC b nc me (startD δ ix n)) (ds.drop i)).nev = .ok l2 ∧ l = l1 ++ l2 ∧ k = ds.length - i ∧ i ≤ ds.length ∧ ys.length ≤ i,
    ⟨_, F1, [], l, ?_, .newO e1.fh hp, upd_same, f1, .nil, qg, rfl, rfl, Nat.zero_le _, Nat.le_refl _⟩, ?_⟩
  · exact Ic.grow (.newO e1.fh hp)
  rintro i k ys σ2 H2 ⟨F2, l1, l2, I2, x2, hD, hF, r, qd, rfl, rfl, hil, hys⟩
  refine ⟨hD, ?_⟩
  by_cases hlt : i < ds.length
  · have e : ds.drop i = ds[i] :: ds.drop (i + 1) := List.drop_eq_getElem_cons hlt
    rw [e] at qd
    obtain ⟨o, l3, q1, q3, rfl⟩ := gather_cons qd
    obtain ⟨h1, h2⟩ := (hJ F2 H2 x2 i).1 ds[i] (by simp [hlt])
    refine .inr ⟨h1, fun ys' σ' H' => ∃ F' l1', EnvOk K Λc F0 H0 F' H' σ' (startD δ ix n) ∧ Ext F1 H1 F' H' ∧ H' p = some (.lst ys') ∧ F' p = none ∧ RepL K F' l1' ys' ∧ l1 ++ (o.toList ++ l3) = l1' ++ l3 ∧ ys'.length ≤ i + 1,
      fun ys' σ' H' ⟨F', l1', w1, w2, w3, w4, w5, w6, w7⟩ => ⟨_, by omega, F', l1', l3, w1, w2, w3, w4, w5, q3, w6, rfl, hlt, w7⟩, fun x H' y => ?_⟩
    obtain ⟨F3, e3, rx⟩ := h2 x H' y
    have hp2 : ∀ {F5 H5 : Hp}, Ext F2 H2 F5 H5 → H5 p = some (.lst ys) ∧ F5 p = none := fun z => ⟨z.hh _ _ hD, z.nw p _ hF hD⟩
    unfold stepC at q1
    cases qb : b ds[i] (startD δ ix n) with
    | none => rw [qb] at q1; cases q1
    | some δ1 =>
      rw [qb] at q1
      have hwk := hw _ _ _ qb
      refine hg Λc F0 H0 F3 H' σ2 _ _ x δ1 _ (I2.grow e3) rx qb fun σ3 I3 => ?_
      have fin : ∀ F4 H4, Ext F3 H' F4 H4 → (me δ1).nev.bind (fun x => R.ok (some x)) = .ok o → te σ3 H4 fun y H5 => H5 p = some (.lst ys) ∧ ys.length < sizeLine ∧
          ∃ F' l1', EnvOk K Λc F0 H0 F' (upd H5 p (.lst (ys ++ [y]))) σ3 (startD δ ix n) ∧ Ext F1 H1 F' (upd H5 p (.lst (ys ++ [y]))) ∧ upd H5 p (.lst (ys ++ [y])) p = some (.lst (ys ++ [y])) ∧ F' p = none ∧ RepL K F' l1' (ys ++ [y]) ∧ l1 ++ (o.toList ++ l3) = l1' ++ l3 ∧ (ys ++ [y]).length ≤ i + 1 := by
        intro F4 H4 e4 qe
        cases qm : me δ1 with
        | no => rw [qm] at qe; cases qe
        | ex x => rw [qm] at qe; cases qe
        | ok d =>
          rw [qm] at qe
          cases qe
          refine he Λc F0 H0 F4 H4 σ3 δ1 _ (I3.grow e4) ?_
          rw [qm]
          intro F5 H5 e5 v rv
          have z := e3.trans (e4.trans e5)
          obtain ⟨z1, z2⟩ := hp2 z
          refine ⟨z1, by omega, F5, l1 ++ [d], (((I3.grow e4).grow e5).weakL hwk hlent).side hown hpn p0 z2, ?_, upd_same, z2, (r.mono z.ff).append (.cons rv .nil), by simp, by simpa using hys⟩
          have w := x2.trans z
          exact ⟨w.ff, fun c o q => by rw [upd_ne (ne_of_none q hp)]; exact w.hh c o q, fun c o q => by rw [upd_ne (ne_of_none q z2)]; exact w.fh c o q, w.nw⟩
      rcases hc with ⟨rfl, rfl⟩ | ⟨c, kc, rfl, rfl, hcc⟩
      · have z := fin F3 H' (.refl e3.fh) q1
        unfold tTests
        simp only [if_true]
        exact z
      · simp only at q1
        refine hcc Λc F0 H0 F3 H' σ3 δ1 _ I3 ?_
        cases qk : kc δ1 with
        | no => rw [qk] at q1; cases q1
        | ex x => rw [qk] at q1; cases q1
        | ok bb =>
          rw [qk] at q1
          intro F4 H4 e4
          cases bb with
          | true => rw [if_pos rfl]; exact fin F4 H4 e4 q1
          | false =>
            rw [if_neg Bool.false_ne_true]
            have eo : o = none := by
              rw [R.nev_ok, R.bind_ok, if_neg Bool.false_ne_true] at q1
              cases q1; rfl
            subst eo
            have z := e3.trans e4
            obtain ⟨z1, z2⟩ := hp2 z
            exact ⟨F4, l1, (I3.grow e4).weakL hwk hlent, x2.trans z, z1, z2, r.mono z.ff, rfl, by omega⟩
  · have e : i = ds.length := by omega
    subst e
    rw [List.drop_length] at qd
    cases qd
    refine .inl ⟨(hJ F2 H2 x2 _).2 (by simp), a1 F2 H2 x2 p hF (e1.hh.free hp) ⟨ys, hD, ?_⟩⟩
    rw [List.append_nil]
    exact r
def startE (n : Nat) (ds : List D) : En := ds.map .v ++ List.replicate n .no
def runF (np nv : Nat) (m : En → O) (ds : List D) : R D := if ds.length = np then (match m (startE nv ds) with | .rt d => .ok d | .nx _ => .ok .non | .ex _ x => .ex x | _ => .no) else .no
theorem start_ok {np nv : Nat} {N : List Str} {ds : List D} {vs : List V} (s : Same F H) (r : RepL K F ds vs) (hn : N.length = np + nv) (hl : ds.length = np) : EnvOk K [] F H F H (L2.start N vs) (startE nv ds) := by
  have hv := r.length
  unfold L2.start startE
  have en : N.length - vs.length = nv := by omega
  rw [en]
  refine ⟨.refl s, by simp [hv], fun i => ?_, fun i j a _ h1 _ _ _ => ?_, fun x hx => (by cases hx), fun i ll a vs h1 => (by
    by_cases hi : i < ds.length
    · rw [List.getElem?_append_left (by simpa using hi), List.getElem?_map, List.getElem?_eq_getElem hi] at h1
      cases h1
    · rw [List.getElem?_append_right (by simpa using hi), List.getElem?_replicate] at h1
      split at h1 <;> cases h1)⟩
  · by_cases hi : i < ds.length
    · rw [List.getElem?_append_left (by simpa using hi), List.getElem?_append_left (by simp; omega), List.getElem?_map, List.getElem?_map, List.getElem?_eq_getElem hi]
      obtain ⟨v, h1, h2⟩ := r.get (List.getElem?_eq_getElem hi)
      rw [h1]
      exact ⟨v, rfl, h2⟩
    · rw [List.getElem?_append_right (by simpa using hi), List.getElem?_replicate]
      split <;> trivial
  · by_cases hi : i < ds.length
    · rw [List.getElem?_append_left (by simpa using hi), List.getElem?_map, List.getElem?_eq_getElem hi] at h1
      cases h1
    · rw [List.getElem?_append_right (by simpa using hi), List.getElem?_replicate] at h1
      split at h1 <;> cases h1
theorem fn_ok {np nv : Nat} {N : List Str} {vs : List V} {Q : VK} {E : XK} (h : SS K XO (fun _ => E) t m) (hn : N.length = np + nv) (sp : spM K XO (runF np nv m) vs H Q E) : t { nx := fun _ H' => Q .non H', rt := Q } (L2.start N vs) H := by
  obtain ⟨F, ds, s, r, a⟩ := sp
  unfold runF at a
  split at a
  · rename_i hl
    refine h [] F H F H _ _ _ (start_ok s r hn hl) ?_
    cases q : m (startE nv ds) with
    | no => rw [q] at a; exact a
    | nx δ => rw [q] at a; exact fun σ F' H' I => a F' H' I.ext _ (by simp only [Rep])
    | rt d => rw [q] at a; exact fun v F' H' e r => a F' H' e v r
    | ro d => rw [q] at a; exact a.elim
    | bk δ => rw [q] at a; exact a.elim
    | ct δ => rw [q] at a; exact a.elim
    | ex δ x => rw [q] at a; exact fun σ F' H' C dct I w => a C dct F' H' I.ext w
  · exact a.elim
def runO (np nv : Nat) (m : En → O) (ds : List D) : R D := if ds.length = np then (match m (startE nv ds) with | .ro d => .ok d | .ex _ x => .ex x | _ => .no) else .no
def spO (K : Kx) (XO : XOT) (f : List D → R D) : Sp := fun vs H Q E => ∃ F ds, Same F H ∧ RepL K F ds vs ∧ Aft (fun _ => E) XO [] F H (fun d F' H' => ∀ p, F' p = none → H p = none → Own K F' H' d p → Q (.ref p) H') (f ds)
theorem fn_okO {np nv : Nat} {N : List Str} {vs : List V} {Q : VK} {E : XK} (h : SS K XO (fun _ => E) t m) (hn : N.length = np + nv) (sp : spO K XO (runO np nv m) vs H Q E) : t { nx := fun _ H' => Q .non H', rt := Q } (L2.start N vs) H := by
  obtain ⟨F, ds, s, r, a⟩ := sp
  unfold runO at a
  split at a
  · rename_i hl
    refine h [] F H F H _ _ _ (start_ok s r hn hl) ?_
    cases q : m (startE nv ds) with
    | no => rw [q] at a; exact a
    | nx δ => rw [q] at a; exact a.elim
    | rt d => rw [q] at a; exact a.elim
    | ro d => rw [q] at a; exact fun p F' H' e h0 h1 o => a F' H' e p h0 h1 o
    | bk δ => rw [q] at a; exact a.elim
    | ct δ => rw [q] at a; exact a.elim
    | ex δ x => rw [q] at a; exact fun σ F' H' C dct I w => a C dct F' H' I.ext w
  · exact a.elim
theorem spO_len {np nv : Nat} {vs : List V} {Q : VK} {E : XK} (sp : spO K XO (runO np nv m) vs H Q E) : vs.length = np := by
  obtain ⟨F, ds, s, r, a⟩ := sp
  unfold runO at a
  split at a
  · rename_i hl; rw [r.length]; exact hl
  · exact a.elim
theorem spM_len {np nv : Nat} {vs : List V} {Q : VK} {E : XK} (sp : spM K XO (runF np nv m) vs H Q E) : vs.length = np := by
  obtain ⟨F, ds, s, r, a⟩ := sp
  unfold runF at a
  split at a
  · rename_i hl; rw [r.length]; exact hl
  · exact a.elim
theorem law_sp {f : List D → R D} {ns : List Int} {a : Addr} {Q : VK} {E : XK} (hf : f [.scr ns] = .ok (.bl true)) (h : SqL K.f H a (ns.map V.int)) (q : ∀ H', Q (.bl true) H') : spM K XO f [.ref a] H Q E := by
  refine ⟨fun b => if b = a then H b else none, [.scr ns], fun b o e => ?_, .cons ?_ .nil, ?_⟩
  · dsimp only at e
    split at e
    · exact e
    · cases e
  · simp only [Rep]
    refine ⟨a, rfl, ?_⟩
    rcases h with (h | ⟨o, h⟩) | h
    · exact .inl (.inl (by dsimp only; rw [if_pos rfl]; exact h))
    · exact .inl (.inr ⟨o, by dsimp only; rw [if_pos rfl]; exact h⟩)
    · exact .inr h
  · rw [hf]
    intro F' H' _ v r
    simp only [Rep] at r
    subst r
    exact q H'
theorem seo_callN {f : List D → R D} {tl : TA} {ml : En → R (List D)} {E' : XK} (h : SA K XO E tl ml) : SEo K XO E (tCall (spO K XO f) [] E' tl) (mCallN f ml) := by
  intro Λ F0 H0 F H σ δ Q I a
  refine h Λ F0 H0 F H σ δ _ I (a.bind.imp fun ds F1 H1 e1 a1 vs r => ⟨F1, ds, e1.fh, by rw [List.append_nil]; exact r, ?_⟩)
  exact Aft.imp (fun d F2 H2 e2 p q h0 h1 o => p q h0 (e1.hh.free h1) o) (Aft.any a1)
mutual
def clean : D → Bool
  | .tup l => cleanL l
  | .lst _ => false
  | .dct _ _ => false
  | .scr _ => false
  | .exc _ => false
  | .fd _ _ => false
  | .obj _ _ _ => false
  | _ => true
def cleanL : List D → Bool
  | [] => true
  | d :: l => clean d && cleanL l
end
variable (K) in
def Bor (F H : Hp) (d : D) (v : V) : Prop := Rep K F d v ∨ ∃ a, v = .ref a ∧ Own K F H d a
variable (K XO E) in
def SAb (t : TA) (m : En → R (List D)) : Prop := ∀ Λ F0 H0 F H σ δ Q, EnvOk K Λ F0 H0 F H σ δ → Aft E XO σ F H (fun ds F' H' => ∀ vs, Prd (Bor K F' H') ds vs → Q vs H') (m δ) → t σ H Q
theorem Bor.mono {F H F' H' : Hp} (e : Ext F H F' H') {d : D} {v : V} : Bor K F H d v → Bor K F' H' d v
  | .inl h => .inl (Rep.mono e.ff _ h)
  | .inr ⟨a, h1, h2⟩ => .inr ⟨a, h1, h2.mono e.ff e.hh⟩
theorem sab_nil : SAb K XO E tNil mNil := fun Λ F0 H0 F H σ δ Q I a => a F H (.refl I.same) _ .nil
theorem sab_own {i : Nat} {tr : TA} {mr : En → R (List D)} (hr : SAb K XO E tr mr) : SAb K XO E (tCons (tVar i) tr) (mCons (mRd i) mr) := by
  intro Λ F0 H0 F H σ δ Q I a
  have key : ∀ d v, mRd i δ = .ok d → σ[i]? = some (some v) → Bor K F H d v → tCons (tVar i) tr σ H Q := fun d v hm hs b => by
    unfold mCons at a
    rw [hm] at a
    refine ⟨v, hs, hr Λ F0 H0 F H σ δ _ I (Aft.imp (fun dy F2 H2 e2 a2 y ry => ?_) (Aft.bind a))⟩
    exact a2 F2 H2 (.refl e2.fh) _ (.cons (b.mono e2) ry)
  have z := I.slot i
  unfold mCons at a
  cases q : δ[i]? with
  | none =>
    have e : mRd i δ = .no := by unfold mRd; rw [q]
    rw [e] at a; exact a.elim
  | some s =>
    rw [q] at z
    cases s with
    | no =>
      have e : mRd i δ = .no := by unfold mRd; rw [q]
      rw [e] at a; exact a.elim
    | v d => obtain ⟨u, z1, z2⟩ := z; exact key d u (by unfold mRd; rw [q]) z1 (.inl z2)
    | o d => obtain ⟨u, z1, _, _, z2⟩ := z; exact key d _ (by unfold mRd; rw [q]) z1 (.inr ⟨u, rfl, z2⟩)
    | l d => obtain ⟨u, z1, _, _, z2⟩ := z; exact key d _ (by unfold mRd; rw [q]) z1 (.inr ⟨u, rfl, z2⟩)
    | p ll =>
      have e : mRd i δ = .no := by unfold mRd; rw [q]
      rw [e] at a; exact a.elim
def plusH (F H : Hp) : Hp := fun b => match F b with
  | some o => some o
  | none => match H b with
    | some (.lst vs) => some (.lst vs)
    | some (.dK kvs) => some (.dK kvs)
    | some (.frz o u) => some (.frz o u)
    | _ => none
theorem plus_ff {F H : Hp} : Same F (plusH F H) := fun b o h => by unfold plusH; rw [h]
theorem plus_fh {F H : Hp} (s : Same F H) : Same (plusH F H) H := fun b o h => by
  unfold plusH at h
  cases q : F b with
  | some u => rw [q] at h; cases h; exact s _ _ q
  | none =>
    simp only [q] at h
    cases q2 : H b with
    | none => rw [q2] at h; cases h
    | some u => cases u <;> simp only [q2] at h <;> cases h <;> rfl
theorem bor_rep {F H : Hp} (s : Same F H) : ∀ {d : D} {v : V}, Bor K F H d v → Rep K (plusH F H) d v := by
  intro d v h
  rcases h with h | ⟨a, rfl, h⟩
  · exact Rep.mono plus_ff _ h
  · cases d with
    | lst l =>
      obtain ⟨vs, h1, h2⟩ := h
      simp only [Rep]
      refine ⟨a, vs, rfl, .inl ?_, h2.mono plus_ff⟩
      unfold plusH
      cases q : F a with
      | some u => rw [s _ _ q] at h1; exact h1
      | none => simp only [h1]
    | dct ks l =>
      obtain ⟨vs, h1, h0, h2⟩ := h
      simp only [Rep]
      refine ⟨a, vs, rfl, ?_, h0, h2.mono plus_ff⟩
      unfold plusH
      cases q : F a with
      | some u => rw [s _ _ q] at h1; exact h1
      | none => simp only [h1]
    | _ => exact h.elim
theorem bor_repL {F H : Hp} (s : Same F H) : ∀ {ds : List D} {vs : List V}, Prd (Bor K F H) ds vs → RepL K (plusH F H) ds vs
  | _, _, .nil => .nil
  | _, _, .cons h t => .cons (bor_rep s h) (bor_repL s t)
open Classical in
noncomputable def minH (F H F' : Hp) : Hp := fun b => if F b = none ∧ H b ≠ none then none else F' b
theorem min_at {F H F' H' : Hp} (e : Ext (plusH F H) H F' H') {a : Addr} {o : HO} (h : F' a = some o) (h1 : ∀ vs, o ≠ .lst vs) (h2 : ∀ kvs, o ≠ .dK kvs) (h3 : ∀ q u, o ≠ .frz q u) : minH F H F' a = some o := by
  unfold minH
  split
  · rename_i hc
    exfalso
    cases qh : H a with
    | none => exact hc.2 qh
    | some u =>
      have np : plusH F H a = match H a with | some (.lst vs) => some (.lst vs) | some (.dK kvs) => some (.dK kvs) | some (.frz o u) => some (.frz o u) | _ => none := by
        unfold plusH; rw [hc.1]
      cases u with
      | lst vs => rw [qh] at np; have z := e.ff a _ np; rw [h] at z; cases z; exact h1 vs rfl
      | dK vs => rw [qh] at np; have z := e.ff a _ np; rw [h] at z; cases z; exact h2 vs rfl
      | frz q w => rw [qh] at np; have z := e.ff a _ np; rw [h] at z; cases z; exact h3 q w rfl
      | _ => rw [qh] at np; have z := e.nw a _ np qh; rw [h] at z; cases z
  · exact h
mutual
theorem rep_min {F H F' H' : Hp} (e : Ext (plusH F H) H F' H') : ∀ (d : D) {v : V}, clean d = true → Rep K F' d v → Rep K (minH F H F') d v
  | .non, v, _, h => by simp only [Rep] at h ⊢; exact h
  | .bl _, v, _, h => by simp only [Rep] at h ⊢; exact h
  | .int _, v, _, h => by simp only [Rep] at h ⊢; exact h
  | .str _, v, _, h => by simp only [Rep] at h ⊢; exact h
  | .lst _, v, c, h => by simp only [clean] at c; cases c
  | .dct _ _, v, c, h => by simp only [clean] at c; cases c
  | .scr _, v, c, h => by simp only [clean] at c; cases c
  | .exc _, v, c, h => by simp only [clean] at c; cases c
  | .fd _ _, v, c, h => by simp only [clean] at c; cases c
  | .obj _ _ _, v, c, h => by simp only [clean] at c; cases c
  | .tup l, v, c, h => by
    simp only [clean] at c
    simp only [Rep] at h ⊢
    obtain ⟨a, vs, h1, h2, h3⟩ := h
    exact ⟨a, vs, h1, min_at e h2 (fun _ z => by cases z) (fun _ z => by cases z) (fun _ _ z => by cases z), repL_min e l c h3⟩
theorem repL_min {F H F' H' : Hp} (e : Ext (plusH F H) H F' H') : ∀ (l : List D) {vs : List V}, cleanL l = true → RepL K F' l vs → RepL K (minH F H F') l vs
  | [], vs, _, h => by simp only [RepL] at h ⊢; exact h
  | d :: l, vs, c, h => by
    simp only [cleanL, Bool.and_eq_true] at c
    simp only [RepL] at h ⊢
    obtain ⟨v, r, h1, h2, h3⟩ := h
    exact ⟨v, r, h1, rep_min e d c.1 h2, repL_min e l c.2 h3⟩
end
theorem min_ext {F H F' H' : Hp} (e : Ext (plusH F H) H F' H') : Ext F H (minH F H F') H' := by
  refine ⟨fun b o h => ?_, e.hh, fun b o h => ?_, fun p o h1 h2 => ?_⟩
  · unfold minH
    rw [if_neg (fun hc => by rw [h] at hc; cases hc.1)]
    exact e.ff b o (plus_ff b o h)
  · unfold minH at h
    split at h
    · cases h
    · exact e.fh b o h
  · unfold minH
    rw [if_pos ⟨h1, by rw [h2]; intro z; cases z⟩]
def mCallB (f : List D → R D) (ml : En → R (List D)) (δ : En) : R D := (ml δ).bind fun l => (f l).nev.bind fun d => if clean d = true then .ok d else .no
theorem se_callB {f : List D → R D} {tl : TA} {ml : En → R (List D)} {E' : XK} (h : SAb K XO E tl ml) : SE K XO E (tCall (spM K XO f) [] E' tl) (mCallB f ml) := by
  intro Λ F0 H0 F H σ δ Q I a
  refine h Λ F0 H0 F H σ δ _ I (a.bind.imp fun ds F1 H1 e1 a1 vs r => ⟨plusH F1 H1, ds, plus_fh e1.fh, by rw [List.append_nil]; exact bor_repL e1.fh r, ?_⟩)
  cases q : f ds with
  | no => rw [q] at a1; exact a1.elim
  | ex x => rw [q] at a1; exact a1.elim
  | ok d =>
    rw [q] at a1
    intro F2 H2 e2 v rv
    simp only [R.nev_ok, R.bind_ok] at a1
    split at a1
    · rename_i hc
      exact a1 _ H2 (min_ext e2) v (rep_min e2 d hc rv)
    · exact a1.elim
variable (K) in
def SC (r : List V → Hp → VK → Prop) (f : List D → Option D) : Prop := ∀ F H vs ds d Q, Same F H → Prd (Top K F H) ds vs → f ds = some d → (∀ v F' H', Ext F H F' H' → Rep K F' d v → Q v H') → r vs H Q
variable (K) in
def SCo (r : List V → Hp → VK → Prop) (f : List D → Option D) : Prop := ∀ F H vs ds d Q, Same F H → Prd (Top K F H) ds vs → f ds = some d → (∀ p F' H', Ext F H F' H' → F' p = none → H p = none → Own K F' H' d p → Q (.ref p) H') → r vs H Q
def mCB (f : List D → Option D) (ml : En → R (List D)) (δ : En) : R D := (ml δ).bind fun l => R.of (f l)
theorem se_cb {r : List V → Hp → VK → Prop} {f : List D → Option D} {tl : TA} {ml : En → R (List D)} (hr : SC K r f) (h : SAr K XO E tl ml) : SE K XO E (tCB r tl) (mCB f ml) := by
  intro Λ F0 H0 F H σ δ Q I a
  refine h Λ F0 H0 F H σ δ _ I (a.bind.imp fun ds F1 H1 e1 a1 vs rv => ?_)
  cases q : f ds with
  | none => rw [q] at a1; exact a1.elim
  | some d => rw [q] at a1; exact hr F1 H1 vs ds d Q e1.fh rv q fun v F' H' e r => a1 F' H' e v r
theorem seo_cb {r : List V → Hp → VK → Prop} {f : List D → Option D} {tl : TA} {ml : En → R (List D)} (hr : SCo K r f) (h : SAr K XO E tl ml) : SEo K XO E (tCB r tl) (mCB f ml) := by
  intro Λ F0 H0 F H σ δ Q I a
  refine h Λ F0 H0 F H σ δ _ I (a.bind.imp fun ds F1 H1 e1 a1 vs rv => ?_)
  cases q : f ds with
  | none => rw [q] at a1; exact a1.elim
  | some d => rw [q] at a1; exact hr F1 H1 vs ds d Q e1.fh rv q fun p F' H' e h0 h1 o => a1 F' H' e p h0 (e1.hh.free h1) o
def fLen : List D → Option D
  | [.lst l] => some (.int l.length)
  | [.scr l] => some (.int l.length)
  | [.tup l] => some (.int l.length)
  | _ => none
theorem sc_len : SC K (fun xs H Q => ∃ p ys, xs = [.ref p] ∧ (SqL K.f H p ys ∨ SqT K.f H p ys) ∧ Q (.int ys.length) H) fLen := by
  intro F H vs ds d Q s r e q
  unfold fLen at e
  split at e
  · cases e
    cases r with
    | cons r r' =>
      cases r'
      obtain ⟨a, xs, rfl, h1, h2⟩ := r
      exact ⟨a, xs, rfl, .inl (.inl h1), q _ F H (.refl s) (by simp only [Rep]; rw [h2.length])⟩
  · cases e
    cases r with
    | cons r r' =>
      cases r'
      simp only [Top, Rep] at r
      obtain ⟨a, rfl, h1⟩ := r
      exact ⟨a, _, rfl, .inl (s.seq h1), q _ F H (.refl s) (by simp only [Rep]; rw [List.length_map])⟩
  · cases e
    cases r with
    | cons r r' =>
      cases r'
      simp only [Top, Rep] at r
      obtain ⟨a, xs, rfl, h1, h2⟩ := r
      exact ⟨a, xs, rfl, .inr (.inl (.inl (s _ _ h1))), q _ F H (.refl s) (by simp only [Rep]; rw [h2.length])⟩
  · cases e
def fLenD : List D → Option D
  | [.dct ks _] => some (.int ks.length)
  | _ => none
def fList : List D → Option D
  | [.lst l] => some (.lst l)
  | [.tup l] => some (.lst l)
  | _ => none
theorem sc_list : SCo K (fun xs H Q => ∃ p ys, xs = [.ref p] ∧ (SqL K.f H p ys ∨ SqT K.f H p ys) ∧ ∀ l, H l = none → Q (.ref l) (upd H l (.lst ys))) fList := by
  intro F H vs ds d Q s r e q
  unfold fList at e
  split at e
  · cases e
    cases r with
    | cons r r' =>
      cases r'
      obtain ⟨a, xs, rfl, h1, h2⟩ := r
      exact ⟨a, xs, rfl, .inl (.inl h1), fun p hp => q _ F _ (.newO s hp) (s.free hp) hp ⟨xs, upd_same, h2⟩⟩
  · cases e
    cases r with
    | cons r r' =>
      cases r'
      simp only [Top, Rep] at r
      obtain ⟨a, xs, rfl, h1, h2⟩ := r
      exact ⟨a, xs, rfl, .inr (.inl (.inl (s _ _ h1))), fun p hp => q _ F _ (.newO s hp) (s.free hp) hp ⟨xs, upd_same, h2⟩⟩
  · cases e
def asI : D → Option Int
  | .int i => some i
  | _ => none
def mNoP (_ : En) : R (Option Int) := .ok none
def mPart (me : En → R D) (δ : En) : R (Option Int) := (me δ).bind fun d => (R.of (asI d)).bind fun i => .ok (some i)
variable (K XO E) in
def SO (t : TO) (m : En → R (Option Int)) : Prop := ∀ Λ F0 H0 F H σ δ Q, EnvOk K Λ F0 H0 F H σ δ → Aft E XO σ F H (fun o _ H' => Q o H') (m δ) → t σ H Q
theorem so_no : SO K XO E tNoPart mNoP := fun Λ F0 H0 F H σ δ Q I a => a F H (.refl I.same)
theorem so_part (h : SE K XO E te me) : SO K XO E (tPart te) (mPart me) := by
  intro Λ F0 H0 F H σ δ Q I a
  refine h Λ F0 H0 F H σ δ _ I (a.bind.imp fun d F1 H1 e1 a1 v r => ?_)
  cases d with
  | int i => simp only [Rep] at r; exact ⟨i, r, a1 F1 H1 (.refl e1.fh)⟩
  | _ => exact a1.elim
def cutD (xs : List D) (lo hi : Option Int) : List D := (xs.drop (HT.sIx xs.length 0 lo)).take (HT.sIx xs.length xs.length hi - HT.sIx xs.length 0 lo)
def mSl (me : En → R D) (ml mh : En → R (Option Int)) (δ : En) : R D := (me δ).bind fun d => (ml δ).bind fun lo => (mh δ).bind fun hi => (R.of (asL d)).bind fun l => .ok (.lst (cutD l lo hi))
theorem seo_slice {tl th : TO} {ml mh : En → R (Option Int)} (h : SEr K XO E te me) (hl : SO K XO E tl ml) (hh : SO K XO E th mh) : SEo K XO E (tSl (rSlL K.f) te tl th) (mSl me ml mh) := by
  intro Λ F0 H0 F H σ δ Q I a
  refine h Λ F0 H0 F H σ δ _ I (a.bind.imp fun d F1 H1 e1 a1 v r => ?_)
  refine hl Λ F0 H0 F1 H1 σ δ _ (I.grow e1) (a1.bind.imp fun lo F2 H2 e2 a2 => ?_)
  refine hh Λ F0 H0 F2 H2 σ δ _ ((I.grow e1).grow e2) (a2.bind.imp fun hi F3 H3 e3 a3 => ?_)
  cases d with
  | lst l =>
    obtain ⟨p, vs, rfl, h1, h2⟩ := r
    refine ⟨p, vs, rfl, .inl (PM.Same.rd e3.hh (PM.Same.rd e2.hh h1)), fun q hq => a3 F3 _ (.newO e3.fh hq) q (e3.fh.free hq) (e1.hh.free (e2.hh.free (e3.hh.free hq))) ⟨_, upd_same, ?_⟩⟩
    unfold cutD cutV
    rw [← h2.length]
    exact (((h2.mono e2.ff).mono e3.ff).drop _).take _
  | scr l =>
    simp only [Top, Rep] at r
    obtain ⟨p, rfl, h1⟩ := r
    refine ⟨p, _, rfl, e3.hh.seq (e2.hh.seq (e1.fh.seq h1)), fun q hq => a3 F3 _ (.newO e3.fh hq) q (e3.fh.free hq) (e1.hh.free (e2.hh.free (e3.hh.free hq))) ⟨_, upd_same, ?_⟩⟩
    unfold cutD cutV
    rw [List.length_map, List.length_map]
    exact (RepL.ints.drop _).take _
  | _ => exact a3.elim
end
end PM
namespace PM
open PySem L2
noncomputable def oCat (x y : D) : Option D := match x, y with | .lst l, .lst r => ifC (l.length + r.length ≤ sizeLine) (some (.lst (l ++ r))) none | _, _ => none
def plainN : Nat → D → Bool
  | _, .non => true
  | _, .int _ => true
  | n + 1, .tup l => l.all (plainN n)
  | n + 1, .lst l => l.all (plainN n)
  | _, _ => false
open Classical in
noncomputable def oNeD (x y : D) : Option D := ifC (plainN 8 x = true ∧ plainN 8 y = true) (some (.bl (!decide (x = y)))) none
def isiB : String → D → Bool
  | "int", .int _ => true
  | "int", .bl _ => true
  | "bool", .bl _ => true
  | "list", .lst _ => true
  | "tuple", .tup _ => true
  | "str", .str _ => true
  | _, _ => false
def okI : D → Bool
  | .scr _ => false
  | .exc _ => false
  | .fd _ _ => false
  | .obj _ _ _ => false
  | _ => true
def oIsi (c : String) (d : D) : Option D := match d with | .scr _ => none | .exc _ => none | .fd _ _ => none | .obj _ _ _ => none | d => some (.bl (isiB c d))
def asIs : List D → Option (List Int)
  | [] => some []
  | .int i :: l => (asIs l).map (i :: ·)
  | _ => none
theorem asIs_map (ns : List Int) : asIs (ns.map .int) = some ns := by
  induction ns with
  | nil => rfl
  | cons a l ih => simp [asIs, ih]
theorem asIs_some {l : List D} {ns : List Int} (h : asIs l = some ns) : l = ns.map .int := by
  induction l generalizing ns with
  | nil => cases h; rfl
  | cons d l ih =>
    cases d with
    | int i =>
      simp only [asIs] at h
      cases q : asIs l with
      | none => rw [q] at h; cases h
      | some m => rw [q] at h; cases h; rw [ih q]; rfl
    | _ => cases h
def fSum : List D → Option D
  | [.lst l] => (asIs l).map fun ns => .int ns.sum
  | _ => none
def maxI : List Int → Int → Int
  | [], m => m
  | a :: l, m => maxI l (if a > m then a else m)
theorem gather_map {β : Type} {f : D → R (Option D)} (enc : β → D) (g : β → Option D) : ∀ (l : List β), (∀ x ∈ l, f (enc x) = .ok (g x)) → gather f (l.map enc) = .ok (l.filterMap g)
  | [], _ => rfl
  | x :: l, h => by
    rw [List.map_cons]
    unfold gather
    rw [h x List.mem_cons_self, R.bind_ok, gather_map enc g l fun y hy => h y (List.mem_cons_of_mem _ hy)]
    cases q : g x with
    | none => rw [List.filterMap_cons_none q]; rfl
    | some d => rw [List.filterMap_cons_some q]; rfl
theorem small {n : Nat} (h : n ≤ 100000) : n ≤ sizeLine := Nat.le_trans h (by decide)
end PM
namespace PM
open PySem L2
theorem fitN {i : Int} (n : Nat) (h : i.natAbs ≤ n) (h2 : n < 2 ^ 8000 := by decide +kernel) : Fit i := Nat.lt_of_le_of_lt h h2
@[simp] theorem oAdd_i (i j : Int) : oAdd (.int i) (.int j) = some (.int (i + j)) := rfl
@[simp] theorem oSub_i (i j : Int) : oSub (.int i) (.int j) = some (.int (i - j)) := rfl
theorem oMul_i {i j : Int} (h : Fit i) (h' : Fit j) : oMul (.int i) (.int j) = some (.int (i * j)) := ifC_pos (p := Fit i ∧ Fit j) ⟨h, h'⟩
theorem oDiv_i {i j : Int} (h : j ≠ 0) (h' : Fit j) : oDiv (.int i) (.int j) = some (.int (i.fdiv j)) := ifC_pos (p := j ≠ 0 ∧ Fit j) ⟨h, h'⟩
theorem oDiv_p {i j : Int} (h : 0 < j) (h' : Fit j) : oDiv (.int i) (.int j) = some (.int (i / j)) := by
  rw [oDiv_i (by omega) h', Int.fdiv_eq_ediv_of_nonneg _ (by omega)]
theorem oMod_i {i j : Int} (h : 0 < j) : oMod (.int i) (.int j) = some (.int (i % j)) := ifC_pos (p := 0 < j) h
theorem oPow_i {i j : Int} (h : CPow i j) : oPow (.int i) (.int j) = some (.int (i ^ j.toNat)) := ifC_pos (p := CPow i j) h
@[simp] theorem oLt_i (i j : Int) : oLt (.int i) (.int j) = some (.bl (decide (i < j))) := rfl
@[simp] theorem oLe_i (i j : Int) : oLe (.int i) (.int j) = some (.bl (decide (i ≤ j))) := rfl
@[simp] theorem oGt_i (i j : Int) : oGt (.int i) (.int j) = some (.bl (decide (j < i))) := rfl
@[simp] theorem oGe_i (i j : Int) : oGe (.int i) (.int j) = some (.bl (decide (j ≤ i))) := rfl
@[simp] theorem oNeg_i (i : Int) : oNeg (.int i) = some (.int (-i)) := rfl
@[simp] theorem oEq_i (i j : Int) : oEq (.int i) (.int j) = some (.bl (decide (i = j))) := by simp [oEq, fl, scal]
@[simp] theorem oNe_i (i j : Int) : oNe (.int i) (.int j) = some (.bl (!decide (i = j))) := by simp [oNe, fl, scal]
@[simp] theorem oIs_n (d : D) : oIs d .non = some (.bl (isN d)) := rfl
@[simp] theorem asB_b (b : Bool) : asB (.bl b) = some b := rfl
@[simp] theorem asL_l (l : List D) : asL (.lst l) = some l := rfl
@[simp] theorem asT_l (l : List D) : asT (.tup l) = some l := rfl
@[simp] theorem asI_i (i : Int) : asI (.int i) = some i := rfl
@[simp] theorem fLen_l (l : List D) : fLen [.lst l] = some (.int l.length) := rfl
@[simp] theorem fLen_t (l : List D) : fLen [.tup l] = some (.int l.length) := rfl
@[simp] theorem fLenD_d (k : List Key) (l : List D) : fLenD [.dct k l] = some (.int k.length) := rfl
@[simp] theorem fList_l (l : List D) : fList [.lst l] = some (.lst l) := rfl
@[simp] theorem oIxT_2a (a b : D) : oIxT (.tup [a, b]) (.int 0) = some a := rfl
@[simp] theorem oIxT_2b (a b : D) : oIxT (.tup [a, b]) (.int 1) = some b := rfl
theorem atI_nat {α : Type} {l : List α} {k : Nat} {d : α} (h : l[k]? = some d) : atI l (k : Int) = some d := by
  have hk := (List.getElem?_eq_some_iff.mp h).1
  unfold atI ixN
  rw [if_pos (by omega), if_pos (by omega)]
  exact h
theorem oIxL_n {l : List D} {k : Nat} {d : D} (h : l[k]? = some d) : oIxL (.lst l) (.int (k : Int)) = some d := atI_nat h
theorem oIxL_i {l : List D} {i : Int} {d : D} (h0 : 0 ≤ i) (h : l[i.toNat]? = some d) : oIxL (.lst l) (.int i) = some d := by
  have e : i = ((i.toNat : Nat) : Int) := by omega
  rw [e]
  exact oIxL_n h
theorem rng1 {n : Int} (h0 : 0 ≤ n) (h : n ≤ 100000) : rng [.int n] = some (rangeD 0 n.toNat) := by
  show ifC _ _ _ = _
  rw [ifC_pos (by omega)]
theorem rng2 {a b : Int} (h0 : -100000 ≤ a ∧ a ≤ 100000) (h : -100000 ≤ b ∧ b ≤ 100000) : rng [.int a, .int b] = some (rangeD a (b - a).toNat) := by
  show ifC _ _ _ = _
  rw [ifC_pos (by omega)]
theorem rangeD0 (n : Nat) : rangeD 0 n = (List.range n).map fun (k : Nat) => D.int (k : Int) := by
  unfold rangeD
  exact List.map_congr_left fun k _ => by simp
@[simp] theorem size2 (a b : α) : ([a, b].length ≤ sizeLine) = True := by simp [sizeLine]
end PM
namespace PM
open PySem L2
def sv : Option D → Sl
  | none => .no
  | some d => .v d
theorem bName_sv {i : Nat} {d : D} {δ : En} {o : Option D} (h : δ[i]? = some (sv o)) : bName i d δ = some (δ.set i (.v d)) := by
  unfold bName
  rw [h]
  cases o <;> rfl
@[simp] theorem sv_none : sv none = .no := rfl
@[simp] theorem sv_some (d : D) : sv (some d) = .v d := rfl
def dk (L : List Int) : D := .dct (L.map .inl) (L.map fun _ => .bl true)
theorem dk_get (L : List Int) (t : Int) : getK (L.map .inl) (L.map fun _ => .bl true) (.inl t) = if t ∈ L then some (.bl true) else none := by
  induction L with
  | nil => rfl
  | cons a l ih =>
    simp only [List.map_cons, getK, ih]
    by_cases h : a = t
    · subst h; simp
    · have h' : ¬ (Sum.inl a : Key) = Sum.inl t := fun e => h (Sum.inl.inj e)
      rw [if_neg h']
      have e : (t ∈ a :: l) = (t ∈ l) := by
        rw [List.mem_cons]
        exact propext ⟨fun z => z.resolve_left (fun e => h e.symm), .inr⟩
      simp only [e]
@[simp] theorem dIn_dk (L : List Int) (t : Int) : dIn (.int t) (dk L) = some (.bl (decide (t ∈ L))) := by
  simp only [dIn, asK, dk, dk_get]
  by_cases h : t ∈ L <;> simp [h]
@[simp] theorem dNotIn_dk (L : List Int) (t : Int) : dNotIn (.int t) (dk L) = some (.bl (!decide (t ∈ L))) := by
  simp only [dNotIn, asK, dk, dk_get]
  by_cases h : t ∈ L <;> simp [h]
@[simp] theorem fLenD_dk (L : List Int) : fLenD [dk L] = some (.int L.length) := by simp [dk]
def iL (l : List Int) : D := .lst (l.map .int)
theorem gather_all {α : Type} {f : D → R (Option D)} (enc : α → D) (g : α → D) (l : List α) (h : ∀ x ∈ l, f (enc x) = .ok (some (g x))) : gather f (l.map enc) = .ok (l.map g) := by
  rw [gather_map enc (fun x => some (g x)) l h, List.filterMap_eq_map']
end PM
namespace PM
open PySem L2
theorem mComp_ok {mi : En → R (List D)} {ix : List Nat} {n : Nat} {b : D → En → Option En} {nc : Option (En → R Bool)} {me : En → R D} {δ : En} {l r : List D} (h1 : mi δ = .ok l) (hl : l.length ≤ 100000)
    (h2 : gather (stepC b nc me (startD δ ix n)) l = .ok r) : mComp mi ix n b nc me δ = .ok (.lst r) := by
  unfold mComp
  rw [h1, R.bind_ok, ifC_pos (small hl), h2]
  rfl
theorem mFor_ok {mi : En → R (List D)} {b : D → En → Option En} {m : En → O} {δ : En} {l : List D} (h : mi δ = .ok l) : mFor mi b m δ = mLoop b m l δ := by
  unfold mFor
  rw [h]
  rfl
theorem runF_ok {np nv : Nat} {m : En → O} {ds : List D} {d : D} (h : m (startE nv ds) = .rt d) (hl : ds.length = np := by rfl) : runF np nv m ds = .ok d := by
  unfold runF
  rw [if_pos hl, h]
theorem runO_ok {np nv : Nat} {m : En → O} {ds : List D} {d : D} (h : m (startE nv ds) = .ro d) (hl : ds.length = np := by rfl) : runO np nv m ds = .ok d := by
  unfold runO
  rw [if_pos hl, h]
theorem mSeq_nx {m n : En → O} {δ δ' : En} (h : m δ = .nx δ') : mSeq m n δ = n δ' := by unfold mSeq; rw [h]
theorem mAsg_ok {me : En → R D} {b : D → En → Option En} {δ δ' : En} {d : D} (h : me δ = .ok d) (h2 : b d δ = some δ') : mAsg me b δ = .nx δ' := by unfold mAsg; rw [h, R.toO_ok, h2]; rfl
theorem mIfS_t {n : En → R Bool} {m m' : En → O} {δ : En} (h : n δ = .ok true) : mIfS n m m' δ = m δ := by unfold mIfS; rw [h]; rfl
theorem mIfS_f {n : En → R Bool} {m m' : En → O} {δ : En} (h : n δ = .ok false) : mIfS n m m' δ = m' δ := by unfold mIfS; rw [h]; rfl
theorem loop_inv {β : Type} {b : D → En → Option En} {m : En → O} (enc : β → D) (P : List β → En → Prop) (all : List β)
    (step : ∀ pre x post δ, all = pre ++ x :: post → P pre δ → ∃ δ1 δ2, b (enc x) δ = some δ1 ∧ (m δ1 = .nx δ2 ∨ m δ1 = .ct δ2) ∧ P (pre ++ [x]) δ2) (δ : En) (h : P [] δ) : ∃ δ2, mLoop b m (all.map enc) δ = .nx δ2 ∧ P all δ2 := by
  have key : ∀ (post pre : List β) (δ : En), all = pre ++ post → P pre δ → ∃ δ2, mLoop b m (post.map enc) δ = .nx δ2 ∧ P all δ2 := by
    intro post
    induction post with
    | nil => intro pre δ e h; exact ⟨δ, rfl, by rw [e, List.append_nil]; exact h⟩
    | cons x post ih =>
      intro pre δ e h
      obtain ⟨δ1, δ2, h1, h2, h3⟩ := step pre x post δ e h
      obtain ⟨δ3, h4, h5⟩ := ih (pre ++ [x]) δ2 (by rw [e]; simp) h3
      refine ⟨δ3, ?_, h5⟩
      rw [List.map_cons]
      unfold mLoop
      rw [h1]
      rcases h2 with h2 | h2 <;> (simp only [h2]; exact h4)
  exact key all [] δ rfl h
end PM
namespace PM
open PySem L2
@[simp] theorem fLen_iL (l : List Int) : fLen [iL l] = some (.int l.length) := by simp [iL]
@[simp] theorem asL_iL (l : List Int) : asL (iL l) = some (l.map .int) := rfl
end PM
namespace PM
open PySem L2
theorem cut_some (l : List Int) (lo hi : Option Int) : ∃ cs : List Int, cutD (l.map .int) lo hi = cs.map .int ∧ cs.length ≤ l.length := by
  refine ⟨(l.drop (HT.sIx l.length 0 lo)).take (HT.sIx l.length l.length hi - HT.sIx l.length 0 lo), ?_, by rw [List.length_take, List.length_drop]; omega⟩
  unfold cutD
  rw [List.length_map, List.map_take, List.map_drop]
theorem oCat_l {l r : List D} (h : l.length + r.length ≤ 100000) : oCat (.lst l) (.lst r) = some (.lst (l ++ r)) := by
  show ifC _ _ _ = _
  rw [ifC_pos (small h)]
theorem oNeD_eq {x y : D} (hx : plainN 8 x = true) (hy : plainN 8 y = true) (h : x = y) : oNeD x y = some (.bl false) := by
  unfold oNeD
  rw [ifC_pos ⟨hx, hy⟩]
  simp [h]
theorem plain_iL (l : List Int) : plainN 8 (iL l) = true := by
  show (l.map D.int).all (plainN 7) = true
  rw [List.all_map, List.all_eq_true]
  intro x _; rfl
end PM
namespace PM
open PySem L2 PyProof.Rows
section
variable {K : Kx} {ca : Nat → Addr} {an : Nat → Str} {XO : XOT} {E : L2.St → XK} {ta tb te : TE} {ma mb me : En → R D} {X : Cx}
def rCatS : R2 := fun x y H Q => ∃ l b xs zs, x = .ref l ∧ y = .ref b ∧ Rd H l (.lst xs) ∧ Rd H b (.lst zs) ∧ xs.length + zs.length ≤ sizeLine ∧ ∀ p, H p = none → Q (.ref p) (upd H p (.lst (xs ++ zs)))
theorem op_catS : OpR X (binaryOp .Add) rCatS := by
  intro pins s σ H x y v u Q I rx ry h
  obtain ⟨l, b, xs, zs, rfl, rfl, hH, hB, hz, q⟩ := h
  cases rx
  cases ry
  obtain ⟨z, its, n, r, e⟩ := hH.ok I.hok
  obtain ⟨z2, its2, n2, r2, e2⟩ := hB.ok I.hok
  have hl := r.length
  have hl2 := r2.length
  refine PySem.P.add_list e e2 ?_ (by rw [List.size_toArray, List.size_toArray]; omega)
  have ea : its.toArray ++ its2.toArray = (its ++ its2).toArray := by simp
  rw [ea]
  exact ⟨.ref _, _, I.lnew (t' := s.toks) (r.append r2) (by rw [List.length_append]; omega), rfl, q _ I.fresh⟩
theorem sr_cat : SRo K rCatS oCat := by
  intro F H x y dx dy d Q s hx hy e q
  cases dx with
  | lst l =>
    cases dy with
    | lst r =>
      simp only [oCat] at e
      unfold ifC at e
      split at e
      · rename_i hc
        cases e
        obtain ⟨a, vs, rfl, h1, h2⟩ := hx
        obtain ⟨b, ws, rfl, g1, g2⟩ := hy
        exact ⟨a, b, vs, ws, rfl, rfl, h1, g1, by rw [h2.length, g2.length]; exact hc, fun p hp => q p F _ (.newO s hp) (s.free hp) hp ⟨_, upd_same, h2.append g2⟩⟩
      · cases e
    | _ => cases e
  | _ => cases e
theorem repL_ints {F : Hp} : ∀ {ns : List Int} {xs : List V}, RepL K F (ns.map .int) xs → xs = ns.map V.int
  | [], xs, h => by simpa only [List.map_nil, RepL] using h
  | n :: ns, xs, h => by
    simp only [List.map_cons, RepL, Rep] at h
    obtain ⟨v, r, rfl, rfl, h3⟩ := h
    rw [repL_ints h3]; rfl
def rSum : List V → Hp → VK → Prop := fun xs H Q => ∃ (p : Addr) (ns : List Int), xs = [.ref p] ∧ Rd H p (.lst (ns.map V.int)) ∧ Q (.int ns.sum) H
theorem fSum_some {ds : List D} {d : D} (h : fSum ds = some d) : ∃ ns : List Int, ds = [.lst (ns.map .int)] ∧ d = .int ns.sum := by
  unfold fSum at h
  split at h
  · rename_i l
    cases z : asIs l with
    | none => rw [z] at h; cases h
    | some ns => rw [z] at h; cases h; exact ⟨ns, by rw [asIs_some z], rfl⟩
  · cases h
theorem sc_sum : SC K rSum fSum := by
  intro F H vs ds d Q s r e q
  obtain ⟨ns, rfl, rfl⟩ := fSum_some e
  cases r with
  | cons r r' =>
    cases r'
    obtain ⟨a, xs, rfl, h1, h2⟩ := r
    have ex := repL_ints h2
    subst ex
    exact ⟨a, ns, rfl, h1, q _ F H (.refl s) (by simp only [Rep])⟩
theorem call_sum_ints (hc : X.calm = true) : CallR X (.builtin "sum") rSum := by
  intro pins s σ H xs us Q I r h
  obtain ⟨p, ns, rfl, hq, q⟩ := h
  obtain ⟨u, rfl, rx⟩ := vals1 r
  cases rx
  obtain ⟨z, its, n, rv, e⟩ := hq.ok I.hok
  obtain ⟨ts, rfl, htl⟩ : ∃ ts : List Tok, its = (ns.zip ts).map (fun p => Value.int p.1 p.2) ∧ ts.length = ns.length := by
    clear e hq q z
    induction ns generalizing its with
    | nil => cases rv; exact ⟨[], rfl, rfl⟩
    | cons a l ih =>
      cases rv with
      | cons h t =>
        obtain ⟨tk, rfl⟩ := h
        obtain ⟨ts, rfl, hl⟩ := ih _ t
        exact ⟨tk :: ts, rfl, by simp [hl]⟩
  have ei : ((ns.zip ts).map (fun p => Value.int p.1 p.2)).toArray = intItems (ns.zip ts).toArray := by simp [intItems]
  rw [ei] at e
  refine sum_intListG (I.ok.hd hc) ⟨_, e, rfl, n, rfl⟩ fun h' tk t' hk => ?_
  have es : preSum (numAt (ns.zip ts).toArray) (ns.zip ts).toArray.size = ns.sum := by
    rw [preSum_eq, List.take_of_length_le (by simp)]
    have : (ns.zip ts).map (·.1) = ns := List.map_fst_zip (by omega)
    show ((ns.zip ts).map (·.1)).sum = _
    rw [this]
  rw [es]
  exact ⟨.int ns.sum, H, I.kept (t' := tk) hk, ⟨_, rfl⟩, q⟩
theorem kit_yes {K : W.Frag} {S T : String} (h2 : PySem.W.kitMeta T = true) (h3 : (PySem.fastBuiltinMro S).map (·.contains (.type T)) = some true) : PySem.W.kitOne K (.type S) (.type T) = some true := by
  unfold PySem.W.kitOne
  split
  · rfl
  · show (if PySem.W.kitMeta T = true then PySem.W.subIn K (.type S) (.type T) else none) = some true
    rw [if_pos h2]
    exact h3
def tyName : D → String
  | .non => "NoneType"
  | .bl _ => "bool"
  | .int _ => "int"
  | .str _ => "str"
  | .tup _ => "tuple"
  | .lst _ => "list"
  | .dct _ _ => "dict"
  | .scr _ => "list"
  | .exc _ => "object"
  | .fd _ _ => "object"
  | .obj _ _ _ => "object"
theorem kit_int_NoneType {K : W.Frag} : PySem.W.kitOne K (.type "NoneType") (.type "int") = some false := L2.kit_no (by decide +kernel) (by decide +kernel) (by decide +kernel)
theorem kit_int_bool {K : W.Frag} : PySem.W.kitOne K (.type "bool") (.type "int") = some true := kit_yes (by decide +kernel) (by decide +kernel)
theorem kit_int_int {K : W.Frag} : PySem.W.kitOne K (.type "int") (.type "int") = some true := L2.kit_self
theorem kit_int_str {K : W.Frag} : PySem.W.kitOne K (.type "str") (.type "int") = some false := L2.kit_no (by decide +kernel) (by decide +kernel) (by decide +kernel)
theorem kit_int_tuple {K : W.Frag} : PySem.W.kitOne K (.type "tuple") (.type "int") = some false := L2.kit_no (by decide +kernel) (by decide +kernel) (by decide +kernel)
theorem kit_int_list {K : W.Frag} : PySem.W.kitOne K (.type "list") (.type "int") = some false := L2.kit_no (by decide +kernel) (by decide +kernel) (by decide +kernel)
theorem kit_int_dict {K : W.Frag} : PySem.W.kitOne K (.type "dict") (.type "int") = some false := L2.kit_no (by decide +kernel) (by decide +kernel) (by decide +kernel)
theorem kit_bool_NoneType {K : W.Frag} : PySem.W.kitOne K (.type "NoneType") (.type "bool") = some false := L2.kit_no (by decide +kernel) (by decide +kernel) (by decide +kernel)
theorem kit_bool_bool {K : W.Frag} : PySem.W.kitOne K (.type "bool") (.type "bool") = some true := L2.kit_self
theorem kit_bool_int {K : W.Frag} : PySem.W.kitOne K (.type "int") (.type "bool") = some false := L2.kit_no (by decide +kernel) (by decide +kernel) (by decide +kernel)
theorem kit_bool_str {K : W.Frag} : PySem.W.kitOne K (.type "str") (.type "bool") = some false := L2.kit_no (by decide +kernel) (by decide +kernel) (by decide +kernel)
theorem kit_bool_tuple {K : W.Frag} : PySem.W.kitOne K (.type "tuple") (.type "bool") = some false := L2.kit_no (by decide +kernel) (by decide +kernel) (by decide +kernel)
theorem kit_bool_list {K : W.Frag} : PySem.W.kitOne K (.type "list") (.type "bool") = some false := L2.kit_no (by decide +kernel) (by decide +kernel) (by decide +kernel)
theorem kit_bool_dict {K : W.Frag} : PySem.W.kitOne K (.type "dict") (.type "bool") = some false := L2.kit_no (by decide +kernel) (by decide +kernel) (by decide +kernel)
theorem kit_list_NoneType {K : W.Frag} : PySem.W.kitOne K (.type "NoneType") (.type "list") = some false := L2.kit_no (by decide +kernel) (by decide +kernel) (by decide +kernel)
theorem kit_list_bool {K : W.Frag} : PySem.W.kitOne K (.type "bool") (.type "list") = some false := L2.kit_no (by decide +kernel) (by decide +kernel) (by decide +kernel)
theorem kit_list_int {K : W.Frag} : PySem.W.kitOne K (.type "int") (.type "list") = some false := L2.kit_no (by decide +kernel) (by decide +kernel) (by decide +kernel)
theorem kit_list_str {K : W.Frag} : PySem.W.kitOne K (.type "str") (.type "list") = some false := L2.kit_no (by decide +kernel) (by decide +kernel) (by decide +kernel)
theorem kit_list_tuple {K : W.Frag} : PySem.W.kitOne K (.type "tuple") (.type "list") = some false := L2.kit_no (by decide +kernel) (by decide +kernel) (by decide +kernel)
theorem kit_list_list {K : W.Frag} : PySem.W.kitOne K (.type "list") (.type "list") = some true := L2.kit_self
theorem kit_list_dict {K : W.Frag} : PySem.W.kitOne K (.type "dict") (.type "list") = some false := L2.kit_no (by decide +kernel) (by decide +kernel) (by decide +kernel)
theorem kitA_int {K : W.Frag} (d : D) (h : okI d = true) : PySem.W.kitOne K (.type (tyName d)) (.type "int") = some (isiB "int" d) := by
  cases d with
  | non => exact kit_int_NoneType
  | bl b => exact kit_int_bool
  | int b => exact kit_int_int
  | str b => exact kit_int_str
  | tup b => exact kit_int_tuple
  | lst b => exact kit_int_list
  | dct b b' => exact kit_int_dict
  | scr b => cases h
  | exc b => cases h
  | fd b b' => cases h
  | obj b b' b'' => cases h
theorem kitA_bool {K : W.Frag} (d : D) (h : okI d = true) : PySem.W.kitOne K (.type (tyName d)) (.type "bool") = some (isiB "bool" d) := by
  cases d with
  | non => exact kit_bool_NoneType
  | bl b => exact kit_bool_bool
  | int b => exact kit_bool_int
  | str b => exact kit_bool_str
  | tup b => exact kit_bool_tuple
  | lst b => exact kit_bool_list
  | dct b b' => exact kit_bool_dict
  | scr b => cases h
  | exc b => cases h
  | fd b b' => cases h
  | obj b b' b'' => cases h
theorem kitA_list {K : W.Frag} (d : D) (h : okI d = true) : PySem.W.kitOne K (.type (tyName d)) (.type "list") = some (isiB "list" d) := by
  cases d with
  | non => exact kit_list_NoneType
  | bl b => exact kit_list_bool
  | int b => exact kit_list_int
  | str b => exact kit_list_str
  | tup b => exact kit_list_tuple
  | lst b => exact kit_list_list
  | dct b b' => exact kit_list_dict
  | scr b => cases h
  | exc b => cases h
  | fd b b' => cases h
  | obj b b' b'' => cases h
theorem se_isi {c : String} (hk : ∀ d, okI d = true → PySem.W.kitOne K.f (.type (tyName d)) (.type c) = some (isiB c d)) (ha : SEr K XO E ta ma) : SE K XO E (tCB (rIs K.f) (tCons ta (tCons (tC (.ty c)) tNil))) (m1 (oIsi c) ma) := by
  intro Λ F0 H0 F H σ δ Q I a
  refine ha Λ F0 H0 F H σ δ _ I (a.bind.imp fun d F1 H1 e1 a1 x rx => ?_)
  by_cases hs' : okI d = true
  case neg =>
    cases d with
    | scr _ => exact a1.elim
    | exc _ => exact a1.elim
    | fd _ _ => exact a1.elim
    | obj _ _ _ => exact a1.elim
    | _ => exact absurd rfl hs'
  have a2 : Aft E XO σ F1 H1 (fun d F' H' => ∀ v, Rep K F' d v → Q v H') (.ok (.bl (isiB c d))) := by
    cases d with
    | scr l => cases hs'
    | exc l => cases hs'
    | fd _ _ => cases hs'
    | obj _ _ _ => cases hs'
    | _ => exact a1
  have fin := a2 F1 H1 (.refl e1.fh) (.bl (isiB c d)) (by simp only [Rep])
  suffices h : TyOf K.f H1 x (.type (tyName d)) from ⟨x, .ty c, .type c, _, _, rfl, rfl, h, hk d hs', fin⟩
  cases d with
  | non => simp only [Top, Rep] at rx; subst rx; exact .non
  | bl b => simp only [Top, Rep] at rx; subst rx; exact .bl _
  | int b => simp only [Top, Rep] at rx; subst rx; exact .int _
  | str b => simp only [Top, Rep] at rx; subst rx; exact .str _
  | tup l =>
    simp only [Top, Rep] at rx
    obtain ⟨p, vs, rfl, h1, h2⟩ := rx
    exact .tup (e1.fh _ _ h1)
  | lst l =>
    obtain ⟨p, vs, rfl, h1, h2⟩ := rx
    rcases h1 with h | ⟨o, h⟩
    · exact .lst h
    · exact .frz h
  | dct ks l => obtain ⟨p, kvs, rfl, h1, h2⟩ := rx; exact .dK h1
  | scr l => cases hs'
  | exc l => cases hs'
  | fd _ _ => cases hs'
  | obj _ _ _ => cases hs'
def toPy : Nat → D → PyData
  | _, .non => .none
  | _, .int i => .int i
  | n + 1, .tup l => .tuple (l.map (toPy n))
  | n + 1, .lst l => .list (l.map (toPy n))
  | _, _ => .none
theorem toPy_lay : ∀ (n : Nat) (d : D), plainN n d = true → (toPy n d).canLay0 = true ∧ (toPy n d).depth ≤ n := by
  intro n
  induction n with
  | zero =>
    intro d h
    cases d with
    | non => exact ⟨rfl, Nat.le_refl _⟩
    | int i => exact ⟨rfl, Nat.le_refl _⟩
    | _ => cases h
  | succ n ih =>
    have all : ∀ l : List D, l.all (plainN n) = true → PyData.canLayAll0 (l.map (toPy n)) = true ∧ PyData.depthAll (l.map (toPy n)) ≤ n := by
      intro l
      induction l with
      | nil => intro _; exact ⟨rfl, Nat.zero_le _⟩
      | cons a l ih2 =>
        intro h
        rw [List.all_cons, Bool.and_eq_true] at h
        obtain ⟨h1, h2⟩ := ih a h.1
        obtain ⟨h3, h4⟩ := ih2 h.2
        refine ⟨?_, ?_⟩
        · simp only [List.map_cons, PyData.canLayAll0, h1, h3, Bool.and_self]
        · simp only [List.map_cons, PyData.depthAll]; omega
    intro d h
    cases d with
    | non => exact ⟨rfl, Nat.zero_le _⟩
    | int i => exact ⟨rfl, Nat.zero_le _⟩
    | tup l => obtain ⟨h1, h2⟩ := all l h; exact ⟨by simpa only [toPy, PyData.canLay0] using h1, by simp only [toPy, PyData.depth]; omega⟩
    | lst l => obtain ⟨h1, h2⟩ := all l h; exact ⟨by simpa only [toPy, PyData.canLay0] using h1, by simp only [toPy, PyData.depth]; omega⟩
    | _ => cases h
open Classical in
theorem toPy_eq : ∀ (n : Nat) (d d' : D), plainN n d = true → plainN n d' = true → PyData.eqv (toPy n d) (toPy n d') = decide (d = d') := by
  intro n
  induction n with
  | zero =>
    intro d d' h h'
    cases d with
    | non => cases d' <;> first | (simp [toPy, PyData.eqv]; done) | cases h'
    | int i =>
      cases d' with
      | int j => simp only [toPy, PyData.eqv]; by_cases e : i = j <;> simp [e]
      | _ => first | (simp [toPy, PyData.eqv]; done) | cases h'
    | _ => cases h
  | succ n ih =>
    have all : ∀ l l' : List D, l.all (plainN n) = true → l'.all (plainN n) = true → PyData.eqvAll (l.map (toPy n)) (l'.map (toPy n)) = decide (l = l') := by
      intro l
      induction l with
      | nil => intro l' _ _; cases l' <;> simp [PyData.eqvAll]
      | cons a l ih2 =>
        intro l' h h'
        cases l' with
        | nil => simp [PyData.eqvAll]
        | cons b l' =>
          rw [List.all_cons, Bool.and_eq_true] at h h'
          simp only [List.map_cons, PyData.eqvAll, ih a b h.1 h'.1, ih2 l' h.2 h'.2]
          by_cases e1 : a = b <;> by_cases e2 : l = l' <;> simp [e1, e2]
    intro d d' h h'
    cases d with
    | non => cases d' <;> first | (simp [toPy, PyData.eqv]; done) | cases h'
    | int i =>
      cases d' with
      | int j => simp only [toPy, PyData.eqv]; by_cases e : i = j <;> simp [e]
      | _ => first | (simp [toPy, PyData.eqv]; done) | cases h'
    | tup l =>
      cases d' with
      | tup l' => simp only [toPy, PyData.eqv, all l l' h h']; simp
      | _ => first | (simp [toPy, PyData.eqv]; done) | cases h'
    | lst l =>
      cases d' with
      | lst l' => simp only [toPy, PyData.eqv, all l l' h h']; simp
      | _ => first | (simp [toPy, PyData.eqv]; done) | cases h'
    | _ => cases h
theorem reads_of {pins : List (Addr × Obj)} {σ : L2.St} {H F : Hp} {s : Shared} (I : Inv X pins σ H s) (sm : Same F H) : ∀ (n : Nat) (d : D) (v : V) (u : Value), plainN n d = true → Rep ⟨X.K, ca, an⟩ F d v → RelV v u → ∃ as, Reads s.heap u (toPy n d) as := by
  intro n
  induction n with
  | zero =>
    intro d v u h r ru
    cases d with
    | non => simp only [Rep] at r; subst r; cases ru; exact ⟨_, .none⟩
    | int i => simp only [Rep] at r; subst r; obtain ⟨t, rfl⟩ := ru; exact ⟨_, .int i t⟩
    | _ => cases h
  | succ n ih =>
    have all : ∀ (l : List D) (vs : List V) (us : List Value), l.all (plainN n) = true → RepL ⟨X.K, ca, an⟩ F l vs → Vals vs us → ∃ as, ReadsAll s.heap us (l.map (toPy n)) as := by
      intro l
      induction l with
      | nil => intro vs us _ r ru; simp only [RepL] at r; subst r; cases ru; exact ⟨_, .nil⟩
      | cons a l ih2 =>
        intro vs us h r ru
        rw [List.all_cons, Bool.and_eq_true] at h
        simp only [RepL] at r
        obtain ⟨v, r', rfl, r1, r2⟩ := r
        cases ru with
        | cons ru ru' =>
          obtain ⟨as, h1⟩ := ih a v _ h.1 r1 ru
          obtain ⟨bs, h2⟩ := ih2 r' _ h.2 r2 ru'
          exact ⟨_, .cons h1 h2⟩
    intro d v u h r ru
    cases d with
    | non => simp only [Rep] at r; subst r; cases ru; exact ⟨_, .none⟩
    | int i => simp only [Rep] at r; subst r; obtain ⟨t, rfl⟩ := ru; exact ⟨_, .int i t⟩
    | tup l =>
      simp only [Rep] at r
      obtain ⟨a, vs, rfl, h1, h2⟩ := r
      cases ru
      obtain ⟨its, rv, ⟨o, e, c, k, dd⟩, _⟩ := I.tuple (show SqT X.K H a vs from .inl (.inl (sm _ _ h1)))
      obtain ⟨as, h3⟩ := all l vs its h h2 rv
      exact ⟨_, .tuple e c dd (by simpa using h3)⟩
    | lst l =>
      simp only [Rep] at r
      obtain ⟨a, vs, rfl, h1, h2⟩ := r
      cases ru
      obtain ⟨its, rv, ⟨o, k, e, c, _, dd⟩, _⟩ := I.list (show SqL X.K H a vs from .inl (PM.Same.rd sm h1))
      obtain ⟨as, h3⟩ := all l vs its h h2 rv
      exact ⟨_, .list e c dd (by simpa using h3)⟩
    | _ => cases h
theorem reads_top {pins : List (Addr × Obj)} {σ : L2.St} {H F : Hp} {s : Shared} (I : Inv X pins σ H s) (sm : Same F H) {n : Nat} {d : D} {v : V} {u : Value} (h : plainN n d = true) (r : Top ⟨X.K, ca, an⟩ F H d v) (ru : RelV v u) : ∃ as, Reads s.heap u (toPy n d) as := by
  have r' : Rep ⟨X.K, ca, an⟩ (plusH F H) d v := by
    cases d with
    | lst l =>
      obtain ⟨a, vs, rfl, h1, h2⟩ := r
      rcases h1 with h1 | ⟨o, h1⟩
      · exact bor_rep sm (.inr ⟨a, rfl, vs, h1, h2⟩)
      · simp only [Rep]
        refine ⟨a, vs, rfl, .inr ⟨o, ?_⟩, h2.mono plus_ff⟩
        unfold plusH
        cases q : F a with
        | some u => rw [sm _ _ q] at h1; exact h1
        | none => simp only [h1]
    | dct ks l => cases n <;> cases h
    | _ => exact Rep.mono plus_ff _ r
  exact reads_of I (plus_fh sm) n d v u h r' ru
open Classical in
def rEqD (K : Kx) (neg : Bool) : R2 := fun x y H Q => ∃ (F : Hp) (dx dy : D), Same F H ∧ Top K F H dx x ∧ Top K F H dy y ∧ plainN 8 dx = true ∧ plainN 8 dy = true ∧ Q (.bl (if neg = true then !decide (dx = dy) else decide (dx = dy))) H
theorem op_neD (hu : X.A.units + 64 < cLine) : OpR X (compareOp .NotEq) (rEqD ⟨X.K, ca, an⟩ true) := by
  intro pins s σ H x y v u Q I rx ry h
  obtain ⟨F, dx, dy, sm, tx, ty, px, py, q⟩ := h
  obtain ⟨as, ra⟩ := reads_top I sm px tx rx
  obtain ⟨bs, rb⟩ := reads_top I sm py ty ry
  obtain ⟨l1, l2⟩ := toPy_lay 8 dx px
  obtain ⟨m1, m2⟩ := toPy_lay 8 dy py
  refine SeqAt.compareNe_reads ra rb l1 m1 (by omega) ?_
  rw [toPy_eq 8 dx dy px py]
  exact ⟨.bl _, H, I, rfl, q⟩
theorem sr_neD : SR K (rEqD K true) oNeD := by
  intro F H x y dx dy d Q s hx hy e q
  unfold oNeD ifC at e
  split at e
  · rename_i h
    cases e
    exact ⟨F, dx, dy, s, hx, hy, h.1, h.2, q _ F H (.refl s) (by simp only [Rep]; rfl)⟩
  · cases e
end
end PM
namespace L2
open PySem PySem.Spec PyProof.Rows
def relabelS (scope osc : Scope) : Scope := { scope with names := scope.names.map fun (n, k) => if (k == .free && osc.kind == .function && osc.names.lookup n == some .cell) then (n, .cell) else (n, k) }
section
variable {X : Cx}
end
end L2
namespace PM
open PySem L2
section
variable {K : Kx} {XO : XOT} {E : L2.St → XK}
end
end PM
namespace PM
open PySem L2
section
variable {K : Kx} {E : L2.St → XK} {ta : TE} {ma : En → R D} {t u : TS} {m n : En → O} {Λ : List (Nat × Addr × HO)} {F0 H0 F H : Hp} {σ : L2.St} {δ : En}
def noA {α : Type} : R α → R α
  | .ex x => if x.c < 16 then .ex x else .no
  | r => r
end
end PM
namespace L2
open PySem PySem.Spec PyProof.Rows
section
variable {P : Program} {w : World} {B : Around} {Z : Result → Shared → Prop} {J S : Addr} {fp wr : List Addr} {n : Nat} {Pv : Nat → Value → Prop} {Sn : Nat → Heap → Prop}
end
section
variable {P : Program} {w : World} {B : Around} {E : Value → Shared → Prop} {s : Shared} {Q : Value → Shared → Prop} {l : Addr} {xs : Array (Int × Tok)} {df : Value}
end
end L2
namespace L2
open PySem PySem.Spec PyProof.Rows
theorem maxI_ge : ∀ (l : List Int) (m : Int), m ≤ PM.maxI l m ∧ (∀ a ∈ l, a ≤ PM.maxI l m) ∧ (PM.maxI l m = m ∨ PM.maxI l m ∈ l)
  | [], m => ⟨Int.le_refl _, fun _ h => (by cases h), .inl rfl⟩
  | a :: l, m => by
    obtain ⟨h1, h2, h3⟩ := maxI_ge l (if a > m then a else m)
    unfold PM.maxI
    have e : (if a > m then a else m) = a ∧ a > m ∨ (if a > m then a else m) = m ∧ ¬ a > m := by split <;> simp_all
    refine ⟨by omega, fun b hb => ?_, ?_⟩
    · rcases List.mem_cons.mp hb with rfl | hb
      · omega
      · exact h2 b hb
    · rcases h3 with h3 | h3
      · rcases e with ⟨e, _⟩ | ⟨e, _⟩
        · exact .inr (by rw [h3, e]; exact List.mem_cons_self)
        · exact .inl (by rw [h3, e])
      · exact .inr (List.mem_cons_of_mem _ h3)
section
variable {X : Cx}
end
end L2
namespace PM
open PySem L2
section
variable {K : Kx} {XO : XOT} {E : L2.St → XK} {td te : TE} {md me : En → R D}
end
end PM
namespace L2
open PySem PySem.Spec PyProof.Rows
section
variable {X : Cx}
end
end L2
namespace PM
open PySem L2
section
variable {K : Kx} {XO : XOT} {E : L2.St → XK} {td ty tx : TE} {md my mx : En → R D}
noncomputable def oShl : D → D → Option D := i2c CPow fun i j => .int (i * 2 ^ j.toNat)
end
end PM
namespace L2
open PySem PySem.Spec PyProof.Rows
section
variable {X : Cx}
def tRng1 (ta : TA) : TE := fun σ H Q => ta σ H fun vs H1 => ∃ j : Int, vs = [.int j] ∧ ∀ r, H1 r = none → Q (.ref r) (upd H1 r (.rng 0 j))
theorem pe_rng1 {a : Expr} {ta : TA} {p pos : Pos} (hg : Gl X "range") (hm : X.mg "range" = none) (ha : PA X [a] ta) (hs : starEach [a] X.env = [(false, eval a X.env)] := by rfl) : PE X (.Call (.Name "range" p) [a] [] pos) (tRng1 ta) := by
  intro pins s σ H Q I h
  refine Call_ (ld_blt I hg hm boot_range (PyProof.Rows.callWith_type1 (thn (ha pos pins s σ H _ I h) fun us s1 ⟨vs, H1, I1, r1, q1⟩ => ?_) hs rfl))
  obtain ⟨j, e, q⟩ := q1
  subst e
  obtain ⟨u, rfl, t, rfl⟩ := vals1 r1
  refine call_range_1 ⟨.ref s1.heap.objs.size, _, ?_, rfl, q _ (I1.hok.fresh (Nat.le_refl _))⟩
  exact I1.laid (fun b o e => Heap.get?_push_of_some _ e) (Nat.le_refl _) ⟨_, _, _, Heap.get?_push_size _ rfl⟩
end
end L2
namespace PM
open PySem L2
section
variable {K : Kx} {XO : XOT} {E : L2.St → XK}
noncomputable def lstR (l : List D) : Option D := match l with
  | [.int j] => ifC (0 ≤ j ∧ j ≤ 100000) (some (.lst ((List.range j.toNat).map fun k : Nat => .int (k : Int)))) none
  | _ => none
end
end PM
namespace L2
open PySem PySem.Spec PyProof.Rows
theorem Inv.turnedL {X : Cx} {pins : List (Addr × Obj)} {σ : St} {H : Hp} {s : Shared} {h' : Heap} {t' : Nat} (ch : List Addr) (I : Inv X pins σ H s) (hf : ∀ b ∈ ch, FpOk X pins H b) (k : ∀ b o, b ∉ ch → s.heap.get? b = some o → h'.get? b = some o) : Inv X pins σ H { s with heap := h', toks := t' } := by
  have nit : ∀ b u, H b = some u → b ∉ ch := fun b u e z => by
    obtain ⟨f0, _⟩ := hf b z
    rw [f0] at e; cases e
  refine I.step (g' := s.gens) (d' := s.drawn) (ch := ch) (fun b hb => ?_) (fun b o _ _ hc e _ => k b o hc e) (fun b o _ _ hc e _ => ⟨o.slots, k b o hc e⟩) (fun _ _ _ _ n => n)
    (fun b o hc e => ⟨o, k b o hc e⟩) (fun _ _ e => e) (fun _ _ _ e => e) (fun b ps e => ⟨#[], by rw [e]; simp⟩) (fun m hm => ?_) (fun b u e => ?_) I.bare
  · obtain ⟨f0, f1, f2, f3, f4, f5⟩ := hf b hb
    exact ⟨f3, f1, f4, f5⟩
  · obtain ⟨o, es, ep, ho, r⟩ := hm
    refine ⟨o, es, ep, k _ o (fun z => ?_) ho, r⟩
    obtain ⟨_, f1, _⟩ := hf _ z
    exact f1 rfl
  · refine (I.hok b u e).stay (fun c v hc q => k c v ?_ q) (fun _ q => q) fun _ _ q => q
    rcases hc with z | z
    · rw [z]; exact nit b u e
    · exact nit c _ z
theorem Inv.laidT {X : Cx} {pins : List (Addr × Obj)} {σ : St} {H : Hp} {s : Shared} {h' : Heap} {t' : Nat} (ch : List Addr) {xs : List V} {us : List Value} (I : Inv X pins σ H s) (hf : ∀ b ∈ ch, FpOk X pins H b) (k : ∀ b o, b ∉ ch → s.heap.get? b = some o → h'.get? b = some o)
    (hl : xs.length ≤ sizeLine) (rv : Vals xs us) (ht : h'.get? s.heap.objs.size = some { cls := .type "tuple", data := .seq us.toArray }) : Inv X pins σ (upd H s.heap.objs.size (.tup xs)) { s with heap := h', toks := t' } := by
  have hT : H s.heap.objs.size = none := I.hok.fresh (Nat.le_refl _)
  have nit : ∀ b u, H b = some u → b ∉ ch := fun b u e z => by
    obtain ⟨f0, _⟩ := hf b z
    rw [f0] at e; cases e
  refine I.step (h' := h') (g' := s.gens) (d' := s.drawn) (t' := t') (ch := ch) (fun b hb => ?_) (fun b o _ _ hb q _ => k b o hb q) (fun b o _ _ hb q _ => ⟨o.slots, k b o hb q⟩) (fun b o hb q n => ?_) (fun b o hb q => ⟨o, k b o hb q⟩) (fun b ys q => ?_) (fun b o ys q => ?_) (fun b ps q => ⟨#[], ?_⟩) (fun m hm => ?_) ?_ I.bare
  · obtain ⟨f0, f1, f2, f3, f4, f5⟩ := hf b hb
    exact ⟨f3, f1, f4, f5⟩
  · rw [upd_ne (Nat.ne_of_lt (Heap.lt_size q))]; exact n
  · rw [upd_ne (ne_of_none q hT)]; exact q
  · rw [upd_ne (ne_of_none q hT)]; exact q
  · rw [upd_ne (ne_of_none q hT), q]; simp
  · obtain ⟨o, es', ep, ho', r⟩ := hm
    refine ⟨o, es', ep, k _ o (fun z => ?_) ho', r⟩
    obtain ⟨_, f1, _⟩ := hf _ z
    exact f1 rfl
  · intro b o q
    by_cases hb : b = s.heap.objs.size
    · subst hb
      rw [upd_same] at q; cases q
      exact ⟨hl, us, rv, ⟨_, ht, rfl, _, rfl⟩⟩
    · rw [upd_ne hb] at q
      refine (I.hok b o q).stay (fun c v hc' q' => ?_) (fun c q' => by rw [upd_ne (ne_of_none q' hT)]; exact q') fun c ys q' => by rw [upd_ne (ne_of_none q' hT)]; exact q'
      rcases hc' with rfl | hc'
      · exact k _ v (nit _ _ q) q'
      · exact k _ v (nit _ _ hc') q'
theorem zip_apart {h : Heap} {z TI TO i1 i2 a b : Addr} {f0 u v : Value} {k1 k2 : Nat} {xs ys : Array Value} (hd : [z, TI, TO, i1, i2].Nodup) (h1 : IsZip h z TI TO f0) (h3 : IsPair h TO u v) (h4 : h.IsListIter i1 a k1) (h5 : h.IsListIter i2 b k2) (p : PlainL h a xs) (p' : PlainL h b ys) : ZipApart z TI TO i1 i2 a b := by
  obtain ⟨o, n, e, c, _⟩ := p
  obtain ⟨o', n', e', c', _⟩ := p'
  obtain ⟨j1, g1, d1, _⟩ := h4
  obtain ⟨j2, g2, d2, _⟩ := h5
  simp only [List.nodup_cons, List.mem_cons, List.not_mem_nil, or_false, not_or, List.nodup_nil, and_true, not_false_eq_true] at hd
  obtain ⟨⟨z1, z2, z3, z4⟩, ⟨y1, y2, y3⟩, ⟨x1, x2⟩, w1⟩ := hd
  have q1 : ∀ {o : Obj} {l : Addr}, h.get? l = some o → o.cls = .type "list" → l ≠ z := fun e c r => by subst r; rw [h1] at e; cases e; simp at c
  have q2 : ∀ {o : Obj} {l : Addr}, h.get? l = some o → o.cls = .type "list" → l ≠ TO := fun e c r => by subst r; rw [h3] at e; cases e; simp at c
  have q3 : ∀ {o : Obj} {l : Addr}, h.get? l = some o → o.cls = .type "list" → l ≠ i1 := fun e c r => by subst r; rw [g1] at e; cases e; rw [d1] at c; simp at c
  have q4 : ∀ {o : Obj} {l : Addr}, h.get? l = some o → o.cls = .type "list" → l ≠ i2 := fun e c r => by subst r; rw [g2] at e; cases e; rw [d2] at c; simp at c
  exact ⟨Ne.symm z1, Ne.symm z2, Ne.symm z3, Ne.symm z4, y1, y2, y3, x1, x2, w1, q1 e c, q2 e c, q3 e c, q4 e c, q1 e' c', q2 e' c', q3 e' c', q4 e' c'⟩
def Itz (K : PySem.W.Frag) (a b : Addr) : It :=
  ⟨fun i H => ∃ xs ys x y, SqL K H a xs ∧ SqL K H b ys ∧ xs[i]? = some x ∧ ys[i]? = some y,
   fun i H v H' => ∃ p x y, v = .ref p ∧ H p = none ∧ H' = upd H p (.tup [x, y]) ∧ (∀ xs, SqL K H a xs → xs[i]? = some x) ∧ ∀ ys, SqL K H b ys → ys[i]? = some y,
   fun i H => ∃ xs ys, SqL K H a xs ∧ SqL K H b ys ∧ (xs.length ≤ i ∨ ys.length ≤ i)⟩
theorem turn_zip {P : Program} {w : World} {K : PySem.W.Frag} {es : List Expr} {k} {pos : Pos} (a b z TI TO i1 i2 : Addr) (hd : [z, TI, TO, i1, i2].Nodup) :
    Turn P w K (.Tuple es k pos) (Itz K a b) [z, TI, TO, i1, i2] z (fun i h => IsZip h z TI TO .none ∧ IsPair h TI (.ref i1) (.ref i2) ∧ (∃ u v, IsPair h TO u v) ∧ h.IsListIter i1 a i ∧ h.IsListIter i2 b i) where
  mem := by simp
  obj := fun i h st c hc => by
    obtain ⟨h1, h2, ⟨u, v, h3⟩, ⟨o1, h4, c1, d1⟩, o2, h5, c2, d2⟩ := st
    simp only [List.mem_cons, List.not_mem_nil, or_false] at hc
    rcases hc with rfl | rfl | rfl | rfl | rfl
    · exact ⟨_, h1, fun v z => by cases (show Data.fields _ = Data.cell v from z)⟩
    · exact ⟨_, h2, fun v z => by cases (show Data.seq _ = Data.cell v from z)⟩
    · exact ⟨_, h3, fun v z => by cases (show Data.seq _ = Data.cell v from z)⟩
    · exact ⟨o1, h4, fun v z => by rw [d1] at z; cases z⟩
    · exact ⟨o2, h5, fun v z => by rw [d2] at z; cases z⟩
  keep := fun i h h' st q => by
    obtain ⟨h1, h2, ⟨u, v, h3⟩, h4, h5⟩ := st
    exact ⟨q z (by simp) _ h1, q TI (by simp) _ h2, ⟨u, v, q TO (by simp) _ h3⟩, h4.at fun o e => q i1 (by simp) o e, h5.at fun o e => q i2 (by simp) o e⟩
  item := by
    intro X hP hw hK hc i pins s σ H E I hf st hg
    subst hP hw hK
    obtain ⟨xs, ys, x, y, q1, q2, hx, hy⟩ := hg
    obtain ⟨its, rv, p, hz⟩ := I.list q1
    obtain ⟨its', rv', p', hz'⟩ := I.list q2
    obtain ⟨u, hu, ru⟩ := rv.get hx
    obtain ⟨u', hu', ru'⟩ := rv'.get hy
    obtain ⟨h1, h2, ⟨f, g, h3⟩, h4, h5⟩ := st
    have D := zip_apart hd h1 h3 h4 h5 p p'
    have hT : H s.heap.objs.size = none := I.hok.fresh (Nat.le_refl _)
    have nT : ∀ c o, s.heap.get? c = some o → c ≠ s.heap.objs.size := fun c o e => Nat.ne_of_lt (Heap.lt_size e)
    refine wpAny_pyNext_zip_item D h1 h2 h3 h4 h5 p.isList p'.isList (x := u) (y := u') (by simpa using hu) (by simpa using hu') fun h' a1 a2 a3 a4 a5 a6 hk => ⟨_, rfl, ?_⟩
    refine wpAny_letOwnedTupleGo_zip a1 fun h'' b1 hs'' => ?_
    have hs2 : Heap.SameBut z h' h'' := hs''
    have nzT := nT z _ h1
    have hk2 : ∀ c o, c ∉ [z, TI, TO, i1, i2] → s.heap.get? c = some o → h''.get? c = some o := fun c o hc q => by
      simp only [List.mem_cons, List.not_mem_nil, or_false, not_or] at hc
      exact (hs2.2 c hc.1).trans (hk c o hc.1 hc.2.2.1 hc.2.2.2.1 hc.2.2.2.2 q)
    refine ⟨.ref s.heap.objs.size, upd H s.heap.objs.size (.tup [x, y]), ?_, rfl, ⟨_, x, y, rfl, hT, rfl, fun xs' h => by rw [I.list_inj h q1]; exact hx, fun ys' h => by rw [I.list_inj h q2]; exact hy⟩,
      ⟨b1, (hs2.2 _ D.TIz).trans (hk _ _ D.TIz D.TITO D.TIi1 D.TIi2 h2), ⟨u, u', (hs2.2 _ D.TOz).trans a2⟩, a3.at fun o e => (hs2.2 _ D.i1z).trans e, a4.at fun o e => (hs2.2 _ D.i2z).trans e⟩, fun c hc => ?_⟩
    · exact I.laidT (t' := s.toks) [z, TI, TO, i1, i2] hf hk2 (by show 2 ≤ sizeLine; decide) (.cons ru (.cons ru' .nil)) ((hs2.2 _ (Ne.symm nzT)).trans a5)
    · obtain ⟨f0, _⟩ := hf c hc
      rw [upd_ne]
      · exact f0
      · obtain ⟨o1, e4, _⟩ := h4
        obtain ⟨o2, e5, _⟩ := h5
        simp only [List.mem_cons, List.not_mem_nil, or_false] at hc
        rcases hc with rfl | rfl | rfl | rfl | rfl
        · exact nT _ _ h1
        · exact nT _ _ h2
        · exact nT _ _ h3
        · exact nT _ _ e4
        · exact nT _ _ e5
  done := by
    intro X hP hw hK hc i pins s σ H E I hf st hg
    subst hP hw hK
    obtain ⟨xs, ys, q1, q2, he⟩ := hg
    obtain ⟨its, rv, p, hz⟩ := I.list q1
    obtain ⟨its', rv', p', hz'⟩ := I.list q2
    obtain ⟨h1, h2, ⟨f, g, h3⟩, h4, h5⟩ := st
    have D := zip_apart hd h1 h3 h4 h5 p p'
    have l1 := rv.length
    have l2 := rv'.length
    refine wpAny_pyNext_zip_end (I.ok.hd hc) D h1 h2 h3 h4 h5 p.isList p'.isList (he.imp (fun z => by simp; omega) fun z => by simp; omega) fun h' hk => ⟨rfl, ?_⟩
    exact I.turnedL (t' := s.toks) [z, TI, TO, i1, i2] hf fun c o hc q => by
      simp only [List.mem_cons, List.not_mem_nil, or_false, not_or] at hc
      exact hk c o hc.1 hc.2.2.1 hc.2.2.2.1 hc.2.2.2.2 q
  self := fun _ _ _ _ _ st h => wpAny_pyIter_zip st.1 h
section
variable {X : Cx}
def iZip (K : PySem.W.Frag) (ta : TA) : TI := fun σ H R => ta σ H fun vs H1 => ∃ a b, vs = [.ref a, .ref b] ∧ (∃ xs, SqL K H1 a xs) ∧ (∃ ys, SqL K H1 b ys) ∧ R (Itz K a b) H1
theorem pi_zip {es : List Expr} {k} {tp : Pos} {l l' : Expr} {ta : TA} {p pos : Pos} (hg : Gl X "zip") (hm : X.mg "zip" = none) (ha : PA X [l, l'] ta) (hs : starEach [l, l'] X.env = (false, eval l X.env) :: starEach [l'] X.env := by rfl) (hs2 : (backTo pos (starEach [l'] X.env)).any (·.1) = false := by rfl) :
    PI X (.Tuple es k tp) (.Call (.Name "zip" p) [l, l'] [] pos) (iZip X.K ta) := by
  intro pins s σ H R I h
  refine Call_ (ld_blt I hg hm PyProof.Rows.boot_zip (PyProof.Rows.callWith_type1 (thn (ha pos pins s σ H _ I h) fun us s1 ⟨vs, H1, I1, r1, q1⟩ => ?_) hs hs2))
  obtain ⟨a, b, e, ⟨xs, hq⟩, ⟨ys, hq'⟩, q⟩ := q1
  subst e
  obtain ⟨u, v, rfl, rx, ry⟩ := vals2 r1
  cases rx
  cases ry
  obtain ⟨its, rv, pl, hz⟩ := I1.list hq
  obtain ⟨its', rv', pl', hz'⟩ := I1.list hq'
  refine call_zip_2 pl.isList pl'.isList fun h' c1 c2 c3 c4 c5 hsz hk => ?_
  have I2 : Inv X pins σ H1 { s1 with heap := h' } := I1.kept (t' := s1.toks) hk
  obtain ⟨m, em⟩ : ∃ m, m = s1.heap.objs.size := ⟨_, rfl⟩
  have hnd : [m + 4, m + 2, m + 3, m, m + 1].Nodup := by simp
  rw [← em] at c1 c2 c3 c4 c5 ⊢
  refine wpAny_pyIter_zip c1 ⟨m + 4, [m + 4, m + 2, m + 3, m, m + 1], _, _, H1, rfl, I2, turn_zip a b _ _ _ _ _ hnd, ⟨c1, c2, ⟨_, _, c3⟩, c4, c5⟩, fun d hd => ?_, q⟩
  have hd' : s1.heap.objs.size ≤ d := by
    simp only [List.mem_cons, List.not_mem_nil, or_false] at hd
    rcases hd with rfl | rfl | rfl | rfl | rfl <;> omega
  exact I1.fpOk hd' (I1.hok.fresh hd')
end
end L2
namespace PM
open PySem L2
section
variable {K : Kx} {XO : XOT} {E : L2.St → XK}
def zipD (l r : List D) : List D := List.zipWith (fun x y => .tup [x, y]) l r
def zip1 : List D → Option (List D)
  | [x, y] => (asL' x).bind fun l => (asL' y).map (zipD l)
  | _ => none
def mZip (ml : En → R (List D)) (δ : En) : R (List D) := (ml δ).bind fun l => R.of (zip1 l)
theorem zip1_some {l r : List D} (h : zip1 l = some r) : ∃ x y, l = [.lst x, .lst y] ∧ r = zipD x y := by
  match l, h with
  | [x, y], h =>
    cases x with
    | lst x =>
      cases y with
      | lst y => cases h; exact ⟨x, y, rfl, rfl⟩
      | _ => cases h
    | _ => cases h
theorem isIt_zip {a b : Addr} {ds es : List D} {vs ws : List V} {F1 : Hp} {P : Hp → Hp → Prop} (r : RepL K F1 ds vs) (r' : RepL K F1 es ws) (h : ∀ F2 H2, P F2 H2 → Same F1 F2 ∧ Same F2 H2 ∧ SqL K.f H2 a vs ∧ SqL K.f H2 b ws) : IsIt K (Itz K.f a b) P (zipD ds es) := by
  intro F2 H2 p i
  obtain ⟨s1, s2, q, q'⟩ := h F2 H2 p
  unfold zipD
  rw [List.getElem?_zipWith]
  refine ⟨fun d hd => ?_, fun hn => ?_⟩
  · cases e : ds[i]? with
    | none => rw [e] at hd; cases hd
    | some x =>
      cases e' : es[i]? with
      | none => rw [e, e'] at hd; cases hd
      | some y =>
        rw [e, e'] at hd
        cases hd
        obtain ⟨v, hv, rv⟩ := r.get e
        obtain ⟨w, hw, rw'⟩ := r'.get e'
        refine ⟨⟨vs, ws, v, w, q, q', hv, hw⟩, fun x' H' y => ?_⟩
        obtain ⟨p', x1, y1, rfl, hp, rfl, z1, z2⟩ := y
        have z := z1 vs q
        rw [hv] at z; cases z
        have z := z2 ws q'
        rw [hw] at z; cases z
        refine ⟨_, .new s2 hp, ?_⟩
        simp only [Rep]
        have m := s1.trans (Same.upd (u := .tup [v, w]) (s2.free hp))
        exact ⟨p', _, rfl, upd_same, .cons (Rep.mono m _ rv) (.cons (Rep.mono m _ rw') .nil)⟩
  · cases e : ds[i]? with
    | none => exact ⟨vs, ws, q, q', .inl (by rw [r.length]; exact List.getElem?_eq_none_iff.mp e)⟩
    | some x =>
      cases e' : es[i]? with
      | none => exact ⟨vs, ws, q, q', .inr (by rw [r'.length]; exact List.getElem?_eq_none_iff.mp e')⟩
      | some y => rw [e, e'] at hn; cases hn
theorem sic_zip {tl : TA} {ml : En → R (List D)} (h : SAr K XO E tl ml) : SIc K XO E (iZip K.f tl) (mZip ml) := by
  intro Λ F0 H0 F H σ δ R I a
  refine h Λ F0 H0 F H σ δ _ I (a.bind.imp fun ds F1 H1 e1 a1 vs r => ?_)
  cases q : zip1 ds with
  | none => rw [q] at a1; exact a1.elim
  | some z =>
    rw [q] at a1
    obtain ⟨l, l', rfl, rfl⟩ := zip1_some q
    cases r with
    | cons r r' =>
      cases r' with
      | cons r2 r3 =>
        cases r3
        obtain ⟨a, vs, rfl, h1, h2⟩ := r
        obtain ⟨b, ws, rfl, h3, h4⟩ := r2
        exact ⟨a, b, rfl, ⟨vs, .inl h1⟩, ⟨ws, .inl h3⟩, a1 F1 H1 (.refl e1.fh) _ (isIt_zip h2 h4 fun F2 H2 x => ⟨x.ff, x.fh, .inl (PM.Same.rd x.hh h1), .inl (PM.Same.rd x.hh h3)⟩)⟩
end
end PM
namespace PM
def minI : List Int → Int → Int
  | [], m => m
  | a :: l, m => minI l (if a < m then a else m)
end PM
namespace L2
open PySem PySem.Spec PyProof.Rows
theorem minI_le : ∀ (l : List Int) (m : Int), PM.minI l m ≤ m ∧ (∀ a ∈ l, PM.minI l m ≤ a) ∧ (PM.minI l m = m ∨ PM.minI l m ∈ l)
  | [], m => ⟨Int.le_refl _, fun _ h => (by cases h), .inl rfl⟩
  | a :: l, m => by
    obtain ⟨h1, h2, h3⟩ := minI_le l (if a < m then a else m)
    unfold PM.minI
    have e : (if a < m then a else m) = a ∧ a < m ∨ (if a < m then a else m) = m ∧ ¬ a < m := by split <;> simp_all
    refine ⟨by omega, fun b hb => ?_, ?_⟩
    · rcases List.mem_cons.mp hb with rfl | hb
      · omega
      · exact h2 b hb
    · rcases h3 with h3 | h3
      · rcases e with ⟨e, _⟩ | ⟨e, _⟩
        · exact .inr (by rw [h3, e]; exact List.mem_cons_self)
        · exact .inl (by rw [h3, e])
      · exact .inr (List.mem_cons_of_mem _ h3)
section
variable {X : Cx}
def rBest (f : List Int → Int → Int) : List V → Hp → VK → Prop := fun xs H Q => ∃ (p : Addr) (n : Int) (l : List Int), xs = [.ref p] ∧ Rd H p (.lst ((n :: l).map V.int)) ∧ Q (.int (f l n)) H
theorem int_list {ns : List Int} {its : List Value} (rv : Vals (ns.map V.int) its) : ∃ ts : List Tok, its.toArray = intItems (ns.zip ts).toArray ∧ (ns.zip ts).toArray.size = ns.length ∧ ∀ j, numAt (ns.zip ts).toArray j = ns.getD j 0 := by
  obtain ⟨ts, rfl, htl⟩ : ∃ ts : List Tok, its = (ns.zip ts).map (fun p => Value.int p.1 p.2) ∧ ts.length = ns.length := by
    induction ns generalizing its with
    | nil => cases rv; exact ⟨[], rfl, rfl⟩
    | cons a l ih =>
      cases rv with
      | cons h t =>
        obtain ⟨tk, rfl⟩ := h
        obtain ⟨ts, rfl, hl⟩ := ih t
        exact ⟨tk :: ts, rfl, by simp [hl]⟩
  refine ⟨ts, by simp [intItems], by simp; omega, fun j => ?_⟩
  rw [numAt_eq]
  have : (ns.zip ts).map (·.1) = ns := List.map_fst_zip (by omega)
  show ((ns.zip ts).map (·.1)).getD j 0 = _
  rw [this]
theorem best_max {m : Int} {l : List Int} {f : Nat → Int} (hf : ∀ j, f j = (m :: l).getD j 0) : f (argBest (fun i j => decide (f i > f j)) ((m :: l).length - 1)) = PM.maxI l m := by
  obtain ⟨g1, g2⟩ := argBest_gt f ((m :: l).length - 1)
  obtain ⟨k1, k2, k3⟩ := maxI_ge l m
  generalize argBest (fun i j => decide (f i > f j)) ((m :: l).length - 1) = j at *
  have hj : j < (m :: l).length := by have : (m :: l).length = l.length + 1 := rfl; omega
  have hm : (m :: l).getD j 0 ∈ m :: l := by rw [List.getD_eq_getElem?_getD, List.getElem?_eq_getElem hj]; exact List.getElem_mem hj
  rw [← hf j] at hm
  refine Int.le_antisymm ?_ ?_
  · rcases List.mem_cons.mp hm with z | z
    · rw [z]; exact k1
    · exact k2 _ z
  · have hx : PM.maxI l m ∈ m :: l := k3.elim (fun z => by rw [z]; exact List.mem_cons_self) fun z => List.mem_cons_of_mem _ z
    obtain ⟨i, hi, ei⟩ := List.getElem_of_mem hx
    have := g2 i (by have : (m :: l).length = l.length + 1 := rfl; omega)
    rw [hf i, List.getD_eq_getElem?_getD, List.getElem?_eq_getElem hi, ei] at this
    exact this
theorem best_min {m : Int} {l : List Int} {f : Nat → Int} (hf : ∀ j, f j = (m :: l).getD j 0) : f (argBest (fun i j => decide (f i < f j)) ((m :: l).length - 1)) = PM.minI l m := by
  obtain ⟨g1, g2⟩ := argBest_lt f ((m :: l).length - 1)
  obtain ⟨k1, k2, k3⟩ := minI_le l m
  generalize argBest (fun i j => decide (f i < f j)) ((m :: l).length - 1) = j at *
  have hj : j < (m :: l).length := by have : (m :: l).length = l.length + 1 := rfl; omega
  have hm : (m :: l).getD j 0 ∈ m :: l := by rw [List.getD_eq_getElem?_getD, List.getElem?_eq_getElem hj]; exact List.getElem_mem hj
  rw [← hf j] at hm
  refine Int.le_antisymm ?_ ?_
  · have hx : PM.minI l m ∈ m :: l := k3.elim (fun z => by rw [z]; exact List.mem_cons_self) fun z => List.mem_cons_of_mem _ z
    obtain ⟨i, hi, ei⟩ := List.getElem_of_mem hx
    have := g2 i (by have : (m :: l).length = l.length + 1 := rfl; omega)
    rw [hf i, List.getD_eq_getElem?_getD, List.getElem?_eq_getElem hi, ei] at this
    exact this
  · rcases List.mem_cons.mp hm with z | z
    · rw [z]; exact k1
    · exact k2 _ z
theorem call_maxL (hc : X.calm = true) : CallR X (.builtin "max") (rBest PM.maxI) := by
  intro pins s σ H xs us Q I r h
  obtain ⟨p, m, l, rfl, hq, q⟩ := h
  obtain ⟨u, rfl, rx⟩ := vals1 r
  cases rx
  obtain ⟨z, its, n, rv, e⟩ := hq.ok I.hok
  obtain ⟨ts, e1, e2, e3⟩ := int_list rv
  rw [e1] at e
  refine max_intList (I.ok.hd hc) ⟨_, e, rfl, n, rfl⟩ (by rw [e2]; simp) fun v h' tk hv hk => ?_
  obtain ⟨t, rfl⟩ := intItems_at hv
  refine ⟨.int (PM.maxI l m), H, I.kept (t' := tk) hk, ⟨t, ?_⟩, q⟩
  congr 1
  rw [e2]
  exact best_max e3
theorem call_minL (hc : X.calm = true) : CallR X (.builtin "min") (rBest PM.minI) := by
  intro pins s σ H xs us Q I r h
  obtain ⟨p, m, l, rfl, hq, q⟩ := h
  obtain ⟨u, rfl, rx⟩ := vals1 r
  cases rx
  obtain ⟨z, its, n, rv, e⟩ := hq.ok I.hok
  obtain ⟨ts, e1, e2, e3⟩ := int_list rv
  rw [e1] at e
  refine min_intList (I.ok.hd hc) ⟨_, e, rfl, n, rfl⟩ (by rw [e2]; simp) fun v h' tk hv hk => ?_
  obtain ⟨t, rfl⟩ := intItems_at hv
  refine ⟨.int (PM.minI l m), H, I.kept (t' := tk) hk, ⟨t, ?_⟩, q⟩
  congr 1
  rw [e2]
  exact best_min e3
end
end L2
namespace PM
open PySem L2
section
variable {K : Kx}
def fBest (f : List Int → Int → Int) : List D → Option D
  | [.lst (.int a :: l)] => (asIs l).map fun ns => .int (f ns a)
  | _ => none
theorem fBest_some {f : List Int → Int → Int} {ds : List D} {d : D} (h : fBest f ds = some d) : ∃ (n : Int) (l : List Int), ds = [.lst ((n :: l).map .int)] ∧ d = .int (f l n) := by
  unfold fBest at h
  split at h
  · rename_i a l
    cases z : asIs l with
    | none => rw [z] at h; cases h
    | some ns => rw [z] at h; cases h; exact ⟨a, ns, by rw [asIs_some z]; rfl, rfl⟩
  · cases h
theorem sc_best {f : List Int → Int → Int} : SC K (rBest f) (fBest f) := by
  intro F H vs ds d Q s r e q
  obtain ⟨n, l, rfl, rfl⟩ := fBest_some e
  cases r with
  | cons r r' =>
    cases r'
    obtain ⟨a, xs, rfl, h1, h2⟩ := r
    have ex := repL_ints (ns := n :: l) h2
    subst ex
    exact ⟨a, n, l, rfl, h1, q _ F H (.refl s) (by simp only [Rep])⟩
end
end PM
namespace L2
open PySem PySem.Spec PyProof.Rows
section
variable {X : Cx}
theorem ints_are {ns : List Int} {its : List Value} (rv : Vals (ns.map V.int) its) : IntsAre its ns := by
  induction ns generalizing its with
  | nil => cases rv; exact .nil
  | cons a l ih =>
    cases rv with
    | cons h t =>
      obtain ⟨tk, rfl⟩ := h
      exact .cons _ _ (ih t)
theorem are_ints {ns : List Int} {its : List Value} (rv : IntsAre its ns) : Vals (ns.map V.int) its := by
  induction rv with
  | nil => exact .nil
  | cons _ _ _ ih => exact .cons ⟨_, rfl⟩ ih
end
end L2
namespace PM
open PySem L2
section
variable {K : Kx}
end
end PM
namespace PM
open PySem L2
section
variable {K : Kx} {XO : XOT} {E : L2.St → XK} {te : TE} {me : En → R D}
end
end PM
namespace L2
open PySem PySem.Spec PyProof.Rows
section
variable {X : Cx}
theorem at_int {ns : List Int} {its : List Value} (rv : Vals (ns.map V.int) its) {m : Nat} (hm : m < its.toArray.size) : ∃ t, its.toArray[m] = .int (ns.getD m 0) t := by
  have len := rv.length
  rw [List.length_map] at len
  have hm' : m < ns.length := by rw [len]; simpa using hm
  obtain ⟨u, h1, t, h2⟩ := rv.get (show (ns.map V.int)[m]? = some (.int (ns.getD m 0)) by rw [List.getElem?_map, List.getD_eq_getElem?_getD, List.getElem?_eq_getElem hm']; rfl)
  refine ⟨t, ?_⟩
  rw [← h2]
  have := (List.getElem?_eq_some_iff.mp h1).2
  simpa using this
def isI (i : Int) : Value → Bool
  | .int a _ => a == i
  | _ => false
theorem isI_ok {ns : List Int} {its : List Value} (rv : Vals (ns.map V.int) its) (i : Int) (t : Tok) : ∀ y, y ∈ its.toArray → MeetsSeq.EqGives y (.int i t) (isI i y) := fun y hy => by
  obtain ⟨m, hm, e⟩ := Array.getElem_of_mem hy
  obtain ⟨u, h⟩ := at_int rv hm
  rw [← e, h]
  exact MeetsSeq.EqGives.int _ _ _ _
theorem isI_at {ns : List Int} {its : List Value} (rv : Vals (ns.map V.int) its) (i : Int) {m : Nat} (hm : m < its.toArray.size) : isI i its.toArray[m] = (ns.getD m 0 == i) := by
  obtain ⟨u, h⟩ := at_int rv hm
  rw [h]; rfl
theorem idx_at {ns : List Int} {i : Int} (h : ns.idxOf i < ns.length) : ns.getD (ns.idxOf i) 0 = i := by
  rw [List.getD_eq_getElem?_getD, List.getElem?_eq_getElem h]
  exact List.getElem_idxOf h
theorem idx_no {ns : List Int} {i : Int} {m : Nat} (h : m < ns.idxOf i) (hl : m < ns.length) : ns.getD m 0 ≠ i := fun e => by
  rw [List.getD_eq_getElem?_getD, List.getElem?_eq_getElem hl] at e
  induction ns generalizing m with
  | nil => simp at hl
  | cons a l ih =>
    rw [List.idxOf_cons] at h
    by_cases z : a = i
    · simp [z] at h
    · have z' : (a == i) = false := by simpa using z
      rw [z', cond_false] at h
      cases m with
      | zero => exact z e
      | succ m => exact ih (m := m) (by omega) (by simpa using hl) (by simpa using e)
def rIndexI : V → List V → Hp → VK → Prop := fun x vs H Q => ∃ (p : Addr) (ns : List Int) (i : Int), x = .ref p ∧ vs = [.int i] ∧ Rd H p (.lst (ns.map V.int)) ∧ ns.length ≤ 100000 ∧ ns.idxOf i < ns.length ∧ Q (.int (ns.idxOf i : Nat)) H
theorem mt_indexI : MtR X "list.index" rIndexI := by
  intro pins s σ H x vs v us Q I rx rv h
  obtain ⟨p, ns, i, rfl, rfl, rd, hl, hi, q⟩ := h
  cases rx
  obtain ⟨u, rfl, t, rfl⟩ := rv.one
  obtain ⟨_, its, n, rs, e⟩ := rd.ok I.hok
  have len := rs.length
  rw [List.length_map] at len
  have hj : ns.idxOf i < its.toArray.size := by rw [List.size_toArray, ← len]; exact hi
  refine call_meets F.slot_list_index ⟨_, e, rfl⟩ F.entry_list_index (F.args_list_index_2 _ _) (MeetsSeq.list_index p its.toArray n (.int i t) (isI i) (isI_ok rs i t) (ns.idxOf i) hj (by omega) ?_ fun m hm hlt => ?_) ⟨e, ?_⟩
  · rw [isI_at rs i hj, idx_at hi]; simp
  · rw [isI_at rs i hm]
    simpa using idx_no hlt (by rw [len]; simpa using hm)
  · exact ⟨.int (ns.idxOf i : Nat), H, I.tok _, ⟨_, rfl⟩, q⟩
end
end L2
namespace PM
open PySem L2
section
variable {K : Kx} {XO : XOT} {E : L2.St → XK} {tl te : TE} {ml me : En → R D}
def oIndex (x y : D) : Option D := match x, y with | .lst l, .int i => (asIs l).bind fun ns => if ns.length ≤ 100000 ∧ ns.idxOf i < ns.length then some (.int (ns.idxOf i : Nat)) else none | _, _ => none
theorem oIndex_some {x y d : D} (h : oIndex x y = some d) : ∃ (ns : List Int) (i : Int), x = .lst (ns.map .int) ∧ y = .int i ∧ (ns.length ≤ 100000 ∧ ns.idxOf i < ns.length) ∧ d = .int (ns.idxOf i : Nat) := by
  unfold oIndex at h
  split at h
  · rename_i l i
    cases z : asIs l with
    | none => rw [z] at h; cases h
    | some ns =>
      rw [z] at h
      simp only [Option.bind] at h
      split at h
      · rename_i hl
        cases h
        exact ⟨ns, i, by rw [asIs_some z], rfl, hl, rfl⟩
      · cases h
  · cases h
def mIndex (ml me : En → R D) (δ : En) : R D := (ml δ).bind fun x => match x with | .lst l => (me δ).bind fun y => R.of (oIndex (.lst l) y) | _ => .no
theorem se_index (hl : SEr K XO E tl ml) (he : SE K XO E te me) : SE K XO E (tBM K.f "list" rIndexI tl (tCons te tNil)) (mIndex ml me) := by
  intro Λ F0 H0 F H σ δ Q I a
  refine hl Λ F0 H0 F H σ δ _ I (a.bind.imp fun d F1 H1 e1 a1 x rx => ?_)
  cases d with
  | lst l =>
    obtain ⟨p, vs, rfl, h1, h2⟩ := rx
    refine ⟨.inl ⟨rfl, vs, .inl h1⟩, ?_⟩
    refine he Λ F0 H0 F1 H1 σ δ _ (I.grow e1) (a1.bind.imp fun k F2 H2 e2 a2 y ry => ?_)
    cases q : oIndex (.lst l) k with
    | none => rw [q] at a2; exact a2.elim
    | some z =>
      rw [q] at a2
      obtain ⟨ns, i, el, rfl, hc, rfl⟩ := oIndex_some q
      cases el
      have ex := repL_ints h2
      subst ex
      simp only [Rep] at ry
      subst ry
      exact ⟨p, ns, i, rfl, rfl, PM.Same.rd e2.hh h1, hc.1, hc.2, a2 F2 H2 (.refl e2.fh) _ (by simp only [Rep])⟩
  | _ => exact a1.elim
end
end PM
namespace L2
open PySem PySem.Spec PyProof.Rows
open Sem (wp)
section
variable {P : Program} {w : World} {B : Around} {Er : Value → Shared → Prop} {hp : Heap} {gs : Array GenState} {dr : Drawn} {tk : Nat} {os : OsState}
variable {nm q : Str} {C N : Addr} {bs bm bmB : List Value} {hdct : Bool} {sn : List Str} {sub : List Value} {ab : Bool} {col : Option Bool} {dd : Option Addr} {k0 k1 k2 k3 k5 : Option Value} {B0 Bn newId nid initId inN : String} {bmN : List Value}
end
end L2
namespace L2
open PySem PySem.Spec PyProof.Rows
section
variable {P : Program} {w : World} {B : Around} {Er : Value → Shared → Prop} {s : Shared}
end
end L2
namespace L2
open PySem PySem.Spec PyProof.Rows
section
variable {X : Cx}
end
end L2
namespace PM
open PySem L2
section
variable {K : Kx} {XO : XOT} {E : L2.St → XK}
end
end PM
namespace L2
open PySem PySem.Spec PyProof.Rows
def uniq (ns : List Int) : List Int := ns.foldl step_dedup []
section
variable {X : Cx}
theorem get_list : PGet X (rIxL X.K) := by
  intro pins s σ H x y v u Q I rx ry h
  obtain ⟨p, xs, i, z, rfl, rfl, hq, he, q⟩ := h
  cases rx
  obtain ⟨t, rfl⟩ := ry
  obtain ⟨its, r, pl, hz⟩ := I.list hq
  obtain ⟨j, h1, h2, h3, h4, h5⟩ := atI_get he
  obtain ⟨w, ew, rw'⟩ := r.get h2
  have hl := r.length
  have hn := line63
  by_cases h0 : 0 ≤ i
  · have hj : i.toNat = j := by
      rw [seqIndex_of h0 h5] at h1
      exact Option.some.inj h1
    exact wpAny_getItem_list pl.isList h0 (by omega) (by rw [hj]; simpa using ew) ⟨z, H, I, rw', q⟩
  · have hj : (i + (its.toArray.size : Int)).toNat = j := by
      rw [seqIndex_neg (by omega) h4] at h1
      rw [List.size_toArray, ← hl]
      exact Option.some.inj h1
    exact wpAny_getItem_list_neg pl.isList (by omega) (by rw [List.size_toArray] <;> omega) (by omega) (by rw [hj]; simpa using ew) ⟨z, H, I, rw', q⟩
end
end L2
namespace PM
open PySem L2
section
variable {K : Kx} {XO : XOT} {E : L2.St → XK}
end
end PM
namespace L2
open PySem PySem.Spec PyProof.Rows
section
variable {X : Cx}
end
end L2
namespace PM
open PySem L2
section
variable {K : Kx} {XO : XOT} {E : L2.St → XK} {tk te : TE} {mk me : En → R D}
end
end PM
namespace PM
open PySem L2
section
variable {K : Kx} {XO : XOT} {E : St → XK} {ta tb te : TE} {ma mb me : En → R D} {t u : TS} {m n : En → O} {Λ : List (Nat × Addr × HO)} {F0 H0 F H F' H' F1 H1 : Hp} {σ : St} {δ : En} {Dn : Ends}
def noTab (i : Nat) (δ : En) : Bool := (List.range δ.length).all fun j => j == i || match δ[j]? with | some (.p _) => false | _ => true
end
end PM
namespace L2
open PySem PySem.Spec PyProof.Rows
section
variable {X : Cx} {x : Str} {np hpos pos : Pos} {body : List Stmt} {b₀ : Stmt} {suite : List Stmt} {D' : Addr} {tb : (St → XK) → TS} {th : TS}
end
end L2
namespace PM
open PySem L2
section
variable {K : Kx} {E : L2.St → XK}
end
end PM
namespace PM
end PM
namespace L2
open PySem PySem.Spec PyProof.Rows
section
variable {prog : Program} {w : World} {A : Around} {E : Value → Shared → Prop} {s : Shared}
def TupI (h : Heap) (ns : List Int) (a : Addr) : Prop := ∃ its : List Value, Vals (ns.map V.int) its ∧ IsTup h a its.toArray
theorem TupI.typeIs {ns : List Int} {a : Addr} (x : TupI s.heap ns a) : s.TypeIs (.ref a) "tuple" := by
  obtain ⟨_, _, o, e, c, _⟩ := x
  exact ⟨o, e, c⟩
end
section
variable {prog : Program} {w : World} {A : Around} {R : Result → Shared → Prop} {I S : Addr} {fp wr : List Addr} {n : Nat} {P : Nat → Value → Prop} {St : Nat → Heap → Prop} {bt : Nat → Nat → Bool}
end
section
variable {prog : Program} {w : World} {A : Around} {E : Value → Shared → Prop} {s : Shared}
end
section
variable {X : Cx}
end
end L2
namespace PM
open PySem L2
section
variable {K : Kx}
end
end PM
namespace L2
open PySem PySem.Spec PyProof.Rows
section
variable {X : Cx}
end
end L2
namespace PM
open PySem L2
section
variable {K : Kx} {XO : XOT} {E : L2.St → XK}
end
end PM
namespace L2
open PySem PySem.Spec PyProof.Rows
section
variable {X : Cx} {a b c : Expr} {ta tb tc : TE} {pos : Pos}
end
end L2
namespace PM
open PySem L2
section
variable {K : Kx} {XO : XOT} {E : L2.St → XK} {ta tb tc : TE} {ma mb mc : En → R D}
end
end PM
namespace L2
open PySem PySem.Spec PyProof.Rows
section
variable {X : Cx} {e st : Expr} {te ts : TE} {p2 pos : Pos}
end
end L2
namespace PM
open PySem L2
section
variable {K : Kx} {XO : XOT} {E : L2.St → XK} {te ts : TE} {me ms : En → R D}
theorem RepL.append' {F : Hp} : ∀ {l m : List D} {vs ws : List V}, RepL K F l vs → RepL K F m ws → RepL K F (l ++ m) (vs ++ ws)
  | [], _, vs, _, h, k => by
    have : vs = [] := h
    subst this
    exact k
  | d :: l, m, vs, ws, h, k => by
    obtain ⟨v, r, rfl, h1, h2⟩ := h
    exact ⟨v, r ++ ws, rfl, h1, RepL.append' h2 k⟩
theorem RepL.reverse {F : Hp} : ∀ {l : List D} {vs : List V}, RepL K F l vs → RepL K F l.reverse vs.reverse
  | [], vs, h => by
    have : vs = [] := h
    subst this
    exact h
  | d :: l, vs, h => by
    obtain ⟨v, r, rfl, h1, h2⟩ := h
    rw [List.reverse_cons, List.reverse_cons]
    exact RepL.append' (RepL.reverse h2) ⟨v, [], rfl, h1, rfl⟩
end
end PM
namespace L2
open PySem PySem.Spec PyProof.Rows
section
variable {prog : Program} {w : World} {A : Around} {E : Value → Shared → Prop} {s : Shared}
end
section
variable {prog : Program} {w : World} {A : Around} {E : Value → Shared → Prop} {s : Shared}
end
section
variable {X : Cx} {l : Expr} {tl : TE}
end
end L2
namespace PM
open PySem L2
section
variable {K : Kx} {XO : XOT} {E : L2.St → XK} {te : TE} {me : En → R D}
end
end PM
namespace L2
open PySem PySem.Spec PyProof.Rows Builtin Builtin.ObjectAttr
section
variable {prog : Program} {w : World} {A : Around} {E : Value → Shared → Prop} {s : Shared} {K : PySem.W.Frag} {x C : Addr} {ox : Obj} {od : Option Obj} {name : Str} {tk : Tok} {v : Value} {R : Result → Shared → Prop}
end
section
variable {X : Cx} {o e value : Expr} {f : Str} {pos pos' tpos : Pos} {ta tv : TE}
end
section
variable {M : Model} {A : Around} {E : Value → Shared → Prop} {s : Shared} {B : Heap} {env : Env} {outer l : List Env} {L e : Addr} {Q : Unit → Shared → Prop}
end
section
variable {P : Program} {w : World} {K : PySem.W.Frag} {mg : Str → Option Value} {base : Heap} {N : List Str} {qual : Str} {scope : Scope} {f : Addr} {cd : Value} {A : Around} {outer : List Env} {s0 : Shared} {H0 : Hp} {E : XK}
end
section
variable {M : Model} {A : Around} {E : Value → Shared → Prop} {env : Env}
variable {nm q : Str} {C N : Addr} {bs bm : List Value} {hdct : Bool} {sn : List Str} {sub : List Value} {ab : Bool} {col : Option Bool} {dd : Option Addr} {k0 k1 k2 k3 k5 : Option Value} {newId : String}
end
section
variable {P : Program} {w : World} {K : PySem.W.Frag} {mg : Str → Option Value} {base : Heap} {N : List Str} {qual : Str} {scope : Scope} {f : Addr} {cd : Value} {A : Around} {outer : List Env} {s0 : Shared} {H0 : Hp} {E : XK}
end
section
variable {X : Cx} {CX : CXT} {k : Nat} {fa : Addr} {fd : FuncData} {ps : List Str} {sp : Sp} {x : Str} {np cpos pos : Pos} {e₀ : Expr} {rest : List Expr} {C : Addr} {bmB bmN : List Value} {newId Bn B nid inN initId : String} {E : St → XK} {t : TA}
end
end L2
namespace PM
open PySem L2
section
variable {X : Cx} {fa : Addr} {ps : List Str} {sp : Sp} {x : Str} {np cpos pos : Pos} {e₀ : Expr} {rest : List Expr} {C : Addr} {bmB bmN : List Value} {newId Bn B nid inN initId : String} {E : L2.St → XK} {t : TA}
end
section
variable {K : Kx} {XO : XOT} {E : L2.St → XK} {ta : TE} {ma : En → R D} {Λ : List (Nat × Addr × HO)} {F0 H0 F H : Hp} {σ : L2.St} {δ : En}
end
end PM
namespace L2
open PySem PyProof.Rows
def Lx (ky : Nat → Int) (i j : Nat) : Prop := ky i < ky j ∨ (ky i = ky j ∧ i < j)
theorem Lx.trans {ky : Nat → Int} {a b c : Nat} (h : Lx ky a b) (h' : Lx ky b c) : Lx ky a c := by unfold Lx at *; omega
theorem Lx.le {ky : Nat → Int} {a b : Nat} (h : Lx ky a b) : ky a ≤ ky b := by unfold Lx at h; omega
abbrev gAr (p : Array Nat) (j : Nat) : Nat := p.getD j 0
theorem gAr_rev {p : Array Nat} {i j : Nat} (hj : j ≤ p.size) (k : Nat) : gAr (PySem.W.kas_rev p i j) k = if i ≤ k ∧ k < j then gAr p (i + j - 1 - k) else gAr p k := by
  unfold gAr PySem.W.kas_rev
  rw [Array.getD_eq_getD_getElem?, getElem?_mirror_all hj, Array.getD_eq_getD_getElem?, Array.getD_eq_getD_getElem?]
  split <;> rfl
theorem gAr_bub {p : Array Nat} {s d : Nat} (hs : s < p.size) (hd : d ≤ s) (k : Nat) : gAr (bubble p s d) k = if k = s - d then gAr p s else if s - d < k ∧ k ≤ s then gAr p (k - 1) else gAr p k := by
  unfold gAr
  rw [Array.getD_eq_getD_getElem?, getElem?_bubble hs d hd, Array.getD_eq_getD_getElem?, Array.getD_eq_getD_getElem?, Array.getD_eq_getD_getElem?]
  split
  · rfl
  · split <;> rfl
def Arr (N : Nat) (p : Array Nat) : Prop := p.Perm (List.toArray (List.range N))
section
variable {N : Nat} {p : Array Nat}
theorem Arr.list (h : Arr N p) : p.toList.Perm (List.range N) := by simpa using Array.perm_iff_toList_perm.mp h
theorem Arr.size (h : Arr N p) : p.size = N := by have := h.size_eq; simpa using this
theorem Arr.get (h : Arr N p) {i : Nat} (hi : i < N) : p.toList[i]? = some (gAr p i) := by
  have : i < p.size := by rw [h.size]; exact hi
  simp [gAr, Array.getD, this]
theorem Arr.lt (h : Arr N p) {i : Nat} (hi : i < N) : gAr p i < N := by
  have := h.list.mem_iff.mp (List.mem_of_getElem? (h.get hi))
  simpa using this
theorem Arr.inj (h : Arr N p) {i j : Nat} (hi : i < N) (hj : j < N) (e : gAr p i = gAr p j) : i = j := by
  have nd : p.toList.Nodup := h.list.nodup_iff.mpr List.nodup_range
  have h1 := h.get hi
  have h2 := h.get hj
  rw [← e] at h2
  have li : i < p.toList.length := by simpa [h.size] using hi
  exact (List.getElem?_inj li nd).mp (h1.trans h2.symm)
theorem Arr.below (h : Arr N p) {n i : Nat} (hn : ∀ j, n ≤ j → j < N → gAr p j = j) (hi : i < n) (hN : n ≤ N) : gAr p i < n := by
  by_cases hlt : gAr p i < n
  · exact hlt
  · exfalso
    have l := h.lt (show i < N by omega)
    have e := hn (gAr p i) (by omega) l
    have := h.inj (show i < N by omega) l e.symm
    omega
theorem Arr.rev (h : Arr N p) (i j : Nat) : Arr N (PySem.W.kas_rev p i j) := (mirror_perm p i j _).trans h
theorem Arr.bub (h : Arr N p) (s d : Nat) : Arr N (bubble p s d) := (bubble_perm p s d).trans h
end
section
variable {ky : Nat → Int} {N : Nat} {cmp : Nat → Nat → (Bool → Shared → Prop) → Shared → Prop}
def CmpI (ky : Nat → Int) (N : Nat) (cmp : Nat → Nat → (Bool → Shared → Prop) → Shared → Prop) : Prop := ∀ i j, i < N → j < N → ∀ (C : Bool → Shared → Prop) (s : Shared), C (decide (ky i < ky j)) s → cmp i j C s
structure Pre (ky : Nat → Int) (N : Nat) (p : Array Nat) (n : Nat) : Prop where
  arr : Arr N p
  le : n ≤ N
  ord : ∀ i j, i < j → j < n → Lx ky (gAr p i) (gAr p j)
  rest : ∀ j, n ≤ j → j < N → gAr p j = j
theorem adj_all {g : Nat → Nat} {n : Nat} (h : ∀ j, 0 < j → j < n → Lx ky (g (j - 1)) (g j)) : ∀ i j, i < j → j < n → Lx ky (g i) (g j) := by
  intro i j
  induction j with
  | zero => intro h1; omega
  | succ j ih =>
    intro h1 h2
    have a := h (j + 1) (by omega) h2
    simp only [Nat.add_sub_cancel] at a
    by_cases e : i = j
    · subst e; exact a
    · exact (ih (by omega) (by omega)).trans a
theorem asc_wp (hc : CmpI ky N cmp) {p : Array Nat} (hA : Arr N p) {G : Nat → Shared → Prop} : ∀ (f n : Nat) (s : Shared), 1 ≤ n → n + f ≤ N →
    (∀ m, n ≤ m → m ≤ n + f → (∀ j, n ≤ j → j < m → ¬ ky (gAr p j) < ky (gAr p (j - 1))) → (m < n + f → ky (gAr p m) < ky (gAr p (m - 1))) → G m s) → (PySem.W.kas_asc p f n).kasWp cmp G s := by
  intro f
  induction f with
  | zero => intro n s h1 h2 k; exact k n (Nat.le_refl _) (Nat.le_refl _) (fun j a b => by omega) (fun a => by omega)
  | succ f ih =>
    intro n s h1 h2 k
    refine hc (gAr p n) (gAr p (n - 1)) (hA.lt (by omega)) (hA.lt (by omega)) _ s ?_
    by_cases lt : ky (gAr p n) < ky (gAr p (n - 1))
    · rw [decide_eq_true lt]; dsimp only; rw [if_pos rfl]
      exact k n (Nat.le_refl _) (by omega) (fun j a b => by omega) fun _ => lt
    · rw [decide_eq_false lt]; dsimp only; rw [if_neg (by simp)]
      refine ih (n + 1) s (by omega) (by omega) fun m a b c d => k m (by omega) (by omega) (fun j e1 e2 => ?_) (fun e => d (by omega))
      by_cases e : j = n
      · subst e; exact lt
      · exact c j (by omega) e2
structure Ds (ky : Nat → Int) (N : Nat) (p : Array Nat) (n q : Nat) : Prop where
  arr : Arr N p
  le : n ≤ N
  qn : q < n
  rest : ∀ j, n ≤ j → j < N → gAr p j = j
  ord : ∀ i j, i < j → j < n - 1 - q → Lx ky (gAr p j) (gAr p i)
  low : ∀ i j, i < n - 1 - q → n - 1 - q ≤ j → j < n → ky (gAr p j) < ky (gAr p i)
  blk : ∀ i j, n - 1 - q ≤ i → i < j → j < n → ky (gAr p i) = ky (gAr p j) ∧ gAr p i < gAr p j
theorem Ds.turn {p p' : Array Nat} {n q : Nat} (D : Ds ky N p n q) (g' : ∀ k, gAr p' k = if n - 1 - q ≤ k ∧ k < n then gAr p (n - 1 - q + n - 1 - k) else gAr p k) : ∀ i j, i < j → j < n → Lx ky (gAr p' j) (gAr p' i) := by
  intro i j h1 h2
  rw [g', g']
  by_cases a : n - 1 - q ≤ i
  · rw [if_pos ⟨by omega, h2⟩, if_pos ⟨a, by omega⟩]
    have := D.blk (n - 1 - q + n - 1 - j) (n - 1 - q + n - 1 - i) (by omega) (by omega) (by omega)
    exact .inr this
  · by_cases b : n - 1 - q ≤ j
    · rw [if_pos ⟨b, h2⟩, if_neg (by omega)]
      exact .inl (D.low i _ (by omega) (by omega) (by omega))
    · rw [if_neg (by omega), if_neg (by omega)]
      exact D.ord i j h1 (by omega)
theorem Ds.next {p p' : Array Nat} {n q : Nat} (D : Ds ky N p n q) (hn : n < N) (hA : Arr N p') (g' : ∀ k, gAr p' k = if n - 1 - q ≤ k ∧ k < n then gAr p (n - 1 - q + n - 1 - k) else gAr p k) (lt : ky (gAr p n) < ky (gAr p (n - 1))) : Ds ky N p' (n + 1) 0 := by
  have tn := D.turn g'
  have hq := D.qn
  have en : gAr p' n = gAr p n := by rw [g', if_neg (by omega)]
  refine ⟨hA, hn, by omega, fun j a b => ?_, fun i j a b => tn i j a (by omega), fun i j a b c => ?_, fun i j a b c => by omega⟩
  · rw [g', if_neg (by omega)]; exact D.rest j (by omega) b
  · have ej : j = n := by omega
    subst ej
    rw [en, g']
    by_cases z : j - 1 - q ≤ i
    · rw [if_pos ⟨z, by omega⟩]
      have e : ky (gAr p (j - 1 - q + j - 1 - i)) = ky (gAr p (j - 1)) := by
        by_cases y : j - 1 - q + j - 1 - i = j - 1
        · rw [y]
        · exact (D.blk _ (j - 1) (by omega) (by omega) (by omega)).1
      omega
    · rw [if_neg (by omega)]
      have := D.low i (j - 1) (by omega) (by omega) (by omega)
      omega
theorem desc_wp (hc : CmpI ky N cmp) {G : Array Nat × Nat × Nat → Shared → Prop} {s : Shared} (k : ∀ p m q, Ds ky N p m q → G (p, m, q) s) : ∀ (f : Nat) (p : Array Nat) (n q : Nat), n + f = N → Ds ky N p n q → (PySem.W.kas_desc f p n q).kasWp cmp G s := by
  intro f
  induction f with
  | zero => intro p n q _ D; exact k p n q D
  | succ f ih =>
    intro p n q hn D
    have hq := D.qn
    refine hc (gAr p n) (gAr p (n - 1)) (D.arr.lt (by omega)) (D.arr.lt (by omega)) _ s ?_
    by_cases lt : ky (gAr p n) < ky (gAr p (n - 1))
    · rw [decide_eq_true lt]; dsimp only; rw [if_pos rfl]
      by_cases q0 : q > 0
      · rw [if_pos q0]
        refine ih _ (n + 1) 0 (by omega) (D.next (by omega) (D.arr.rev _ _) (fun k => ?_) lt)
        have e := gAr_rev (p := p) (i := n - (q + 1)) (j := n) (by rw [D.arr.size]; omega) k
        rw [show n - (q + 1) = n - 1 - q by omega] at e ⊢
        exact e
      · rw [if_neg q0]
        refine ih _ (n + 1) 0 (by omega) (D.next (by omega) D.arr (fun k => ?_) lt)
        by_cases z : n - 1 - q ≤ k ∧ k < n
        · rw [if_pos z]; congr 1; omega
        · rw [if_neg z]
    · rw [decide_eq_false lt]; dsimp only; rw [if_neg (by simp)]
      refine hc (gAr p (n - 1)) (gAr p n) (D.arr.lt (by omega)) (D.arr.lt (by omega)) _ s ?_
      by_cases lt2 : ky (gAr p (n - 1)) < ky (gAr p n)
      · rw [decide_eq_true lt2]; dsimp only; rw [if_pos rfl]
        exact k p n q D
      · rw [decide_eq_false lt2]; dsimp only; rw [if_neg (by simp)]
        have en := D.rest n (Nat.le_refl _) (by omega)
        refine ih p (n + 1) (q + 1) (by omega) ⟨D.arr, by omega, by omega, fun j a b => D.rest j (by omega) b, fun i j a b => D.ord i j a (by omega), fun i j a b c => ?_, fun i j a b c => ?_⟩
        · by_cases e : j = n
          · subst e
            have := D.low i (j - 1) (by omega) (by omega) (by omega)
            omega
          · exact D.low i j (by omega) (by omega) (by omega)
        · by_cases e : j = n
          · subst e
            have l := D.arr.below (i := i) D.rest (by omega) (by omega)
            refine ⟨?_, by rw [en]; exact l⟩
            by_cases y : i = j - 1
            · subst y; omega
            · have := (D.blk i (j - 1) (by omega) (by omega) (by omega)).1
              omega
          · exact D.blk i j (by omega) b (by omega)
theorem tail3_wp (hc : CmpI ky N cmp) {p : Array Nat} {n : Nat} {G : Nat × Array Nat → Shared → Prop} {s : Shared} (hA : Arr N p) (h1 : 1 ≤ n) (hn : n ≤ N) (fall : ∀ i j, i < j → j < n → Lx ky (gAr p j) (gAr p i)) (rest : ∀ j, n ≤ j → j < N → gAr p j = j)
    (k : ∀ m p', 1 ≤ m → Pre ky N p' m → G (m, p') s) : (PySem.W.kas_tail3 n N p).kasWp cmp G s := by
  unfold PySem.W.kas_tail3
  rw [PySem.W.KasT.kasWp_bind]
  have g' := gAr_rev (p := p) (i := 0) (j := n) (by rw [hA.size]; exact hn)
  have rest' : ∀ j, n ≤ j → j < N → gAr (PySem.W.kas_rev p 0 n) j = j := fun j a b => by rw [g', if_neg (by omega)]; exact rest j a b
  refine asc_wp hc (hA.rev 0 n) (N - n) n s h1 (by omega) fun m a b c _ => k m _ (by omega) ⟨hA.rev 0 n, by omega, adj_all fun j j0 jm => ?_, fun j x y => rest' j (by omega) y⟩
  by_cases jn : j < n
  · rw [g', g', if_pos ⟨by omega, by omega⟩, if_pos ⟨by omega, jn⟩]
    exact fall _ _ (by omega) (by omega)
  · have cj := c j (by omega) jm
    have ej := rest' j (by omega) (by omega)
    have lj : gAr (PySem.W.kas_rev p 0 n) (j - 1) < j := by
      by_cases e : j = n
      · subst e; exact (hA.rev 0 j).below rest' (by omega) hn
      · rw [rest' (j - 1) (by omega) (by omega)]; omega
    unfold Lx
    rw [ej] at cj ⊢
    omega
theorem descPart_wp (hc : CmpI ky N cmp) {p : Array Nat} {n : Nat} {G : Nat × Array Nat → Shared → Prop} {s : Shared} (hn : n < N) (D : Ds ky N p (n + 1) 0)
    (k : ∀ m p', 1 ≤ m → Pre ky N p' m → G (m, p') s) : (PySem.W.kas_descPart n N p).kasWp cmp G s := by
  unfold PySem.W.kas_descPart
  rw [PySem.W.KasT.kasWp_bind]
  refine desc_wp hc (fun p' m q D' => ?_) _ p (n + 1) 0 (by omega) D
  have hq := D'.qn
  have hle := D'.le
  show PySem.W.KasT.kasWp cmp (if q > 0 then _ else _) G s
  by_cases q0 : q > 0
  · rw [if_pos q0]
    have e : m - (q + 1) = m - 1 - q := by omega
    refine tail3_wp (n := m) hc (D'.arr.rev _ _) (by omega) hle (D'.turn fun k => ?_) (fun j a b => ?_) k
    · have z := gAr_rev (p := p') (i := m - (q + 1)) (j := m) (by rw [D'.arr.size]; exact hle) k
      rw [e] at z ⊢; exact z
    · show gAr (PySem.W.kas_rev p' (m - (q + 1)) m) j = j
      rw [gAr_rev (by rw [D'.arr.size]; exact hle), if_neg (by omega)]; exact D'.rest j a b
  · rw [if_neg q0]
    refine tail3_wp (n := m) hc D'.arr (by omega) hle (D'.turn fun k => ?_) D'.rest k
    by_cases z : m - 1 - q ≤ k ∧ k < m
    · rw [if_pos z]; congr 1; omega
    · rw [if_neg z]
theorem range_arr (N : Nat) : Arr N (List.toArray (List.range N)) := Array.Perm.refl _
theorem range_gAr {N j : Nat} (h : j < N) : gAr (List.toArray (List.range N)) j = j := by simp [gAr, Array.getD, h]
theorem count_wp (hc : CmpI ky N cmp) (hN : 1 ≤ N) {G : Nat × Array Nat → Shared → Prop} {s : Shared} (k : ∀ m p', 1 ≤ m → Pre ky N p' m → G (m, p') s) : (PySem.W.kas_count N (List.toArray (List.range N))).kasWp cmp G s := by
  unfold PySem.W.kas_count
  rw [PySem.W.KasT.kasWp_bind]
  have hA := range_arr N
  refine asc_wp hc hA (N - 1) 1 s (Nat.le_refl _) (by omega) fun n a b c d => ?_
  have up : Pre ky N (List.toArray (List.range N)) n := ⟨hA, by omega, adj_all fun j j0 jm => by
    have cj := c j (by omega) jm
    rw [range_gAr (show j < N by omega), range_gAr (show j - 1 < N by omega)] at cj ⊢
    unfold Lx; omega, fun j _ y => range_gAr y⟩
  by_cases e : n = N
  · rw [if_pos (by simp [e])]
    exact k n _ (by omega) up
  · rw [if_neg (by simp [e])]
    have dn := d (by omega)
    rw [range_gAr (show n < N by omega), range_gAr (show n - 1 < N by omega)] at dn
    by_cases n1 : n > 1
    · rw [if_pos n1]
      refine hc _ _ (hA.lt (by omega)) (hA.lt (by omega)) _ s ?_
      rw [range_gAr (show 0 < N by omega), range_gAr (show n - 1 < N by omega)]
      by_cases lt : ky 0 < ky (n - 1)
      · rw [decide_eq_true lt]; dsimp only; rw [if_pos rfl]
        exact k n _ (by omega) up
      · rw [decide_eq_false lt]; dsimp only; rw [if_neg (by simp)]
        have all : ∀ i, i < n → ky i = ky (n - 1) := fun i hi => by
          have h0 : ky 0 ≤ ky i := by
            by_cases z : i = 0
            · subst z; exact Int.le_refl _
            · have := (up.ord 0 i (by omega) hi).le
              rwa [range_gAr (show 0 < N by omega), range_gAr (show i < N by omega)] at this
          have h2 : ky i ≤ ky (n - 1) := by
            by_cases z : i = n - 1
            · subst z; exact Int.le_refl _
            · have := (up.ord i (n - 1) (by omega) (by omega)).le
              rwa [range_gAr (show n - 1 < N by omega), range_gAr (show i < N by omega)] at this
          omega
        have g' : ∀ k, k < N → gAr (PySem.W.kas_rev (List.toArray (List.range N)) 0 n) k = if k < n then n - 1 - k else k := fun k hk => by
          rw [gAr_rev (by rw [hA.size]; omega)]
          by_cases z : k < n
          · rw [if_pos ⟨by omega, z⟩, if_pos z, range_gAr (by omega)]; omega
          · rw [if_neg (by omega), if_neg z, range_gAr hk]
        refine descPart_wp hc (by omega) ⟨hA.rev 0 n, by omega, by omega, fun j x y => ?_, fun i j x y => ?_, fun i j x y z => ?_, fun i j x y z => by omega⟩ k
        · rw [g' j y, if_neg (by omega)]
        · rw [g' j (by omega), g' i (by omega), if_pos (by omega), if_pos (by omega)]
          exact .inr ⟨by rw [all (n - 1 - j) (by omega), all (n - 1 - i) (by omega)], by omega⟩
        · have ej : j = n := by omega
          subst ej
          rw [g' j (by omega), g' i (by omega), if_neg (by omega), if_pos (by omega), all (j - 1 - i) (by omega)]
          exact dn
    · rw [if_neg n1]
      have e1 : n = 1 := by omega
      subst e1
      refine descPart_wp hc (by omega) ⟨hA, by omega, by omega, fun j x y => range_gAr y, fun i j x y => by omega, fun i j x y z => ?_, fun i j x y z => by omega⟩ k
      have ej : j = 1 := by omega
      have ei : i = 0 := by omega
      subst ej ei
      rw [range_gAr (show 1 < N by omega), range_gAr (show 0 < N by omega)]
      exact dn
theorem place_wp (hc : CmpI ky N cmp) {p : Array Nat} {k : Nat} (hp : Pre ky N p k) (hk : k < N) {G : Nat → Shared → Prop} {s : Shared}
    (fin : ∀ l, l ≤ k → (∀ j, j < l → ky (gAr p j) ≤ ky (gAr p k)) → (∀ j, l ≤ j → j < k → ky (gAr p k) < ky (gAr p j)) → G l s) : ∀ (f l r : Nat), l ≤ r → r ≤ k → r - l ≤ f →
    (∀ j, j < l → ky (gAr p j) ≤ ky (gAr p k)) → (∀ j, r ≤ j → j < k → ky (gAr p k) < ky (gAr p j)) → (PySem.W.kas_place p k f l r).kasWp cmp G s := by
  intro f
  induction f with
  | zero =>
    intro l r h1 h2 h3 a b
    have e : r = l := by omega
    subst e
    exact fin r h2 a b
  | succ f ih =>
    intro l r h1 h2 h3 a b
    unfold PySem.W.kas_place
    by_cases e : l ≥ r
    · rw [if_pos e]
      have e' : r = l := by omega
      subst e'
      exact fin r h2 a b
    · rw [if_neg e]
      refine hc _ _ (hp.arr.lt hk) (hp.arr.lt (by omega)) _ s ?_
      have mono : ∀ i j, i ≤ j → j < k → ky (gAr p i) ≤ ky (gAr p j) := fun i j x y => by
        by_cases z : i = j
        · subst z; exact Int.le_refl _
        · exact (hp.ord i j (by omega) y).le
      by_cases lt : ky (gAr p k) < ky (gAr p ((l + r) / 2))
      · rw [decide_eq_true lt]; dsimp only; rw [if_pos rfl]
        refine ih l ((l + r) / 2) (by omega) (by omega) (by omega) a fun j x y => ?_
        have := mono ((l + r) / 2) j x y
        omega
      · rw [decide_eq_false lt]; dsimp only; rw [if_neg (by simp)]
        refine ih ((l + r) / 2 + 1) r (by omega) h2 (by omega) (fun j x => ?_) b
        have := mono j ((l + r) / 2) (by omega) (by omega)
        omega
theorem bin_wp (hc : CmpI ky N cmp) {G : Array Nat → Shared → Prop} {s : Shared} (fin : ∀ p, Pre ky N p N → G p s) : ∀ (f : Nat) (p : Array Nat) (k : Nat), k + f = N → Pre ky N p k → (PySem.W.kas_bin f p k).kasWp cmp G s := by
  intro f
  induction f with
  | zero =>
    intro p k e hp
    have e' : k = N := by omega
    subst e'
    exact fin p hp
  | succ f ih =>
    intro p k e hp
    unfold PySem.W.kas_bin
    rw [PySem.W.KasT.kasWp_bind]
    refine place_wp hc hp (by omega) (fun l hl a b => ih _ (k + 1) (by omega) ?_) k 0 k (by omega) (Nat.le_refl _) (by omega) (fun j x => by omega) fun j x y => by omega
    have g' := gAr_bub (p := p) (s := k) (d := k - l) (by rw [hp.arr.size]; omega) (by omega)
    have ek := hp.rest k (Nat.le_refl _) (by omega)
    have bl : ∀ i, i < k → gAr p i < k := fun i hi => hp.arr.below hp.rest hi hp.le
    rw [show k - (k - l) = l by omega] at g'
    refine ⟨hp.arr.bub _ _, by omega, fun i j x y => ?_, fun j x y => ?_⟩
    · rw [g', g']
      by_cases i1 : i = l
      · rw [if_pos i1, if_neg (by omega), if_pos ⟨by omega, by omega⟩]
        exact .inl (b (j - 1) (by omega) (by omega))
      · rw [if_neg i1]
        by_cases j1 : j = l
        · rw [if_pos j1, if_neg (by omega)]
          have h1 := a i (by omega)
          have h2 := bl i (by omega)
          unfold Lx; rw [ek] at h1 ⊢; omega
        · rw [if_neg j1]
          by_cases i2 : l < i ∧ i ≤ k
          · rw [if_pos i2, if_pos ⟨by omega, by omega⟩]
            exact hp.ord _ _ (by omega) (by omega)
          · rw [if_neg i2]
            by_cases j2 : l < j ∧ j ≤ k
            · rw [if_pos j2]
              exact hp.ord _ _ (by omega) (by omega)
            · rw [if_neg j2]
              exact hp.ord _ _ x (by omega)
    · rw [g', if_neg (by omega), if_neg (by omega)]
      exact hp.rest j (by omega) y
theorem sort_wp (hc : CmpI ky N cmp) (hN : 1 ≤ N) {G : Array Nat → Shared → Prop} {s : Shared} (fin : ∀ p, Pre ky N p N → G p s) : (PySem.W.kas_sort N).kasWp cmp G s := by
  unfold PySem.W.kas_sort
  rw [PySem.W.KasT.kasWp_bind]
  refine count_wp hc hN fun m p h1 hp => ?_
  show PySem.W.KasT.kasWp cmp (if m < N then _ else _) G s
  by_cases e : m < N
  · rw [if_pos e]
    have em : max m 1 = m := by omega
    show PySem.W.KasT.kasWp cmp (PySem.W.kas_bin (N - max m 1) p (max m 1)) G s
    rw [em]
    exact bin_wp hc fin (N - m) p m (by omega) hp
  · rw [if_neg e]
    have e' : m = N := by have := hp.le; omega
    subst e'
    exact fin p hp
end
def sortIx (ky : Nat → Int) (N : Nat) : List Nat := (List.range N).mergeSort fun i j => decide (ky i < ky j ∨ (ky i = ky j ∧ i ≤ j))
theorem sortIx_perm (ky : Nat → Int) (N : Nat) : (sortIx ky N).Perm (List.range N) := List.mergeSort_perm ..
theorem sortIx_pw (ky : Nat → Int) (N : Nat) : (sortIx ky N).Pairwise (Lx ky) := by
  have h := List.pairwise_mergeSort (le := fun i j : Nat => decide (ky i < ky j ∨ (ky i = ky j ∧ i ≤ j))) (fun a b c h1 h2 => by simp at *; omega) (fun a b => by simp; omega) (List.range N)
  have nd : (sortIx ky N).Nodup := (sortIx_perm ky N).nodup_iff.mpr List.nodup_range
  refine (List.Pairwise.and h nd).imp fun {a b} h => ?_
  have h1 := h.1
  have h2 := h.2
  simp only [decide_eq_true_eq] at h1
  unfold Lx
  omega
theorem sortIx_eq {ky : Nat → Int} {N : Nat} {l : List Nat} (hp : l.Perm (List.range N)) (hs : l.Pairwise (Lx ky)) : l = sortIx ky N :=
  List.Perm.eq_of_pairwise (fun a b _ _ h1 h2 => by unfold Lx at *; omega) hs (sortIx_pw ky N) (hp.trans (sortIx_perm ky N).symm)
theorem sortIx_arr {ky : Nat → Int} {N : Nat} {p : Array Nat} (hp : Pre ky N p N) : p.toList = sortIx ky N := by
  refine sortIx_eq hp.arr.list ?_
  rw [List.pairwise_iff_getElem]
  intro i j hi hj hij
  have sz := hp.arr.size
  have hi' : i < N := by simpa [sz] using hi
  have hj' : j < N := by simpa [sz] using hj
  have e1 := hp.arr.get hi'
  have e2 := hp.arr.get hj'
  rw [List.getElem?_eq_getElem hi] at e1
  rw [List.getElem?_eq_getElem hj] at e2
  rw [Option.some.inj e1, Option.some.inj e2]
  exact hp.ord i j hij hj'
end L2
namespace L2
open PySem PySem.Spec PyProof.Rows
section
variable {prog : Program} {w : World} {A : Around} {E : Value → Shared → Prop} {s : Shared}
abbrev Kp (g h : Heap) : Prop := ∀ b o, g.get? b = some o → h.get? b = some o
theorem collect_rng {Q : List Value → Shared → Prop} {r : Addr} {a b c : Int} {t u v : Tok} {n : Nat} (hh : A.handled = none) (hr : IsRange s.heap r a b c t u v) (hs : Builtin.Range.small a b c = true) (hn : Builtin.Range.rangeSize a b c = n) (hl : n ≤ 2 ^ 24)
    (hQ : ∀ h' tk acc, Kp s.heap h' → ItemsOf (fun i v => ∃ t, v = .int (a + i * c) t) acc n → Q acc.toList { s with heap := h', toks := tk }) : wpAny (model prog w) A (collect (.ref r)) Q E s := by
  have core : ∀ R : Result → Shared → Prop, (∀ h' tk acc c', Kp s.heap h' → h'.get? s.heap.objs.size = some (seqObj "list" acc c') → ItemsOf (fun i v => ∃ t, v = .int (a + i * c) t) acc n → R (.ok (.ret (.ref s.heap.objs.size))) { s with heap := h', toks := tk }) →
      codeAny (model prog w) A (.builtin "proto.collect" ⟨[.ref r], []⟩) R s := by
    intro R hR
    refine codeAny_builtin F.entry_proto_collect ((Around.under_plainId F.plain_proto_collect (A := A) _).symm ▸ ?_)
    refine wpAny_bind (m := newList []) (wpAny_newList ?_ (by simp))
    refine wpAny_pure ⟨plainId_quiet F.plain_list_iadd _, codeAny_builtin F.entry_list_iadd ((Around.under_plainId F.plain_list_iadd (A := A) _).symm ▸ ?_)⟩
    have atS : (s.heap.push (seqObj "list" #[] 0)).get? s.heap.objs.size = some (seqObj "list" #[] 0) := Heap.get?_push_size _ rfl
    show wpAny _ A.in1 (Builtin.List.listExtendWith (.ref s.heap.objs.size) (.ref r) (.ref s.heap.objs.size)) _ _ _
    refine wpAny_extend_range (R := R) (s := { s with heap := s.heap.push (seqObj "list" #[] 0) }) hh (Heap.get?_push_of_some _ hr) hs hn hl _ _ 0 atS fun h' tk acc c' kp at' items => hR h' tk acc c' (fun b o e => ?_) at' items
    exact kp b o (Nat.ne_of_lt (Heap.lt_size e)) (Heap.get?_push_of_some _ e)
  unfold collect
  refine wpAny_bind (wpAny_runValue (core _ fun h' tk acc c' kp at' items => ?_))
  show wpAny _ A (load s.heap.objs.size >>= _) _ _ _
  exact wpAny_bind (wpAny_load at' (wpAny_pure (hQ h' tk acc kp items)))
theorem key_eval {env : Env} {x n : Str} {p1 p2 p3 p4 : Pos} {cc a : Addr} {m : Str → Option Value} {i z : Int} {t tz : Tok} {its : List Value} {Q : Value → Shared → Prop}
    (hk : env.scope.kind = .function) (hx : env.kindOf x = some .free) (hcx : env.cells.lookup x = some cc) (hcell : s.heap.IsCell cc (some (.ref a))) (hn : env.kindOf n = some .local) (hns : s.heap.Ns env.locals m) (hm : m n = some (.int i t))
    (hl : s.heap.IsList a its.toArray) (h0 : 0 ≤ i) (h63 : i < 2 ^ 63) (hi : its[i.toNat]? = some (.int z tz)) (d1 : (x == ("__debug__" : Str)) = false) (d2 : (x == ("__classdict__" : Str)) = false) (d3 : (n == ("__debug__" : Str)) = false)
    (h : Q (.int (-z) s.toks) { s with toks := s.toks + 1 }) : wpAny (model prog w) A (eval (.UnaryOp .USub (.Subscript (.Name x p1) (.Name n p2) p3) p4) env) Q E s := by
  refine UnaryOp_ (Subscript_ (wpAny_Name (wpAny_loadName_free hk hx hcx hcell (wpAny_Name (wpAny_loadName_local hk hn hns hm ?_) d3) d2) d1))
  exact item_listR hl h0 h63 (by simpa using hi) (neg_int h) rfl
theorem lam_call {f cc c a : Addr} {q x n : Str} {params : Arguments} {sc : Scope} {pm ctv : Value} {p1 p2 p3 p4 : Pos} {cl : List (Str × Addr)} {i z : Int} {t tz : Tok} {its : List Value} {Q : Value → Shared → Prop} (hr : A.depth < recursionLimit)
    (ho : s.heap.get? f = some (PySem.W.kla_obj "<lambda>" q params (.UnaryOp .USub (.Subscript (.Name x p1) (.Name n p2) p3) p4) sc cl pm c ctv)) (hcd : s.heap.CodeRec (.ref c) q) (lim : s.heap.NoLimit)
    (hb : ∀ v : Value, bindArgs (PySem.W.kla_fn "<lambda>" q params (.UnaryOp .USub (.Subscript (.Name x p1) (.Name n p2) p3) p4) sc cl pm (.ref c) ctv) ⟨[v], []⟩ = pure [(n, v)]) (hk : sc.kind = .function) (hco : sc.isCoroutine = false) (hge : sc.isGenerator = false)
    (hnc : ∀ y ∈ sc.names, y.2 ≠ .cell) (hn : sc.names.lookup n = some .local) (hx : sc.names.lookup x = some .free) (hcx : cl.lookup x = some cc) (hcell : s.heap.IsCell cc (some (.ref a))) (hl : s.heap.IsList a its.toArray) (h0 : 0 ≤ i) (h63 : i < 2 ^ 63)
    (hi : its[i.toNat]? = some (.int z tz)) (d1 : (x == ("__debug__" : Str)) = false) (d2 : (x == ("__classdict__" : Str)) = false) (d3 : (n == ("__debug__" : Str)) = false)
    (h : ∀ h' tk t', Kp s.heap h' → Q (.int (-z) t') { s with heap := h', toks := tk }) : wpAny (model prog w) A (call (.ref f) [.int i t]) Q E s := by
  refine wpAny_call (PySem.W.kla_callFunE hr ho rfl hco hge rfl hcd ?_)
  rw [hb]
  refine wpAny_pure (wpAny_newFunctionEnv hnc (fun y hy => ?_) (fun h1 hns hsb => ⟨lim.fresh _ hsb, ?_⟩) hk)
  · obtain rfl : y = (n, .int i t) := by simpa using hy
    exact hn
  have kp : Kp s.heap h1 := fun b o e => hsb.extBut b o (Nat.ne_of_lt (Heap.lt_size e)) (Heap.get?_push_of_some _ e)
  show codeAny _ _ (.expr _ (PySem.W.envX q sc s.heap.objs.size f (.ref c) cl)) _ _
  refine PySem.W.kla_codeExpr (key_eval (cc := cc) (a := a) (i := i) (t := t) (its := its) (z := z) (tz := tz) hk hx hcx (hcell.keeps kp) hn hns (by simp) (let ⟨o, e, r⟩ := hl; ⟨o, kp _ _ e, r⟩) h0 h63 hi d1 d2 d3 ?_)
  exact h _ _ _ kp
theorem seq_upd {g : Heap} {a : Addr} {xs : Array Value} {n : Nat} (e : g.get? a = some (seqObj "list" xs n)) (f : Array Value → Array Value) : ∃ c, (g.update a (Obj.mapSeq f)).get? a = some (seqObj "list" (f xs) c) := ⟨_, get?_update_seq e f⟩
theorem kp_upd {g h : Heap} {a : Addr} (k : Kp g h) (na : g.get? a = none) (f : Obj → Obj) : Kp g (h.update a f) := fun b o e => ((Heap.SameBut.update h a f).2 b (fun z => by rw [z, na] at e; cases e)).trans (k b o e)
theorem intsK_get {vs : List Value} {kz : List Int} (h : IntsAre vs kz) {i : Nat} (hi : i < kz.length) : ∃ t, vs.getD i .none = .int (kz.getD i 0) t := by
  obtain ⟨t, e⟩ := h.get i (kz.getD i 0) (by simp [hi])
  exact ⟨t, by rw [List.getD_eq_getElem?_getD, e]; rfl⟩
theorem sortK_end {a kS : Addr} {vs : List Value} {kz : List Int} {keys : Array Value} {e e1 : Nat} {P : PySem.Fin → Shared → Prop} (g0 : Heap) (na : g0.get? a = none) (nk : g0.get? kS = none) (hka : kS ≠ a) (K0 : Kp g0 s.heap)
    (hk : s.heap.get? kS = some (seqObj "list" keys e)) (ha : s.heap.get? a = some (seqObj "list" #[] e1)) (ik : IntsAre keys.toList kz) (hlen : kz.length = vs.length) (h64 : vs.length < 64)
    (fin : ∀ h' c, Kp g0 h' → h'.get? a = some (seqObj "list" (List.toArray ((sortIx (fun i => kz.getD i 0) vs.length).map fun i => vs.getD i .none)) c) → P (.done (.ret .none)) { s with heap := h' }) :
    wpAny (model prog w) A (ksk_end a false vs.toArray e1 (.ref kS) keys) P E s := by
  have szk : keys.size = vs.length := by
    have := ik.length
    rw [Array.length_toList] at this
    omega
  have tail : ∀ (st : SortSt), (arrOf st).map (·.2) = List.toArray ((sortIx (fun i => kz.getD i 0) vs.length).map fun i => vs.getD i .none) → failedOf st = none → wpAny (model prog w) A (ksk_tail a false e1 (.ref kS) st) P E s := by
    intro st har hf
    obtain ⟨ck, hck⟩ := seq_upd hk fun _ => #[]
    have K1 := kp_upd K0 nk (Obj.mapSeq fun _ => (#[] : Array Value))
    have ha1 : (s.heap.update kS (Obj.mapSeq fun _ => (#[] : Array Value))).get? a = some (seqObj "list" #[] e1) := ((Heap.SameBut.update s.heap kS _).2 a hka.symm).trans ha
    obtain ⟨ca, hca⟩ := seq_upd ha1 fun _ => (arrOf st).map (·.2)
    have K2 := kp_upd K1 na (Obj.mapSeq fun _ => (arrOf st).map (·.2))
    have ln : ((arrOf st).map (·.2)).size = vs.length := by
      rw [har, List.size_toArray, List.length_map, (sortIx_perm _ _).length_eq, List.length_range]
    unfold ksk_tail
    try dsimp only
    refine wpAny_bind (listUpdate_at hk rfl ?_ (by rw [szk, sizeLine_eq]; omega) (Nat.zero_le _))
    refine wpAny_bind (wpAny_letGo (wpAny_bind (seqEpoch_at ha1 rfl (wpAny_bind (listUpdate_at ha1 rfl ?_ (Nat.zero_le _) (Nat.le_trans (Nat.le_of_eq ln) (by rw [sizeLine_eq]; omega)))))))
    rw [hf]
    simp only [bne_self_eq_false, Bool.false_eq_true, if_false]
    refine wpAny_pure (fin _ ca K2 ?_)
    rw [har] at hca ⊢
    exact hca
  unfold ksk_end
  try dsimp only
  simp only [Bool.false_eq_true, if_false]
  by_cases h2 : vs.toArray.size < 2
  · rw [if_pos h2, if_pos h2]
    refine wpAny_bind (wpAny_pure ?_)
    rw [StateT.run_pure]
    refine wpAny_bind (wpAny_pure (tail _ ?_ rfl))
    rw [List.size_toArray] at h2
    match vs, h2, hlen, szk with
    | [], _, _, z =>
      have : keys = #[] := Array.eq_empty_of_size_eq_zero z
      subst this
      have e1 : sortIx (fun i => kz.getD i 0) 0 = [] := by
        have := sortIx_perm (fun i => kz.getD i 0) 0
        simpa using this
      show (((#[] : Array Value).zip #[]).map (·.2)) = List.toArray ((sortIx _ 0).map _)
      rw [e1]; simp
    | [v], _, _, z =>
      have e1 : sortIx (fun i => kz.getD i 0) 1 = [0] := by
        have := sortIx_perm (fun i => kz.getD i 0) 1
        simpa using this
      show (((keys.zip #[v])).map (·.2)) = List.toArray ((sortIx _ 1).map _)
      rw [e1]
      apply Array.toList_inj.mp
      rw [Array.toList_map, show (#[v] : Array Value) = List.toArray [v] from rfl, ksk_zip]
      have : keys.toList.length = 1 := by rw [Array.length_toList]; exact z
      match keys.toList, this with
      | [y], _ => rfl
    | _ :: _ :: _, h, _, _ => simp at h; omega
  · rw [if_neg h2, if_neg h2]
    rw [List.size_toArray] at h2
    rw [ksk_kind ik (by rw [szk]; omega)]
    refine wpAny_bind (wpAny_pure ?_)
    have ek : keys = List.toArray keys.toList := by simp
    have run := PySem.W.kat_run (prog := prog) (w := w) (A := A) (E := E) (s := s) (vs := vs) (ks := keys.toList) (κ := oneType')
      (Q := fun st s' => s' = s ∧ (arrOf st).map (·.2) = List.toArray ((sortIx (fun i => kz.getD i 0) vs.length).map fun i => vs.getD i .none) ∧ failedOf st = none)
      (G := fun p s' => s' = s ∧ p.toList = sortIx (fun i => kz.getD i 0) vs.length)
      (by rw [Array.length_toList]; exact szk) (by omega) h64 (fun p st s' q1 q2 q3 q4 => ⟨q4.1, by rw [PySem.W.kat_snds (by rw [Array.length_toList]; exact szk) q2, q4.2], q3⟩)
      (sort_wp (ky := fun i => kz.getD i 0) (N := vs.length) (fun i j hi hj C s' hC => by
        obtain ⟨t, et⟩ := intsK_get ik (i := i) (by omega)
        obtain ⟨u, eu⟩ := intsK_get ik (i := j) (by omega)
        unfold PySem.W.kas_ask
        rw [et, eu]
        exact PySem.W.kat_lt_int hC) (by omega) fun p hp => ⟨rfl, sortIx_arr hp⟩)
    rw [← ek] at run
    refine wpAny_bind (wpAny_mono run (fun r s' hr => ?_) fun _ _ x => x)
    obtain ⟨⟨⟩, st⟩ := r
    obtain ⟨rfl, q2, q3⟩ := hr
    exact tail st q2 q3
theorem sortK_tree {a f : Addr} {vs : List Value} {kz : List Int} {n : Nat} {P : PySem.Fin → Shared → Prop} (g0 : Heap) (na : g0.get? a = none) (K0 : Kp g0 s.heap) (ho : s.heap.get? a = some (seqObj "list" vs.toArray n)) (hlen : kz.length = vs.length) (h64 : vs.length < 64)
    (turn : ∀ (i : Nat) (v : Value) (k : Int), vs[i]? = some v → kz[i]? = some k → ∀ (h : Heap) (tk : Nat), Kp g0 h → ∀ Q : Value → Shared → Prop, (∀ h' tk' t', Kp h h' → Q (.int k t') { s with heap := h', toks := tk' }) →
      wpAny (model prog w) A (call (.ref f) [v]) Q (fun _ _ => False) { s with heap := h, toks := tk })
    (fin : ∀ h' tk c, Kp g0 h' → h'.get? a = some (seqObj "list" (List.toArray ((sortIx (fun i => kz.getD i 0) vs.length).map fun i => vs.getD i .none)) c) → P (.done (.ret .none)) { s with heap := h', toks := tk }) :
    wpAny (model prog w) A (ksk_tree a (.ref f) false) P E s := by
  have la := Heap.lt_size ho
  obtain ⟨e1, ho1⟩ := seq_upd ho fun _ => #[]
  have K1 := kp_upd K0 na (Obj.mapSeq fun _ => (#[] : Array Value))
  unfold ksk_tree
  refine wpAny_bind (listItems_at ho rfl ?_)
  refine wpAny_bind (listUpdate_at ho rfl ?_ (by rw [List.size_toArray, sizeLine_eq]; omega) (Nat.zero_le _))
  refine wpAny_bind (seqEpoch_at ho1 rfl ?_)
  refine wpAny_bind (wpAny_newTuple ?_ (by show vs.length ≤ _; rw [sizeLine_eq]; omega))
  refine wpAny_bind (wpAny_newList ?_ (Nat.zero_le _))
  refine wpAny_holding ?_
  obtain ⟨kS, ekS⟩ : ∃ kS, kS = ((s.heap.update a (Obj.mapSeq fun _ => (#[] : Array Value))).push (seqObj "tuple" vs.toArray 0)).objs.size := ⟨_, rfl⟩
  have kS1 : kS = s.heap.objs.size + 1 := by rw [ekS, size_push', Heap.size_update]
  have nk : g0.get? kS = none := by
    cases q : g0.get? kS with
    | none => rfl
    | some o => have z := Heap.lt_size (K0 _ _ q); rw [kS1] at z; exact absurd z (by show ¬ (s.heap.objs.size + 1 < s.heap.objs.size); omega)
  have hka : kS ≠ a := by
    rw [kS1]
    exact Nat.ne_of_gt (Nat.lt_succ_of_lt la)
  obtain ⟨h2, eh2⟩ : ∃ h2, h2 = ((s.heap.update a (Obj.mapSeq fun _ => (#[] : Array Value))).push (seqObj "tuple" vs.toArray 0)).push (seqObj "list" #[] 0) := ⟨_, rfl⟩
  have K2 : Kp g0 h2 := fun b o e => by rw [eh2]; exact Heap.get?_push_of_some _ (Heap.get?_push_of_some _ (K1 b o e))
  have ha2 : h2.get? a = some (seqObj "list" #[] e1) := by rw [eh2]; exact Heap.get?_push_of_some _ (Heap.get?_push_of_some _ ho1)
  have hk2 : h2.get? kS = some (seqObj "list" #[] 0) := by rw [eh2, ekS]; exact Heap.get?_push_size _ rfl
  show wpAny (model prog w) A (ksk_rest a (.ref f) false vs.toArray e1 (.ref ((s.heap.update a (Obj.mapSeq fun _ => (#[] : Array Value))).push (seqObj "tuple" vs.toArray 0)).objs.size)) P E { s with heap := ((s.heap.update a (Obj.mapSeq fun _ => (#[] : Array Value))).push (seqObj "tuple" vs.toArray 0)).push (seqObj "list" #[] 0) }
  rw [← ekS, ← eh2]
  unfold ksk_rest
  refine wpAny_bind (wpAny_rule ?_)
  rw [List.forIn_toArray]
  refine wpAny_bind (ksk_fold (fun i s' => ∃ h' tk kA e, s' = { s with heap := h', toks := tk } ∧ Kp g0 h' ∧ h'.get? kS = some (seqObj "list" kA e) ∧ h'.get? a = some (seqObj "list" #[] e1) ∧ IntsAre kA.toList (kz.take i)) vs 0 _
    ⟨h2, s.toks, #[], 0, rfl, K2, hk2, ha2, by simpa using IntsAre.nil⟩ ?step ?done)
  case step =>
    rintro j x s' hx ⟨h', tk, kA, e, rfl, kp, hk, ha, ik⟩
    simp only [Nat.zero_add] at ik ⊢
    have hj : j < vs.length := (List.getElem?_eq_some_iff.mp hx).1
    obtain ⟨k, hkj⟩ : ∃ k, kz[j]? = some k := ⟨_, List.getElem?_eq_getElem (by omega)⟩
    have hz : kA.size ≤ vs.length := by
      have h1 := ik.length
      rw [Array.length_toList, List.length_take] at h1
      omega
    refine wpAny_bind (wpAny_attempt (wpAny_mono (turn j x k hx hkj h' tk kp _ fun h3 tk3 t3 k3 => ?goal) (fun _ _ z => z) fun _ _ hF => hF.elim))
    case goal =>
      obtain ⟨c2, hc2⟩ := seq_upd (k3 _ _ hk) (·.push (.int k t3))
      have ek : kz.take (j + 1) = kz.take j ++ [k] := by rw [List.take_add_one, hkj]; simp
      have ea : (kA.push (Value.int k t3)).toList = kA.toList ++ [Value.int k t3] := by simp
      try dsimp only
      refine wpAny_bind (listUpdate_at (k3 _ _ hk) rfl ?_ (by rw [sizeLine_eq]; omega) (Nat.le_trans (Nat.le_of_eq (Array.size_push ..)) (by rw [sizeLine_eq]; omega)))
      refine wpAny_pure ⟨rfl, _, _, kA.push (.int k t3), c2, rfl, kp_upd (fun b o q => k3 _ _ (kp b o q)) nk _, hc2, ?_, by rw [ea, ek]; exact ksk_snoc ik⟩
      exact ((Heap.SameBut.update h3 kS _).2 a hka.symm).trans (k3 _ _ ha)
  case done =>
    rintro s' ⟨h', tk, kA, e, rfl, kp, hk, ha, ik⟩
    have ik' : IntsAre kA.toList kz := by
      rw [show kz.take (0 + vs.length) = kz from List.take_of_length_le (by omega)] at ik
      exact ik
    try dsimp only
    refine wpAny_bind (listItems_at hk rfl ?_)
    exact sortK_end g0 na nk hka kp hk ha ik' hlen h64 fun h3 c kp3 q => fin h3 tk c kp3 q
theorem call_sortK {r f : Addr} {b : Int} {t u v : Tok} {kz : List Int} {Q : Value → Shared → Prop} (hh : A.handled = none) (hr : IsRange s.heap r 0 b 1 t u v) (hb : b = (kz.length : Nat)) (h64 : kz.length < 64)
    (turn : ∀ (i : Nat) (t : Tok) (k : Int), kz[i]? = some k → ∀ (h : Heap) (tk : Nat), Kp s.heap h → ∀ Q : Value → Shared → Prop, (∀ h' tk' t', Kp h h' → Q (.int k t') { s with heap := h', toks := tk' }) →
      wpAny (model prog w) A.in1.in1 (call (.ref f) [.int (i : Nat) t]) Q (fun _ _ => False) { s with heap := h, toks := tk })
    (fin : ∀ D h' tk out c, s.heap.get? D = none → Kp s.heap h' → IntsAre out.toList ((sortIx (fun i => kz.getD i 0) kz.length).map fun i : Nat => (i : Int)) → h'.get? D = some (seqObj "list" out c) → Q (.ref D) { s with heap := h', toks := tk }) :
    wpAny (model prog w) A (call (.builtin "sorted") [.ref r] [(Str.ofString "key", .ref f)]) Q E s := by
  refine call_function_entry_kw kind_sorted plain_sorted entry_sorted (ksk_s1 _ _) ?_
  unfold Builtin.«sorted»
  refine wpAny_bind (m := checkCount "sorted" 1 1 _) (wpAny_pure ?_)
  have sz : Builtin.Range.rangeSize 0 b 1 = (kz.length : Int) := by rw [rangeSize_one]; split <;> omega
  refine wpAny_bind (collect_rng (A := A.in1) hh hr (small_one (by decide) (by decide) (by omega) (by omega)) sz (by omega) fun h1 tk1 acc k1 items => ?_)
  have ln : acc.toList.length = kz.length := by rw [Array.length_toList]; exact items.1
  have it : ∀ i v, acc.toList[i]? = some v → ∃ t, v = Value.int (i : Nat) t := fun i v e => by
    obtain ⟨t, et⟩ := items.2 i v (by simpa using e)
    exact ⟨t, by rw [et]; simp⟩
  refine wpAny_bind (wpAny_newList ?_ (by rw [ln, sizeLine_eq]; omega))
  obtain ⟨D, eD⟩ : ∃ D, D = h1.objs.size := ⟨_, rfl⟩
  have hD : (h1.push (seqObj "list" acc.toList.toArray 0)).get? D = some (seqObj "list" acc.toList.toArray 0) := by rw [eD]; exact Heap.get?_push_size _ rfl
  have nD : s.heap.get? D = none := by
    cases q : s.heap.get? D with
    | none => rfl
    | some o => have z := Heap.lt_size (k1 _ _ q); rw [eD] at z; exact absurd z (Nat.lt_irrefl _)
  show wpAny _ _ _ _ _ { s with heap := h1.push (seqObj "list" acc.toList.toArray 0), toks := tk1 }
  rw [← eD]
  refine wpAny_bind (wpAny_holding (wpAny_call_entry_kw slot_list_sort ⟨_, hD, rfl⟩ entry_list_sort ?body (ksk_l1 _ _)))
  case body =>
    show wpAny (model prog w) A.in1.in1 (Builtin.«list.sort» ⟨[.ref D], [(Str.ofString "key", .ref f)]⟩) _ _ _
    rw [ksk_t1]
    refine sortK_tree (s := { s with heap := h1.push (seqObj "list" acc.toList.toArray 0), toks := tk1 }) s.heap nD (fun b o e => Heap.get?_push_of_some _ (k1 b o e)) hD ln.symm (by omega) (fun i v k hv hk h tk kp Q' hQ => ?_) fun h' tk c kp q => ⟨_, rfl, ?_⟩
    · obtain ⟨t, rfl⟩ := it i v hv
      exact turn i t k hk h tk kp Q' hQ
    · refine wpAny_pure ⟨_, rfl, ?_⟩
      rw [ln] at q
      refine fin D h' tk _ c nD kp ?_ q
      have all : ∀ l : List Nat, (∀ i ∈ l, i < kz.length) → IntsAre (l.map fun i => acc.toList.getD i .none) (l.map fun i : Nat => (i : Int)) := fun l => by
        induction l with
        | nil => intro _; exact .nil
        | cons i l ih =>
          intro hl
          have hi : i < acc.toList.length := by rw [ln]; exact hl i List.mem_cons_self
          obtain ⟨t, et⟩ := it i (acc.toList[i]) (List.getElem?_eq_getElem hi)
          have e : acc.toList.getD i .none = .int (i : Nat) t := by rw [List.getD_eq_getElem?_getD, List.getElem?_eq_getElem hi]; exact et
          rw [List.map_cons, List.map_cons, e]
          exact .cons _ _ (ih fun j hj => hl j (List.mem_cons_of_mem _ hj))
      simpa using all _ fun i hi => by
        have := (sortIx_perm _ _).mem_iff.mp hi
        simpa using this
end
section
variable {X : Cx} {pins : List (Addr × Obj)} {σ : St} {H : Hp} {s : Shared} {h' : Heap}
theorem Inv.laidN {a : Addr} {o : HO} {t' : Nat} (I : Inv X pins σ H s) (k : Kp s.heap h') (n : s.heap.get? a = none) (new : ObjOk X.prog X.w (upd H a o) h' a o) : Inv X pins σ (upd H a o) { s with heap := h', toks := t' } := by
  have hn := I.hok.none_of n
  have ne : ∀ b u, s.heap.get? b = some u → b ≠ a := fun b u e z => by rw [z, n] at e; cases e
  refine I.un ⟨fun b u q _ _ _ => k b u q, fun b u q _ _ _ => ⟨u.slots, k b u q⟩, fun b u q z _ => by rw [upd_ne (ne b u q)]; exact z, fun b u q _ => ⟨u, k b u q⟩, fun b xs q => by rw [upd_ne (ne_of_none q hn)]; exact q, fun b u xs q => by rw [upd_ne (ne_of_none q hn)]; exact q,
    fun b ps q => ⟨#[], by rw [upd_ne (ne_of_none q hn), q]; simp⟩⟩ fun b u e => ?_
  by_cases hb : b = a
  · subst hb; rw [upd_same] at e; cases e; exact new
  · rw [upd_ne hb] at e
    exact (I.hok b u e).stay (fun c v _ q => k c v q) (fun c q => by rw [upd_ne (ne_of_none q hn)]; exact q) fun c xs q => by rw [upd_ne (ne_of_none q hn)]; exact q
theorem Inv.filled {P c : Addr} {ps : Array Value} {t' : Nat} (I : Inv X pins σ H s) (hP : H P = some (.tbl ps)) (k : ∀ b o, b ≠ P → s.heap.get? b = some o → h'.get? b = some o) (n : s.heap.get? c = none) (ho : ∃ o, h'.get? c = some o) (new : TblOk (upd H c (.own P)) h' P ps) :
    Inv X pins σ (upd H c (.own P)) { s with heap := h', toks := t' } := by
  have hn := I.hok.none_of n
  have ne : ∀ b u, s.heap.get? b = some u → b ≠ c := fun b u e z => by rw [z, n] at e; cases e
  have nP : ∀ b, H b = none → b ≠ P := fun b e z => by rw [z, hP] at e; cases e
  have cP : c ≠ P := nP c hn
  have pt : ∃ o, h'.get? P = some o := let ⟨_, _, _, _, _, _, _, e, _⟩ := new; ⟨_, e⟩
  refine I.un ⟨fun b u q z _ _ => k b u (nP b z) q, fun b u q z _ _ => ⟨u.slots, k b u (nP b z) q⟩, fun b u q z _ => by rw [upd_ne (ne b u q)]; exact z, fun b u q _ => ?_, fun b xs q => by rw [upd_ne (ne_of_none q hn)]; exact q, fun b u xs q => by rw [upd_ne (ne_of_none q hn)]; exact q,
    fun b ps q => ⟨#[], by rw [upd_ne (ne_of_none q hn), q]; simp⟩⟩ fun b u e => ?_
  · by_cases z : b = P
    · subst z; exact pt
    · exact ⟨u, k b u z q⟩
  · by_cases hb : b = c
    · subst hb; rw [upd_same] at e; cases e; exact ho
    · rw [upd_ne hb] at e
      by_cases z : b = P
      · subst z; rw [hP] at e; cases e; exact new
      · refine (I.hok b u e).stay (fun d v hd q => k d v ?_ q) (fun d q => by rw [upd_ne (ne_of_none q hn)]; exact q) fun d xs q => by rw [upd_ne (ne_of_none q hn)]; exact q
        rcases hd with rfl | hd
        · exact z
        · rintro rfl; rw [hP] at hd; cases hd
def BmAt (mg : Str → Option Value) (h : Heap) : Prop := ∃ bm ob, mg "__builtins__" = some (.ref bm) ∧ bm ≠ builtinsNs ∧ h.get? bm = some ob ∧ ob.cls = .type "module" ∧ ob.dict = some builtinsNs ∧ ob.data = .plain
theorem ev_lam {E : Value → Shared → Prop} {c P : Addr} {params : Arguments} {body : Expr} {sc : Scope} {pos : Pos} {cl : List (Str × Addr)} {Q : Value → Shared → Prop} (I : Inv X pins σ H s) (hT : tabOf X.K = some (P, #[.str (X.env.qual ++ "<lambda>") 0, rawInt pos.line, rawInt pos.col])) (hC : PySem.W.codeHdIn X.K c P = true) (hc : X.env.code = .ref c)
    (hcl : closureFor sc X.env = pure cl) (hdef : defaultsOf params X.env = ([], [])) (hB : BmAt X.mg X.base)
    (h : ∀ (f c' : Addr) (pm ctv : Value) (H' : Hp) (s' : Shared), Same H H' → Inv X pins σ H' s' → s'.heap.get? f = some (PySem.W.kla_obj "<lambda>" (X.env.qual ++ "<lambda>") params body sc cl pm c' ctv) → s'.heap.CodeRec (.ref c') (X.env.qual ++ "<lambda>") → Q (.ref f) s') :
    wpAny (model X.prog X.w) X.A (eval (.Lambda params body sc pos) X.env) Q E s := by
  refine PySem.W.kla_eval hdef ?_
  obtain ⟨more, hP⟩ := I.ok.tb.grown I.base.tbls _ hT
  have hP : H P = some (.tbl (#[.str (X.env.qual ++ "<lambda>") 0, rawInt pos.line, rawInt pos.col] ++ more)) := hP
  obtain ⟨q, tq, ln, co, mr, real, e1, e2, e3⟩ := I.hok P _ hP
  have e1' : Value.str (X.env.qual ++ "<lambda>") 0 :: rawInt pos.line :: rawInt pos.col :: more.toList = .str q tq :: rawInt ln :: rawInt co :: mr := by rw [← e1]; simp
  have hgs : s.heap.Ns mainGlobals X.mg := I.mod.glob.keeps I.bk
  have CH : PySem.W.CodeHd s.heap c P := PySem.W.codeHd_of_K I.kIn hC
  have pne : ∀ b o, X.base.get? b = some o → b ≠ P := fun b o e z => by
    have := (I.bs b o e).2
    rw [z, hP] at this; cases this
  have hgP : mainGlobals ≠ P := by
    obtain ⟨o, es, ep, e, _⟩ := I.mod.glob
    exact pne _ _ e
  have hbA : s.heap.BuiltinsAt X.mg P := by
    obtain ⟨bm, ob, b1, b2, b3, b4, b5, b6⟩ := hB
    refine ⟨bm, ob, b1, b2, fun z => ?_, pne _ _ b3, I.bk _ _ b3, b4, b5, b6⟩
    obtain ⟨o, es, ep, e, d, _⟩ := I.mod.glob
    rw [z, e] at b3; cases b3; rw [d] at b6; cases b6
  injection e1' with f1 f2
  injection f1 with f3 f4
  injection f2 with f5 f6
  injection f6 with f7 f8
  injection f5 with f5 _
  injection f7 with f7 _
  subst f3 f5 f7
  rcases e3 with rfl | ⟨c', o, vs, u, rfl, r1, r2, r3, r4⟩
  · refine PySem.W.kla_makeFunction (mg := X.mg) hcl I.ok.glob hgs hc CH e2 trivial rfl hgP hbA fun c' ctv h' tk hx hge hlt hrec htb => ?_
    obtain ⟨_, oc, vs, t, z, hoc, hd, hv⟩ := id hrec
    cases z
    have J := I.filled (c := c') (h' := h') (t' := tk) hP (fun b o hb e => hx b o hb e) (Heap.get?_none_of_le hge) ⟨_, hoc⟩ ⟨_, _, _, _, _, _, e1, htb, .inr ⟨c', oc, vs, t, rfl, upd_same, hoc, hd, hv⟩⟩
    have kp : Kp h' (h'.push (PySem.W.kla_obj "<lambda>" (X.env.qual ++ "<lambda>") params body sc cl ((X.mg "__name__").getD .none) c' ctv)) := fun b o e => Heap.get?_push_of_some _ e
    refine h _ c' _ ctv _ _ (Same.upd (I.hok.none_of (Heap.get?_none_of_le hge))) (J.kept (h' := h'.push (PySem.W.kla_obj "<lambda>" (X.env.qual ++ "<lambda>") params body sc cl ((X.mg "__name__").getD .none) c' ctv)) (t' := tk) kp) (Heap.get?_push_size _ rfl) ⟨c', oc, vs, t, rfl, kp _ _ hoc, hd, hv⟩
  · refine PySem.W.kla_makeFunctionHit (cv := .ref c') (mg := X.mg) hcl I.ok.glob hgs hc CH e2 trivial (by simp [codeAmong, rawInt]) hbA fun ctv h' tk hk hsz => ?_
    have kp : Kp s.heap (h'.push (PySem.W.kla_obj "<lambda>" (X.env.qual ++ "<lambda>") params body sc cl ((X.mg "__name__").getD .none) c' ctv)) := fun b o e => Heap.get?_push_of_some _ (hk b o e)
    exact h _ c' _ ctv H _ (Same.refl _) (I.kept (t' := tk) kp) (Heap.get?_push_size _ rfl) ⟨c', o, vs, u, rfl, kp _ _ r2, r3, r4⟩
def tSortK (ta : TA) (ix : Nat) : TE := fun σ H Q => ta σ H fun vs H1 => ∃ (r a : Addr) (ns : List Int), vs = [.ref r] ∧ H1 r = some (.rng 0 (ns.length : Nat)) ∧ σ[ix]? = some (some (.ref a)) ∧ Rd H1 a (.lst (ns.map V.int)) ∧ ns.length < 64 ∧
  ∀ H2 D, Same H1 H2 → H2 D = none → Q (.ref D) (upd H2 D (.lst ((sortIx (fun i => -(ns.getD i 0)) ns.length).map fun i : Nat => V.int (i : Int))))
theorem pe_sortK {k ix : Nat} {it : Expr} {ta : TA} {c P : Addr} {x n : Str} {p0 p1 p2 p3 p4 lp kp pos : Pos} {params : Arguments} {sc : Scope} (hc : X.calm = true) (hr : Room k X.A) (hg : Gl X "sorted") (hm : X.mg "sorted" = none) (ha : PA X [it] ta)
    (hT : tabOf X.K = some (P, #[.str (X.env.qual ++ "<lambda>") 0, rawInt lp.line, rawInt lp.col])) (hC : PySem.W.codeHdIn X.K c P = true) (hcd : X.env.code = .ref c) (hB : BmAt X.mg X.base)
    (hcl : ∀ cc, X.env.cells.lookup x = some cc → closureFor sc X.env = pure [(x, cc)]) (hdef : defaultsOf params X.env = ([], []))
    (hb : ∀ (q : Str) (cl : List (Str × Addr)) (pm ctv v : Value) (c : Addr), bindArgs (PySem.W.kla_fn "<lambda>" q params (.UnaryOp .USub (.Subscript (.Name x p1) (.Name n p2) p3) p4) sc cl pm (.ref c) ctv) ⟨[v], []⟩ = pure [(n, v)])
    (hN : X.N[ix]? = some x) (hv : X.env.kindOf x = some .cell) (hk : sc.kind = .function) (hco : sc.isCoroutine = false) (hge : sc.isGenerator = false) (hnc : ∀ y ∈ sc.names, y.2 ≠ .cell) (hn : sc.names.lookup n = some .local) (hx : sc.names.lookup x = some .free)
    (d1 : (x == ("__debug__" : Str)) = false) (d2 : (x == ("__classdict__" : Str)) = false) (d3 : (n == ("__debug__" : Str)) = false)
    (he : backTo pos (starEach [it] X.env) = (false, eval it X.env) :: backTo pos (starEach [] X.env) := by rfl) (hpl : (backTo pos (starEach [it] X.env)).any (·.1) = false := by rfl) :
    PE X (.Call (.Name "sorted" p0) [it] [⟨some "key", .Lambda params (.UnaryOp .USub (.Subscript (.Name x p1) (.Name n p2) p3) p4) sc lp, kp⟩] pos) (tSortK ta ix) := by
  intro pins s σ H Q I h
  refine wpAny_Call_Name_kw (ld_blt I hg hm rfl ?_)
  refine callWith_kw (thn (ha pos pins s σ H _ I h) fun us s1 ⟨vs, H1, I1, r1, r, a, ns, e1, hrn, hs, hq, hl, q⟩ => ?_) he hpl
  subst e1
  obtain ⟨u, rfl, rx⟩ := vals1 r1
  cases rx
  obtain ⟨m0, hns0, hlk⟩ := I1.loc
  obtain ⟨u0, ru, lu⟩ := hlk ix x _ hN hs (.inr (.inl hv))
  obtain ⟨cc, ecc⟩ : ∃ cc, X.env.cells.lookup x = some cc := by
    rcases lu with ⟨z, _⟩ | ⟨_, cc, e, _⟩
    · rw [hv] at z; cases z
    · exact ⟨cc, e⟩
  show wpAny _ _ (evalAll ((do let v ← eval _ X.env; standAt pos; pure v) :: [])) _ _ s1
  refine wpAny_evalAll_cons (wpAny_bind (ev_lam I1 hT hC hcd (hcl cc ecc) hdef hB fun f c' pm ctv H2 s2 sm I2 hf hrec => wpAny_bind (wpAny_standAt (wpAny_pure (wpAny_evalAll_nil ?_)))))
  show wpAny _ _ (call (.builtin "sorted") [.ref r] [(Str.ofString "key", .ref f)]) _ _ s2
  obtain ⟨t, u1, v1, hrr⟩ := I2.hok r _ (sm _ _ hrn)
  have hq2 : Rd H2 a (.lst (ns.map V.int)) := hq.elim (fun z => .inl (sm _ _ z)) fun ⟨o, z⟩ => .inr ⟨o, sm _ _ z⟩
  obtain ⟨z, its, cnt, rv, hat⟩ := hq2.ok I2.hok
  have iv := ints_are rv
  have hcell : s2.heap.IsCell cc (some (.ref a)) := by
    obtain ⟨m, hns, hlk⟩ := I2.loc
    obtain ⟨u0, ru, lu⟩ := hlk ix x _ hN hs (.inr (.inl hv))
    cases ru
    rcases lu with ⟨z, _⟩ | ⟨_, c2, e, q⟩
    · rw [hv] at z; cases z
    · rw [ecc] at e; cases e; exact q
  have lim := I2.nolimit
  refine call_sortK (A := X.A) (kz := ns.map fun z => -z) (I2.ok.hd hc) hrr (by rw [List.length_map]) (by rw [List.length_map]; exact hl) (fun i t k hk' h' tk kp Q' hQ => ?_) fun D h' tk out cD nD kp io hD => ?_
  · rw [List.getElem?_map] at hk'
    cases e : ns[i]? with
    | none => rw [e] at hk'; cases hk'
    | some z =>
      rw [e] at hk'
      have ek : -z = k := Option.some.inj hk'
      subst ek
      obtain ⟨tz, ez⟩ := iv.get i z e
      exact lam_call (s := { s2 with heap := h', toks := tk }) (A := X.A.in1.in1) (its := its) (tz := tz) (show X.A.depth < recursionLimit from hr.depth) (kp _ _ hf) (hrec.keeps kp) (lim.keeps kp) (fun v => hb _ _ _ _ v _) hk hco hge hnc hn hx (by simp) (hcell.keeps kp) ⟨_, kp _ _ hat, rfl, cnt, rfl⟩ (by omega) (by have := (List.getElem?_eq_some_iff.mp e).1; omega) (by simpa using ez) d1 d2 d3 hQ
  · have eK : (fun i => (ns.map fun z => -z).getD i 0) = fun i => -(ns.getD i 0) := by
      funext i
      rw [List.getD_eq_getElem?_getD, List.getElem?_map, List.getD_eq_getElem?_getD]
      cases ns[i]? <;> rfl
    rw [eK, List.length_map] at io
    refine ⟨.ref D, _, I2.laidN (a := D) (o := .lst ((sortIx (fun i => -(ns.getD i 0)) ns.length).map fun i : Nat => V.int (i : Int))) kp nD ⟨?_, out.toList, cD, ?_, by simpa using hD⟩, rfl, q H2 D sm (I2.hok.none_of nD)⟩
    · rw [List.length_map, (sortIx_perm _ _).length_eq, List.length_range]
      exact Nat.le_trans (Nat.le_of_lt hl) (by decide)
    · have := are_ints io
      rwa [List.map_map] at this
end
end L2
namespace PM
open PySem L2
section
variable {K : Kx} {XO : XOT} {E : L2.St → XK}
noncomputable def ordK (ns : List Int) : List Int := (sortIx (fun i => -(ns.getD i 0)) ns.length).map fun i : Nat => (i : Int)
noncomputable def sortK (d : D) : Option D := match d with
  | .lst l => (asIs l).bind fun ns => ifC (ns.length < 64) (some (.lst ((ordK ns).map .int))) none
  | _ => none
noncomputable def mSortK (i : Nat) (δ : En) : R D := match δ[i]? with
  | some (.v d) => R.of (sortK d)
  | _ => .no
theorem sortK_some {d d' : D} (h : sortK d = some d') : ∃ ns : List Int, d = .lst (ns.map .int) ∧ ns.length < 64 ∧ d' = .lst ((ordK ns).map .int) := by
  unfold sortK at h
  split at h
  · rename_i l
    cases z : asIs l with
    | none => rw [z] at h; cases h
    | some ns =>
      rw [z] at h
      simp only [Option.bind] at h
      unfold ifC at h
      split at h
      · rename_i hl
        cases h
        exact ⟨ns, by rw [asIs_some z], hl, rfl⟩
      · cases h
  · cases h
theorem sortK_ok {ns : List Int} (h : ns.length < 64) : sortK (.lst (ns.map .int)) = some (.lst ((ordK ns).map .int)) := by
  simp only [sortK, asIs_map, Option.bind, ifC_pos h]
theorem seo_sortK {i : Nat} : SEo K XO E (tSortK (tCons (tRng1 (tCons (tCB (fun xs H Q => ∃ p ys, xs = [.ref p] ∧ (SqL K.f H p ys ∨ SqT K.f H p ys) ∧ Q (.int ys.length) H) (tCons (tVar i) tNil)) tNil)) tNil) i) (mSortK i) := by
  intro Λ F0 H0 F H σ δ Q I a
  have sl := I.slot i
  unfold mSortK at a
  cases e : δ[i]? with
  | none => rw [e] at a; exact a.elim
  | some y =>
    cases y with
    | v d =>
      rw [e] at a sl
      dsimp only at a
      cases q : sortK d with
      | none => rw [q] at a; exact a.elim
      | some d' =>
        rw [q] at a
        obtain ⟨ns, rfl, hl, rfl⟩ := sortK_some q
        obtain ⟨u, eu, ru⟩ := sl
        simp only [Rep] at ru
        obtain ⟨ad, vs, rfl, rd, rl⟩ := ru
        have evs : vs = ns.map V.int := repL_ints rl
        subst evs
        have rdH : Rd H ad (.lst (ns.map V.int)) := PM.Same.rd I.ext.fh rd
        refine ⟨_, eu, ad, ns.map V.int, rfl, .inl (.inl rdH), ?_⟩
        refine ⟨_, rfl, fun r hr => ⟨r, ad, ns, rfl, by rw [upd_same, List.length_map], eu, ?_, hl, fun H2 D sm hD => ?_⟩⟩
        · exact PM.Same.rd (Same.upd hr) rdH
        · have s1 : Same H H2 := (Same.upd hr).trans sm
          have x1 : Ext F H F H2 := ⟨.refl _, s1, I.ext.fh.trans s1, fun _ _ h _ => h⟩
          have x2 := x1.trans (.newO (o := .lst ((sortIx (fun i => -(ns.getD i 0)) ns.length).map fun i : Nat => V.int (i : Int))) x1.fh hD)
          have hD1 : H D = none := s1.free hD
          refine a F _ x2 D (I.ext.fh.free hD1) hD1 ⟨_, upd_same, ?_⟩
          have := RepL.ints (K := K) (F := F) (ns := ordK ns)
          unfold ordK at this
          rw [List.map_map, List.map_map] at this
          unfold ordK
          rw [List.map_map]
          exact this
    | no => rw [e] at a; exact a.elim
    | o d => rw [e] at a; exact a.elim
    | l d => rw [e] at a; exact a.elim
    | p d => rw [e] at a; exact a.elim
end
end PM
namespace L2
open PySem PySem.Spec PyProof.Rows
theorem tabOf_form {K : PySem.W.Frag} {T : Addr × Array Value} (h : tabOf K = some T) : ∃ (q : Str) (ln cl : Int), T.2 = #[.str q 0, rawInt ln, rawInt cl] := by
  unfold tabOf at h
  obtain ⟨p, _, e⟩ := List.exists_of_findSome?_eq_some h
  split at e
  · split at e
    · obtain ⟨P, _, e⟩ := Option.map_eq_some_iff.mp e
      subst e
      exact ⟨_, _, _, rfl⟩
    · cases e
  · cases e
def tabChk (K : PySem.W.Frag) (P : Addr) : Bool :=
  (match tabOf K with | some t => t.1 == P | none => false) && (K.lookup P).isNone && K.any fun p => match p.2.data with
    | .func fd => match fd.code with
      | .ref c => PySem.W.codeHdIn K c P
      | _ => false
    | _ => false
theorem tabChk_of {K : PySem.W.Frag} {P : Addr} (h : tabChk K P = true) : (∃ arr, tabOf K = some (P, arr)) ∧ K.lookup P = none ∧ ∃ c, PySem.W.codeHdIn K c P = true := by
  unfold tabChk at h
  simp only [Bool.and_eq_true] at h
  obtain ⟨⟨h1, h2⟩, h3⟩ := h
  refine ⟨?_, by simpa using h2, ?_⟩
  · split at h1
    · rename_i t e
      obtain ⟨x, arr⟩ := t
      have : x = P := by simpa using h1
      subst this
      exact ⟨arr, e⟩
    · cases h1
  · obtain ⟨p, _, e⟩ := List.any_eq_true.mp h3
    split at e
    · split at e
      · exact ⟨_, e⟩
      · cases e
    · cases e
section
variable {P : Program} {w : World} {K : PySem.W.Frag} {mg mb : Str → Option Value} {CX : CXT} {k : Nat} {fa a tP : Addr} {fd : FuncData} {x : Str} {sp : Sp} {s₁ : Shared} {vs : List Value} {ns : List Int}
theorem law_callT (KX : K.In s₁.heap) (hT : tabChk K tP = true) (tT : s₁.heap.get? tP = some (PySem.W.tabObj #[]))
    (hns : s₁.heap.Ns mainGlobals mg) (hb : s₁.heap.Ns builtinsNs mb) (hbb : ∀ y : Str, y ≠ "__name__" → mb y = bootBuiltins y) (lim : s₁.heap.NoLimit) (bm : BmAt mg s₁.heap) (hg : s₁.gens = #[])
    (ha : s₁.heap.get? a = some (seqObj "list" vs.toArray 0)) (hi : IntsAre vs ns) (hl : ns.length ≤ sizeLine) (hr : Room k callerA)
    (F : ∀ B : Heap, K.In B → B.Ns mainGlobals mg → BmAt mg B → FnOk P w K mg B CX k fa fd [x] sp) (bd : ∀ (s : Shared) (u : Value), BindsTo s fd ⟨[u], []⟩ [(x, u)])
    (hsp : ∀ H : Hp, SqL K H a (ns.map V.int) → sp [.ref a] H (fun v _ => v = .bl true) fun _ _ _ => False) (hCX : ∀ H e s', CX [] H s₁ (fun _ _ _ => False) e s' → False) :
    codeAny (model P w) callerA (.call (.ref fa) ⟨[.ref a], []⟩) (fun r s' => r = .ok (.ret (.bool true)) ∧ OldK s₁.heap s'.heap ∧ s'.os = s₁.os ∧ AllBare s'.gens) s₁ := by
  obtain ⟨⟨arr, eT⟩, nT, c, cT⟩ := tabChk_of hT
  obtain ⟨q, ln, cl, earr⟩ := tabOf_form eT
  dsimp only at earr
  have rv := vals_ints hi
  have lenV := hi.length
  have aP : a ≠ tP := fun z => by rw [z, tT] at ha; cases ha
  obtain ⟨H0, eH0⟩ : ∃ H0 : Hp, H0 = fun b => if b = a then (if (K.lookup a).isNone then some (.frz (seqObj "list" vs.toArray 0) (.lst (ns.map V.int))) else none) else none := ⟨_, rfl⟩
  have at0 : H0 a = if (K.lookup a).isNone then some (.frz (seqObj "list" vs.toArray 0) (.lst (ns.map V.int))) else none := by rw [eH0]; exact if_pos rfl
  have ne0 : ∀ b, b ≠ a → H0 b = none := fun b hb => by rw [eH0]; exact if_neg hb
  obtain ⟨H, eH⟩ : ∃ H, H = upd H0 tP (.tbl arr) := ⟨_, rfl⟩
  have HT : H tP = some (.tbl arr) := by rw [eH]; exact upd_same
  have HA : H a = H0 a := by rw [eH]; exact upd_ne aP
  have tr : ∀ b u, H b = some u → (b = tP ∧ u = .tbl arr) ∨ (b = a ∧ K.lookup a = none ∧ u = .frz (seqObj "list" vs.toArray 0) (.lst (ns.map V.int))) := fun b u e => by
    by_cases h1 : b = tP
    · subst h1; rw [HT] at e; cases e; exact .inl ⟨rfl, rfl⟩
    · rw [eH, upd_ne h1] at e
      by_cases h2 : b = a
      · subst h2
        rw [at0] at e
        split at e
        · rename_i z; cases e; exact .inr ⟨rfl, by simpa using z, rfl⟩
        · cases e
      · rw [ne0 b h2] at e; cases e
  have hok : HOk P w H s₁.heap := fun b u e => by
    rcases tr b u e with ⟨rfl, rfl⟩ | ⟨rfl, _, rfl⟩
    · exact ⟨q, 0, ln, cl, [], #[], by rw [earr], tT, .inl rfl⟩
    · exact ⟨ha, by rw [List.length_map]; exact hl, vs, _, rv, ha⟩
  have hS : SqL K H a (ns.map V.int) := by
    cases z : K.lookup a with
    | none => exact .inl (.inr ⟨_, by rw [HA, at0, z]; rfl⟩)
    | some o =>
      have e := KX a o z
      rw [ha] at e
      cases e
      exact .inr ⟨_, vs.toArray, _, z, rfl, rfl, rfl, by rw [List.size_toArray, lenV]; exact hl, by simpa using rv⟩
  have noA : ∀ {b : Addr} {o : Obj} {es : Array DictEntry} {ep : Nat}, s₁.heap.get? b = some o → o.data = .dict es ep → H b = none := fun {b o es ep} e d => by
    cases z : H b with
    | none => rfl
    | some u =>
      rcases tr b u z with ⟨rfl, _⟩ | ⟨rfl, _, _⟩
      · rw [tT] at e; cases e; cases d
      · rw [ha] at e; cases e; cases d
  have nsK : ∀ {b : Addr} {m : Str → Option Value}, s₁.heap.Ns b m → (hidT s₁.heap H).Ns b m := fun {b m} ⟨o, es, ep, e, d, r⟩ => ⟨o, es, ep, hidT_get e (noA e d), d, r⟩
  have hKb : K.In (hidT s₁.heap H) := fun b o e => hidT_get (KX b o e) (by
    cases z : H b with
    | none => rfl
    | some u =>
      rcases tr b u z with ⟨rfl, _⟩ | ⟨rfl, y, _⟩
      · rw [nT] at e; cases e
      · rw [y] at e; cases e)
  have hM : Mod K mg (hidT s₁.heap H) := ⟨hKb, nsK hns, ⟨mb, nsK hb, hbb⟩, let ⟨mc, h1, h2⟩ := lim; ⟨mc, nsK h1, h2⟩⟩
  have bm' : BmAt mg (hidT s₁.heap H) := by
    obtain ⟨m, o, b1, b2, b3, b4, b5, b6⟩ := bm
    refine ⟨m, o, b1, b2, hidT_get b3 ?_, b4, b5, b6⟩
    cases z : H m with
    | none => rfl
    | some u =>
      rcases tr m u z with ⟨rfl, _⟩ | ⟨rfl, _, _⟩
      · rw [tT] at b3; cases b3; cases b4
      · rw [ha] at b3; cases b3; cases b6
  have tb : TbAt K H := fun t e => by
    rw [eT] at e; cases e
    exact ⟨#[], by rw [HT]; simp⟩
  have e0 : Env0 P w K mg (hidT s₁.heap H) callerA [] s₁ H := ⟨rfl, hM, fun b o e => of_hidT e, Nat.le_of_eq (hidT_size _ _), trivial, fun b hb => absurd (show b ∈ ([] : List Addr) from hb) (by simp), hok, .of_eq hg, tb⟩
  refine codeAny_mono ((F _ hKb (nsK hns) bm').run callerA [] s₁ H ⟨[.ref a], []⟩ [.ref a] [.ref a] _ _ hr e0 (bd s₁ (.ref a)) (.cons rfl .nil) (hsp H hS)) fun r s' h => ?_
  match r, h with
  | .error e, h => exact (hCX H e s' h).elim
  | .ok (.ret u), h =>
    obtain ⟨v, H', os, bare, un, hok', r', q'⟩ := h
    have q' : v = .bl true := q'
    subst q'
    obtain rfl : u = Value.bool true := r'
    have tabs : ∃ real, s'.heap.get? tP = some (PySem.W.tabObj real) := by
      obtain ⟨more, z⟩ := un.tbls tP _ HT
      obtain ⟨_, _, _, _, _, real, _, e, _⟩ := hok' tP _ z
      exact ⟨real, e⟩
    obtain ⟨real, hreal⟩ := tabs
    have kept : ∀ b o, b ≠ tP → s₁.heap.get? b = some o → s'.heap.get? b = some o := fun b o hb e => by
      cases z : H b with
      | none => exact un.keep b o e z (by intro y; exact absurd (show b ∈ ([] : List Addr) from y) (by simp)) (by simp)
      | some u =>
        rcases tr b u z with ⟨rfl, _⟩ | ⟨rfl, _, rfl⟩
        · exact absurd rfl hb
        · obtain ⟨e2, _⟩ := hok' _ _ (un.frzs _ _ _ z)
          rw [ha] at e; cases e
          exact e2
    refine ⟨rfl, ⟨fun b o e => ?_, fun b o e => ?_⟩, os, bare⟩
    · by_cases hb : b = tP
      · subst hb
        rw [tT] at e; cases e
        exact .inr (.inl ⟨((PySem.W.codeHd_of_K KX cT).tab tT).isCodeTable, rfl, #[], real, rfl, by rw [hreal]; simp⟩)
      · exact .inl (kept b o hb e)
    · by_cases hb : b = tP
      · subst hb; exact ⟨_, hreal⟩
      · exact ⟨o, kept b o hb e⟩
  | .ok .next, h => exact False.elim h
  | .ok .brk, h => exact False.elim h
  | .ok .cont, h => exact False.elim h
end
theorem walk_ofT {l : PySem.W.OpenLaw} {n k : Nat} {q : Program} {loose : List Str} {XP : (Str → Option Value) → Heap → Prop} {YP : World → Heap → Prop} {d : DefRec} {K : Params → PySem.W.Frag} {CX : World → CXT} {sp : World → Sp} {x : Str} {tP : Addr}
    (hn : l.most = some n) (hn2 : n ≤ sizeLine) (hdf : d.params.defaults = []) (hr : Room k callerA) (hY : ∀ (w : World) (h : Heap), YP w h → (K w.params).In h) (hY2 : ∀ (w : World) (h : Heap), YP w h → ∀ t ∈ [tP], h.get? t = some (PySem.W.tabObj #[]))
    (hT : ∀ w : World, tabChk (K w.params) tP = true)
    (F : ∀ (w : World) (mg : Str → Option Value) (fa : Addr) (h : Heap), (K w.params).In h → h.Ns mainGlobals mg → mg d.name = some (.ref fa) →
      ∃ fd : FuncData, (∀ (s : Shared) (u : Value), BindsTo s fd ⟨[u], []⟩ [(x, u)]) ∧ ∀ B : Heap, (K w.params).In B → B.Ns mainGlobals mg → BmAt mg B → FnOk l.prog w (K w.params) mg B (CX w) k fa fd [x] (sp w))
    (hsp : ∀ (w : World) (H : Hp) (a : Addr) (ns : List Int), ns.length ≤ n → SqL (K w.params) H a (ns.map V.int) → sp w [.ref a] H (fun v _ => v = .bl true) fun _ _ _ => False)
    (hCX : ∀ (w : World) (H : Hp) (s : Shared) (e : Value) (s' : Shared), CX w [] H s (fun _ _ _ => False) e s' → False) : PySem.W.WalkO q loose XP YP l.row.toRowW d [] (fun f vs => PySem.call f vs) := by
  refine Att.attach_call hn hdf fun w s₀ s₁ mg mb fa o pm cd doc a vs ns G Y ho hd hcd hmg hobj hints hlen hg => ?_
  obtain ⟨fd, bd, hF⟩ := F w mg fa _ (hY w _ Y) G.T.g hmg
  exact law_callT (hY w _ Y) (hT w) (hY2 w _ Y tP List.mem_cons_self) G.T.g G.T.b G.T.builtins G.T.nolimit G.T.bmain hg hobj hints (Nat.le_trans hlen hn2) hr hF bd (fun H hS => hsp w H a ns hlen hS) fun H e s' => hCX w H s₁ e s'
end L2
namespace L2
open PySem PySem.Spec PyProof.Rows
section
variable {X : Cx}
end
end L2
namespace PM
open PySem L2
section
variable {K : Kx} {XO : XOT} {E : L2.St → XK}
end
end PM
namespace PM
open PySem L2
section
variable {K : Kx}
end
end PM
namespace L2
open PySem PySem.Spec PyProof.Rows
theorem zip_len0 : typeLookup (.type "zip") "__len__" = pure none := by rw [typeLookup_type, builtinLookup_eq_fast]; kernel_rfl
theorem zip_hint0 : typeLookup (.type "zip") "__length_hint__" = pure none := by rw [typeLookup_type, builtinLookup_eq_fast]; kernel_rfl
abbrev ZipR (h : Heap) (z TI TO : Addr) (f0 : Value) (f1 : Bool) : Prop :=
  h.get? z = some { cls := .type "zip", dict := none, data := .fields #[f0, .bool f1, .bool false, .ref TI, .ref TO], slots := #[] }
section
variable {prog : Program} {w : World} {A : Around} {E : Value → Shared → Prop} {s : Shared}
theorem wp_alive {a : Addr} {o : Obj} {Q : Option Obj → Shared → Prop} (ho : s.heap.get? a = some o) (h : Q (some o) s) : wpAny (model prog w) A (loadIfAlive a) Q E s := fun Γ p _ => by
  show Sem.wp _ Γ (.loadIfAlive a .pure) _ _ p s
  rw [Sem.wp_loadIfAlive, ho]
  exact h
theorem zip_busy {z TI TO T : Addr} {f1 : Bool} {o : Obj} {Q : Bool → Shared → Prop} (hz : ZipR s.heap z TI TO (rawInt T) f1) (ht : s.heap.get? T = some o)
    (hQ : ∀ h', ZipR h' z TI TO (rawInt T) true → Heap.SameBut z s.heap h' → Q false { s with heap := h' }) : wpAny (model prog w) A (Builtin.SmallTypes.ownedTupleIsFree (.ref z)) Q E s := by
  unfold Builtin.SmallTypes.ownedTupleIsFree
  refine wpAny_bind (wpAny_field hz rfl (x := rawInt T) rfl ?_)
  show wpAny _ A (loadIfAlive T >>= _) _ _ s
  refine wpAny_bind (wp_alive ht ?_)
  show wpAny _ A (field (.ref z) 1 >>= _) _ _ s
  refine wpAny_bind (wpAny_field hz rfl (x := .bool f1) rfl ?_)
  cases f1 with
  | true => exact wpAny_pure (hQ s.heap hz ⟨rfl, fun _ _ => rfl⟩)
  | false =>
    show wpAny _ A (setField (.ref z) 1 (.bool true) >>= _) _ _ s
    exact wpAny_bind (wpAny_setField_rec hz (by simp) fun h' hz' hs' => wpAny_pure (hQ h' hz' hs'))
theorem zip_next2 {z TI TO i1 i2 l1 l2 T : Addr} {f1 : Bool} {oT : Obj} {k1 k2 : Nat} {xs ys : Array Value} {x y : Value} {Q : Value → Shared → Prop} (D : ZipApart z TI TO i1 i2 l1 l2)
    (hz : ZipR s.heap z TI TO (rawInt T) f1) (ht : s.heap.get? T = some oT) (hTI : IsPair s.heap TI (.ref i1) (.ref i2))
    (h1 : s.heap.IsListIter i1 l1 k1) (h2 : s.heap.IsListIter i2 l2 k2) (hl1 : s.heap.IsList l1 xs) (hl2 : s.heap.IsList l2 ys) (hx : xs[k1]? = some x) (hy : ys[k2]? = some y)
    (hQ : ∀ h', ZipR h' z TI TO (rawInt T) true → h'.IsListIter i1 l1 (k1 + 1) → h'.IsListIter i2 l2 (k2 + 1) → IsPair h' s.heap.objs.size x y → h'.objs.size = s.heap.objs.size + 1 →
      (∀ c o, c ≠ z → c ≠ i1 → c ≠ i2 → s.heap.get? c = some o → h'.get? c = some o) → Q (.ref s.heap.objs.size) { s with heap := h' }) :
    wpAny (model prog w) A (Builtin.«zip.__next__» ⟨[.ref z], []⟩) (fun fin s' => ∃ v, fin = .done (.ret v) ∧ Q v s') E s := by
  show wpAny _ A (field (.ref z) 2 >>= _) _ _ s
  refine wpAny_bind (wpAny_field hz rfl (x := .bool false) rfl ?_)
  show wpAny _ A (field (.ref z) 3 >>= _) _ _ s
  refine wpAny_bind (wpAny_field hz rfl (x := .ref TI) rfl ?_)
  refine wpAny_bind (wpAny_seqItems hTI rfl ?_)
  show wpAny _ A (Builtin.SmallTypes.ownedTupleIsFree (.ref z) >>= _) _ _ s
  refine wpAny_bind (zip_busy hz ht fun g1 z1 s1 => ?_)
  simp only [Bool.false_eq_true, if_false]
  refine wpAny_bind ?_
  rw [← Array.forIn_toList]
  simp only [List.forIn_cons, List.forIn_nil]
  refine wpAny_bind (wpAny_bind (wpAny_holding ?_))
  show wpAny _ A (Builtin.SmallTypes.nextOf (.ref i1) >>= _) _ _ _
  refine wpAny_bind (wpAny_nextOf_list_item (h1.extBut s1.extBut D.i1z) (hl1.extBut s1.extBut D.l1z) hx fun g2 p2 s2 => wpAny_pure (wpAny_pure ?_))
  refine wpAny_bind (wpAny_bind (wpAny_holding ?_))
  show wpAny _ A (Builtin.SmallTypes.nextOf (.ref i2) >>= _) _ _ _
  refine wpAny_bind (wpAny_nextOf_list_item ((h2.extBut s1.extBut D.i2z).extBut s2.extBut D.i12.symm) ((hl2.extBut s1.extBut D.l2z).extBut s2.extBut D.l2i1) hy fun g3 p3 s3 => wpAny_pure (wpAny_pure (wpAny_pure ?_)))
  refine wpAny_bind (wpAny_newTuple (hsz := by show 2 ≤ sizeLine; decide) ?_)
  have sz : g3.objs.size = s.heap.objs.size := by rw [s3.1, s2.1, s1.1]
  refine wpAny_pure ⟨_, rfl, ?_⟩
  show Q (.ref g3.objs.size) _
  rw [sz]
  have up : ∀ c o, c ≠ z → c ≠ i1 → c ≠ i2 → s.heap.get? c = some o → (g3.push { cls := .type "tuple", data := .seq #[x, y] }).get? c = some o := fun c o c1 c2 c3 e => Heap.get?_push_of_some _ (s3.extBut _ _ c3 (s2.extBut _ _ c2 (s1.extBut _ _ c1 e)))
  refine hQ _ (Heap.get?_push_of_some _ (s3.extBut _ _ D.i2z.symm (s2.extBut _ _ D.i1z.symm z1))) ((p2.extBut s3.extBut D.i12).at fun o e => Heap.get?_push_of_some _ e) (p3.at fun o e => Heap.get?_push_of_some _ e) (by rw [← sz]; exact Heap.get?_push_size _ rfl) (by rw [Heap.size_push, sz]) up
theorem zip_end2 {z TI TO i1 i2 l1 l2 T : Addr} {f1 : Bool} {oT : Obj} {k1 k2 : Nat} {xs ys : Array Value} {Q : Fin → Shared → Prop} (hh : A.handled = none) (D : ZipApart z TI TO i1 i2 l1 l2)
    (hz : ZipR s.heap z TI TO (rawInt T) f1) (ht : s.heap.get? T = some oT) (hTI : IsPair s.heap TI (.ref i1) (.ref i2))
    (h1 : s.heap.IsListIter i1 l1 k1) (h2 : s.heap.IsListIter i2 l2 k2) (hl1 : s.heap.IsList l1 xs) (hl2 : s.heap.IsList l2 ys) (hend : xs[k1]? = none ∨ ys[k2]? = none)
    (hE : ∀ h' e, (∀ c o, c ≠ z → c ≠ i1 → c ≠ i2 → s.heap.get? c = some o → h'.get? c = some o) → (∃ o, h'.get? e = some o ∧ o.cls = .type "StopIteration") → E (.ref e) { s with heap := h' }) :
    wpAny (model prog w) A (Builtin.«zip.__next__» ⟨[.ref z], []⟩) Q E s := by
  show wpAny _ A (field (.ref z) 2 >>= _) _ _ s
  refine wpAny_bind (wpAny_field hz rfl (x := .bool false) rfl ?_)
  show wpAny _ A (field (.ref z) 3 >>= _) _ _ s
  refine wpAny_bind (wpAny_field hz rfl (x := .ref TI) rfl ?_)
  refine wpAny_bind (wpAny_seqItems hTI rfl ?_)
  show wpAny _ A (Builtin.SmallTypes.ownedTupleIsFree (.ref z) >>= _) _ _ s
  refine wpAny_bind (zip_busy hz ht fun g1 z1 s1 => ?_)
  simp only [Bool.false_eq_true, if_false]
  refine wpAny_bind ?_
  rw [← Array.forIn_toList]
  simp only [List.forIn_cons, List.forIn_nil]
  refine wpAny_bind (wpAny_bind (wpAny_holding ?_))
  show wpAny _ A (Builtin.SmallTypes.nextOf (.ref i1) >>= _) _ _ _
  cases hx : xs[k1]? with
  | none =>
    refine wpAny_bind (wpAny_nextOf_list_end hh (h1.extBut s1.extBut D.i1z) (hl1.extBut s1.extBut D.l1z) hx fun g2 e s2 he => hE g2 e (fun c o c1 c2 c3 q => s2 _ _ c2 (s1.extBut _ _ c1 q)) he)
  | some x =>
    have hy : ys[k2]? = none := hend.resolve_left (by rw [hx]; simp)
    refine wpAny_bind (wpAny_nextOf_list_item (h1.extBut s1.extBut D.i1z) (hl1.extBut s1.extBut D.l1z) hx fun g2 p2 s2 => wpAny_pure (wpAny_pure ?_))
    refine wpAny_bind (wpAny_bind (wpAny_holding ?_))
    show wpAny _ A (Builtin.SmallTypes.nextOf (.ref i2) >>= _) _ _ _
    exact wpAny_bind (wpAny_nextOf_list_end hh ((h2.extBut s1.extBut D.i2z).extBut s2.extBut D.i12.symm) ((hl2.extBut s1.extBut D.l2z).extBut s2.extBut D.l2i1) hy fun g3 e s3 he => hE g3 e (fun c o c1 c2 c3 q => s3 _ _ c3 (s2.extBut _ _ c2 (s1.extBut _ _ c1 q))) he)
theorem next_zip2 {z TI TO i1 i2 l1 l2 T : Addr} {f1 : Bool} {oT : Obj} {k1 k2 : Nat} {xs ys : Array Value} {x y : Value} {Q : Option Value → Shared → Prop} (D : ZipApart z TI TO i1 i2 l1 l2)
    (hz : ZipR s.heap z TI TO (rawInt T) f1) (ht : s.heap.get? T = some oT) (hTI : IsPair s.heap TI (.ref i1) (.ref i2))
    (h1 : s.heap.IsListIter i1 l1 k1) (h2 : s.heap.IsListIter i2 l2 k2) (hl1 : s.heap.IsList l1 xs) (hl2 : s.heap.IsList l2 ys) (hx : xs[k1]? = some x) (hy : ys[k2]? = some y)
    (hQ : ∀ h', ZipR h' z TI TO (rawInt T) true → h'.IsListIter i1 l1 (k1 + 1) → h'.IsListIter i2 l2 (k2 + 1) → IsPair h' s.heap.objs.size x y → h'.objs.size = s.heap.objs.size + 1 →
      (∀ c o, c ≠ z → c ≠ i1 → c ≠ i2 → s.heap.get? c = some o → h'.get? c = some o) → Q (some (.ref s.heap.objs.size)) { s with heap := h' }) :
    wpAny (model prog w) A (pyNext (.ref z)) Q E s := by
  have hT : s.TypeIs (.ref z) "zip" := ⟨_, hz, rfl⟩
  unfold pyNext
  refine wpAny_bind (wpAny_attempt (wpAny_callSpecial?_slot (name := Str.ofString "__next__") hT F.slot_zip_next (wpAny_call_entry F.slot_zip_next hT F.entry_zip_next ?_ (F.args_zip_next_1 _))))
  exact zip_next2 D hz ht hTI h1 h2 hl1 hl2 hx hy fun h' a1 a2 a3 a4 a5 a6 => wpAny_pure (hQ h' a1 a2 a3 a4 a5 a6)
theorem end_zip2 {z TI TO i1 i2 l1 l2 T : Addr} {f1 : Bool} {oT : Obj} {k1 k2 : Nat} {xs ys : Array Value} {Q : Option Value → Shared → Prop} (hh : A.handled = none) (D : ZipApart z TI TO i1 i2 l1 l2)
    (hz : ZipR s.heap z TI TO (rawInt T) f1) (ht : s.heap.get? T = some oT) (hTI : IsPair s.heap TI (.ref i1) (.ref i2))
    (h1 : s.heap.IsListIter i1 l1 k1) (h2 : s.heap.IsListIter i2 l2 k2) (hl1 : s.heap.IsList l1 xs) (hl2 : s.heap.IsList l2 ys) (hend : xs[k1]? = none ∨ ys[k2]? = none)
    (hQ : ∀ h', (∀ c o, c ≠ z → c ≠ i1 → c ≠ i2 → s.heap.get? c = some o → h'.get? c = some o) → Q none { s with heap := h' }) : wpAny (model prog w) A (pyNext (.ref z)) Q E s := by
  have hT : s.TypeIs (.ref z) "zip" := ⟨_, hz, rfl⟩
  unfold pyNext
  refine wpAny_bind (wpAny_attempt (wpAny_callSpecial?_slot (name := Str.ofString "__next__") hT F.slot_zip_next (wpAny_call_entry F.slot_zip_next hT F.entry_zip_next ?_ (F.args_zip_next_1 _))))
  refine zip_end2 hh D hz ht hTI h1 h2 hl1 hl2 hend fun h' e hk he => ?_
  obtain ⟨o, ho, hc⟩ := he
  exact wpAny_bind (wpAny_isInstance (T := "StopIteration") (b := true) ⟨o, ho, hc⟩ isSubtype_stop (wpAny_pure (hQ _ hk)))
end
end L2
namespace L2
open PySem PySem.Spec PyProof.Rows
def ZL : List (V × V) → List Addr → Hp → Hp → Prop
  | [], [], H, H' => H' = H
  | q :: l, p :: ps, H, H' => H p = none ∧ ZL l ps (upd H p (.tup [q.1, q.2])) H'
  | _, _, _, _ => False
theorem ZL.len : ∀ {l : List (V × V)} {ps : List Addr} {H H' : Hp}, ZL l ps H H' → ps.length = l.length
  | [], [], _, _, _ => rfl
  | [], _ :: _, _, _, z => z.elim
  | _ :: _, [], _, _, z => z.elim
  | _ :: l, _ :: ps, _, _, z => by
    have := ZL.len z.2
    simp only [List.length_cons, this]
theorem SqL.upd {K : PySem.W.Frag} {H : Hp} {a p : Addr} {xs : List V} {o : HO} (h : SqL K H a xs) (hp : H p = none) : SqL K (L2.upd H p o) a xs := by
  rcases h with (h | ⟨u, h⟩) | h
  · exact .inl (.inl (by rw [upd_ne (ne_of_none h hp)]; exact h))
  · exact .inl (.inr ⟨u, by rw [upd_ne (ne_of_none h hp)]; exact h⟩)
  · exact .inr h
structure ZSt (z TI TO i1 i2 a b : Addr) (N i : Nat) (h : Heap) : Prop where
  rc : (i = 0 ∧ ZipR h z TI TO .none false) ∨ ∃ (T : Addr) (o : Obj) (f1 : Bool), N ≤ T ∧ ZipR h z TI TO (rawInt T) f1 ∧ h.get? T = some o
  ti : IsPair h TI (.ref i1) (.ref i2)
  tu : ∃ u v, IsPair h TO u v
  p1 : h.IsListIter i1 a i
  p2 : h.IsListIter i2 b i
theorem ZSt.keep {z TI TO i1 i2 a b S : Addr} {N i : Nat} {h h' : Heap} (st : ZSt z TI TO i1 i2 a b N i h) (nS : S ∉ [z, TI, TO, i1, i2]) (hS : S < N) (k : ∀ d o, d ≠ S → h.get? d = some o → h'.get? d = some o) : ZSt z TI TO i1 i2 a b N i h' := by
  simp only [List.mem_cons, List.not_mem_nil, or_false, not_or] at nS
  obtain ⟨n1, n2, n3, n4, n5⟩ := nS
  obtain ⟨u, v, hu⟩ := st.tu
  refine ⟨st.rc.imp (fun ⟨e, r⟩ => ⟨e, k _ _ (Ne.symm n1) r⟩) fun ⟨T, o, f1, e, r, t⟩ => ⟨T, o, f1, e, k _ _ (Ne.symm n1) r, k _ _ (Nat.ne_of_gt (Nat.lt_of_lt_of_le hS e)) t⟩, k _ _ (Ne.symm n2) st.ti, ⟨u, v, k _ _ (Ne.symm n3) hu⟩, st.p1.at fun o e => k _ o (Ne.symm n4) e, st.p2.at fun o e => k _ o (Ne.symm n5) e⟩
section
variable {prog : Program} {w : World} {A : Around} {E : Value → Shared → Prop} {s : Shared}
theorem ZSt.apart {z TI TO i1 i2 a b : Addr} {N i : Nat} {h : Heap} {xs ys : Array Value} (st : ZSt z TI TO i1 i2 a b N i h) (hd : [z, TI, TO, i1, i2].Nodup) (p : PlainL h a xs) (p' : PlainL h b ys) : ZipApart z TI TO i1 i2 a b := by
  obtain ⟨o, n, e, c, _⟩ := p
  obtain ⟨o', n', e', c', _⟩ := p'
  obtain ⟨j1, g1, d1, _⟩ := st.p1
  obtain ⟨j2, g2, d2, _⟩ := st.p2
  obtain ⟨u, v, h3⟩ := st.tu
  obtain ⟨oz, hz, cz⟩ : ∃ oz, h.get? z = some oz ∧ oz.cls = .type "zip" := st.rc.elim (fun ⟨_, r⟩ => ⟨_, r, rfl⟩) fun ⟨_, _, _, _, r, _⟩ => ⟨_, r, rfl⟩
  simp only [List.nodup_cons, List.mem_cons, List.not_mem_nil, or_false, not_or, List.nodup_nil, and_true, not_false_eq_true] at hd
  obtain ⟨⟨z1, z2, z3, z4⟩, ⟨y1, y2, y3⟩, ⟨x1, x2⟩, w1⟩ := hd
  have q1 : ∀ {o : Obj} {l : Addr}, h.get? l = some o → o.cls = .type "list" → l ≠ z := fun e c r => by subst r; rw [hz] at e; cases e; rw [cz] at c; simp at c
  have q2 : ∀ {o : Obj} {l : Addr}, h.get? l = some o → o.cls = .type "list" → l ≠ TO := fun e c r => by subst r; rw [h3] at e; cases e; simp at c
  have q3 : ∀ {o : Obj} {l : Addr}, h.get? l = some o → o.cls = .type "list" → l ≠ i1 := fun e c r => by subst r; rw [g1] at e; cases e; rw [d1] at c; simp at c
  have q4 : ∀ {o : Obj} {l : Addr}, h.get? l = some o → o.cls = .type "list" → l ≠ i2 := fun e c r => by subst r; rw [g2] at e; cases e; rw [d2] at c; simp at c
  exact ⟨Ne.symm z1, Ne.symm z2, Ne.symm z3, Ne.symm z4, y1, y2, y3, x1, x2, w1, q1 e c, q2 e c, q3 e c, q4 e c, q1 e' c', q2 e' c', q3 e' c', q4 e' c'⟩
theorem next_zipK {z TI TO i1 i2 a b : Addr} {N i : Nat} {xs ys : Array Value} {x y : Value} {Q : Option Value → Shared → Prop} (D : ZipApart z TI TO i1 i2 a b) (hN : ∀ c ∈ [z, TI, TO, i1, i2], c < N) (sz : N ≤ s.heap.objs.size) (st : ZSt z TI TO i1 i2 a b N i s.heap)
    (hl1 : s.heap.IsList a xs) (hl2 : s.heap.IsList b ys) (hx : xs[i]? = some x) (hy : ys[i]? = some y)
    (hQ : ∀ h', ZSt z TI TO i1 i2 a b N (i + 1) h' → IsPair h' s.heap.objs.size x y → h'.objs.size = s.heap.objs.size + 1 → (∀ c o, c ∉ [z, TI, TO, i1, i2] → s.heap.get? c = some o → h'.get? c = some o) → Q (some (.ref s.heap.objs.size)) { s with heap := h' }) :
    wpAny (model prog w) A (pyNext (.ref z)) Q E s := by
  obtain ⟨f, g, h3⟩ := st.tu
  rcases st.rc with ⟨e, r⟩ | ⟨T, o, f1, nT, r, t⟩
  · refine wpAny_pyNext_zip_item D r st.ti h3 st.p1 st.p2 hl1 hl2 hx hy fun h' a1 a2 a3 a4 a5 a6 hk => hQ h' ⟨.inr ⟨_, _, false, sz, a1, a5⟩, hk _ _ D.TIz D.TITO D.TIi1 D.TIi2 st.ti, ⟨_, _, a2⟩, a3, a4⟩ a5 a6 fun c o hc e => ?_
    simp only [List.mem_cons, List.not_mem_nil, or_false, not_or] at hc
    exact hk c o hc.1 hc.2.2.1 hc.2.2.2.1 hc.2.2.2.2 e
  · have ne : ∀ c ∈ [z, TI, TO, i1, i2], T ≠ c := fun c hc => Nat.ne_of_gt (Nat.lt_of_lt_of_le (hN c hc) nT)
    refine next_zip2 D r t st.ti st.p1 st.p2 hl1 hl2 hx hy fun h' a1 a3 a4 a5 a6 hk => hQ h' ⟨.inr ⟨T, o, true, nT, a1, hk _ _ (ne _ (by simp)) (ne _ (by simp)) (ne _ (by simp)) t⟩, hk _ _ D.TIz D.TIi1 D.TIi2 st.ti, ⟨f, g, hk _ _ D.TOz D.TOi1 D.TOi2 h3⟩, a3, a4⟩ a5 a6 fun c o hc e => ?_
    simp only [List.mem_cons, List.not_mem_nil, or_false, not_or] at hc
    exact hk c o hc.1 hc.2.2.2.1 hc.2.2.2.2 e
theorem end_zipK {z TI TO i1 i2 a b : Addr} {N i : Nat} {xs ys : Array Value} {Q : Option Value → Shared → Prop} (hh : A.handled = none) (D : ZipApart z TI TO i1 i2 a b) (st : ZSt z TI TO i1 i2 a b N i s.heap)
    (hl1 : s.heap.IsList a xs) (hl2 : s.heap.IsList b ys) (he : xs[i]? = none ∨ ys[i]? = none) (hQ : ∀ h', (∀ c o, c ∉ [z, TI, TO, i1, i2] → s.heap.get? c = some o → h'.get? c = some o) → Q none { s with heap := h' }) :
    wpAny (model prog w) A (pyNext (.ref z)) Q E s := by
  obtain ⟨f, g, h3⟩ := st.tu
  rcases st.rc with ⟨e, r⟩ | ⟨T, o, f1, nT, r, t⟩
  · refine wpAny_pyNext_zip_end hh D r st.ti h3 st.p1 st.p2 hl1 hl2 he fun h' hk => hQ h' fun c o hc e => ?_
    simp only [List.mem_cons, List.not_mem_nil, or_false, not_or] at hc
    exact hk c o hc.1 hc.2.2.1 hc.2.2.2.1 hc.2.2.2.2 e
  · refine end_zip2 hh D r t st.ti st.p1 st.p2 hl1 hl2 he fun h' hk => hQ h' fun c o hc e => ?_
    simp only [List.mem_cons, List.not_mem_nil, or_false, not_or] at hc
    exact hk c o hc.1 hc.2.2.2.1 hc.2.2.2.2 e
end
section
variable {X : Cx} {pins : List (Addr × Obj)} {σ : St} {A : Around} {R : Result → Shared → Prop}
abbrev ListO (acc : Array Value) (c : Nat) : Obj := { cls := .type "list", dict := none, data := .seq acc c, slots := #[] }
theorem loop_zip (hh : A.in1.handled = none) {z TI TO i1 i2 a b S : Addr} {xs ys : List V} (hd : [z, TI, TO, i1, i2].Nodup) (nS : S ∉ [z, TI, TO, i1, i2]) (N : Nat) (hN : ∀ c ∈ [z, TI, TO, i1, i2, S], c < N) (res : Value) :
    ∀ (k i : Nat) (s : Shared) (H : Hp) (acc : Array Value) (c : Nat), min xs.length ys.length - i = k → i ≤ min xs.length ys.length → Inv X pins σ H s → N ≤ s.heap.objs.size → (∀ d ∈ [z, TI, TO, i1, i2, S], FpOk X pins H d) → SqL X.K H a xs → SqL X.K H b ys →
      ZSt z TI TO i1 i2 a b N i s.heap → s.heap.get? S = some (ListO acc c) → acc.size = i →
      (∀ s' H' ps acc' c', Inv X pins σ H' s' → ZL ((xs.zip ys).drop i) ps H H' → FpOk X pins H' S → s'.heap.get? S = some (ListO acc' c') → acc'.toList = acc.toList ++ ps.map Value.ref → R (.ok (.ret res)) s') →
      codeAny (model X.prog X.w) A (.builtin "list.extend.loop" ⟨[.ref S, .ref z, res], []⟩) R s := by
  have sub : ∀ d ∈ [z, TI, TO, i1, i2], d ∈ [z, TI, TO, i1, i2, S] := fun d hd => by
    simp only [List.mem_cons, List.not_mem_nil, or_false] at hd ⊢
    rcases hd with z | z | z | z | z <;> simp [z]
  intro k
  induction k with
  | zero =>
    intro i s H acc c hk hi I sz hf q1 q2 st hS ha hR
    obtain ⟨its, rv, p, hz⟩ := I.list q1
    obtain ⟨its', rv', p', hz'⟩ := I.list q2
    have D := st.apart hd p p'
    have l1 := rv.length
    have l2 := rv'.length
    refine codeAny_builtin F.entry_extend_loop ?_
    rw [Around.under_plainId F.plain_extend_loop _]
    show wpAny _ A.in1 (pyNext (.ref z) >>= _) _ _ s
    refine wpAny_bind (end_zipK hh D st p.isList p'.isList (by simp only [List.getElem?_toArray, List.getElem?_eq_none_iff]; omega) fun h' kp => wpAny_pure ?_)
    refine hR _ H [] acc c (I.turnedL (t' := s.toks) [z, TI, TO, i1, i2] (fun d hd => hf d (sub d hd)) kp) ?_ (hf S (by simp)) (kp S _ nS hS) (by simp)
    rw [List.drop_eq_nil_of_le (by rw [List.length_zip]; omega)]
    exact rfl
  | succ k ih =>
    intro i s H acc c hk hi I sz hf q1 q2 st hS ha hR
    obtain ⟨its, rv, p, hz⟩ := I.list q1
    obtain ⟨its', rv', p', hz'⟩ := I.list q2
    have D := st.apart hd p p'
    obtain ⟨x, hx⟩ : ∃ x, xs[i]? = some x := ⟨_, List.getElem?_eq_getElem (by omega)⟩
    obtain ⟨y, hy⟩ : ∃ y, ys[i]? = some y := ⟨_, List.getElem?_eq_getElem (by omega)⟩
    obtain ⟨u, hu, ru⟩ := rv.get hx
    obtain ⟨u', hu', ru'⟩ := rv'.get hy
    have hp : H s.heap.objs.size = none := I.hok.fresh (Nat.le_refl _)
    refine codeAny_builtin F.entry_extend_loop ?_
    rw [Around.under_plainId F.plain_extend_loop _]
    show wpAny _ A.in1 (pyNext (.ref z) >>= _) _ _ s
    refine wpAny_bind (next_zipK D (fun d hd => hN d (sub d hd)) sz st p.isList p'.isList (x := u) (y := u') (by simpa using hu) (by simpa using hu') fun h' st' pr sz' kp => ?_)
    have hS' : h'.get? S = some (ListO acc c) := kp S _ nS hS
    have I1 : Inv X pins σ (L2.upd H s.heap.objs.size (.tup [x, y])) { s with heap := h' } := I.laidT (t' := s.toks) [z, TI, TO, i1, i2] (fun d hd => hf d (sub d hd)) kp (by show 2 ≤ sizeLine; decide) (.cons ru (.cons ru' .nil)) pr
    have hf1 : ∀ d ∈ [z, TI, TO, i1, i2, S], FpOk X pins (L2.upd H s.heap.objs.size (.tup [x, y])) d := fun d hd => by
      obtain ⟨f0, fr⟩ := hf d hd
      exact ⟨by rw [upd_ne (Nat.ne_of_lt (Nat.lt_of_lt_of_le (hN d hd) sz))]; exact f0, fr⟩
    show wpAny _ A.in1 (updateSeq S (·.push (.ref s.heap.objs.size)) >>= _) _ _ _
    refine wpAny_bind ?_
    refine wpAny_updateSeq hS' rfl (wpAny_pure ⟨plainId_quiet F.plain_extend_loop _, ?_⟩) (by rw [ha]; omega) (by show (acc.push _).size ≤ sizeLine + 1; rw [Array.size_push, ha]; omega)
    have oth : ∀ d o, d ≠ S → h'.get? d = some o → (h'.update S (Obj.mapSeq (·.push (.ref s.heap.objs.size)))).get? d = some o := fun d o hd e => (Heap.get?_update_other _ _ (Ne.symm hd)).trans e
    refine ih (i + 1) _ _ (acc.push (.ref s.heap.objs.size)) _ (by omega) (by omega) (I1.turnedL (t' := s.toks) [S] (fun d hd => by rw [List.mem_singleton.mp hd]; exact hf1 S (by simp)) fun d o hd e => oth d o (fun z => hd (by simp [z])) e) ?_ hf1 (q1.upd hp) (q2.upd hp)
      (st'.keep nS (hN S (by simp)) oth) (Heap.get?_update_self _ hS' rfl) (by rw [Array.size_push, ha]) fun s' H' ps acc' c' I' zl fS hS2 ea => ?_
    · show N ≤ (h'.update S _).objs.size
      rw [Heap.size_update, sz']; omega
    · refine hR s' H' (s.heap.objs.size :: ps) acc' c' I' ?_ fS hS2 (by rw [ea]; simp)
      have : (xs.zip ys).drop i = (x, y) :: (xs.zip ys).drop (i + 1) := by
        have e : (xs.zip ys)[i]? = some (x, y) := List.getElem?_zip_eq_some.mpr ⟨hx, hy⟩
        obtain ⟨hl, e⟩ := List.getElem?_eq_some_iff.mp e
        rw [List.drop_eq_getElem_cons hl, e]
      rw [this]
      exact ⟨hp, zl⟩
theorem init_zip (hh : A.in1.handled = none) {z TI TO i1 i2 a b S : Addr} {xs ys : List V} {H : Hp} {s : Shared} (hd : [z, TI, TO, i1, i2].Nodup) (nS : S ∉ [z, TI, TO, i1, i2]) (N : Nat) (hN : ∀ c ∈ [z, TI, TO, i1, i2, S], c < N) (I : Inv X pins σ H s) (sz : N ≤ s.heap.objs.size) (hf : ∀ d ∈ [z, TI, TO, i1, i2, S], FpOk X pins H d)
    (q1 : SqL X.K H a xs) (q2 : SqL X.K H b ys) (st : ZSt z TI TO i1 i2 a b N 0 s.heap) (rz : ZipR s.heap z TI TO .none false) (hS : s.heap.get? S = some { cls := .type "list", data := .seq #[] })
    (hR : ∀ s' H' ps acc' c', Inv X pins σ H' s' → ZL (xs.zip ys) ps H H' → FpOk X pins H' S → s'.heap.get? S = some (ListO acc' c') → acc'.toList = ps.map Value.ref → R (.ok (.ret .none)) s') :
    wpAny (model X.prog X.w) A.in1 (Builtin.«list.__init__» ⟨[.ref S, .ref z], []⟩)
      (fun fin s' => match fin with | .done f => R (.ok f) s' | .again c' => c'.quiet = true ∧ codeAny (model X.prog X.w) A c' R s') (fun e s' => R (.error e) s') s := by
  have tz : ∀ {s : Shared}, ZSt z TI TO i1 i2 a b N 0 s.heap → s.TypeIs (.ref z) "zip" := fun st => st.rc.elim (fun ⟨_, r⟩ => ⟨_, r, rfl⟩) fun ⟨_, _, _, _, r, _⟩ => ⟨_, r, rfl⟩
  have hSz : S ≠ z := fun e => nS (by simp [e])
  show wpAny _ A.in1 (do let old ← Builtin.List.listItems (.ref S); Builtin.List.listUpdate (.ref S) (fun _ => #[]); letGo old.toList.reverse; Builtin.List.listExtendWith (.ref S) (.ref z) .none) _ _ s
  refine wpAny_bind ?_
  unfold Builtin.List.listItems
  refine wpAny_bind (wpAny_seqItems hS rfl (wpAny_pure ?_))
  show wpAny _ A.in1 (updateSeq S (fun _ => #[]) >>= fun _ => letGo (#[] : Array Value).toList.reverse >>= fun _ => Builtin.List.listExtendWith (.ref S) (.ref z) .none) _ _ s
  refine wpAny_bind (wpAny_updateSeq hS rfl ?_)
  have e1 := Heap.get?_update_self (Obj.mapSeq (fun _ => (#[] : Array Value))) hS rfl
  have o1 : ∀ d o, d ≠ S → s.heap.get? d = some o → (s.heap.update S (Obj.mapSeq (fun _ => (#[] : Array Value)))).get? d = some o := fun d o hd e => (Heap.get?_update_other _ _ (Ne.symm hd)).trans e
  refine wpAny_bind (wpAny_letGo ?_)
  unfold Builtin.List.listExtendWith
  have st1 := st.keep nS (hN S (by simp)) o1
  refine wpAny_bind (wpAny_typeOf (tz st1) ?_)
  have n1 : Builtin.List.listSameRef (.ref S) (.ref z) = false := by simp [Builtin.List.listSameRef, hSz]
  have n2 : (Value.type "zip" == Value.type "list") = false := by decide
  have n3 : (Value.type "zip" == Value.type "tuple") = false := by decide
  simp only [n1, n2, n3, Bool.or_false, Bool.false_eq_true, if_false]
  refine wpAny_bind (wpAny_pyIter_zip (f0 := .none) (o1 z _ (Ne.symm hSz) rz) ?_)
  refine wpAny_bind (wpAny_holding ?_)
  unfold Builtin.List.listLengthHint
  refine wpAny_bind (wpAny_specialOf (tz st1) zip_len0 ?_)
  show wpAny _ A.in1 (specialOf (Value.ref z) (Str.ofString "__length_hint__") >>= _) _ _ _
  refine wpAny_bind (wpAny_specialOf (tz st1) zip_hint0 ?_)
  refine wpAny_pure ?_
  show wpAny _ A.in1 (rule "list.extend.makes-room" >>= fun _ => Builtin.List.listTouch (.ref S) >>= fun _ => again (.builtin "list.extend.loop" ⟨[.ref S, .ref z, .none], []⟩)) _ _ _
  refine wpAny_bind (wpAny_rule ?_)
  refine wpAny_bind ?_
  show wpAny _ A.in1 (updateSeq S (·.push .none) >>= fun _ => updateSeq S (·.pop)) _ _ _
  refine wpAny_bind (wpAny_updateSeq e1 rfl ?_)
  have e2 := Heap.get?_update_self (Obj.mapSeq (·.push Value.none)) e1 rfl
  refine wpAny_updateSeq (hz := by seq_fits) e2 rfl ?_
  have e3 := Heap.get?_update_self (Obj.mapSeq (·.pop)) e2 rfl
  have o3 : ∀ d o, d ≠ S → s.heap.get? d = some o → (((s.heap.update S (Obj.mapSeq (fun _ => (#[] : Array Value)))).update S (Obj.mapSeq (·.push Value.none))).update S (Obj.mapSeq (·.pop))).get? d = some o :=
    fun d o hd e => (Heap.get?_update_other _ _ (Ne.symm hd)).trans ((Heap.get?_update_other _ _ (Ne.symm hd)).trans (o1 d o hd e))
  have I3 : Inv X pins σ H { s with heap := ((s.heap.update S (Obj.mapSeq (fun _ => (#[] : Array Value)))).update S (Obj.mapSeq (·.push Value.none))).update S (Obj.mapSeq (·.pop)) } :=
    I.turnedL (t' := s.toks) [S] (fun d hd => by rw [List.mem_singleton.mp hd]; exact hf S (by simp)) fun d o hd e => o3 d o (fun z => hd (by simp [z])) e
  refine wpAny_pure ⟨plainId_quiet F.plain_extend_loop _, loop_zip (xs := xs) (ys := ys) hh hd nS N hN .none _ 0 _ H _ _ rfl (Nat.zero_le _) I3 ?_ hf q1 q2 (st.keep nS (hN S (by simp)) o3) e3 rfl fun s' H' ps acc' c' I' zl fS hS2 ea => ?_⟩
  · show N ≤ (Heap.update _ S _).objs.size
    rw [Heap.size_update, Heap.size_update, Heap.size_update]; exact sz
  · exact hR s' H' ps acc' c' I' (by simpa using zl) fS hS2 (by simpa using ea)
def tLstZ (K : PySem.W.Frag) (ta : TA) : TE := fun σ H Q => ta σ H fun vs H1 => ∃ a b xs ys, vs = [.ref a, .ref b] ∧ SqL K H1 a xs ∧ SqL K H1 b ys ∧ ∀ ps H2 l, ZL (xs.zip ys) ps H1 H2 → H2 l = none → Q (.ref l) (L2.upd H2 l (.lst (ps.map V.ref)))
theorem vals_refs : ∀ (ps : List Addr), Vals (ps.map V.ref) (ps.map Value.ref)
  | [] => .nil
  | _ :: ps => .cons rfl (vals_refs ps)
theorem pe_lstZ {l l' : Expr} {ta : TA} {p p' pos pos' : Pos} (hc : X.calm = true) (hg' : Gl X "list") (hm' : X.mg "list" = none) (hg : Gl X "zip") (hm : X.mg "zip" = none) (ha : PA X [l, l'] ta)
    (h0 : starEach [.Call (.Name "zip" p') [l, l'] [] pos'] X.env = [(false, eval (.Call (.Name "zip" p') [l, l'] [] pos') X.env)] := by rfl) (hs : starEach [l, l'] X.env = (false, eval l X.env) :: starEach [l'] X.env := by rfl) (hs2 : (backTo pos' (starEach [l'] X.env)).any (·.1) = false := by rfl) :
    PE X (.Call (.Name "list" p) [.Call (.Name "zip" p') [l, l'] [] pos'] [] pos) (tLstZ X.K ta) := by
  intro pins s σ H Q I h
  refine Call_ (ld_blt I hg' hm' boot_list (PyProof.Rows.callWith_type1 ?_ h0 rfl))
  rw [h0]
  show wpAny _ _ (spliced ((false, eval (.Call (.Name "zip" p') [l, l'] [] pos') X.env) :: backTo pos [])) _ _ s
  refine Calls.spliced_cons (Call_ (ld_blt I hg hm PyProof.Rows.boot_zip (PyProof.Rows.callWith_type1 (thn (ha pos' pins s σ H _ I h) fun us s1 ⟨vs, H1, I1, r1, q1⟩ => ?_) hs hs2)))
  obtain ⟨a, b, xs, ys, e, hq, hq', q⟩ := q1
  subst e
  obtain ⟨u, v, rfl, rx, ry⟩ := vals2 r1
  cases rx
  cases ry
  obtain ⟨its, rv, pl, hz⟩ := I1.list hq
  obtain ⟨its', rv', pl', hz'⟩ := I1.list hq'
  refine call_zip_2 pl.isList pl'.isList fun h' c1 c2 c3 c4 c5 hsz hk => Calls.spliced_nil ?_
  have I2 : Inv X pins σ H1 { s1 with heap := h' } := I1.kept (t' := s1.toks) hk
  obtain ⟨m, em⟩ : ∃ m, m = s1.heap.objs.size := ⟨_, rfl⟩
  have hnd : [m + 4, m + 2, m + 3, m, m + 1].Nodup := by simp
  rw [← em] at c1 c2 c3 c4 c5 hsz ⊢
  refine callType_codes (Q₁ := fun obj s₁ => obj = .ref h'.objs.size ∧ s₁ = { s1 with heap := h'.push { cls := .type "list", data := .seq #[] } }) F.called_list (F.typeCall_list_1 _) F.entry_list_init (code_list_new _ ⟨rfl, rfl⟩) fun obj s₁ h₁ => ?_
  obtain ⟨rfl, rfl⟩ := h₁
  have up : ∀ d o, h'.get? d = some o → (h'.push { cls := .type "list", data := .seq #[] }).get? d = some o := fun d o e => Heap.get?_push_of_some _ e
  have hS : (h'.push { cls := .type "list", data := .seq #[] }).get? h'.objs.size = some { cls := .type "list", data := .seq #[] } := Heap.get?_push_size _ rfl
  have I3 : Inv X pins σ H1 { s1 with heap := h'.push { cls := .type "list", data := .seq #[] } } := I2.kept (t' := s1.toks) up
  have hf : ∀ d ∈ [m + 4, m + 2, m + 3, m, m + 1, h'.objs.size], FpOk X pins H1 d := fun d hd => by
    have hd' : s1.heap.objs.size ≤ d := by
      simp only [List.mem_cons, List.not_mem_nil, or_false] at hd
      rcases hd with rfl | rfl | rfl | rfl | rfl | rfl <;> omega
    exact I1.fpOk hd' (I1.hok.fresh hd')
  refine ⟨⟨_, hS, rfl⟩, F.args_list_init_2 _ _, init_zip (X := X) (pins := pins) (σ := σ) (A := X.A.in1) (I.ok.hd hc) (z := m + 4) (TI := m + 2) (TO := m + 3) (i1 := m) (i2 := m + 1) (a := a) (b := b) hnd (by rw [hsz]; simp) (m + 6) (fun d hd => ?_) I3 (by show m + 6 ≤ (h'.push _).objs.size; rw [Heap.size_push, hsz]; exact Nat.le_refl _) hf hq hq'
    ⟨.inl ⟨rfl, up _ _ c1⟩, up _ _ c2, ⟨_, _, up _ _ c3⟩, c4.at fun o e => up _ o e, c5.at fun o e => up _ o e⟩ (up _ _ c1) hS fun s' H' ps acc' c' I' zl fS hS' ea => ⟨rfl, ?_⟩⟩
  · simp only [List.mem_cons, List.not_mem_nil, or_false] at hd
    rcases hd with z | z | z | z | z | z <;> rw [z]
    · exact Nat.add_lt_add_left (by decide) m
    · exact Nat.add_lt_add_left (by decide) m
    · exact Nat.add_lt_add_left (by decide) m
    · exact Nat.lt_add_of_pos_right (by decide)
    · exact Nat.add_lt_add_left (by decide) m
    · rw [hsz]; exact Nat.add_lt_add_left (by decide) m
  · obtain ⟨f0, f1, f2, f3, f4, f5⟩ := fS
    refine ⟨.ref h'.objs.size, L2.upd H' h'.objs.size (.lst (ps.map V.ref)), I'.track f0 ?_ f1 f4 f5 ⟨?_, acc'.toList, c', by rw [ea]; exact vals_refs ps, by simpa using hS'⟩, rfl, q ps H' _ zl f0⟩
    · cases e : X.s₀.heap.get? h'.objs.size with
      | none => rfl
      | some o =>
        have h1 := Nat.lt_of_lt_of_le (Heap.lt_size e) I1.sz
        rw [hsz, ← em] at h1
        exact absurd h1 (Nat.not_lt.mpr (Nat.le_add_right m 5))
    · rw [List.length_map, zl.len, List.length_zip]
      omega
end
end L2
namespace PM
open PySem L2
section
variable {K : Kx} {XO : XOT} {E : L2.St → XK}
def lstZ (l : List D) : Option D := (zip1 l).map .lst
def mLstZ (ml : En → R (List D)) (δ : En) : R D := (ml δ).bind fun l => R.of (lstZ l)
theorem lstZ_some {l : List D} {d : D} (h : lstZ l = some d) : ∃ x y, l = [.lst x, .lst y] ∧ d = .lst (zipD x y) := by
  unfold lstZ at h
  cases q : zip1 l with
  | none => rw [q] at h; cases h
  | some r =>
    rw [q] at h
    cases h
    obtain ⟨x, y, e, rfl⟩ := zip1_some q
    exact ⟨x, y, e, rfl⟩
theorem zl_ext : ∀ {ds es : List D} {vs ws : List V} {ps : List Addr} {F H H' : Hp}, Same F H → RepL K F ds vs → RepL K F es ws → ZL (vs.zip ws) ps H H' → ∃ F', Ext F H F' H' ∧ RepL K F' (zipD ds es) (ps.map V.ref)
  | [], es, vs, ws, ps, F, H, H', s, r, r', z => by
    have e : vs = [] := by simpa only [RepL] using r
    subst e
    cases ps with
    | nil =>
      have e : H' = H := by simpa only [List.zip_nil_left, ZL] using z
      subst e
      exact ⟨F, .refl s, rfl⟩
    | cons p ps => exact (by simpa only [List.zip_nil_left, ZL] using z : False).elim
  | d :: ds, [], vs, ws, ps, F, H, H', s, r, r', z => by
    have e : ws = [] := by simpa only [RepL] using r'
    subst e
    cases ps with
    | nil =>
      have e : H' = H := by simpa only [List.zip_nil_right, ZL] using z
      subst e
      exact ⟨F, .refl s, rfl⟩
    | cons p ps => exact (by simpa only [List.zip_nil_right, ZL] using z : False).elim
  | d :: ds, e :: es, vs, ws, ps, F, H, H', s, r, r', z => by
    simp only [RepL] at r r'
    obtain ⟨v, vs, rfl, r1, r2⟩ := r
    obtain ⟨w, ws, rfl, r3, r4⟩ := r'
    cases ps with
    | nil => exact (by simpa only [List.zip_cons_cons, ZL] using z : False).elim
    | cons p ps =>
      obtain ⟨hp, z⟩ : H p = none ∧ ZL (vs.zip ws) ps (upd H p (.tup [v, w])) H' := by simpa only [List.zip_cons_cons, ZL] using z
      have x : Ext F H (upd F p (.tup [v, w])) (upd H p (.tup [v, w])) := .new s hp
      obtain ⟨F', y, rl⟩ := zl_ext x.fh (RepL.mono x.ff _ r2) (RepL.mono x.ff _ r4) z
      refine ⟨F', x.trans y, ?_⟩
      have m := x.ff.trans y.ff
      show RepL K F' (.tup [d, e] :: zipD ds es) (.ref p :: ps.map V.ref)
      simp only [RepL]
      refine ⟨_, _, rfl, ?_, rl⟩
      simp only [Rep]
      exact ⟨p, _, rfl, y.ff _ _ upd_same, .cons (Rep.mono m _ r1) (.cons (Rep.mono m _ r3) .nil)⟩
theorem seo_lstZ {tl : TA} {ml : En → R (List D)} (h : SAr K XO E tl ml) : SEo K XO E (tLstZ K.f tl) (mLstZ ml) := by
  intro Λ F0 H0 F H σ δ Q I a
  refine h Λ F0 H0 F H σ δ _ I (a.bind.imp fun ds F1 H1 e1 a1 vs r => ?_)
  cases q : lstZ ds with
  | none => rw [q] at a1; exact a1.elim
  | some d =>
    rw [q] at a1
    obtain ⟨l, l', rfl, rfl⟩ := lstZ_some q
    cases r with
    | cons r r' =>
      cases r' with
      | cons r2 r3 =>
        cases r3
        obtain ⟨a, vs, rfl, h1, h2⟩ := r
        obtain ⟨b, ws, rfl, h3, h4⟩ := r2
        refine ⟨a, b, vs, ws, rfl, .inl h1, .inl h3, fun ps H2 l zl hl => ?_⟩
        obtain ⟨F2, x, rl⟩ := zl_ext e1.fh h2 h4 zl
        have x2 := x.trans (.newO (o := .lst (ps.map V.ref)) x.fh hl)
        exact a1 F2 _ x2 l (x.fh.free hl) (e1.hh.free (x.hh.free hl)) ⟨_, upd_same, rl⟩
end
end PM
namespace L2
open PySem PySem.Spec PyProof.Rows
theorem KV.at : ∀ {kvs : List (Key × V)} {vs : List (Key × Value)}, KV kvs vs → ∀ {i : Nat} {k : Key} {x : V}, kvs[i]? = some (k, x) → ∃ u, vs[i]? = some (k, u) ∧ RelV x u := by
  intro kvs vs r
  unfold KV at r
  induction r with
  | nil => intro i k x h; simp at h
  | @cons p q ps qs hq t ih =>
    intro i k x h
    cases i with
    | zero =>
      have e : p = (k, x) := by simpa using h
      subst e
      obtain ⟨q1, q2⟩ := q
      exact ⟨q2, by rw [show k = q1 from hq.1]; rfl, hq.2⟩
    | succ i => exact ih (by simpa using h)
section
variable {X : Cx} {pins : List (Addr × Obj)} {σ : St} {H : Hp} {s : Shared} {a : Addr} {kvs : List (Key × V)}
theorem Inv.frz (I : Inv X pins σ H s) (ha : H a = some (.dK kvs)) : ∃ o, Inv X pins σ (upd H a (.frz o (.dK kvs))) s := by
  have ob := I.hok a _ ha
  obtain ⟨_, _, _, _, o, es, ep, ho, _⟩ := id ob
  exact ⟨o, I.write (t' := s.toks) (x := a) (e := a) (o := .frz o (.dK kvs)) (h' := s.heap) (by rw [ha]; exact True.intro) (.inl rfl) (fun _ _ _ q => q) ⟨o, ho⟩ ⟨ho, ob⟩⟩
end
theorem KV.len {kvs : List (Key × V)} {vs : List (Key × Value)} (r : KV kvs vs) : vs.length = kvs.length := by
  unfold KV at r
  induction r with
  | nil => rfl
  | cons _ _ ih => simp [ih]
section
variable {X : Cx}
end
end L2
namespace PM
open PySem L2
section
variable {K : Kx} {XO : XOT} {E : L2.St → XK}
end
end PM
namespace L2
open PySem PySem.Spec PyProof.Rows
structure HasD (P : Program) (w : World) (K : PySem.W.Frag) (mg : Str → Option Value) (base : Heap) (CX : CXT) (k : Nat) (x : Str) (ps : List Str) (sp : Sp) (d : V) : Prop where
  ex : ∃ (f : Addr) (fd : FuncData), FnOk P w K mg base CX k f fd ps sp ∧ mg x = some (.ref f) ∧ PySem.W.keepIn K (.ref f) = true ∧ Binds K fd ps [] ∧ ∃ u, RelV d u ∧ Binds K fd ps [u]
section
variable {P : Program} {w : World} {K : PySem.W.Frag} {mg : Str → Option Value} {base : Heap} {CX : CXT} {k : Nat} {x : Str} {ps : List Str} {sp : Sp} {d : V}
theorem HasD.has (G : HasD P w K mg base CX k x ps sp d) : Has P w K mg base CX k x ps sp := by
  obtain ⟨f, fd, a, b, c, e, _⟩ := G.ex
  exact ⟨f, fd, a, b, c, e⟩
end
section
variable {X : Cx} {CX : CXT} {k : Nat} {x : Str} {ps : List Str} {sp : Sp} {E : XK} {p pos : Pos} {a b : Expr} {ta tb : TE} {d : V}
end
theorem binds_dflt {K : PySem.W.Frag} {fd : FuncData} {ps : List Str} {T : Addr} {o : Obj} {u : Value} {n : Nat} (hd : fd.defaults = .ref T) (ho : K.lookup T = some o) (hs : o.data = .seq #[u] n)
    (h3 : ∀ us : List Value, us.length = ps.length → ∃ kk, bindArgs fd ⟨us, []⟩ = seqItems? fd.defaults >>= kk ∧ kk (some #[u]) = pure (ps.zip us))
    (h2 : ∀ us : List Value, us.length + 1 = ps.length → ∃ kk, bindArgs fd ⟨us, []⟩ = seqItems? fd.defaults >>= kk ∧ kk (some #[u]) = pure (ps.zip (us ++ [u]))) : Binds K fd ps [] ∧ Binds K fd ps [u] := by
  constructor
  · intro s us hK hl
    rw [List.append_nil] at hl ⊢
    obtain ⟨kk, e1, e2⟩ := h3 us hl
    exact .of_defaults hd (hK T o ho) hs e1 e2
  · intro s us hK hl
    obtain ⟨kk, e1, e2⟩ := h2 us (by simpa using hl)
    exact .of_defaults hd (hK T o ho) hs e1 e2
structure FunD (K : PySem.W.Frag) (x qual : Str) (st : Stmt) (f : Addr) (fd : FuncData) (d : V) : Prop where
  ex : ∃ (oc : Value) (od : Option Addr) (T : Addr) (kV doc pm : Value) (an : Option Addr) (cdv ct : Value) (osl : Array (Option Value)),
    fd = PySem.W.fnOf x qual (defArgs st) (defBody st) (defScope st) (.ref T) kV doc pm an cdv ct ∧ K.lookup f = some ⟨oc, od, .func fd, osl⟩ ∧ PySem.W.codeIn K cdv qual = true ∧ ∃ (o : Obj) (u : Value) (n : Nat), K.lookup T = some o ∧ o.data = .seq #[u] n ∧ RelV d u
  kp : PySem.W.keepIn K (.ref f) = true
section
variable {P : Program} {w : World} {K : PySem.W.Frag} {mg : Str → Option Value} {base : Heap} {d : V}
theorem FunD.ok {x qual : Str} {st : Stmt} {f : Addr} {fd : FuncData} {N ps : List Str} {k : Nat} {sp : Sp} (F : FunD K x qual st f fd d) (S : FnScope N ps (defScope st)) (len : ∀ vs H Q E, sp vs H Q E → vs.length = ps.length)
    (hbody : ∀ (cdv : Value) (A : Around) (outer : List Env) (s : Shared) (H : Hp) (vs : List V) (Q : VK) (E : XK), Room k (A.deeper (envOfC qual (defScope st) s.heap.objs.size f cdv)) → sp vs H Q E →
      ∃ t, PSs (cxOf CX0 P w K mg base N qual (defScope st) f cdv A outer s H E).nox (defBody st) t ∧ t { nx := fun _ H' => Q .non H', rt := Q } (start N vs) H) : FnOk P w K mg base CX0 (k + 1) f fd ps sp := by
  obtain ⟨oc, od, T, kV, doc, pm, an, cdv, ct, osl, rfl, lk, hcd, _⟩ := F.ex
  refine fn_of lk hcd S len fun A outer s H vs Q E hr hsp => ?_
  obtain ⟨t, h, q⟩ := hbody cdv A outer s H vs Q E hr hsp
  exact ⟨t, h.nox, q⟩
theorem FunD.binds {x qual : Str} {st : Stmt} {f : Addr} {fd : FuncData} {ps : List Str} (F : FunD K x qual st f fd d)
    (h3 : ∀ (T : Addr) (kV doc pm : Value) (an : Option Addr) (cdv ct u : Value) (us : List Value), us.length = ps.length → ∃ kk, bindArgs (PySem.W.fnOf x qual (defArgs st) (defBody st) (defScope st) (.ref T) kV doc pm an cdv ct) ⟨us, []⟩ = seqItems? (.ref T) >>= kk ∧ kk (some #[u]) = pure (ps.zip us))
    (h2 : ∀ (T : Addr) (kV doc pm : Value) (an : Option Addr) (cdv ct u : Value) (us : List Value), us.length + 1 = ps.length → ∃ kk, bindArgs (PySem.W.fnOf x qual (defArgs st) (defBody st) (defScope st) (.ref T) kV doc pm an cdv ct) ⟨us, []⟩ = seqItems? (.ref T) >>= kk ∧ kk (some #[u]) = pure (ps.zip (us ++ [u]))) :
    Binds K fd ps [] ∧ ∃ u, RelV d u ∧ Binds K fd ps [u] := by
  obtain ⟨oc, od, T, kV, doc, pm, an, cdv, ct, osl, rfl, lk, hcd, o, u, n, ho, hs, ru⟩ := F.ex
  obtain ⟨b1, b2⟩ := binds_dflt (ps := ps) (fd := PySem.W.fnOf x qual (defArgs st) (defBody st) (defScope st) (.ref T) kV doc pm an cdv ct) rfl ho hs (fun us hl => h3 T kV doc pm an cdv ct u us hl) fun us hl => h2 T kV doc pm an cdv ct u us hl
  exact ⟨b1, u, ru, b2⟩
end
structure DefAtD (K : PySem.W.Frag) (x : Str) (st : Stmt) (f : Addr) (fd : FuncData) (d : V) : Prop where
  ns : PySem.W.nsIn K mainGlobals x = some (some (.ref f))
  fn : FunD K x x st f fd d
theorem DefAtD.has {P : Program} {w : World} {K : PySem.W.Frag} {mg : Str → Option Value} {base h : Heap} {CX : CXT} {k : Nat} {x : Str} {st : Stmt} {f : Addr} {fd : FuncData} {ps : List Str} {sp : Sp} {d : V} (D : DefAtD K x st f fd d) (X : K.In h) (G : h.Ns mainGlobals mg)
    (ok : FnOk P w K mg base CX k f fd ps sp) (b : Binds K fd ps [] ∧ ∃ u, RelV d u ∧ Binds K fd ps [u]) : HasD P w K mg base CX k x ps sp d := ⟨f, fd, ok, PySem.W.mg_of X G D.ns, D.fn.kp, b⟩
end L2
namespace My
open PySem L2 PM
/-- 0 _law_script, 1 _law_k -/
noncomputable def b_law_cell_at : En → O := (mSeq (mIfS (mTest (m2 oLt (mRd 1) (mCB fLen (mCons (mRd 0) mNil))))
  (mRet (m2 oIxL (mRd 0) (mRd 1)))
  mNext)
  (mRet (mC (.int 0))))
noncomputable def m_law_cell_at : List D → R D := runF 2 0 b_law_cell_at
/-- 0 _law_script, 1 _law_k, 2 _law_top, 3 _law_cell, 4 _law_high, 5 _law_low -/
noncomputable def b_law_number : En → O := (mSeq (mAsg (m2 oMod (mCallN m_law_cell_at (mCons (mVar 0) (mCons (mVar 1) mNil))) (m2 oPow (mC (.int 10)) (mC (.int 20)))) (bName 3))
  (mSeq (mAsg (m2 oMod (m2 oAdd (m2 oMul (mRd 3) (mC (.int 48271))) (m2 oMul (m2 oMul (m2 oAdd (mRd 1) (mC (.int 1))) (m2 oAdd (mRd 1) (mC (.int 7)))) (mC (.int 69621)))) (mC (.int 2147483647))) (bName 4))
  (mSeq (mAsg (m2 oMod (m2 oAdd (m2 oAdd (m2 oMul (mRd 3) (mC (.int 16807))) (m2 oMul (m2 oMul (mRd 1) (mRd 1)) (mC (.int 40692)))) (mC (.int 7))) (mC (.int 2147483629))) (bName 5))
  (mRet (m2 oMod (m2 oAdd (m2 oMul (mRd 4) (mC (.int 2147483629))) (mRd 5)) (m2 oAdd (mRd 2) (mC (.int 1))))))))
noncomputable def m_law_number : List D → R D := runF 3 3 b_law_number
noncomputable def k1_law_works : En → R D := mComp (mRng (mCons (mCB fLen (mCons (mSl (mRd 0) (mPart (mC (.int 2))) (mPart (mC (.int 42)))) mNil)) mNil)) [0, 1] 1 (bNameC 2) none (m2 oAdd (mC (.int 1)) (mCallN m_law_number (mCons (mVar 0) (mCons (m2 oAdd (mC (.int 2)) (mRd 2)) (mCons (mVar 1) mNil)))))
/-- 0 _law_script, 1 _law_top -/
noncomputable def b_law_works : En → O := (mSeq (mAsg (m2 oIxL (mLst (mCons (mC (.int 2)) (mCons (mC (.int 60)) (mCons (m2 oSub (m2 oPow (mC (.int 10)) (mC (.int 18))) (mC (.int 1))) mNil)))) (m2 oMod (mCallN m_law_cell_at (mCons (mVar 0) (mCons (mC (.int 1)) mNil))) (mC (.int 3)))) (bName 1))
  (mRetO k1_law_works))
noncomputable def m_law_works : List D → R D := runO 1 1 b_law_works
/-- 0 _law_script -/
noncomputable def b_law_many : En → O := (mSeq (mIfS (mTest (m2 oEq (m2 oMod (mCallN m_law_cell_at (mCons (mVar 0) (mCons (mC (.int 0)) mNil))) (mC (.int 4))) (mC (.int 0))))
  (mRet (m2 oAdd (mC (.int 1)) (m2 oMod (m2 oDiv (mCallN m_law_cell_at (mCons (mVar 0) (mCons (mC (.int 0)) mNil))) (mC (.int 4))) (mC (.int 20)))))
  mNext)
  (mRet (m2 oAdd (mC (.int 1)) (m2 oMod (m2 oDiv (mCallN m_law_cell_at (mCons (mVar 0) (mCons (mC (.int 0)) mNil))) (mC (.int 4))) (mC (.int 5))))))
noncomputable def m_law_many : List D → R D := runF 1 0 b_law_many
/-- 0 _law_script, 1 _law_k, 2 _law_many_here, 3 _law_cell -/
noncomputable def b_law_choice : En → O := (mSeq (mAsg (m2 oMod (mCallN m_law_cell_at (mCons (mVar 0) (mCons (mVar 1) mNil))) (m2 oPow (mC (.int 10)) (mC (.int 30)))) (bName 3))
  (mRet (m2 oMod (m2 oMod (m2 oAdd (m2 oMul (mRd 3) (mC (.int 40692))) (m2 oMul (m2 oMul (m2 oAdd (mRd 1) (mC (.int 3))) (m2 oAdd (mRd 1) (mC (.int 5)))) (mC (.int 39373)))) (mC (.int 2147483563))) (mRd 2))))
noncomputable def m_law_choice : List D → R D := runF 3 1 b_law_choice
noncomputable def lb1_law_worst : En → O := (mAsg (m2 oCat (mRd 3) (mLst (mCons (m2 oMul (mRd 1) (mRd 4)) (mCons (m2 oMul (mRd 1) (mRd 4)) mNil)))) (bName 3))
noncomputable def l1_law_worst : En → O := mFor (mRng (mCons (mVar 0) (mCons (m2 oMul (mC (.int 2)) (mRd 0)) mNil))) (bName 4) lb1_law_worst
noncomputable def lb2_law_worst : En → O := (mAsg (m2 oCat (mRd 5) (mLst (mCons (m2 oSub (m2 oSub (mRd 4) (mRd 0)) (mC (.int 1))) (mCons (m2 oSub (m2 oSub (m2 oMul (mC (.int 2)) (mRd 0)) (mC (.int 1))) (mRd 4)) mNil)))) (bName 5))
noncomputable def l2_law_worst : En → O := mFor (mRng (mCons (m2 oAdd (mRd 0) (mC (.int 1))) (mCons (m2 oMul (mC (.int 2)) (mRd 0)) mNil))) (bName 4) lb2_law_worst
noncomputable def k1_law_worst : En → R D := mComp (mItL (mRd 6)) [] 2 (bTup 2 (bCons (bNameC 0) (bCons (bNameC 1) bNil))) none (mVar 1)
noncomputable def k2_law_worst : En → R D := mComp (mItL (mRd 6)) [] 2 (bTup 2 (bCons (bNameC 0) (bCons (bNameC 1) bNil))) none (mVar 0)
/-- 0 _law_many_here, 1 _law_unit, 2 _law_turn, 3 _law_works_here, 4 _law_k, 5 _law_benches, 6 _law_pairs -/
noncomputable def b_law_worst : En → O := (mSeq (mAsg (mLst (mCons (m2 oMul (mRd 1) (mRd 0)) mNil)) (bName 3))
  (mSeq l1_law_worst
  (mSeq (mAsg (mLst (mCons (m2 oSub (mRd 0) (mC (.int 1))) (mCons (m2 oSub (mRd 0) (mC (.int 1))) (mCons (m2 oSub (mRd 0) (mC (.int 1))) mNil)))) (bName 5))
  (mSeq l2_law_worst
  (mSeq (mAsg (mLstZ (mCons (mRd 3) (mCons (mRd 5) mNil))) (bName 6))
  (mSeq (mAsg (m2 oCat (mSl (mRd 6) (mPart (m2 oMod (mRd 2) (mCB fLen (mCons (mRd 6) mNil)))) mNoP) (mSl (mRd 6) mNoP (mPart (m2 oMod (mRd 2) (mCB fLen (mCons (mRd 6) mNil)))))) (bName 6))
  (mRetO (mLst (mCons k2_law_worst (mCons k1_law_worst mNil))))))))))
noncomputable def m_law_worst : List D → R D := runO 3 4 b_law_worst
/-- 0 sizes -/
noncomputable def b_greatest_order : En → O := (mRetO (mSortK 0))
noncomputable def m_greatest_order : List D → R D := runO 1 0 b_greatest_order
/-- 0 sums -/
noncomputable def b_freest : En → O := (mRet (mIndex (mRd 0) (mCB (fBest minI) (mCons (mRd 0) mNil))))
noncomputable def m_freest : List D → R D := runF 1 0 b_freest
noncomputable def k1_put_by : En → R D := mComp (mRng (mCons (mVar 1) mNil)) [] 1 (bNameC 0) none (mC (.int 0))
noncomputable def k2_put_by : En → R D := mComp (mItL (mRd 0)) [] 1 (bNameC 0) none (mC (.int 0))
noncomputable def lb1_put_by : En → O := (mSeq (mAsg (mCallB m_freest (mCons (mRd 3) mNil)) (bName 6))
  (mSeq (mAugL (fun i j => i + j) 3 (mVar 6) (m2 oIxL (mRd 0) (mRd 5)))
  (mSetL 4 (mVar 5) (mVar 6))))
noncomputable def l1_put_by : En → O := mFor (mItL (mVar 2)) (bName 5) lb1_put_by
/-- 0 works, 1 many, 2 order, 3 sums, 4 put, 5 number, 6 bench -/
noncomputable def b_put_by : En → O := (mSeq (mAsg k1_put_by (bNew 3))
  (mSeq (mAsg k2_put_by (bNew 4))
  (mSeq l1_put_by
  (mRetM 4))))
noncomputable def m_put_by : List D → R D := runO 3 4 b_put_by
/-- 0 works, 1 many -/
noncomputable def b_put_longest_first : En → O := (mRetO (mCallN m_put_by (mCons (mVar 0) (mCons (mVar 1) (mCons (mCallN m_greatest_order (mCons (mVar 0) mNil)) mNil)))))
noncomputable def m_put_longest_first : List D → R D := runO 2 0 b_put_longest_first
noncomputable def lb1_law_is_putting : En → O := (mIfS (mOr (mNot (mTest (m1 (oIsi "int") (mRd 3)))) (mOr (mTest (m1 (oIsi "bool") (mRd 3))) (mOr (mTest (m2 oLt (mRd 3) (mC (.int 0)))) (mTest (m2 oGe (mRd 3) (mRd 2))))))
  (mRet (mC (.bl false)))
  mNext)
noncomputable def l1_law_is_putting : En → O := mFor (mItL (mVar 0)) (bName 3) lb1_law_is_putting
/-- 0 _law_found, 1 _law_works_here, 2 _law_many_here, 3 _law_bench -/
noncomputable def b_law_is_putting : En → O := (mSeq (mIfS (mOr (mNot (mTest (m1 (oIsi "list") (mRd 0)))) (mTest (m2 oNe (mCB fLen (mCons (mRd 0) mNil)) (mCB fLen (mCons (mRd 1) mNil)))))
  (mRet (mC (.bl false)))
  mNext)
  (mSeq l1_law_is_putting
  (mRet (mC (.bl true)))))
noncomputable def m_law_is_putting : List D → R D := runF 3 1 b_law_is_putting
noncomputable def k1_law_heaviest : En → R D := mComp (mZip (mCons (mRd 0) (mCons (mRd 1) mNil))) [2] 2 (bTup 2 (bCons (bNameC 1) (bCons (bNameC 2) bNil))) (some (mTest (m2 oEq (mRd 2) (mRd 0)))) (mVar 1)
noncomputable def k2_law_heaviest : En → R D := mComp (mRng (mCons (mVar 1) mNil)) [0, 2] 1 (bNameC 2) none (mCB fSum (mCons k1_law_heaviest mNil))
/-- 0 _law_works_here, 1 _law_many_here, 2 _law_put -/
noncomputable def b_law_heaviest : En → O := (mRet (mCB (fBest maxI) (mCons k2_law_heaviest mNil)))
noncomputable def m_law_heaviest : List D → R D := runF 3 0 b_law_heaviest
noncomputable def k1_law : En → R D := mComp (mRng (mCons (mCB fLen (mCons (mRd 1) mNil)) mNil)) [0, 2] 1 (bNameC 2) none (mCallN m_law_choice (mCons (mVar 0) (mCons (m2 oAdd (mC (.int 2)) (mRd 2)) (mCons (mVar 1) mNil))))
/-- 0 _law_script, 1 _law_works_here, 2 _law_many_here, 3 _law_drawn, 4 _law_handed, 5 _law_found, 6 _law_rival -/
noncomputable def b_law : En → O := (mSeq (mAsg (mCallN m_law_works (mCons (mVar 0) mNil)) (bName 1))
  (mSeq (mAsg (mCallN m_law_many (mCons (mVar 0) mNil)) (bName 2))
  (mSeq (mAsg k1_law (bName 3))
  (mSeq (mIfS (mAnd (mTest (m2 oEq (m2 oMod (m2 oDiv (mCallN m_law_cell_at (mCons (mVar 0) (mCons (mC (.int 1)) mNil))) (mC (.int 3))) (mC (.int 4))) (mC (.int 1)))) (mTest (m2 oLt (mRd 2) (mC (.int 16)))))
  (mAsg (mCallN m_law_worst (mCons (mVar 2) (mCons (m2 oAdd (mC (.int 1)) (mCallN m_law_number (mCons (mVar 0) (mCons (mC (.int 43)) (mCons (m2 oPow (mC (.int 10)) (mC (.int 16))) mNil))))) (mCons (mCallN m_law_number (mCons (mVar 0) (mCons (mC (.int 44)) (mCons (mC (.int 40)) mNil)))) mNil)))) (bLst 2 (bCons (bName 1) (bCons (bName 3) bNil))))
  mNext)
  (mSeq (mAsg (mCB fList (mCons (mRd 1) mNil)) (bName 4))
  (mSeq (mAsg (mCallN m_put_longest_first (mCons (mVar 4) (mCons (mVar 2) mNil))) (bName 5))
  (mSeq (mIfS (mOr (mNot (mTest (mCallN m_law_is_putting (mCons (mVar 5) (mCons (mVar 1) (mCons (mVar 2) mNil)))))) (mTest (m2 oNeD (mRd 4) (mRd 1))))
  (mRet (mC (.bl false)))
  mNext)
  (mSeq (mAsg (mCallN m_law_heaviest (mCons (mVar 1) (mCons (mVar 2) (mCons (mVar 3) mNil)))) (bName 6))
  (mRet (m2 oLe (m2 oMul (m2 oMul (mC (.int 3)) (mRd 2)) (mCallN m_law_heaviest (mCons (mVar 1) (mCons (mVar 2) (mCons (mVar 5) mNil))))) (m2 oMul (m2 oSub (m2 oMul (mC (.int 4)) (mRd 2)) (mC (.int 1))) (mRd 6))))))))))))
noncomputable def m_law : List D → R D := runF 1 6 b_law
end My
namespace My
open PySem L2 PM
def upt (n : Nat) : List Int := (List.range n).map fun (k : Nat) => (k : Int)
theorem mem_upt {n : Nat} {t : Int} : t ∈ upt n ↔ 0 ≤ t ∧ t < (n : Int) := by
  unfold upt
  rw [List.mem_map]
  constructor
  · rintro ⟨a, h, rfl⟩
    have := List.mem_range.mp h
    omega
  · rintro ⟨h0, h1⟩
    exact ⟨t.toNat, List.mem_range.mpr (by omega), by omega⟩
theorem upt_len {n : Nat} : (upt n).length = n := by simp [upt]
theorem upt_nodup (n : Nat) : (upt n).Nodup := List.Pairwise.map _ (fun a b h e => h (Int.ofNat.inj e)) List.nodup_range
theorem rngT {n : Nat} (h : n ≤ 1000) : rng [.int (n : Int)] = some ((upt n).map .int) := by
  rw [rng1 (by omega) (by omega), Int.toNat_natCast, rangeD0, upt, List.map_map]; rfl
/-- what a list has at a place -/
def gA (L : List Int) (i : Int) : Int := L.getD i.toNat 0
theorem gA_set_self {L : List Int} {i : Int} {x : Int} (h : i.toNat < L.length) : gA (L.set i.toNat x) i = x := by simp [gA, List.getD_eq_getElem?_getD, h]
theorem gA_set_ne {L : List Int} {i j : Int} {x : Int} (h : i.toNat ≠ j.toNat) : gA (L.set i.toNat x) j = gA L j := by simp [gA, List.getD_eq_getElem?_getD, List.getElem?_set_ne h]
theorem gA_get {L : List Int} {i : Int} (h : i.toNat < L.length) : L[i.toNat]? = some (gA L i) := by simp [gA, List.getD_eq_getElem?_getD, h]
theorem sum_le {α : Type} {f g : α → Int} : ∀ {l : List α}, (∀ x ∈ l, f x ≤ g x) → (l.map f).sum ≤ (l.map g).sum
  | [], _ => by simp
  | a :: l, h => by
    have h1 := h a (by simp)
    have h2 := sum_le (f := f) (g := g) (l := l) fun x hx => h x (by simp [hx])
    simp only [List.map_cons, List.sum_cons]; omega
theorem sum_add {α : Type} {f g : α → Int} : ∀ {l : List α}, (l.map fun x => f x + g x).sum = (l.map f).sum + (l.map g).sum
  | [] => by simp
  | a :: l => by
    have h2 := sum_add (f := f) (g := g) (l := l)
    simp only [List.map_cons, List.sum_cons]; omega
theorem sum_zero {α : Type} : ∀ {l : List α}, (l.map fun _ => (0 : Int)).sum = 0
  | [] => by simp
  | a :: l => by simp [sum_zero (l := l)]
theorem sum_const {α : Type} {c : Int} : ∀ {l : List α}, (l.map fun _ => c).sum = (l.length : Int) * c
  | [] => by simp
  | a :: l => by
    rw [List.map_cons, List.sum_cons, sum_const (l := l), List.length_cons, Int.natCast_add, Int.add_mul]
    omega
theorem gather_fm {α : Type} {f : D → R (Option D)} (enc : α → D) (p : α → Bool) (g : α → D) (l : List α) (h : ∀ x ∈ l, f (enc x) = .ok (if p x = true then some (g x) else none)) : gather f (l.map enc) = .ok ((l.filter p).map g) := by
  induction l with
  | nil => rfl
  | cons a l ih =>
    have h1 := h a (by simp)
    have h2 := ih fun x hx => h x (by simp [hx])
    rw [List.map_cons, gather, h1, R.bind_ok, h2, R.bind_ok]
    by_cases e : p a = true
    · simp [e]
    · simp [e]
theorem fSum_iL (ns : List Int) : fSum [iL ns] = some (.int ns.sum) := by simp [fSum, iL, asIs_map]
theorem uniq_nodup {ns : List Int} (h : ns.Nodup) : uniq ns = ns := by
  have key : ∀ (l acc : List Int), (acc ++ l).Nodup → l.foldl PyProof.Rows.step_dedup acc = acc ++ l := by
    intro l
    induction l with
    | nil => intro acc _; simp
    | cons a l ih =>
      intro acc hn
      have na : ¬ acc.any (· == a) = true := by
        intro z
        obtain ⟨b, hb, e⟩ := List.any_eq_true.mp z
        have e : b = a := by simpa using e
        subst e
        have := (List.nodup_append.mp hn).2.2 b hb b (by simp)
        exact this rfl
      rw [List.foldl_cons, PyProof.Rows.step_dedup, if_neg na, ih _ (by simpa using hn)]
      simp
  exact key ns [] (by simpa using h)
theorem oIxL_iL {L : List Int} {k : Int} (h0 : 0 ≤ k) (h1 : k.toNat < L.length) : oIxL (iL L) (.int k) = some (.int (gA L k)) :=
  oIxL_i h0 (by simp [gA_get h1])
theorem mAugL_iL {f : Int → Int → Int} {i : Nat} {mi me : En → R D} {δ : En} {L : List Int} {k y : Int} (h : δ[i]? = some (.o (iL L))) (hk : mi δ = .ok (.int k)) (h0 : 0 ≤ k) (h1 : k.toNat < L.length) (hy : me δ = .ok (.int y)) :
    mAugL f i mi me δ = .nx (δ.set i (.o (iL (L.set k.toNat (f (gA L k) y))))) := by
  have e1 : ixN (L.map D.int).length k = some k.toNat := by unfold ixN; rw [if_pos h0, if_pos (by rw [List.length_map]; omega)]
  have e2 : (L.map D.int)[k.toNat]? = some (.int (gA L k)) := by simp [gA_get h1]
  unfold mAugL
  rw [h]
  simp only [iL, hk, R.toO_ok, e1, e2, hy]
  rw [← List.map_set]
theorem mAppend_iL {i : Nat} {me : En → R D} {δ : En} {L : List Int} {y : Int} (h : δ[i]? = some (.o (iL L))) (hy : me δ = .ok (.int y)) (hl : L.length ≤ 100000) : mAppend i me δ = .nx (δ.set i (.o (iL (L ++ [y])))) := by
  unfold mAppend
  rw [h]
  simp only [iL, hy, R.toO_ok]
  rw [ifC_pos (by rw [List.length_map]; exact Nat.lt_of_le_of_lt hl (by decide))]
  simp
theorem sum_perm {α : Type} {f : α → Int} {l r : List α} (h : l.Perm r) : (l.map f).sum = (r.map f).sum := by
  induction h with
  | nil => rfl
  | cons x _ ih => simp only [List.map_cons, List.sum_cons, ih]
  | swap x y l => simp only [List.map_cons, List.sum_cons]; omega
  | trans _ _ h1 h2 => exact h1.trans h2
theorem sum_sub {f : Int → Int} : ∀ {l S : List Int}, l.Nodup → (∀ x ∈ l, x ∈ S) → (∀ x ∈ S, 0 ≤ f x) → (l.map f).sum ≤ (S.map f).sum
  | [], S, _, _, h => by
    have := sum_le (f := fun _ => (0 : Int)) (g := f) (l := S) h
    rw [sum_zero] at this; simpa using this
  | x :: l, S, hn, hs, h => by
    have hn' := List.nodup_cons.mp hn
    have p := List.perm_cons_erase (hs x (by simp))
    rw [sum_perm p, List.map_cons, List.sum_cons, List.map_cons, List.sum_cons]
    have := sum_sub (f := f) (l := l) (S := S.erase x) hn'.2 (fun y hy => (List.mem_erase_of_ne (fun e : y = x => hn'.1 (e ▸ hy))).mpr (hs y (by simp [hy]))) fun y hy => h y (List.mem_of_mem_erase hy)
    omega
theorem sum_filter {α : Type} {f : α → Int} {p : α → Bool} : ∀ {l : List α}, ((l.filter p).map f).sum = (l.map fun x => if p x = true then f x else 0).sum
  | [] => rfl
  | x :: l => by
    by_cases h : p x = true
    · rw [List.filter_cons_of_pos h, List.map_cons, List.sum_cons, List.map_cons, List.sum_cons, sum_filter (l := l), if_pos h]
    · rw [List.filter_cons_of_neg h, List.map_cons, List.sum_cons, sum_filter (l := l), if_neg h]; simp
theorem sum_mul {α : Type} {f : α → Int} {c : Int} : ∀ {l : List α}, (l.map fun x => f x * c).sum = (l.map f).sum * c
  | [] => by simp
  | x :: l => by rw [List.map_cons, List.sum_cons, sum_mul (l := l), List.map_cons, List.sum_cons, Int.add_mul]
theorem sum_eq {α : Type} {f g : α → Int} {l : List α} (h : ∀ x ∈ l, f x = g x) : (l.map f).sum = (l.map g).sum := by rw [List.map_congr_left h]
theorem sum_nn {α : Type} {f : α → Int} {l : List α} (h : ∀ x ∈ l, 0 ≤ f x) : 0 ≤ (l.map f).sum := by
  have := sum_le (f := fun _ => (0 : Int)) (g := f) (l := l) h
  rw [sum_zero] at this; exact this
theorem sum_hi {α : Type} {f : α → Int} {l : List α} {c : Int} (h : ∀ x ∈ l, f x ≤ c) : (l.map f).sum ≤ (l.length : Int) * c := by
  have := sum_le (f := f) (g := fun _ => c) (l := l) h
  rw [sum_const] at this; exact this
end My

namespace My
open PySem L2 PM
theorem p20 : oPow (.int 10) (.int 20) = some (.int 100000000000000000000) := oPow_i ⟨by decide, by decide, by decide⟩
theorem p18 : oPow (.int 10) (.int 18) = some (.int 1000000000000000000) := oPow_i ⟨by decide, by decide, by decide⟩
theorem p30 : oPow (.int 10) (.int 30) = some (.int 1000000000000000000000000000000) := oPow_i ⟨by decide, by decide, by decide⟩
theorem p40 : oPow (.int 10) (.int 40) = some (.int 10000000000000000000000000000000000000000) := oPow_i ⟨by decide, by decide, by decide⟩
theorem cell_at_eq (ns : List Int) (k : Nat) : m_law_cell_at [.scr ns, .int k] = .ok (.int (ns.getD k 0)) := by
  by_cases h : k < ns.length
  · have e : oIxL (.scr ns) (.int (k : Int)) = some (.int (ns.getD k 0)) := by
      show (atI ns (k : Int)).map D.int = _
      rw [atI_nat (d := ns.getD k 0) (by simp [h, List.getD_eq_getElem?_getD])]; rfl
    simp [m_law_cell_at, runF, startE, b_law_cell_at, mSeq, mIfS, mTest, mRet, mRd, mC, mCB, mCons, mNil, fLen, h, e]
  · have e : ns.getD k 0 = 0 := by simp [List.getD_eq_getElem?_getD, List.getElem?_eq_none_iff.mpr (Nat.le_of_not_lt h)]
    rw [e]
    simp [m_law_cell_at, runF, startE, b_law_cell_at, mSeq, mIfS, mTest, mRet, mRd, mC, mCB, mCons, mNil, fLen, h, mNext]
theorem cell_at_i (ns : List Int) {k : Int} (h : 0 ≤ k) : m_law_cell_at [.scr ns, .int k] = .ok (.int (ns.getD k.toNat 0)) := by
  have := cell_at_eq ns k.toNat
  rwa [show ((k.toNat : Nat) : Int) = k by omega] at this
theorem mSeq_rt {m n : En → O} {δ : En} {d : D} (h : m δ = .rt d) : mSeq m n δ = .rt d := by unfold mSeq; rw [h]
theorem shl_eq {t : Int} (h0 : 0 ≤ t) (h1 : t ≤ 1000) : oShl (.int 1) (.int t) = some (.int (1 * 2 ^ t.toNat)) := ifC_pos (p := CPow 1 t) ⟨h0, by omega, by decide⟩
theorem mAppend_lst {i : Nat} {me : En → R D} {δ : En} {l : List D} {d : D} (h : δ[i]? = some (.o (.lst l))) (hy : me δ = .ok d) (hl : l.length ≤ 100000) : mAppend i me δ = .nx (δ.set i (.o (.lst (l ++ [d])))) := by
  unfold mAppend
  rw [h]
  simp only [hy, R.toO_ok]
  rw [ifC_pos (Nat.lt_of_le_of_lt hl (by decide))]
theorem mod_lo (a : Int) {b : Int} (h : 0 < b) : 0 ≤ a % b := Int.emod_nonneg _ (by omega)
theorem mod_hi (a : Int) {b : Int} (h : 0 < b) : a % b < b := Int.emod_lt_of_pos _ h
end My

namespace My
open PySem L2 PM
/-! ### numbers drawn by a place of the script -/
theorem number_eq (ns : List Int) {k top : Int} (h0 : 0 ≤ k) (h1 : k ≤ 1000) (t0 : 0 ≤ top) : ∃ x : Int, (0 ≤ x ∧ x ≤ top) ∧ m_law_number [.scr ns, .int k, .int top] = .ok (.int x) := by
  obtain ⟨c, ec⟩ : ∃ c, c = ns.getD k.toNat 0 % 100000000000000000000 := ⟨_, rfl⟩
  have c0 : 0 ≤ c := by rw [ec]; exact mod_lo _ (by decide)
  have c1 : c < 100000000000000000000 := by rw [ec]; exact mod_hi _ (by decide)
  have k2 : k * k ≤ 1000 * 1000 := Int.mul_le_mul h1 h1 h0 (by decide)
  have k3 : 0 ≤ k * k := Int.mul_nonneg h0 h0
  have k4 : (k + 1) * (k + 7) ≤ 1001 * 1007 := Int.mul_le_mul (by omega) (by omega) (by omega) (by decide)
  have k5 : 0 ≤ (k + 1) * (k + 7) := Int.mul_nonneg (by omega) (by omega)
  have f1 : Fit c := fitN (10 ^ 20) (by omega)
  have f2 : Fit 48271 := fitN 100000 (by decide)
  have f3 : Fit (k + 1) := fitN 2000 (by omega)
  have f4 : Fit (k + 7) := fitN 2000 (by omega)
  have f5 : Fit ((k + 1) * (k + 7)) := fitN (10 ^ 20) (by omega)
  have f6 : Fit 69621 := fitN 100000 (by decide)
  have f7 : Fit 16807 := fitN 100000 (by decide)
  have f8 : Fit k := fitN 2000 (by omega)
  have f9 : Fit (k * k) := fitN (10 ^ 20) (by omega)
  have f10 : Fit 40692 := fitN 100000 (by decide)
  obtain ⟨a, ea⟩ : ∃ a, a = (c * 48271 + (k + 1) * (k + 7) * 69621) % 2147483647 := ⟨_, rfl⟩
  obtain ⟨b, eb⟩ : ∃ b, b = (c * 16807 + k * k * 40692 + 7) % 2147483629 := ⟨_, rfl⟩
  have a0 : 0 ≤ a := by rw [ea]; exact mod_lo _ (by decide)
  have a1 : a < 2147483647 := by rw [ea]; exact mod_hi _ (by decide)
  have f11 : Fit a := fitN (10 ^ 10) (by omega)
  have f12 : Fit 2147483629 := fitN (10 ^ 10) (by decide)
  have tp : (0 : Int) < top + 1 := by omega
  refine ⟨(a * 2147483629 + b) % (top + 1), ⟨mod_lo _ tp, by have := mod_hi (a * 2147483629 + b) tp; omega⟩, runF_ok ?_⟩
  show mSeq _ _ [.v (.scr ns), .v (.int k), .v (.int top), .no, .no, .no] = _
  have q1 : mAsg (m2 oMod (mCallN m_law_cell_at (mCons (mVar 0) (mCons (mVar 1) mNil))) (m2 oPow (mC (.int 10)) (mC (.int 20)))) (bName 3) [.v (.scr ns), .v (.int k), .v (.int top), .no, .no, .no] = .nx [.v (.scr ns), .v (.int k), .v (.int top), .v (.int c), .no, .no] := by
    refine mAsg_ok (d := .int c) ?_ rfl
    simp only [m2_eq, mCallN, mCons, mNil, mVar, mC, List.getElem?_cons_succ, List.getElem?_cons_zero, R.bind_ok, cell_at_i ns h0, R.nev_ok, p20, R.of_some, oMod_i (show (0 : Int) < 100000000000000000000 by decide), ec]
  have q2 : mAsg (m2 oMod (m2 oAdd (m2 oMul (mRd 3) (mC (.int 48271))) (m2 oMul (m2 oMul (m2 oAdd (mRd 1) (mC (.int 1))) (m2 oAdd (mRd 1) (mC (.int 7)))) (mC (.int 69621)))) (mC (.int 2147483647))) (bName 4) [.v (.scr ns), .v (.int k), .v (.int top), .v (.int c), .no, .no] = .nx [.v (.scr ns), .v (.int k), .v (.int top), .v (.int c), .v (.int a), .no] := by
    refine mAsg_ok (d := .int a) ?_ rfl
    simp [mRd, mC, oMul_i f1 f2, oMul_i f3 f4, oMul_i f5 f6, oMod_i, ea]
  have q3 : mAsg (m2 oMod (m2 oAdd (m2 oAdd (m2 oMul (mRd 3) (mC (.int 16807))) (m2 oMul (m2 oMul (mRd 1) (mRd 1)) (mC (.int 40692)))) (mC (.int 7))) (mC (.int 2147483629))) (bName 5) [.v (.scr ns), .v (.int k), .v (.int top), .v (.int c), .v (.int a), .no] = .nx [.v (.scr ns), .v (.int k), .v (.int top), .v (.int c), .v (.int a), .v (.int b)] := by
    refine mAsg_ok (d := .int b) ?_ rfl
    simp [mRd, mC, oMul_i f1 f7, oMul_i f8 f8, oMul_i f9 f10, oMod_i, eb]
  refine (mSeq_nx q1).trans ((mSeq_nx q2).trans ((mSeq_nx q3).trans ?_))
  simp [mRet, mRd, mC, oMul_i f11 f12, oMod_i tp]
end My

namespace My
open PySem L2 PM
theorem choice_eq (ns : List Int) {k m : Int} (h0 : 0 ≤ k) (h1 : k ≤ 1000) (m0 : 0 < m) : ∃ x : Int, (0 ≤ x ∧ x < m) ∧ m_law_choice [.scr ns, .int k, .int m] = .ok (.int x) := by
  obtain ⟨c, ec⟩ : ∃ c, c = ns.getD k.toNat 0 % 1000000000000000000000000000000 := ⟨_, rfl⟩
  have c0 : 0 ≤ c := by rw [ec]; exact mod_lo _ (by decide)
  have c1 : c < 1000000000000000000000000000000 := by rw [ec]; exact mod_hi _ (by decide)
  have k4 : (k + 3) * (k + 5) ≤ 1003 * 1005 := Int.mul_le_mul (by omega) (by omega) (by omega) (by decide)
  have k5 : 0 ≤ (k + 3) * (k + 5) := Int.mul_nonneg (by omega) (by omega)
  have f1 : Fit c := fitN (10 ^ 30) (by omega)
  have f2 : Fit 40692 := fitN 100000 (by decide)
  have f3 : Fit (k + 3) := fitN 2000 (by omega)
  have f4 : Fit (k + 5) := fitN 2000 (by omega)
  have f5 : Fit ((k + 3) * (k + 5)) := fitN (10 ^ 20) (by omega)
  have f6 : Fit 39373 := fitN 100000 (by decide)
  refine ⟨(c * 40692 + (k + 3) * (k + 5) * 39373) % 2147483563 % m, ⟨mod_lo _ m0, mod_hi _ m0⟩, runF_ok ?_⟩
  show mSeq _ _ [.v (.scr ns), .v (.int k), .v (.int m), .no] = _
  have q1 : mAsg (m2 oMod (mCallN m_law_cell_at (mCons (mVar 0) (mCons (mVar 1) mNil))) (m2 oPow (mC (.int 10)) (mC (.int 30)))) (bName 3) [.v (.scr ns), .v (.int k), .v (.int m), .no] = .nx [.v (.scr ns), .v (.int k), .v (.int m), .v (.int c)] := by
    refine mAsg_ok (d := .int c) ?_ rfl
    simp only [m2_eq, mCallN, mCons, mNil, mVar, mC, List.getElem?_cons_succ, List.getElem?_cons_zero, R.bind_ok, cell_at_i ns h0, R.nev_ok, p30, R.of_some, oMod_i (show (0 : Int) < 1000000000000000000000000000000 by decide), ec]
  refine (mSeq_nx q1).trans ?_
  simp [mRet, mRd, mC, oMul_i f1 f2, oMul_i f3 f4, oMul_i f5 f6, oMod_i, oMod_i m0]
theorem works_eq (ns : List Int) (h : ns.length ≤ 63) : ∃ ws : List Int, m_law_works [.scr ns] = .ok (iL ws) ∧ ws.length ≤ 40 ∧ ∀ w ∈ ws, 0 < w ∧ w ≤ 1000000000000000000 := by
  obtain ⟨cs, hcut, hcl⟩ := cut_some ns (some 2) (some 42)
  have hc : cs.length ≤ 40 := by
    have : (cutD (ns.map .int) (some 2) (some 42)).length = cs.length := by rw [hcut, List.length_map]
    rw [← this]
    unfold cutD
    rw [List.length_take, List.length_map]
    unfold HT.sIx
    simp
    omega
  obtain ⟨top, ht, it⟩ : ∃ top : Int, (0 ≤ top ∧ top ≤ 999999999999999999) ∧ oIxL (.lst [.int 2, .int 60, .int 999999999999999999]) (.int (ns.getD 1 0 % 3)) = some (.int top) := by
    have h0 := mod_lo (ns.getD 1 0) (show (0 : Int) < 3 by decide)
    have h1 := mod_hi (ns.getD 1 0) (show (0 : Int) < 3 by decide)
    rcases (show ns.getD 1 0 % 3 = 0 ∨ ns.getD 1 0 % 3 = 1 ∨ ns.getD 1 0 % 3 = 2 by omega) with e | e | e <;> rw [e]
    · exact ⟨2, by decide, rfl⟩
    · exact ⟨60, by decide, rfl⟩
    · exact ⟨999999999999999999, by decide, rfl⟩
  obtain ⟨F, hF⟩ := Classical.axiomOfChoice (r := fun (k : Int) (x : Int) => 0 ≤ k ∧ k ≤ 100 → (0 ≤ x ∧ x ≤ top) ∧ m_law_number [.scr ns, .int (2 + k), .int top] = .ok (.int x)) (fun k => by
    by_cases hk : 0 ≤ k ∧ k ≤ 100
    · obtain ⟨x, a, b⟩ := number_eq ns (k := 2 + k) (top := top) (by omega) (by omega) ht.1
      exact ⟨x, fun _ => ⟨a, b⟩⟩
    · exact ⟨0, fun z => absurd z hk⟩)
  have sl : ∀ l : En, mSl (mRd 0) (mPart (mC (.int 2))) (mPart (mC (.int 42))) (.v (.scr ns) :: l) = .ok (iL cs) := fun l => by
    simp only [mSl, mRd, mPart, mC, List.getElem?_cons_zero, R.bind_ok, asI_i, R.of_some, asL, hcut]
    rfl
  have k1 : k1_law_works [.v (.scr ns), .v (.int top)] = .ok (iL ((upt cs.length).map fun k => 1 + F k)) := by
    refine Eq.trans (mComp_ok (l := (upt cs.length).map .int) (r := (upt cs.length).map fun k => .int (1 + F k)) (by simp [mRng, mCons, mNil, mCB, sl, rngT (show cs.length ≤ 1000 by omega)]) (by rw [List.length_map, upt_len]; omega) ?_) (by simp [iL])
    refine gather_all .int (fun k => .int (1 + F k)) _ fun k hk => ?_
    obtain ⟨a, b⟩ := mem_upt.mp hk
    have := (hF k ⟨a, by omega⟩).2
    simp [stepC, startD, lendS, bNameC, mCallN, mCons, mNil, mVar, mRd, mC, this]
  refine ⟨(upt cs.length).map fun k => 1 + F k, runO_ok ?_, by simp [upt_len]; exact hc, fun w hw => ?_⟩
  · show mSeq _ _ [.v (.scr ns), .no] = _
    have c1 : m_law_cell_at [.scr ns, .int 1] = .ok (.int (ns.getD 1 0)) := cell_at_eq ns 1
    have q1 : mAsg (m2 oIxL (mLst (mCons (mC (.int 2)) (mCons (mC (.int 60)) (mCons (m2 oSub (m2 oPow (mC (.int 10)) (mC (.int 18))) (mC (.int 1))) mNil)))) (m2 oMod (mCallN m_law_cell_at (mCons (mVar 0) (mCons (mC (.int 1)) mNil))) (mC (.int 3)))) (bName 1) [.v (.scr ns), .no] = .nx [.v (.scr ns), .v (.int top)] := by
      refine mAsg_ok (d := .int top) ?_ rfl
      have it' := it
      simp only [List.getD_eq_getElem?_getD] at it' c1
      simp [mLst, mCons, mNil, mCallN, mVar, mC, p18, c1, oMod_i, sizeLine, it']
    refine (mSeq_nx q1).trans ?_
    simp [mRetO, k1]
  · obtain ⟨k, hk, rfl⟩ := List.mem_map.mp hw
    obtain ⟨a, b⟩ := mem_upt.mp hk
    have := (hF k ⟨a, by omega⟩).1
    omega
theorem many_eq (ns : List Int) : ∃ m : Nat, (0 < m ∧ m ≤ 20) ∧ m_law_many [.scr ns] = .ok (.int m) := by
  have c0 : m_law_cell_at [.scr ns, .int 0] = .ok (.int (ns.getD 0 0)) := cell_at_eq ns 0
  generalize ns.getD 0 0 = c at c0
  have f4 : Fit 4 := fitN 100 (by decide)
  have a1 := mod_lo (c / 4) (show (0 : Int) < 20 by decide)
  have a2 := mod_hi (c / 4) (show (0 : Int) < 20 by decide)
  have a3 := mod_lo (c / 4) (show (0 : Int) < 5 by decide)
  have a4 := mod_hi (c / 4) (show (0 : Int) < 5 by decide)
  by_cases h : c % 4 = 0
  · refine ⟨(1 + c / 4 % 20).toNat, by omega, ?_⟩
    rw [show ((1 + c / 4 % 20).toNat : Int) = 1 + c / 4 % 20 by omega]
    simp [m_law_many, runF, startE, b_law_many, mSeq, mIfS, mTest, mRet, mCallN, mCons, mNil, mVar, mC, c0, oMod_i, oDiv_p, f4, h]
  · refine ⟨(1 + c / 4 % 5).toNat, by omega, ?_⟩
    rw [show ((1 + c / 4 % 5).toNat : Int) = 1 + c / 4 % 5 by omega]
    simp [m_law_many, runF, startE, b_law_many, mSeq, mIfS, mTest, mRet, mCallN, mCons, mNil, mVar, mC, mNext, c0, oMod_i, oDiv_p, f4, h]
end My

namespace My
open PySem L2 PM
/-! ### works put to benches -/
def mnL : List Int → Int
  | [] => 0
  | a :: l => minI l a
theorem mnL_ok {S : List Int} (h : S ≠ []) : mnL S ∈ S ∧ ∀ x ∈ S, mnL S ≤ x := by
  cases S with
  | nil => exact absurd rfl h
  | cons a l =>
    obtain ⟨h1, h2, h3⟩ := L2.minI_le l a
    refine ⟨?_, fun b hb => ?_⟩
    · rcases h3 with z | z
      · show minI l a ∈ _; rw [z]; simp
      · exact List.mem_cons_of_mem _ z
    · rcases List.mem_cons.mp hb with z | z
      · rw [z]; exact h1
      · exact h2 b z
/-- the freest bench -/
def fr (S : List Int) : Nat := S.idxOf (mnL S)
theorem fr_lt {S : List Int} (h : S ≠ []) : fr S < S.length := List.idxOf_lt_length_of_mem (mnL_ok h).1
theorem fr_at {S : List Int} (h : S ≠ []) : S[fr S]? = some (mnL S) := by
  have := List.getElem_idxOf (fr_lt h)
  rw [List.getElem?_eq_getElem (fr_lt h)]
  exact congrArg some this
theorem min_iL {S : List Int} (h : S ≠ []) : fBest minI [iL S] = some (.int (mnL S)) := by
  cases S with
  | nil => exact absurd rfl h
  | cons a l => simp [fBest, iL, asIs_map, mnL]
theorem index_iL {S : List Int} (h : S ≠ []) (hl : S.length ≤ 1000) : oIndex (iL S) (.int (mnL S)) = some (.int (fr S : Nat)) := by
  have := fr_lt h
  unfold oIndex iL
  simp only [asIs_map, Option.bind]
  rw [if_pos ⟨by omega, this⟩]; rfl
theorem freest_eq {S : List Int} (h : S ≠ []) (hl : S.length ≤ 1000) : m_freest [iL S] = .ok (.int (fr S : Nat)) := by
  refine runF_ok ?_
  show mRet _ [.v (iL S)] = _
  have i := index_iL h hl
  simp only [mRet, mIndex, mRd, mCB, mCons, mNil, List.getElem?_cons_zero, R.bind_ok, min_iL h, R.of_some]
  show (R.of (oIndex (iL S) (.int (mnL S)))).toO _ _ = _
  rw [i]; rfl
theorem mSetL_iL {i : Nat} {mi me : En → R D} {δ : En} {L : List Int} {k y : Int} (h : δ[i]? = some (.o (iL L))) (hk : mi δ = .ok (.int k)) (h0 : 0 ≤ k) (h1 : k.toNat < L.length) (hy : me δ = .ok (.int y)) : mSetL i mi me δ = .nx (δ.set i (.o (iL (L.set k.toNat y)))) := by
  have e1 : ixN (L.map D.int).length k = some k.toNat := by unfold ixN; rw [if_pos h0, if_pos (by rw [List.length_map]; omega)]
  unfold mSetL
  rw [h]
  simp only [iL, hk, R.toO_ok, e1, hy]
  rw [← List.map_set]
theorem zeros_eq {l : List Int} {δ : En} {mi : En → R (List D)} (hi : mi δ = .ok (l.map .int)) (hl : l.length ≤ 1000) : mComp mi [] 1 (bNameC 0) none (mC (.int 0)) δ = .ok (iL (List.replicate l.length 0)) := by
  refine Eq.trans (mComp_ok (l := l.map .int) (r := l.map fun _ => .int 0) hi (by rw [List.length_map]; omega) ?_) (by simp [iL, List.map_const'])
  exact gather_all .int (fun _ => .int 0) _ fun k hk => by simp [stepC, startD, bNameC, mC]
theorem lstR_n {n : Nat} (h : n ≤ 1000) : lstR [.int (n : Int)] = some (iL (upt n)) := by
  have : lstR [.int (n : Int)] = ifC (0 ≤ (n : Int) ∧ (n : Int) ≤ 100000) (some (.lst ((List.range (n : Int).toNat).map fun k : Nat => .int (k : Int)))) none := rfl
  rw [this, ifC_pos ⟨by omega, by omega⟩, Int.toNat_natCast]
  simp [iL, upt, Function.comp_def]
/-! the sums of a putting -/
def sumB (z : List (Int × Int)) (b : Int) : Int := ((z.filter fun x => decide (x.2 = b)).map (·.1)).sum
theorem sumB_app (z : List (Int × Int)) (x : Int × Int) (b : Int) : sumB (z ++ [x]) b = sumB z b + (if x.2 = b then x.1 else 0) := by
  unfold sumB
  rw [List.filter_append, List.map_append, List.sum_append]
  by_cases h : x.2 = b
  · rw [List.filter_cons_of_pos (by simpa using h), if_pos h]; simp
  · rw [List.filter_cons_of_neg (by simpa using h), if_neg h]; simp
def mxL : List Int → Int
  | [] => 0
  | a :: l => maxI l a
theorem mxL_ok {S : List Int} (h : S ≠ []) : mxL S ∈ S ∧ ∀ x ∈ S, x ≤ mxL S := by
  cases S with
  | nil => exact absurd rfl h
  | cons a l =>
    obtain ⟨h1, h2, h3⟩ := L2.maxI_ge l a
    refine ⟨?_, fun b hb => ?_⟩
    · rcases h3 with z | z
      · show maxI l a ∈ _; rw [z]; simp
      · exact List.mem_cons_of_mem _ z
    · rcases List.mem_cons.mp hb with z | z
      · rw [z]; exact h1
      · exact h2 b z
theorem max_iL {S : List Int} (h : S ≠ []) : fBest maxI [iL S] = some (.int (mxL S)) := by
  cases S with
  | nil => exact absurd rfl h
  | cons a l => simp [fBest, iL, asIs_map, mxL]
/-- the greatest sum on a bench -/
def hvy (m : Nat) (ws put : List Int) : Int := mxL ((upt m).map (sumB (ws.zip put)))
theorem upt_ne {m : Nat} (h : 0 < m) {f : Int → Int} : (upt m).map f ≠ [] := fun e => by
  have := congrArg List.length e
  rw [List.length_map, upt_len] at this; simp at this; omega
theorem zip_enc {l r : List Int} : zipD (l.map .int) (r.map .int) = (l.zip r).map fun x => D.tup [.int x.1, .int x.2] := by
  unfold zipD
  rw [List.zipWith_map, List.zip, List.map_zipWith]
theorem upt_get {m k : Nat} (h : k < m) : (upt m)[k]? = some (k : Int) := by
  unfold upt; rw [List.getElem?_map, List.getElem?_range h]; rfl
theorem law_heaviest_eq {m : Nat} {ws put : List Int} (hm : 0 < m) (hm1 : m ≤ 100) (hl : ws.length ≤ 100) : m_law_heaviest [iL ws, .int m, iL put] = .ok (.int (hvy m ws put)) := by
  have k2 : k2_law_heaviest [.v (iL ws), .v (.int m), .v (iL put)] = .ok (iL ((upt m).map (sumB (ws.zip put)))) := by
    refine Eq.trans (mComp_ok (l := (upt m).map .int) (r := (upt m).map fun b => .int (sumB (ws.zip put) b)) (by simp [mRng, mCons, mNil, mVar, rngT (show m ≤ 1000 by omega)]) (by rw [List.length_map, upt_len]; omega) ?_) (by simp [iL])
    refine gather_all .int (fun b => .int (sumB (ws.zip put) b)) _ fun b _ => ?_
    have k1 : k1_law_heaviest [.v (iL ws), .v (iL put), .v (.int b)] = .ok (iL (((ws.zip put).filter fun x => decide (x.2 = b)).map (·.1))) := by
      refine Eq.trans (mComp_ok (l := (ws.zip put).map fun x => D.tup [.int x.1, .int x.2]) (r := ((ws.zip put).filter fun x => decide (x.2 = b)).map fun x => .int x.1) ?_ (by simp; omega) ?_) (by simp [iL])
      · simp only [mZip, mCons, mNil, mRd, List.getElem?_cons_succ, List.getElem?_cons_zero, R.bind_ok]
        show R.of (some (zipD (ws.map D.int) (put.map D.int))) = _
        rw [zip_enc]; rfl
      · refine gather_fm (fun x : Int × Int => D.tup [.int x.1, .int x.2]) _ _ _ fun x _ => ?_
        by_cases c : x.2 = b <;> simp [stepC, startD, lendS, bTup, bCons, bNil, bNameC, mTest, mRd, mVar, c]
    have e : startD [.v (iL ws), .v (.int m), .v (iL put)] [0, 2] 1 = [.v (iL ws), .v (iL put), .no] := rfl
    rw [e]
    simp [stepC, bNameC, mCB, mCons, mNil, k1, fSum_iL, sumB]
  refine runF_ok ?_
  show mRet _ [.v (iL ws), .v (.int m), .v (iL put)] = _
  simp [mRet, mCB, mCons, mNil, k2, max_iL (upt_ne hm), hvy]
end My

namespace My
open PySem L2 PM
/-! ### works put to benches in any order -/
def stP (ws : List Int) (s : List Int × List Int) (x : Int) : List Int × List Int := (s.1.set (fr s.1) (mnL s.1 + gA ws x), s.2.set x.toNat (fr s.1 : Int))
def runP (m : Nat) (ws od : List Int) : List Int × List Int := od.foldl (stP ws) (List.replicate m 0, List.replicate ws.length 0)
theorem runP_app (m : Nat) (ws od : List Int) (x : Int) : runP m ws (od ++ [x]) = stP ws (runP m ws od) x := by simp [runP]
theorem runP_len (m : Nat) (ws od : List Int) : (runP m ws od).1.length = m ∧ (runP m ws od).2.length = ws.length := by
  have key : ∀ (od : List Int) (s : List Int × List Int), (od.foldl (stP ws) s).1.length = s.1.length ∧ (od.foldl (stP ws) s).2.length = s.2.length := by
    intro od
    induction od with
    | nil => intro s; simp
    | cons x od ih =>
      intro s
      obtain ⟨a, b⟩ := ih (stP ws s x)
      simp only [List.foldl_cons]
      exact ⟨by rw [a]; simp [stP], by rw [b]; simp [stP]⟩
  have := key od (List.replicate m 0, List.replicate ws.length 0)
  simpa [runP] using this
theorem runP_ne {m : Nat} (hm : 0 < m) (ws od : List Int) : (runP m ws od).1 ≠ [] := fun e => by
  have := (runP_len m ws od).1
  rw [e] at this
  simp at this; omega
theorem put_by_gen {m : Nat} {ws od : List Int} (hm : 0 < m) (hm1 : m ≤ 100) (hl : ws.length ≤ 100) (ho : ∀ x ∈ od, 0 ≤ x ∧ x < ws.length) : m_put_by [iL ws, .int m, iL od] = .ok (iL (runP m ws od).2) := by
  obtain ⟨O, eO⟩ : ∃ O, O = iL od := ⟨_, rfl⟩
  obtain ⟨δ, h1, o5, o6, rfl⟩ := loop_inv (b := bName 5) (m := lb1_put_by) D.int (fun pre δ => ∃ o5 o6, δ = [.v (iL ws), .v (.int m), .v O, .o (iL (runP m ws pre).1), .o (iL (runP m ws pre).2), sv o5, sv o6]) od
    (by
      rintro pre x post δ hall ⟨o5, o6, rfl⟩
      obtain ⟨x0, x1⟩ := ho x (by rw [hall]; simp)
      obtain ⟨S, P, e⟩ : ∃ S P, runP m ws pre = (S, P) := ⟨_, _, rfl⟩
      obtain ⟨l1, l2⟩ := runP_len m ws pre
      have ne := runP_ne hm ws pre
      rw [e] at l1 l2 ne
      dsimp only at l1 l2 ne
      have nx : runP m ws (pre ++ [x]) = (S.set (fr S) (mnL S + gA ws x), P.set x.toNat (fr S : Int)) := by rw [runP_app, e]; rfl
      rw [e]
      dsimp only
      have ix := oIxL_iL (L := ws) (k := x) (by omega) (by omega)
      have q1 : mAsg (mCallB m_freest (mCons (mRd 3) mNil)) (bName 6) [.v (iL ws), .v (.int m), .v O, .o (iL S), .o (iL P), .v (.int x), sv o6] = .nx [.v (iL ws), .v (.int m), .v O, .o (iL S), .o (iL P), .v (.int x), .v (.int (fr S : Nat))] := by
        refine mAsg_ok (d := .int (fr S : Nat)) ?_ (bName_sv rfl)
        simp [mCallB, mCons, mNil, mRd, freest_eq ne (by omega), clean]
      have q2 := mAugL_iL (f := fun i j => i + j) (i := 3) (mi := mVar 6) (me := m2 oIxL (mRd 0) (mRd 5)) (δ := [.v (iL ws), .v (.int m), .v O, .o (iL S), .o (iL P), .v (.int x), .v (.int (fr S : Nat))]) (k := (fr S : Nat)) (y := gA ws x) rfl rfl (by omega) (by rw [Int.toNat_natCast]; exact fr_lt ne) (by simp [mRd, ix])
      have ga : gA S (fr S : Nat) = mnL S := by
        have := fr_at ne
        simp [gA, List.getD_eq_getElem?_getD, this]
      rw [ga, Int.toNat_natCast] at q2
      have q3 := mSetL_iL (i := 4) (mi := mVar 5) (me := mVar 6) (δ := [.v (iL ws), .v (.int m), .v O, .o (iL (S.set (fr S) (mnL S + gA ws x))), .o (iL P), .v (.int x), .v (.int (fr S : Nat))]) (k := x) (y := (fr S : Nat)) rfl rfl (by omega) (by omega) rfl
      refine ⟨[.v (iL ws), .v (.int m), .v O, .o (iL S), .o (iL P), .v (.int x), sv o6], _, bName_sv rfl, .inl ((mSeq_nx q1).trans ((mSeq_nx q2).trans q3)), some (.int x), some (.int (fr S : Nat)), ?_⟩
      rw [nx]; rfl)
    [.v (iL ws), .v (.int m), .v O, .o (iL (List.replicate m 0)), .o (iL (List.replicate ws.length 0)), .no, .no] ⟨none, none, by simp [runP]⟩
  rw [← eO]
  refine runO_ok ?_
  show mSeq _ _ [.v (iL ws), .v (.int m), .v O, .no, .no, .no, .no] = _
  have k1 : k1_put_by [.v (iL ws), .v (.int m), .v O, .no, .no, .no, .no] = .ok (iL (List.replicate m 0)) := by
    have := zeros_eq (l := upt m) (δ := [.v (iL ws), .v (.int m), .v O, .no, .no, .no, .no]) (mi := mRng (mCons (mVar 1) mNil)) (by simp [mRng, mCons, mNil, mVar, rngT (show m ≤ 1000 by omega)]) (by rw [upt_len]; omega)
    rw [upt_len] at this; exact this
  have k2 : k2_put_by [.v (iL ws), .v (.int m), .v O, .o (iL (List.replicate m 0)), .no, .no, .no] = .ok (iL (List.replicate ws.length 0)) := zeros_eq (l := ws) (by simp [mItL, mRd]) (by omega)
  have q1 : mAsg k1_put_by (bNew 3) [.v (iL ws), .v (.int m), .v O, .no, .no, .no, .no] = .nx [.v (iL ws), .v (.int m), .v O, .o (iL (List.replicate m 0)), .no, .no, .no] := mAsg_ok k1 rfl
  have q2 : mAsg k2_put_by (bNew 4) [.v (iL ws), .v (.int m), .v O, .o (iL (List.replicate m 0)), .no, .no, .no] = .nx [.v (iL ws), .v (.int m), .v O, .o (iL (List.replicate m 0)), .o (iL (List.replicate ws.length 0)), .no, .no] := mAsg_ok k2 rfl
  have q3 : l1_put_by [.v (iL ws), .v (.int m), .v O, .o (iL (List.replicate m 0)), .o (iL (List.replicate ws.length 0)), .no, .no] = _ := (mFor_ok (l := od.map .int) (by simp [mItL, mVar, eO])).trans h1
  exact (mSeq_nx q1).trans ((mSeq_nx q2).trans ((mSeq_nx q3).trans rfl))
theorem greatest_eq {ws : List Int} (h : ws.length < 64) : m_greatest_order [iL ws] = .ok (iL (ordK ws)) := by
  refine runO_ok ?_
  show mRetO _ [.v (iL ws)] = _
  have e : sortK (iL ws) = some (iL (ordK ws)) := sortK_ok h
  simp [mRetO, mSortK, e]
theorem ord_perm (ws : List Int) : (ordK ws).Perm (upt ws.length) := (sortIx_perm _ _).map _
theorem ord_mem {ws : List Int} : ∀ x ∈ ordK ws, 0 ≤ x ∧ x < ws.length := fun x hx => mem_upt.mp ((ord_perm ws).mem_iff.mp hx)
theorem ord_nodup (ws : List Int) : (ordK ws).Nodup := (ord_perm ws).nodup_iff.mpr (upt_nodup _)
/-- greater ones first, of several alike the first first -/
theorem ord_pw (ws : List Int) : (ordK ws).Pairwise (fun a b => gA ws b < gA ws a ∨ (gA ws a = gA ws b ∧ a < b)) := by
  unfold ordK
  rw [List.pairwise_map]
  refine (sortIx_pw _ _).imp fun {a b} h => ?_
  unfold Lx at h
  dsimp only at h
  have ea : gA ws (a : Int) = ws.getD a 0 := by simp [gA]
  have eb : gA ws (b : Int) = ws.getD b 0 := by simp [gA]
  rw [ea, eb]
  omega
theorem longest_eq {m : Nat} {ws : List Int} (hm : 0 < m) (hm1 : m ≤ 100) (hl : ws.length < 64) : m_put_longest_first [iL ws, .int m] = .ok (iL (runP m ws (ordK ws)).2) := by
  refine runO_ok ?_
  show mRetO _ [.v (iL ws), .v (.int m)] = _
  simp [mRetO, mCallN, mCons, mNil, mVar, greatest_eq hl, put_by_gen hm hm1 (show ws.length ≤ 100 by omega) (ord_mem (ws := ws))]
end My

namespace My
open PySem L2 PM
/-! ### loads -/
theorem sum_set : ∀ (S : List Int) (i : Nat) (v : Int), i < S.length → (S.set i v).sum = S.sum - S.getD i 0 + v
  | [], i, v, h => by simp at h
  | a :: S, 0, v, _ => by simp; omega
  | a :: S, i + 1, v, h => by
    have := sum_set S i v (by simpa using h)
    simp only [List.set_cons_succ, List.sum_cons, List.getD_cons_succ, this]
    omega
theorem cnt_set : ∀ (S : List Int) (i : Nat) (v : Int), S.count 0 ≤ (S.set i v).count 0 + 1
  | [], i, v => by simp
  | a :: S, 0, v => by simp only [List.set_cons_zero, List.count_cons]; split <;> split <;> omega
  | a :: S, i + 1, v => by
    have := cnt_set S i v
    simp only [List.set_cons_succ, List.count_cons]
    omega
theorem len_mul_le {c : Int} : ∀ (S : List Int), (∀ x ∈ S, c ≤ x) → (S.length : Int) * c ≤ S.sum
  | [], _ => by simp
  | a :: S, h => by
    have h1 := len_mul_le S fun x hx => h x (List.mem_cons_of_mem _ hx)
    have h2 := h a List.mem_cons_self
    simp only [List.length_cons, List.sum_cons]
    have : ((S.length + 1 : Nat) : Int) * c = (S.length : Int) * c + c := by rw [Int.natCast_add, Int.add_mul]; simp
    omega
theorem gA_set {L : List Int} {i k v : Int} (hi : 0 ≤ i) (hk : 0 ≤ k) (hl : k.toNat < L.length) : gA (L.set k.toNat v) i = if i = k then v else gA L i := by
  unfold gA
  rw [List.getD_eq_getElem?_getD, List.getElem?_set]
  by_cases e : i = k
  · subst e; simp [hl]
  · rw [if_neg e, if_neg (by omega), List.getD_eq_getElem?_getD]
def lds (ws P pre : List Int) (b : Int) : Int := ((pre.filter fun x => decide (gA P x = b)).map (gA ws)).sum
theorem lds_app (ws P pre : List Int) (x b : Int) : lds ws P (pre ++ [x]) b = lds ws P pre b + (if gA P x = b then gA ws x else 0) := by
  unfold lds
  rw [List.filter_append, List.map_append, List.sum_append]
  by_cases h : gA P x = b
  · rw [List.filter_cons_of_pos (by simpa using h), if_pos h]; simp
  · rw [List.filter_cons_of_neg (by simpa using h), if_neg h]; simp
theorem lds_congr {ws P P' pre : List Int} {b : Int} (h : ∀ x ∈ pre, gA P' x = gA P x) : lds ws P' pre b = lds ws P pre b := by
  unfold lds
  congr 2
  refine List.filter_congr fun x hx => ?_
  rw [h x hx]
theorem lds_perm {ws P l r : List Int} {b : Int} (h : l.Perm r) : lds ws P l b = lds ws P r b := sum_perm (h.filter _)
theorem zip_upt {ws P : List Int} (h : P.length = ws.length) : ws.zip P = (upt ws.length).map fun i => (gA ws i, gA P i) := by
  refine List.ext_getElem? fun k => ?_
  rw [List.getElem?_map]
  by_cases hk : k < ws.length
  · have a := gA_get (L := ws) (i := (k : Int)) (by simpa using hk)
    have b := gA_get (L := P) (i := (k : Int)) (by simpa [h] using hk)
    rw [Int.toNat_natCast] at a b
    rw [upt_get hk]
    exact List.getElem?_zip_eq_some.mpr ⟨a, b⟩
  · rw [List.getElem?_eq_none (by simp; omega), List.getElem?_eq_none (by rw [upt_len]; omega)]; rfl
theorem sumB_lds {ws P : List Int} (h : P.length = ws.length) (b : Int) : sumB (ws.zip P) b = lds ws P (upt ws.length) b := by
  unfold sumB lds
  rw [zip_upt h, List.filter_map, List.map_map]
  rfl
theorem ws_sum (ws : List Int) : ws.sum = ((upt ws.length).map (gA ws)).sum := by
  congr 1
  refine List.ext_getElem? fun k => ?_
  rw [List.getElem?_map]
  by_cases hk : k < ws.length
  · rw [upt_get hk]
    have := gA_get (L := ws) (i := (k : Int)) (by simpa using hk)
    simpa using this
  · rw [List.getElem?_eq_none (by omega), List.getElem?_eq_none (by rw [upt_len]; omega)]; rfl
theorem sum_one {b v : Int} : ∀ {L : List Int}, L.Nodup → b ∈ L → (L.map fun x => if b = x then v else 0).sum = v
  | a :: L, hn, hb => by
    have hn' := List.nodup_cons.mp hn
    rw [List.map_cons, List.sum_cons]
    by_cases e : b = a
    · subst e
      rw [if_pos rfl, sum_eq (g := fun _ => 0) (fun x hx => if_neg fun (z : b = x) => hn'.1 (z ▸ hx)), sum_zero]; omega
    · rw [if_neg e, sum_one hn'.2 ((List.mem_cons.mp hb).resolve_left e)]; omega
/-- the benches' sums of f come to all of f -/
theorem sum_benches {m : Nat} {g f : Int → Int} : ∀ {L : List Int}, (∀ x ∈ L, 0 ≤ g x ∧ g x < m) → ((upt m).map fun b => ((L.filter fun x => decide (g x = b)).map f).sum).sum = (L.map f).sum
  | [], _ => by simpa using sum_zero
  | x :: L, h => by
    have ih := sum_benches (m := m) (g := g) (f := f) (L := L) fun y hy => h y (List.mem_cons_of_mem _ hy)
    have e : ∀ b ∈ upt m, (((x :: L).filter fun x => decide (g x = b)).map f).sum = (if g x = b then f x else 0) + ((L.filter fun x => decide (g x = b)).map f).sum := fun b _ => by
      by_cases c : g x = b
      · rw [List.filter_cons_of_pos (by simpa using c), if_pos c]; simp
      · rw [List.filter_cons_of_neg (by simpa using c), if_neg c]; simp
    rw [sum_eq e, sum_add, ih, sum_one (upt_nodup m) (mem_upt.mpr (h x List.mem_cons_self))]
    simp
/-! ### any putting -/
structure Put (m : Nat) (ws pt : List Int) : Prop where
  len : pt.length = ws.length
  mem : ∀ b ∈ pt, 0 ≤ b ∧ b < m
theorem Put.at {m : Nat} {ws pt : List Int} (h : Put m ws pt) {x : Int} (hx : 0 ≤ x ∧ x < ws.length) : 0 ≤ gA pt x ∧ gA pt x < m := h.mem _ (List.mem_of_getElem? (gA_get (by rw [h.len]; omega)))
theorem hvy_ge {m : Nat} (hm : 0 < m) {ws pt : List Int} (h : Put m ws pt) {b : Int} (hb : 0 ≤ b ∧ b < m) : lds ws pt (upt ws.length) b ≤ hvy m ws pt := by
  rw [← sumB_lds h.len]
  exact (mxL_ok (upt_ne hm)).2 _ (List.mem_map.mpr ⟨b, mem_upt.mpr hb, rfl⟩)
theorem hvy_at {m : Nat} (hm : 0 < m) {ws pt : List Int} (h : Put m ws pt) : ∃ b : Int, (0 ≤ b ∧ b < m) ∧ hvy m ws pt = lds ws pt (upt ws.length) b := by
  obtain ⟨b, hb, e⟩ := List.mem_map.mp (mxL_ok (upt_ne hm (f := sumB (ws.zip pt)))).1
  exact ⟨b, mem_upt.mp hb, by rw [← sumB_lds h.len]; exact e.symm⟩
/-- unlike works on one bench -/
theorem hvy_sub {m : Nat} (hm : 0 < m) {ws pt : List Int} (h : Put m ws pt) (pos : ∀ w ∈ ws, 0 ≤ w) {J : List Int} {b : Int} (nd : J.Nodup) (hJ : ∀ x ∈ J, (0 ≤ x ∧ x < ws.length) ∧ gA pt x = b) (hb : 0 ≤ b ∧ b < m) : (J.map (gA ws)).sum ≤ hvy m ws pt := by
  refine Int.le_trans (sum_sub nd (fun x hx => ?_) fun x hx => ?_) (hvy_ge hm h hb)
  · exact List.mem_filter.mpr ⟨mem_upt.mpr (hJ x hx).1, by simpa using (hJ x hx).2⟩
  · have hx' := mem_upt.mp (List.mem_filter.mp hx).1
    exact pos _ (List.mem_of_getElem? (gA_get (by omega)))
theorem hvy_one {m : Nat} (hm : 0 < m) {ws pt : List Int} (h : Put m ws pt) (pos : ∀ w ∈ ws, 0 ≤ w) {x : Int} (hx : 0 ≤ x ∧ x < ws.length) : gA ws x ≤ hvy m ws pt := by
  have := hvy_sub hm h pos (J := [x]) (b := gA pt x) (by simp) (fun y hy => by rw [List.mem_singleton.mp hy]; exact ⟨hx, rfl⟩) (h.at hx)
  simpa using this
theorem hvy_tot {m : Nat} (hm : 0 < m) {ws pt : List Int} (h : Put m ws pt) : ws.sum ≤ (m : Int) * hvy m ws pt := by
  have e := sum_benches (m := m) (g := gA pt) (f := gA ws) (L := upt ws.length) fun x hx => h.at (mem_upt.mp hx)
  rw [ws_sum, ← e]
  have := sum_hi (l := upt m) (f := fun b => lds ws pt (upt ws.length) b) (c := hvy m ws pt) fun b hb => hvy_ge hm h (mem_upt.mp hb)
  rw [upt_len] at this
  exact this
/-! ### the run -/
structure RnOk (m : Nat) (ws pre S P : List Int) : Prop where
  sl : S.length = m
  pl : P.length = ws.length
  pm : ∀ b ∈ P, 0 ≤ b ∧ b < m
  nn : ∀ s ∈ S, 0 ≤ s
  ld : ∀ b : Int, 0 ≤ b → b < m → gA S b = lds ws P pre b
  sm : S.sum = (pre.map (gA ws)).sum
  zc : m ≤ S.count 0 + pre.length
  lst : ∀ b : Int, 0 ≤ b → b < m → gA S b = 0 ∨ ∃ p1 x p2 mn P1, pre = p1 ++ x :: p2 ∧ gA S b = mn + gA ws x ∧ 0 ≤ mn ∧ (m : Int) * mn ≤ (p1.map (gA ws)).sum ∧ (p1.length < m → mn = 0) ∧ Put m ws P1 ∧ ∀ b : Int, 0 ≤ b → b < m → mn ≤ lds ws P1 p1 b
theorem rn_start {m : Nat} (hm : 0 < m) (ws : List Int) : RnOk m ws [] (List.replicate m 0) (List.replicate ws.length 0) := by
  refine ⟨by simp, by simp, fun b hb => by rw [(List.mem_replicate.mp hb).2]; omega, fun s hs => by rw [(List.mem_replicate.mp hs).2]; omega, fun b h0 h1 => ?_, ?_, by simp, fun b h0 h1 => .inl ?_⟩
  · have : gA (List.replicate m 0) b = 0 := by simp [gA, List.getD_eq_getElem?_getD, List.getElem?_replicate]; split <;> rfl
    rw [this]; rfl
  · simp
  · simp [gA, List.getD_eq_getElem?_getD, List.getElem?_replicate]; split <;> rfl
theorem rn_step {m : Nat} (hm : 0 < m) {ws pre S P : List Int} {x : Int} (I : RnOk m ws pre S P) (hp : ∀ y ∈ pre, 0 ≤ y) (hx : 0 ≤ x ∧ x < ws.length) (nx : x ∉ pre) (w0 : 0 ≤ gA ws x) :
    RnOk m ws (pre ++ [x]) (S.set (fr S) (mnL S + gA ws x)) (P.set x.toNat (fr S : Int)) := by
  have ne : S ≠ [] := fun e => by have := I.sl; rw [e] at this; simp at this; omega
  have fl := fr_lt ne
  have fa := fr_at ne
  obtain ⟨mi, ml⟩ := mnL_ok ne
  have fm : ((fr S : Nat) : Int) < m := by rw [← I.sl]; omega
  have mn0 : 0 ≤ mnL S := I.nn _ mi
  have gf : gA S (fr S : Nat) = mnL S := by simp [gA, List.getD_eq_getElem?_getD, fa]
  have gS : ∀ b : Int, 0 ≤ b → gA (S.set (fr S) (mnL S + gA ws x)) b = if b = (fr S : Nat) then mnL S + gA ws x else gA S b := fun b hb => by
    have := gA_set (L := S) (i := b) (k := (fr S : Nat)) (v := mnL S + gA ws x) hb (by omega) (by simpa using fl)
    rwa [Int.toNat_natCast] at this
  have gP : ∀ y : Int, 0 ≤ y → gA (P.set x.toNat (fr S : Int)) y = if y = x then (fr S : Int) else gA P y := fun y hy => gA_set hy hx.1 (by rw [I.pl]; omega)
  have lo : ∀ b, lds ws (P.set x.toNat (fr S : Int)) pre b = lds ws P pre b := fun b => lds_congr fun y hy => by
    rw [gP y (hp y hy), if_neg fun (z : y = x) => nx (z ▸ hy)]
  have mS := len_mul_le S ml
  rw [I.sl, I.sm] at mS
  refine ⟨by rw [List.length_set]; exact I.sl, by rw [List.length_set]; exact I.pl, fun b hb => ?_, fun s hs => ?_, fun b h0 h1 => ?_, ?_, ?_, fun b h0 h1 => ?_⟩
  · rcases List.mem_or_eq_of_mem_set hb with z | z
    · exact I.pm b z
    · rw [z]; omega
  · rcases List.mem_or_eq_of_mem_set hs with z | z
    · exact I.nn s z
    · rw [z]; omega
  · rw [gS b h0, lds_app, lo, gP x hx.1, if_pos rfl]
    by_cases e : b = (fr S : Nat)
    · rw [if_pos e, if_pos e.symm, ← I.ld b h0 h1, e, gf]
    · rw [if_neg e, if_neg fun z => e z.symm, I.ld b h0 h1]; omega
  · rw [sum_set _ _ _ fl, I.sm, List.map_append, List.sum_append]
    have : S.getD (fr S) 0 = mnL S := by rw [List.getD_eq_getElem?_getD, fa]; rfl
    rw [this]
    simp
    omega
  · have := cnt_set S (fr S) (mnL S + gA ws x)
    have := I.zc
    simp only [List.length_append, List.length_cons, List.length_nil]
    omega
  · rw [gS b h0]
    by_cases e : b = (fr S : Nat)
    · rw [if_pos e]
      refine .inr ⟨pre, x, [], mnL S, P, rfl, rfl, mn0, mS, fun hl => ?_, ⟨I.pl, I.pm⟩, fun c c0 c1 => ?_⟩
      · have z := I.zc
        have : (0 : Int) ∈ S := List.count_pos_iff.mp (by omega)
        have := ml 0 this
        omega
      · rw [← I.ld c c0 c1]
        exact ml _ (List.mem_of_getElem? (gA_get (by rw [I.sl]; omega)))
    · rw [if_neg e]
      rcases I.lst b h0 h1 with z | ⟨p1, y, p2, mn, P1, e1, e2⟩
      · exact .inl z
      · exact .inr ⟨p1, y, p2 ++ [x], mn, P1, by rw [e1]; simp, e2⟩
theorem run_ok {m : Nat} (hm : 0 < m) {ws od : List Int} (pos : ∀ w ∈ ws, 0 ≤ w) (nd : od.Nodup) (ho : ∀ x ∈ od, 0 ≤ x ∧ x < ws.length) : RnOk m ws od (runP m ws od).1 (runP m ws od).2 := by
  have key : ∀ (post pre : List Int), pre ++ post = od → RnOk m ws pre (runP m ws pre).1 (runP m ws pre).2 → RnOk m ws od (runP m ws od).1 (runP m ws od).2 := by
    intro post
    induction post with
    | nil => intro pre e I; rw [List.append_nil] at e; rw [← e]; exact I
    | cons x post ih =>
      intro pre e I
      have hx := ho x (by rw [← e]; simp)
      have nx : x ∉ pre := fun z => by
        rw [← e] at nd
        exact (List.nodup_append.mp nd).2.2 x z x List.mem_cons_self rfl
      refine ih (pre ++ [x]) (by rw [← e]; simp) ?_
      rw [runP_app]
      exact rn_step hm I (fun y hy => (ho y (by rw [← e]; simp [hy])).1) hx nx (pos _ (List.mem_of_getElem? (gA_get (by omega))))
  exact key od [] rfl (by simpa [runP] using rn_start hm ws)
/-- the heaviest bench of a run over all works, by its last work -/
theorem run_hvy {m : Nat} (hm : 0 < m) {ws od : List Int} (pos : ∀ w ∈ ws, 0 ≤ w) (pm : od.Perm (upt ws.length)) : Put m ws (runP m ws od).2 ∧ (hvy m ws (runP m ws od).2 = 0 ∨ ∃ p1 x p2 mn P1, od = p1 ++ x :: p2 ∧ hvy m ws (runP m ws od).2 = mn + gA ws x ∧
    0 ≤ mn ∧ (m : Int) * mn ≤ (p1.map (gA ws)).sum ∧ (p1.length < m → mn = 0) ∧ Put m ws P1 ∧ ∀ b : Int, 0 ≤ b → b < m → mn ≤ lds ws P1 p1 b) := by
  have I := run_ok hm pos (pm.nodup_iff.mpr (upt_nodup _)) fun x hx => mem_upt.mp (pm.mem_iff.mp hx)
  have hp : Put m ws (runP m ws od).2 := ⟨I.pl, I.pm⟩
  refine ⟨hp, ?_⟩
  obtain ⟨b, hb, e⟩ := hvy_at hm hp
  rw [e, ← lds_perm pm, ← I.ld b hb.1 hb.2]
  exact I.lst b hb.1 hb.2
theorem list_bound {m : Nat} (hm : 0 < m) {ws p1 p2 : List Int} {x mn : Int} (pos : ∀ w ∈ ws, 0 ≤ w) (pm : (p1 ++ x :: p2).Perm (upt ws.length)) (h : (m : Int) * mn ≤ (p1.map (gA ws)).sum) : (m : Int) * (mn + gA ws x) ≤ ws.sum + ((m : Int) - 1) * gA ws x := by
  have e : ws.sum = (p1.map (gA ws)).sum + (gA ws x + (p2.map (gA ws)).sum) := by
    rw [ws_sum, ← sum_perm pm, List.map_append, List.sum_append, List.map_cons, List.sum_cons]
  have h2 : 0 ≤ (p2.map (gA ws)).sum := sum_nn fun y hy => by
    have := mem_upt.mp (pm.mem_iff.mp (by simp [hy] : y ∈ p1 ++ x :: p2))
    exact pos _ (List.mem_of_getElem? (gA_get (by omega)))
  rw [Int.mul_add, Int.sub_mul]
  omega
end My

namespace My
open PySem L2 PM
theorem is_putting_eq {m : Nat} {ws pt : List Int} (h : Put m ws pt) : m_law_is_putting [iL pt, iL ws, .int m] = .ok (.bl true) := by
  obtain ⟨W, eW⟩ : ∃ W, W = iL ws := ⟨_, rfl⟩
  obtain ⟨T, eT⟩ : ∃ T, T = iL pt := ⟨_, rfl⟩
  have lW : fLen [W] = some (.int ws.length) := by rw [eW]; simp
  have lT : fLen [T] = some (.int ws.length) := by rw [eT]; simp [h.len]
  have iT : oIsi "list" T = some (.bl true) := by rw [eT]; rfl
  obtain ⟨δ, h1, o3, rfl⟩ := loop_inv (b := bName 3) (m := lb1_law_is_putting) D.int (fun pre δ => ∃ o3, δ = [.v T, .v W, .v (.int m), sv o3]) pt
    (by
      rintro pre x post δ hall ⟨o3, rfl⟩
      have hx := h.mem x (by rw [hall]; simp)
      have i1 : oIsi "int" (.int x) = some (.bl true) := rfl
      have i2 : oIsi "bool" (.int x) = some (.bl false) := rfl
      refine ⟨[.v T, .v W, .v (.int m), .v (.int x)], [.v T, .v W, .v (.int m), .v (.int x)], bName_sv rfl, .inl ?_, some (.int x), rfl⟩
      have n1 : ¬ x < 0 := by omega
      have n2 : ¬ (m : Int) ≤ x := by omega
      unfold lb1_law_is_putting
      rw [mIfS_f (by simp [mOr, mNot, mTest, mRd, mC, i1, i2, n1, n2])]; rfl)
    [.v T, .v W, .v (.int m), .no] ⟨none, rfl⟩
  rw [← eW, ← eT]
  refine runF_ok ?_
  show mSeq _ _ [.v T, .v W, .v (.int m), .no] = _
  have q1 : mIfS (mOr (mNot (mTest (m1 (oIsi "list") (mRd 0)))) (mTest (m2 oNe (mCB fLen (mCons (mRd 0) mNil)) (mCB fLen (mCons (mRd 1) mNil))))) (mRet (mC (.bl false))) mNext [.v T, .v W, .v (.int m), .no] = .nx [.v T, .v W, .v (.int m), .no] := by
    rw [mIfS_f (by simp [mOr, mNot, mTest, mRd, mCB, mCons, mNil, iT, lT, lW])]; rfl
  have q2 : l1_law_is_putting [.v T, .v W, .v (.int m), .no] = _ := (mFor_ok (l := pt.map .int) (by simp [mItL, mVar, eT])).trans h1
  exact (mSeq_nx q1).trans ((mSeq_nx q2).trans rfl)
theorem hvy_nn {m : Nat} (hm : 0 < m) {ws pt : List Int} (h : Put m ws pt) (pos : ∀ w ∈ ws, 0 ≤ w) : 0 ≤ hvy m ws pt := by
  have := hvy_sub hm h pos (J := []) (b := 0) (by simp) (by simp) (by omega)
  simpa using this
theorem hvy_le {m : Nat} (hm : 0 < m) {ws pt : List Int} (h : Put m ws pt) (pos : ∀ w ∈ ws, 0 ≤ w) : hvy m ws pt ≤ ws.sum := by
  obtain ⟨b, _, e⟩ := hvy_at hm h
  rw [e, ws_sum]
  unfold lds
  rw [sum_filter]
  refine sum_le fun x hx => ?_
  have := mem_upt.mp hx
  have := pos (gA ws x) (List.mem_of_getElem? (gA_get (by omega)))
  split <;> omega
end My

namespace My
open PySem L2 PM
/-! ### longest first, held against any putting -/
theorem few_there {m : Nat} (hm : 0 < m) {ws pt J : List Int} (h : Put m ws pt) (pos : ∀ w ∈ ws, 0 ≤ w) (nd : J.Nodup) {w b : Int} (hb : 0 ≤ b ∧ b < m) (hJ : ∀ y ∈ J, (0 ≤ y ∧ y < ws.length) ∧ w ≤ gA ws y) (c : hvy m ws pt < 3 * w) :
    ((J.filter fun y => decide (gA pt y = b)).map fun y => 1 + (if hvy m ws pt - w < gA ws y then (1 : Int) else 0)).sum ≤ 2 := by
  have nF := nd.filter fun y => decide (gA pt y = b)
  have mF : ∀ y ∈ J.filter fun y => decide (gA pt y = b), ((0 ≤ y ∧ y < ws.length) ∧ gA pt y = b) ∧ w ≤ gA ws y := fun y hy => by
    obtain ⟨a, d⟩ := List.mem_filter.mp hy
    exact ⟨⟨(hJ y a).1, by simpa using d⟩, (hJ y a).2⟩
  generalize J.filter (fun y => decide (gA pt y = b)) = F at nF mF
  match F, nF, mF with
  | [], _, _ => simp
  | [y], _, _ => simp; split <;> omega
  | [y, z], nF, mF =>
    have s := hvy_sub hm h pos nF (fun x hx => (mF x hx).1) hb
    have a := (mF y (by simp)).2
    have d := (mF z (by simp)).2
    simp only [List.map_cons, List.map_nil, List.sum_cons, List.sum_nil] at s ⊢
    rw [if_neg (by omega), if_neg (by omega)]
    omega
  | y :: z :: u :: F, nF, mF =>
    have n3 : [y, z, u].Nodup := nF.sublist (by simp)
    have s := hvy_sub hm h pos n3 (fun x hx => (mF x (by simp at hx ⊢; rcases hx with e | e | e <;> simp [e])).1) hb
    have a := (mF y (by simp)).2
    have d := (mF z (by simp)).2
    have e := (mF u (by simp)).2
    simp only [List.map_cons, List.map_nil, List.sum_cons, List.sum_nil] at s
    omega
theorem many_there {ws P p1 : List Int} {mn r w b : Int} (h : mn ≤ lds ws P p1 b) (c : r < mn + w) (r0 : w ≤ r) : 2 ≤ ((p1.filter fun y => decide (gA P y = b)).map fun y => 1 + (if r - w < gA ws y then (1 : Int) else 0)).sum := by
  unfold lds at h
  generalize p1.filter (fun y => decide (gA P y = b)) = F at h
  match F, h with
  | [], h => simp at h; omega
  | [y], h =>
    simp at h
    simp only [List.map_cons, List.map_nil, List.sum_cons, List.sum_nil]
    rw [if_pos (by omega)]; omega
  | y :: z :: F, _ =>
    have := sum_nn (f := fun y => 1 + (if r - w < gA ws y then (1 : Int) else 0)) (l := F) fun x _ => by split <;> omega
    simp only [List.map_cons, List.sum_cons]
    split <;> split <;> omega
theorem graham {m : Nat} (hm : 0 < m) {ws pt : List Int} (pos : ∀ w ∈ ws, 0 ≤ w) (h : Put m ws pt) : 3 * (m : Int) * hvy m ws (runP m ws (ordK ws)).2 ≤ (4 * m - 1) * hvy m ws pt := by
  obtain ⟨_, B⟩ := run_hvy hm pos (ord_perm ws)
  have tot := hvy_tot hm h
  have r0 := hvy_nn hm h pos
  obtain ⟨L, eL⟩ : ∃ L, L = hvy m ws (runP m ws (ordK ws)).2 := ⟨_, rfl⟩
  rw [← eL] at B ⊢
  rcases B with z | ⟨p1, x, p2, mn, P1, e1, e2, e3, e4, _, hP, e5⟩
  · rw [z, Int.mul_zero]
    exact Int.mul_nonneg (by omega) r0
  · have pm : (p1 ++ x :: p2).Perm (upt ws.length) := by rw [← e1]; exact ord_perm ws
    have hx := mem_upt.mp (pm.mem_iff.mp (show x ∈ p1 ++ x :: p2 by simp))
    have one := hvy_one hm h pos hx
    obtain ⟨w, ew⟩ : ∃ w, w = gA ws x := ⟨_, rfl⟩
    obtain ⟨r, er⟩ : ∃ r, r = hvy m ws pt := ⟨_, rfl⟩
    by_cases c : 3 * w ≤ r
    · have lb := list_bound hm pos pm e4
      rw [← e2, ← ew] at lb
      rw [← er] at tot r0 ⊢
      have a1 : ((m : Int) - 1) * (3 * w) ≤ (m - 1) * r := Int.mul_le_mul_of_nonneg_left c (by omega)
      have a2 : 3 * (m : Int) * L = 3 * (m * L) := Int.mul_assoc ..
      have a3 : (4 * (m : Int) - 1) * r = 3 * (m * r) + (m - 1) * r := by grind
      have a4 : ((m : Int) - 1) * (3 * w) = 3 * ((m - 1) * w) := by grind
      omega
    · have le : L ≤ r := by
        apply Classical.byContradiction
        intro nc
        have nd : (p1 ++ [x]).Nodup := by
          have : (p1 ++ x :: p2).Nodup := pm.nodup_iff.mpr (upt_nodup _)
          exact this.sublist (by simp)
        have pw := ord_pw ws
        rw [e1] at pw
        have ge : ∀ y ∈ p1 ++ [x], (0 ≤ y ∧ y < ws.length) ∧ w ≤ gA ws y := fun y hy => by
          refine ⟨mem_upt.mp (pm.mem_iff.mp (by simp at hy ⊢; rcases hy with z | z <;> simp [z])), ?_⟩
          rcases List.mem_append.mp hy with z | z
          · have := (List.pairwise_append.mp pw).2.2 y z x (by simp)
            omega
          · rw [List.mem_singleton.mp z, ew]; exact Int.le_refl _
        have s1 := sum_benches (m := m) (g := gA pt) (f := fun y => 1 + (if r - w < gA ws y then (1 : Int) else 0)) (L := p1 ++ [x]) fun y hy => h.at (ge y hy).1
        have s2 := sum_benches (m := m) (g := gA P1) (f := fun y => 1 + (if r - w < gA ws y then (1 : Int) else 0)) (L := p1) fun y hy => hP.at (ge y (by simp [hy])).1
        have t1 := sum_hi (l := upt m) (f := fun b => (((p1 ++ [x]).filter fun y => decide (gA pt y = b)).map fun y => 1 + (if r - w < gA ws y then (1 : Int) else 0)).sum) (c := 2) fun b hb => by
          rw [er]
          exact few_there hm h pos nd (mem_upt.mp hb) ge (by omega)
        have t2 := sum_le (l := upt m) (f := fun _ => (2 : Int)) (g := fun b => ((p1.filter fun y => decide (gA P1 y = b)).map fun y => 1 + (if r - w < gA ws y then (1 : Int) else 0)).sum) fun b hb => by
          obtain ⟨b0, b1⟩ := mem_upt.mp hb
          exact many_there (e5 b b0 b1) (by omega) (by omega)
        rw [s1] at t1
        rw [s2, sum_const] at t2
        rw [List.map_append, List.sum_append] at t1
        simp only [List.map_cons, List.map_nil, List.sum_cons, List.sum_nil] at t1
        split at t1 <;> omega
      rw [← er] at r0 ⊢
      have a1 : 3 * (m : Int) * L ≤ 3 * m * r := Int.mul_le_mul_of_nonneg_left le (by omega)
      have a2 : 0 ≤ ((m : Int) - 1) * r := Int.mul_nonneg (by omega) r0
      have a3 : (4 * (m : Int) - 1) * r = 3 * m * r + (m - 1) * r := by grind
      omega
end My

namespace My
open PySem L2 PM
/-! ### the worst works for longest first -/
theorem cut_of {α : Type} {enc : α → D} (l : List α) (lo hi : Option Int) : ∃ cs : List α, cutD (l.map enc) lo hi = cs.map enc ∧ cs.length ≤ l.length ∧ ∀ x ∈ cs, x ∈ l := by
  refine ⟨(l.drop (HT.sIx l.length 0 lo)).take (HT.sIx l.length l.length hi - HT.sIx l.length 0 lo), ?_, by rw [List.length_take, List.length_drop]; omega, fun x hx => List.mem_of_mem_drop (List.mem_of_mem_take hx)⟩
  unfold cutD
  rw [List.length_map, List.map_take, List.map_drop]
def enP (x : Int × Int) : D := .tup [.int x.1, .int x.2]
theorem cat_iL {A B : List Int} (h : A.length + B.length ≤ 100000) : oCat (iL A) (iL B) = some (iL (A ++ B)) := by
  unfold iL
  rw [oCat_l (by simpa using h), List.map_append]
theorem fst_comp {Z : List (Int × Int)} (hz : Z.length ≤ 1000) {a b c d e f : Sl} : k2_law_worst [a, b, c, d, e, f, .v (.lst (Z.map enP))] = .ok (iL (Z.map (·.1))) := by
  refine Eq.trans (mComp_ok (l := Z.map enP) (r := Z.map fun x => .int x.1) (by simp [mItL, mRd]) (by rw [List.length_map]; omega) ?_) (by simp [iL])
  exact gather_all enP (fun x => .int x.1) _ fun x _ => by simp [stepC, startD, enP, bTup, bCons, bNil, bNameC, mVar]
theorem snd_comp {Z : List (Int × Int)} (hz : Z.length ≤ 1000) {a b c d e f : Sl} : k1_law_worst [a, b, c, d, e, f, .v (.lst (Z.map enP))] = .ok (iL (Z.map (·.2))) := by
  refine Eq.trans (mComp_ok (l := Z.map enP) (r := Z.map fun x => .int x.2) (by simp [mItL, mRd]) (by rw [List.length_map]; omega) ?_) (by simp [iL])
  exact gather_all enP (fun x => .int x.2) _ fun x _ => by simp [stepC, startD, enP, bTup, bCons, bNil, bNameC, mVar]
theorem worst_eq {m : Nat} {u t : Int} (hm : 0 < m) (h16 : m < 16) (u0 : 0 < u) (u1 : u ≤ 10000000000000001) : ∃ ws pt : List Int, m_law_worst [.int m, .int u, .int t] = .ok (.lst [iL ws, iL pt]) ∧ Put m ws pt ∧ ws.length < 64 ∧ ∀ w ∈ ws, 0 < w ∧ w ≤ 1000000000000000000 := by
  have fu : Fit u := fitN (10 ^ 20) (by omega)
  have fm : Fit (m : Int) := fitN 1000 (by omega)
  have f2 : Fit 2 := fitN 100 (by decide)
  have r1 : rng [.int (m : Int), .int (2 * m)] = some (((List.range m).map fun k : Nat => (m : Int) + k).map .int) := by
    rw [rng2 (by omega) (by omega), rangeD, List.map_map, show (2 * (m : Int) - m).toNat = m by omega]; rfl
  have r2 : rng [.int ((m : Int) + 1), .int (2 * m)] = some (((List.range (m - 1)).map fun k : Nat => (m : Int) + 1 + k).map .int) := by
    rw [rng2 (by omega) (by omega), rangeD, List.map_map, show (2 * (m : Int) - (m + 1)).toNat = m - 1 by omega]; rfl
  obtain ⟨δ1, h1, W, o4, rfl, wl, wb⟩ := loop_inv (b := bName 4) (m := lb1_law_worst) D.int (fun pre δ => ∃ (W : List Int) (o4 : Option D), δ = [.v (.int m), .v (.int u), .v (.int t), .v (iL W), sv o4, .no, .no] ∧ W.length = 1 + 2 * pre.length ∧ ∀ w ∈ W, 0 < w ∧ w ≤ 1000000000000000000) ((List.range m).map fun k : Nat => (m : Int) + k)
    (by
      rintro pre x post δ hall ⟨W, o4, rfl, wl, wb⟩
      have hx : x ∈ (List.range m).map fun k : Nat => (m : Int) + k := by rw [hall]; simp
      obtain ⟨k, hk, ek⟩ := List.mem_map.mp hx
      have hk' := List.mem_range.mp hk
      have pl : pre.length < m := by have := congrArg List.length hall; simp at this; omega
      have x0 : 0 < x := by omega
      have x1 : x ≤ 30 := by omega
      have fx : Fit x := fitN 1000 (by omega)
      have b0 : 0 < u * x := Int.mul_pos u0 x0
      have b1 : u * x ≤ 10000000000000001 * 30 := Int.mul_le_mul u1 x1 (by omega) (by decide)
      have ct := cat_iL (A := W) (B := [u * x, u * x]) (by simp; omega)
      refine ⟨[.v (.int m), .v (.int u), .v (.int t), .v (iL W), .v (.int x), .no, .no], _, bName_sv rfl, .inl (mAsg_ok (d := iL (W ++ [u * x, u * x])) ?_ rfl), W ++ [u * x, u * x], some (.int x), rfl, by simp; omega, fun w hw => ?_⟩
      · have e : mLst (mCons (m2 oMul (mRd 1) (mRd 4)) (mCons (m2 oMul (mRd 1) (mRd 4)) mNil)) [.v (.int m), .v (.int u), .v (.int t), .v (iL W), .v (.int x), .no, .no] = .ok (iL [u * x, u * x]) := by simp [mLst, mCons, mNil, mRd, oMul_i fu fx, sizeLine, iL]
        simp only [m2_eq, e]
        simp [mRd, ct]
      · rcases List.mem_append.mp hw with z | z
        · exact wb w z
        · have : w = u * x := by simpa using z
          omega)
    [.v (.int m), .v (.int u), .v (.int t), .v (iL [u * m]), .no, .no, .no] ⟨[u * m], none, rfl, rfl, fun w hw => by
      rw [List.mem_singleton.mp hw]
      have b0 : 0 < u * (m : Int) := Int.mul_pos u0 (by omega)
      have b1 : u * (m : Int) ≤ 10000000000000001 * 30 := Int.mul_le_mul u1 (by omega) (by omega) (by decide)
      omega⟩
  rw [List.length_map, List.length_range] at wl
  obtain ⟨T, eT⟩ : ∃ T, T = iL W := ⟨_, rfl⟩
  rw [← eT] at h1
  obtain ⟨δ2, h2, B, o4', rfl, bl, bb⟩ := loop_inv (b := bName 4) (m := lb2_law_worst) D.int (fun pre δ => ∃ (B : List Int) (o4 : Option D), δ = [.v (.int m), .v (.int u), .v (.int t), .v T, sv o4, .v (iL B), .no] ∧ B.length = 3 + 2 * pre.length ∧ ∀ b ∈ B, 0 ≤ b ∧ b < m) ((List.range (m - 1)).map fun k : Nat => (m : Int) + 1 + k)
    (by
      rintro pre x post δ hall ⟨B, o4, rfl, bl, bb⟩
      have hx : x ∈ (List.range (m - 1)).map fun k : Nat => (m : Int) + 1 + k := by rw [hall]; simp
      obtain ⟨k, hk, ek⟩ := List.mem_map.mp hx
      have hk' := List.mem_range.mp hk
      have pl : pre.length < m := by have := congrArg List.length hall; simp at this; omega
      have ct := cat_iL (A := B) (B := [x - m - 1, 2 * (m : Int) - 1 - x]) (by simp; omega)
      refine ⟨[.v (.int m), .v (.int u), .v (.int t), .v T, .v (.int x), .v (iL B), .no], _, bName_sv rfl, .inl (mAsg_ok (d := iL (B ++ [x - m - 1, 2 * (m : Int) - 1 - x])) ?_ rfl), B ++ [x - m - 1, 2 * (m : Int) - 1 - x], some (.int x), rfl, by simp; omega, fun w hw => ?_⟩
      · have e : mLst (mCons (m2 oSub (m2 oSub (mRd 4) (mRd 0)) (mC (.int 1))) (mCons (m2 oSub (m2 oSub (m2 oMul (mC (.int 2)) (mRd 0)) (mC (.int 1))) (mRd 4)) mNil)) [.v (.int m), .v (.int u), .v (.int t), .v T, .v (.int x), .v (iL B), .no] = .ok (iL [x - m - 1, 2 * (m : Int) - 1 - x]) := by simp [mLst, mCons, mNil, mRd, mC, oMul_i f2 fm, sizeLine, iL]
        simp only [m2_eq, e]
        simp [mRd, ct]
      · rcases List.mem_append.mp hw with z | z
        · exact bb w z
        · have : w = x - m - 1 ∨ w = 2 * (m : Int) - 1 - x := by simpa using z
          omega)
    [.v (.int m), .v (.int u), .v (.int t), .v T, sv o4, .v (iL [(m : Int) - 1, (m : Int) - 1, (m : Int) - 1]), .no] ⟨[(m : Int) - 1, (m : Int) - 1, (m : Int) - 1], o4, rfl, rfl, fun w hw => by
      have : w = (m : Int) - 1 := by simpa using hw
      omega⟩
  rw [List.length_map, List.length_range] at bl
  obtain ⟨Y, eY⟩ : ∃ Y, Y = iL B := ⟨_, rfl⟩
  rw [← eY] at h2
  have zl : (W.zip B).length = 2 * m + 1 := by rw [List.length_zip]; omega
  obtain ⟨Z0, eZ0⟩ : ∃ Z0, Z0 = W.zip B := ⟨_, rfl⟩
  rw [← eZ0] at zl
  have zz : lstZ [T, Y] = some (.lst (Z0.map enP)) := by
    rw [eT, eY, eZ0]
    show some (D.lst (zipD (W.map .int) (B.map .int))) = _
    rw [zip_enc]; rfl
  obtain ⟨r, er⟩ : ∃ r, r = t % ((2 * m + 1 : Nat) : Int) := ⟨_, rfl⟩
  obtain ⟨Z1, c1, l1, i1⟩ := cut_of (enc := enP) Z0 (some r) none
  obtain ⟨Z2, c2, l2, i2⟩ := cut_of (enc := enP) Z0 none (some r)
  have ct : oCat (.lst (Z1.map enP)) (.lst (Z2.map enP)) = some (.lst ((Z1 ++ Z2).map enP)) := by
    rw [oCat_l (by simp; omega), List.map_append]
  have zi : ∀ x ∈ Z1 ++ Z2, x ∈ W.zip B := fun x hx => by
    rw [← eZ0]
    exact (List.mem_append.mp hx).elim (i1 x) (i2 x)
  refine ⟨(Z1 ++ Z2).map (·.1), (Z1 ++ Z2).map (·.2), runO_ok ?_, ⟨by simp, fun b hb => ?_⟩, by simp; omega, fun w hw => ?_⟩
  · show mSeq _ _ [.v (.int m), .v (.int u), .v (.int t), .no, .no, .no, .no] = _
    have q1 : mAsg (mLst (mCons (m2 oMul (mRd 1) (mRd 0)) mNil)) (bName 3) [.v (.int m), .v (.int u), .v (.int t), .no, .no, .no, .no] = .nx [.v (.int m), .v (.int u), .v (.int t), .v (iL [u * m]), .no, .no, .no] := mAsg_ok (d := iL [u * m]) (by simp [mLst, mCons, mNil, mRd, oMul_i fu fm, sizeLine, iL]) rfl
    have q2 : l1_law_worst [.v (.int m), .v (.int u), .v (.int t), .v (iL [u * m]), .no, .no, .no] = _ := (mFor_ok (l := ((List.range m).map fun k : Nat => (m : Int) + k).map .int) (by simp only [mRng, mCons, mNil, mVar, mRd, mC, m2_eq, List.getElem?_cons_zero, R.bind_ok, oMul_i f2 fm, R.of_some, r1])).trans h1
    have q3 : mAsg (mLst (mCons (m2 oSub (mRd 0) (mC (.int 1))) (mCons (m2 oSub (mRd 0) (mC (.int 1))) (mCons (m2 oSub (mRd 0) (mC (.int 1))) mNil)))) (bName 5) [.v (.int m), .v (.int u), .v (.int t), .v T, sv o4, .no, .no] = .nx [.v (.int m), .v (.int u), .v (.int t), .v T, sv o4, .v (iL [(m : Int) - 1, (m : Int) - 1, (m : Int) - 1]), .no] := mAsg_ok (d := iL [(m : Int) - 1, (m : Int) - 1, (m : Int) - 1]) (by simp [mLst, mCons, mNil, mRd, mC, sizeLine, iL]) rfl
    have q4 : l2_law_worst [.v (.int m), .v (.int u), .v (.int t), .v T, sv o4, .v (iL [(m : Int) - 1, (m : Int) - 1, (m : Int) - 1]), .no] = _ := (mFor_ok (l := ((List.range (m - 1)).map fun k : Nat => (m : Int) + 1 + k).map .int) (by simp only [mRng, mCons, mNil, mRd, mC, m2_eq, List.getElem?_cons_zero, R.bind_ok, oMul_i f2 fm, oAdd_i, R.of_some, r2])).trans h2
    have q5 : mAsg (mLstZ (mCons (mRd 3) (mCons (mRd 5) mNil))) (bName 6) [.v (.int m), .v (.int u), .v (.int t), .v T, sv o4', .v Y, .no] = .nx [.v (.int m), .v (.int u), .v (.int t), .v T, sv o4', .v Y, .v (.lst (Z0.map enP))] := mAsg_ok (d := .lst (Z0.map enP)) (by simp [mLstZ, mCons, mNil, mRd, zz]) rfl
    have ln : fLen [.lst (Z0.map enP)] = some (.int ((2 * m + 1 : Nat) : Int)) := by
      show some (D.int ((Z0.map enP).length : Int)) = _
      rw [List.length_map, zl]
    have md : oMod (.int t) (.int ((2 * m + 1 : Nat) : Int)) = some (.int r) := by rw [oMod_i (by omega), er]
    have q6 : mAsg (m2 oCat (mSl (mRd 6) (mPart (m2 oMod (mRd 2) (mCB fLen (mCons (mRd 6) mNil)))) mNoP) (mSl (mRd 6) mNoP (mPart (m2 oMod (mRd 2) (mCB fLen (mCons (mRd 6) mNil)))))) (bName 6) [.v (.int m), .v (.int u), .v (.int t), .v T, sv o4', .v Y, .v (.lst (Z0.map enP))] = .nx [.v (.int m), .v (.int u), .v (.int t), .v T, sv o4', .v Y, .v (.lst ((Z1 ++ Z2).map enP))] := by
      refine mAsg_ok (d := .lst ((Z1 ++ Z2).map enP)) ?_ rfl
      simp only [m2_eq, mSl, mPart, mNoP, mCB, mCons, mNil, mRd, List.getElem?_cons_succ, List.getElem?_cons_zero, R.bind_ok, ln, R.of_some, md, asI_i, asL, c1, c2, ct]
    refine (mSeq_nx q1).trans ((mSeq_nx q2).trans ((mSeq_nx q3).trans ((mSeq_nx q4).trans ((mSeq_nx q5).trans ((mSeq_nx q6).trans ?_)))))
    have lz : (Z1 ++ Z2).length ≤ 1000 := by rw [List.length_append]; omega
    simp only [mRetO, mLst, mCons, mNil, fst_comp lz, snd_comp lz, R.bind_ok]
    simp [sizeLine]
  · obtain ⟨x, hx, rfl⟩ := List.mem_map.mp hb
    obtain ⟨x1, x2⟩ := x
    exact bb _ (List.of_mem_zip (zi _ hx)).2
  · obtain ⟨x, hx, rfl⟩ := List.mem_map.mp hw
    obtain ⟨x1, x2⟩ := x
    exact wb _ (List.of_mem_zip (zi _ hx)).1
end My

namespace My
open PySem L2 PM
theorem p16 : oPow (.int 10) (.int 16) = some (.int 10000000000000000) := oPow_i ⟨by decide, by decide, by decide⟩
theorem law_true (ns : List Int) (h : ns.length ≤ 63) : m_law [.scr ns] = .ok (.bl true) := by
  obtain ⟨ws0, hws, wl0, wb0⟩ := works_eq ns h
  obtain ⟨m, ⟨m0, m1'⟩, hmany⟩ := many_eq ns
  obtain ⟨F, hF⟩ := Classical.axiomOfChoice (r := fun (k : Int) (x : Int) => 0 ≤ k ∧ k ≤ 100 → (0 ≤ x ∧ x < m) ∧ m_law_choice [.scr ns, .int (2 + k), .int m] = .ok (.int x)) (fun k => by
    by_cases hk : 0 ≤ k ∧ k ≤ 100
    · obtain ⟨x, a, b⟩ := choice_eq ns (k := 2 + k) (m := m) (by omega) (by omega) (by omega)
      exact ⟨x, fun _ => ⟨a, b⟩⟩
    · exact ⟨0, fun z => absurd z hk⟩)
  obtain ⟨d0, ed0⟩ : ∃ d0, d0 = (upt ws0.length).map F := ⟨_, rfl⟩
  have P0 : Put m ws0 d0 := ⟨by rw [ed0, List.length_map, upt_len], fun b hb => by
    rw [ed0] at hb
    obtain ⟨k, hk, rfl⟩ := List.mem_map.mp hb
    obtain ⟨a, c⟩ := mem_upt.mp hk
    exact (hF k ⟨a, by omega⟩).1⟩
  obtain ⟨W0, eW0⟩ : ∃ W0, W0 = iL ws0 := ⟨_, rfl⟩
  have lW0 : fLen [W0] = some (.int ws0.length) := by rw [eW0]; simp
  rw [← eW0] at hws
  obtain ⟨ws, dr, Pd, wl, wb, hdr⟩ : ∃ ws dr, Put m ws dr ∧ ws.length < 64 ∧ (∀ w ∈ ws, 0 < w ∧ w ≤ 1000000000000000000) ∧
      mIfS (mAnd (mTest (m2 oEq (m2 oMod (m2 oDiv (mCallN m_law_cell_at (mCons (mVar 0) (mCons (mC (.int 1)) mNil))) (mC (.int 3))) (mC (.int 4))) (mC (.int 1)))) (mTest (m2 oLt (mRd 2) (mC (.int 16)))))
        (mAsg (mCallN m_law_worst (mCons (mVar 2) (mCons (m2 oAdd (mC (.int 1)) (mCallN m_law_number (mCons (mVar 0) (mCons (mC (.int 43)) (mCons (m2 oPow (mC (.int 10)) (mC (.int 16))) mNil))))) (mCons (mCallN m_law_number (mCons (mVar 0) (mCons (mC (.int 44)) (mCons (mC (.int 40)) mNil)))) mNil)))) (bLst 2 (bCons (bName 1) (bCons (bName 3) bNil))))
        mNext [.v (.scr ns), .v W0, .v (.int m), .v (iL d0), .no, .no, .no] = .nx [.v (.scr ns), .v (iL ws), .v (.int m), .v (iL dr), .no, .no, .no] := by
    have c1 : m_law_cell_at [.scr ns, .int 1] = .ok (.int (ns.getD 1 0)) := cell_at_eq ns 1
    have f3 : Fit 3 := fitN 100 (by decide)
    by_cases c : ns.getD 1 0 / 3 % 4 = 1
    · by_cases c6 : m < 16
      · obtain ⟨u, ⟨u0, u1⟩, hu⟩ := number_eq ns (k := 43) (top := 10000000000000000) (by decide) (by decide) (by decide)
        obtain ⟨t, _, ht⟩ := number_eq ns (k := 44) (top := 40) (by decide) (by decide) (by decide)
        obtain ⟨ws, dr, hw, P, l, b⟩ := worst_eq (m := m) (u := 1 + u) (t := t) m0 c6 (by omega) (by omega)
        refine ⟨ws, dr, P, l, b, ?_⟩
        have lt : (m : Int) < 16 := by omega
        rw [mIfS_t (by simp only [mAnd, mTest, m2_eq, mCallN, mCons, mNil, mVar, mRd, mC, List.getElem?_cons_succ, List.getElem?_cons_zero, R.bind_ok, c1, R.nev_ok, oDiv_p (show (0 : Int) < 3 by decide) f3, R.of_some, oMod_i (show (0 : Int) < 4 by decide), oEq_i, oLt_i, c]; simp [lt])]
        refine mAsg_ok (d := .lst [iL ws, iL dr]) ?_ ?_
        · simp only [mCallN, m2_eq, mCons, mNil, mVar, mC, List.getElem?_cons_succ, List.getElem?_cons_zero, R.bind_ok, R.of_some, p16, hu, ht, R.nev_ok, oAdd_i, hw]
        · simp [bLst, bCons, bNil, bName]
      · refine ⟨ws0, d0, P0, by omega, wb0, ?_⟩
        have lt : ¬ (m : Int) < 16 := by omega
        rw [mIfS_f (by simp only [mAnd, mTest, m2_eq, mCallN, mCons, mNil, mVar, mRd, mC, List.getElem?_cons_succ, List.getElem?_cons_zero, R.bind_ok, c1, R.nev_ok, oDiv_p (show (0 : Int) < 3 by decide) f3, R.of_some, oMod_i (show (0 : Int) < 4 by decide), oEq_i, oLt_i, c]; simp [lt]), eW0]; rfl
    · refine ⟨ws0, d0, P0, by omega, wb0, ?_⟩
      rw [mIfS_f (by simp only [mAnd, mTest, m2_eq, mCallN, mCons, mNil, mVar, mRd, mC, List.getElem?_cons_succ, List.getElem?_cons_zero, R.bind_ok, c1, R.nev_ok, oDiv_p (show (0 : Int) < 3 by decide) f3, R.of_some, oMod_i (show (0 : Int) < 4 by decide), oEq_i, decide_eq_false c]; rfl), eW0]; rfl
  have pos : ∀ w ∈ ws, 0 ≤ w := fun w hw => by have := wb w hw; omega
  obtain ⟨P1, _⟩ := run_hvy m0 pos (ord_perm ws)
  have hlong := longest_eq m0 (show m ≤ 100 by omega) wl
  have gra := graham m0 pos Pd
  obtain ⟨l1, el1⟩ : ∃ l1, l1 = (runP m ws (ordK ws)).2 := ⟨_, rfl⟩
  rw [← el1] at hlong P1 gra
  have sb : ws.sum ≤ 64 * 1000000000000000000 := by
    have := sum_hi (l := ws) (f := fun w => w) (c := 1000000000000000000) fun w hw => (wb w hw).2
    rw [List.map_id'] at this
    omega
  obtain ⟨W, eW⟩ : ∃ W, W = iL ws := ⟨_, rfl⟩
  have fW : fList [W] = some W := by rw [eW]; rfl
  have nW : oNeD W W = some (.bl false) := by rw [eW]; exact oNeD_eq (plain_iL ws) (plain_iL ws) rfl
  have hvyq : ∀ pt, m_law_heaviest [W, .int m, iL pt] = .ok (.int (hvy m ws pt)) := fun pt => by rw [eW]; exact law_heaviest_eq m0 (by omega) (by omega)
  have isp : ∀ pt, Put m ws pt → m_law_is_putting [iL pt, W, .int m] = .ok (.bl true) := fun pt hp => by rw [eW]; exact is_putting_eq hp
  rw [← eW] at hlong hdr
  have b1 := hvy_nn m0 P1 pos
  have b2 := hvy_le m0 P1 pos
  have b3 := hvy_nn m0 Pd pos
  have b4 := hvy_le m0 Pd pos
  have hO := hvyq l1
  have hR := hvyq dr
  obtain ⟨rv, eR⟩ : ∃ rv, rv = hvy m ws dr := ⟨_, rfl⟩
  obtain ⟨O, eO⟩ : ∃ O, O = hvy m ws l1 := ⟨_, rfl⟩
  rw [← eR] at b3 b4 gra hR
  rw [← eO] at b1 b2 gra hO
  have f1 : Fit (m : Int) := fitN 1000 (by omega)
  have f2 : Fit O := fitN (10 ^ 30) (by omega)
  have f3 : Fit rv := fitN (10 ^ 30) (by omega)
  have f4 : Fit (4 * (m : Int) - 1) := fitN 1000 (by omega)
  have f5 : Fit 3 := fitN 100 (by decide)
  have f6 : Fit 4 := fitN 100 (by decide)
  have f7 : Fit (3 * (m : Int)) := fitN 1000 (by omega)
  refine runF_ok ?_
  show mSeq _ _ [.v (.scr ns), .no, .no, .no, .no, .no, .no] = _
  have q1 : mAsg (mCallN m_law_works (mCons (mVar 0) mNil)) (bName 1) [.v (.scr ns), .no, .no, .no, .no, .no, .no] = .nx [.v (.scr ns), .v W0, .no, .no, .no, .no, .no] := mAsg_ok (d := W0) (by simp [mCallN, mCons, mNil, mVar, hws]) rfl
  have q2 : mAsg (mCallN m_law_many (mCons (mVar 0) mNil)) (bName 2) [.v (.scr ns), .v W0, .no, .no, .no, .no, .no] = .nx [.v (.scr ns), .v W0, .v (.int m), .no, .no, .no, .no] := mAsg_ok (d := .int m) (by simp [mCallN, mCons, mNil, mVar, hmany]) rfl
  have q3 : mAsg k1_law (bName 3) [.v (.scr ns), .v W0, .v (.int m), .no, .no, .no, .no] = .nx [.v (.scr ns), .v W0, .v (.int m), .v (iL d0), .no, .no, .no] := by
    refine mAsg_ok (d := iL d0) ?_ rfl
    rw [ed0]
    refine Eq.trans (mComp_ok (l := (upt ws0.length).map .int) (r := (upt ws0.length).map fun k => .int (F k)) (by simp [mRng, mCons, mNil, mCB, mRd, lW0, rngT (show ws0.length ≤ 1000 by omega)]) (by rw [List.length_map, upt_len]; omega) ?_) (by simp [iL])
    refine gather_all .int (fun k => .int (F k)) _ fun k hk => ?_
    obtain ⟨a, b⟩ := mem_upt.mp hk
    have := (hF k ⟨a, by omega⟩).2
    simp [stepC, startD, lendS, bNameC, mCallN, mCons, mNil, mVar, mRd, mC, this]
  have q5 : mAsg (mCB fList (mCons (mRd 1) mNil)) (bName 4) [.v (.scr ns), .v W, .v (.int m), .v (iL dr), .no, .no, .no] = .nx [.v (.scr ns), .v W, .v (.int m), .v (iL dr), .v W, .no, .no] := mAsg_ok (d := W) (by simp [mCB, mCons, mNil, mRd, fW]) rfl
  have q6 : mAsg (mCallN m_put_longest_first (mCons (mVar 4) (mCons (mVar 2) mNil))) (bName 5) [.v (.scr ns), .v W, .v (.int m), .v (iL dr), .v W, .no, .no] = .nx [.v (.scr ns), .v W, .v (.int m), .v (iL dr), .v W, .v (iL l1), .no] := mAsg_ok (d := iL l1) (by simp [mCallN, mCons, mNil, mVar, hlong]) rfl
  have q7 : mIfS (mOr (mNot (mTest (mCallN m_law_is_putting (mCons (mVar 5) (mCons (mVar 1) (mCons (mVar 2) mNil)))))) (mTest (m2 oNeD (mRd 4) (mRd 1)))) (mRet (mC (.bl false))) mNext [.v (.scr ns), .v W, .v (.int m), .v (iL dr), .v W, .v (iL l1), .no] = .nx [.v (.scr ns), .v W, .v (.int m), .v (iL dr), .v W, .v (iL l1), .no] := by
    rw [mIfS_f (by simp [mOr, mNot, mTest, mCallN, mCons, mNil, mVar, mRd, isp l1 P1, nW])]; rfl
  have q8 : mAsg (mCallN m_law_heaviest (mCons (mVar 1) (mCons (mVar 2) (mCons (mVar 3) mNil)))) (bName 6) [.v (.scr ns), .v W, .v (.int m), .v (iL dr), .v W, .v (iL l1), .no] = .nx [.v (.scr ns), .v W, .v (.int m), .v (iL dr), .v W, .v (iL l1), .v (.int rv)] := mAsg_ok (d := .int rv) (by simp [mCallN, mCons, mNil, mVar, hR]) rfl
  refine (mSeq_nx q1).trans ((mSeq_nx q2).trans ((mSeq_nx q3).trans ((mSeq_nx hdr).trans ((mSeq_nx q5).trans ((mSeq_nx q6).trans ((mSeq_nx q7).trans ((mSeq_nx q8).trans ?_)))))))
  simp [mRet, mCallN, mCons, mNil, mVar, mRd, mC, hO, oMul_i f5 f1, oMul_i f7 f2, oMul_i f6 f1, oMul_i f4 f3, gra]
end My

namespace My
open PySem L2 PM PyProof.Rows
def top (i : Nat) : Stmt := PySem.Challenge.pw_goodenough_k27_whole_longest_first_and_a.main.body.getD i (.Pass ⟨0, 0, 0, 0⟩)
abbrev XO0 : XOT := fun _ _ _ _ _ => False
abbrev KX (K : PySem.W.Frag) : Kx := ⟨K, fun _ => 0, fun _ => Str.empty⟩
def sp_law (K : PySem.W.Frag) : Sp := fun vs H Q _ => ∃ (a : Addr) (ns : List Int), vs = [.ref a] ∧ SqL K H a (ns.map V.int) ∧ ns.length ≤ 63 ∧ ∀ H', Q (.bl true) H'
structure Txt (K : PySem.W.Frag) (mg : Str → Option Value) : Prop where
  len : mg "len" = none
  isinstance : mg "isinstance" = none
  list : mg "list" = none
  sum : mg "sum" = none
  int : mg "int" = none
  bool : mg "bool" = none
  range : mg "range" = none
  max : mg "max" = none
  min : mg "min" = none
  sorted : mg "sorted" = none
  zip : mg "zip" = none
section
variable {P : Program} {w : World} {K : PySem.W.Frag} {mg : Str → Option Value} {base : Heap}
abbrev s_law_cell_at : Stmt := top 6
theorem sc_law_cell_at : FnScope ["_law_script", "_law_k"] ["_law_script", "_law_k"] (defScope s_law_cell_at) := ⟨rfl, rfl, rfl, by decide +kernel, rfl, by decide +kernel, by decide +kernel⟩
theorem ok_law_cell_at {f : Addr} {fd : FuncData} (F : Fun K "_law_cell_at" "_law_cell_at" s_law_cell_at f fd) (T : Txt K mg)  : FnOk P w K mg base CX0 1 f fd ["_law_script", "_law_k"] (spM (KX K) XO0 m_law_cell_at) := by
  refine F.ok sc_law_cell_at (fun vs H Q E h => spM_len h) (fun cdv A outer s H vs Q E hr h => ?_)
  have hu := hu_of hr
  exact ⟨_, (pss_cons (ps_if (pt_cmpR op_lt (pv 1) (pe_callB call_len_seq (by rfl) T.len PySem.boot_len (pa_cons (pv 0) pa_nil)) (nomark _))
      (pss_one (ps_ret (pe_ix ix_list (pv 0) (pv 1) (fun _ _ => rfl))))
      pss_nil)
      (pss_one (ps_ret pe_int))), fn_ok (K := (KX K)) (XO := XO0) (E := E) (np := 2) (nv := 0) (m := b_law_cell_at)
      (ss_seq (ss_if (st_test (se_op sr_lt ser_var ((se_cb sc_len (sar_cons ser_var sar_nil))).r))
      (ss_ret (se_op sr_ixL ser_var ser_var))
      ss_next)
      (ss_ret se_int)) rfl h⟩

abbrev s_law_number : Stmt := top 7
theorem sc_law_number : FnScope ["_law_script", "_law_k", "_law_top", "_law_cell", "_law_high", "_law_low"] ["_law_script", "_law_k", "_law_top"] (defScope s_law_number) := ⟨rfl, rfl, rfl, by decide +kernel, rfl, by decide +kernel, by decide +kernel⟩
theorem ok_law_number {f : Addr} {fd : FuncData} (F : Fun K "_law_number" "_law_number" s_law_number f fd) (T : Txt K mg) (G_law_cell_at : Has P w K mg base CX0 1 "_law_cell_at" ["_law_script", "_law_k"] (spM (KX K) XO0 m_law_cell_at)) : FnOk P w K mg base CX0 2 f fd ["_law_script", "_law_k", "_law_top"] (spM (KX K) XO0 m_law_number) := by
  refine F.ok sc_law_number (fun vs H Q E h => spM_len h) (fun cdv A outer s H vs Q E hr h => ?_)
  have hu := hu_of hr
  exact ⟨_, (pss_cons (ps_set (i := 3) sc_law_number.nd rfl (by first | exact Or.inl rfl | exact Or.inr rfl) (pe_op op_mod (pe_has G_law_cell_at (hr.mono (by decide)) (by rfl) pass0 (pa_cons (pv 0) (pa_cons (pv 1) pa_nil))) (pe_op op_pow pe_int pe_int)))
      (pss_cons (ps_set (i := 4) sc_law_number.nd rfl (by first | exact Or.inl rfl | exact Or.inr rfl) (pe_op op_mod (pe_op op_add (pe_op op_mulF (pv 3) pe_int) (pe_op op_mulF (pe_op op_mulF (pe_op op_add (pv 1) pe_int) (pe_op op_add (pv 1) pe_int)) pe_int)) pe_int))
      (pss_cons (ps_set (i := 5) sc_law_number.nd rfl (by first | exact Or.inl rfl | exact Or.inr rfl) (pe_op op_mod (pe_op op_add (pe_op op_add (pe_op op_mulF (pv 3) pe_int) (pe_op op_mulF (pe_op op_mulF (pv 1) (pv 1)) pe_int)) pe_int) pe_int))
      (pss_one (ps_ret (pe_op op_mod (pe_op op_add (pe_op op_mulF (pv 4) pe_int) (pv 5)) (pe_op op_add (pv 2) pe_int))))))), fn_ok (K := (KX K)) (XO := XO0) (E := E) (np := 3) (nv := 3) (m := b_law_number)
      (ss_seq (ss_asg (se_op sr_mod ((se_callN (sa_cons se_var (sa_cons se_var sa_nil)))).r ((se_op sr_pow (se_int).r (se_int).r)).r) sg_name)
      (ss_seq (ss_asg (se_op sr_mod ((se_op sr_add ((se_op sr_mul ser_var (se_int).r)).r ((se_op sr_mul ((se_op sr_mul ((se_op sr_add ser_var (se_int).r)).r ((se_op sr_add ser_var (se_int).r)).r)).r (se_int).r)).r)).r (se_int).r) sg_name)
      (ss_seq (ss_asg (se_op sr_mod ((se_op sr_add ((se_op sr_add ((se_op sr_mul ser_var (se_int).r)).r ((se_op sr_mul ((se_op sr_mul ser_var ser_var)).r (se_int).r)).r)).r (se_int).r)).r (se_int).r) sg_name)
      (ss_ret (se_op sr_mod ((se_op sr_add ((se_op sr_mul ser_var (se_int).r)).r ser_var)).r ((se_op sr_add ser_var (se_int).r)).r))))) rfl h⟩

abbrev s_law_works : Stmt := top 9
theorem sc_law_works : FnScope ["_law_script", "_law_top"] ["_law_script"] (defScope s_law_works) := ⟨rfl, rfl, rfl, by decide +kernel, rfl, by decide +kernel, by decide +kernel⟩
theorem ok_law_works {f : Addr} {fd : FuncData} (F : Fun K "_law_works" "_law_works" s_law_works f fd) (T : Txt K mg) (G_law_cell_at : Has P w K mg base CX0 1 "_law_cell_at" ["_law_script", "_law_k"] (spM (KX K) XO0 m_law_cell_at)) (G_law_number : Has P w K mg base CX0 2 "_law_number" ["_law_script", "_law_k", "_law_top"] (spM (KX K) XO0 m_law_number)) : FnOk P w K mg base CX0 3 f fd ["_law_script"] (spO (KX K) XO0 m_law_works) := by
  refine F.ok sc_law_works (fun vs H Q E h => spO_len h) (fun cdv A outer s H vs Q E hr h => ?_)
  have hu := hu_of hr
  exact ⟨_, (pss_cons (ps_set (i := 1) sc_law_works.nd rfl (by first | exact Or.inl rfl | exact Or.inr rfl) (pe_ix ix_list (pe_lst (pa_cons pe_int (pa_cons pe_int (pa_cons (pe_op op_sub (pe_op op_pow pe_int pe_int) pe_int) pa_nil)))) (pe_op op_mod (pe_has G_law_cell_at (hr.mono (by decide)) (by rfl) pass0 (pa_cons (pv 0) (pa_cons pe_int pa_nil))) pe_int) (fun _ _ => rfl)))
      (pss_one (ps_ret (pe_comp rfl (pi_range1 rfl T.range (pa_cons (pe_callB call_len_seq (by rfl) T.len PySem.boot_len (pa_cons (pe_slice sl_list (pv 0) (po_some pe_int) (po_some pe_int)) pa_nil)) pa_nil)) (compOk (defScope s_law_works) ["_law_script", "_law_top"] ["_law_script", "_law_top", "_law_k"] [0, 1] 1 rfl rfl rfl (by decide +kernel) (by decide +kernel) (by decide +kernel) rfl (by decide +kernel) (fun cl C s H fp pins => (pg_name (i := 2) (show List.Nodup (["_law_script", "_law_top", "_law_k"] : List Str) by decide +kernel) rfl (Or.inl rfl))) (fun cl C s H fp pins => (pe_op op_add pe_int (pe_has G_law_number (hr.mono (by decide)) (by rfl) pass0 (pa_cons (pv 0) (pa_cons (pe_op op_add pe_int (pv 2)) (pa_cons (pv 1) pa_nil)))))) (Or.inl ⟨rfl, rfl⟩)))))), fn_okO (K := (KX K)) (XO := XO0) (E := E) (np := 1) (nv := 1) (m := b_law_works)
      (ss_seq (ss_asg (se_op sr_ixL ((seo_lst (sa_cons se_int (sa_cons se_int (sa_cons (se_op sr_sub ((se_op sr_pow (se_int).r (se_int).r)).r (se_int).r) sa_nil))))).e.r ((se_op sr_mod ((se_callN (sa_cons se_var (sa_cons se_int sa_nil)))).r (se_int).r)).r) sg_name)
      (ss_retO (seo_comp (si_range1 len1 (sa_cons (se_cb sc_len (sar_cons ((seo_slice ser_var (so_part se_int) (so_part se_int))).e.r sar_nil)) sa_nil)).c (by decide) sg_nameC bw_name (Or.inl ⟨rfl, rfl⟩) (se_op sr_add (se_int).r ((se_callN (sa_cons se_var (sa_cons (se_op sr_add (se_int).r ser_var) (sa_cons se_var sa_nil))))).r)))) rfl h⟩

abbrev s_law_many : Stmt := top 10
theorem sc_law_many : FnScope ["_law_script"] ["_law_script"] (defScope s_law_many) := ⟨rfl, rfl, rfl, by decide +kernel, rfl, by decide +kernel, by decide +kernel⟩
theorem ok_law_many {f : Addr} {fd : FuncData} (F : Fun K "_law_many" "_law_many" s_law_many f fd) (T : Txt K mg) (G_law_cell_at : Has P w K mg base CX0 1 "_law_cell_at" ["_law_script", "_law_k"] (spM (KX K) XO0 m_law_cell_at)) : FnOk P w K mg base CX0 2 f fd ["_law_script"] (spM (KX K) XO0 m_law_many) := by
  refine F.ok sc_law_many (fun vs H Q E h => spM_len h) (fun cdv A outer s H vs Q E hr h => ?_)
  have hu := hu_of hr
  exact ⟨_, (pss_cons (ps_if (pt_cmpR op_eq (pe_op op_mod (pe_has G_law_cell_at (hr.mono (by decide)) (by rfl) pass0 (pa_cons (pv 0) (pa_cons pe_int pa_nil))) pe_int) pe_int (nomark _))
      (pss_one (ps_ret (pe_op op_add pe_int (pe_op op_mod (pe_op op_fdivF (pe_has G_law_cell_at (hr.mono (by decide)) (by rfl) pass0 (pa_cons (pv 0) (pa_cons pe_int pa_nil))) pe_int) pe_int))))
      pss_nil)
      (pss_one (ps_ret (pe_op op_add pe_int (pe_op op_mod (pe_op op_fdivF (pe_has G_law_cell_at (hr.mono (by decide)) (by rfl) pass0 (pa_cons (pv 0) (pa_cons pe_int pa_nil))) pe_int) pe_int))))), fn_ok (K := (KX K)) (XO := XO0) (E := E) (np := 1) (nv := 0) (m := b_law_many)
      (ss_seq (ss_if (st_test (se_op sr_eq ((se_op sr_mod ((se_callN (sa_cons se_var (sa_cons se_int sa_nil)))).r (se_int).r)).r (se_int).r))
      (ss_ret (se_op sr_add (se_int).r ((se_op sr_mod ((se_op sr_div ((se_callN (sa_cons se_var (sa_cons se_int sa_nil)))).r (se_int).r)).r (se_int).r)).r))
      ss_next)
      (ss_ret (se_op sr_add (se_int).r ((se_op sr_mod ((se_op sr_div ((se_callN (sa_cons se_var (sa_cons se_int sa_nil)))).r (se_int).r)).r (se_int).r)).r))) rfl h⟩

abbrev s_law_choice : Stmt := top 8
theorem sc_law_choice : FnScope ["_law_script", "_law_k", "_law_many_here", "_law_cell"] ["_law_script", "_law_k", "_law_many_here"] (defScope s_law_choice) := ⟨rfl, rfl, rfl, by decide +kernel, rfl, by decide +kernel, by decide +kernel⟩
theorem ok_law_choice {f : Addr} {fd : FuncData} (F : Fun K "_law_choice" "_law_choice" s_law_choice f fd) (T : Txt K mg) (G_law_cell_at : Has P w K mg base CX0 1 "_law_cell_at" ["_law_script", "_law_k"] (spM (KX K) XO0 m_law_cell_at)) : FnOk P w K mg base CX0 2 f fd ["_law_script", "_law_k", "_law_many_here"] (spM (KX K) XO0 m_law_choice) := by
  refine F.ok sc_law_choice (fun vs H Q E h => spM_len h) (fun cdv A outer s H vs Q E hr h => ?_)
  have hu := hu_of hr
  exact ⟨_, (pss_cons (ps_set (i := 3) sc_law_choice.nd rfl (by first | exact Or.inl rfl | exact Or.inr rfl) (pe_op op_mod (pe_has G_law_cell_at (hr.mono (by decide)) (by rfl) pass0 (pa_cons (pv 0) (pa_cons (pv 1) pa_nil))) (pe_op op_pow pe_int pe_int)))
      (pss_one (ps_ret (pe_op op_mod (pe_op op_mod (pe_op op_add (pe_op op_mulF (pv 3) pe_int) (pe_op op_mulF (pe_op op_mulF (pe_op op_add (pv 1) pe_int) (pe_op op_add (pv 1) pe_int)) pe_int)) pe_int) (pv 2))))), fn_ok (K := (KX K)) (XO := XO0) (E := E) (np := 3) (nv := 1) (m := b_law_choice)
      (ss_seq (ss_asg (se_op sr_mod ((se_callN (sa_cons se_var (sa_cons se_var sa_nil)))).r ((se_op sr_pow (se_int).r (se_int).r)).r) sg_name)
      (ss_ret (se_op sr_mod ((se_op sr_mod ((se_op sr_add ((se_op sr_mul ser_var (se_int).r)).r ((se_op sr_mul ((se_op sr_mul ((se_op sr_add ser_var (se_int).r)).r ((se_op sr_add ser_var (se_int).r)).r)).r (se_int).r)).r)).r (se_int).r)).r ser_var))) rfl h⟩

abbrev s_law_worst : Stmt := top 11
theorem sc_law_worst : FnScope ["_law_many_here", "_law_unit", "_law_turn", "_law_works_here", "_law_k", "_law_benches", "_law_pairs"] ["_law_many_here", "_law_unit", "_law_turn"] (defScope s_law_worst) := ⟨rfl, rfl, rfl, by decide +kernel, rfl, by decide +kernel, by decide +kernel⟩
theorem ok_law_worst {f : Addr} {fd : FuncData} (F : Fun K "_law_worst" "_law_worst" s_law_worst f fd) (T : Txt K mg)  : FnOk P w K mg base CX0 1 f fd ["_law_many_here", "_law_unit", "_law_turn"] (spO (KX K) XO0 m_law_worst) := by
  refine F.ok sc_law_worst (fun vs H Q E h => spO_len h) (fun cdv A outer s H vs Q E hr h => ?_)
  have hu := hu_of hr
  exact ⟨_, (pss_cons (ps_set (i := 3) sc_law_worst.nd rfl (by first | exact Or.inl rfl | exact Or.inr rfl) (pe_lst (pa_cons (pe_op op_mulF (pv 1) (pv 0)) pa_nil)))
      (pss_cons (ps_for PassesOwn.never rfl (pi_range2 rfl T.range (pa_cons (pv 0) (pa_cons (pe_op op_mulF pe_int (pv 0)) pa_nil))) (pg_name (i := 4) sc_law_worst.nd rfl (by first | exact Or.inl rfl | exact Or.inr rfl))
      (pss_one (ps_set (i := 3) sc_law_worst.nd rfl (by first | exact Or.inl rfl | exact Or.inr rfl) (pe_op op_catS (pv 3) (pe_lst (pa_cons (pe_op op_mulF (pv 1) (pv 4)) (pa_cons (pe_op op_mulF (pv 1) (pv 4)) pa_nil)))))))
      (pss_cons (ps_set (i := 5) sc_law_worst.nd rfl (by first | exact Or.inl rfl | exact Or.inr rfl) (pe_lst (pa_cons (pe_op op_sub (pv 0) pe_int) (pa_cons (pe_op op_sub (pv 0) pe_int) (pa_cons (pe_op op_sub (pv 0) pe_int) pa_nil)))))
      (pss_cons (ps_for PassesOwn.never rfl (pi_range2 rfl T.range (pa_cons (pe_op op_add (pv 0) pe_int) (pa_cons (pe_op op_mulF pe_int (pv 0)) pa_nil))) (pg_name (i := 4) sc_law_worst.nd rfl (by first | exact Or.inl rfl | exact Or.inr rfl))
      (pss_one (ps_set (i := 5) sc_law_worst.nd rfl (by first | exact Or.inl rfl | exact Or.inr rfl) (pe_op op_catS (pv 5) (pe_lst (pa_cons (pe_op op_sub (pe_op op_sub (pv 4) (pv 0)) pe_int) (pa_cons (pe_op op_sub (pe_op op_sub (pe_op op_mulF pe_int (pv 0)) pe_int) (pv 4)) pa_nil)))))))
      (pss_cons (ps_set (i := 6) sc_law_worst.nd rfl (by first | exact Or.inl rfl | exact Or.inr rfl) (pe_lstZ rfl (by rfl) T.list (by rfl) T.zip (pa_cons (pv 3) (pa_cons (pv 5) pa_nil))))
      (pss_cons (ps_set (i := 6) sc_law_worst.nd rfl (by first | exact Or.inl rfl | exact Or.inr rfl) (pe_op op_catS (pe_slice sl_list (pv 6) (po_some (pe_op op_mod (pv 2) (pe_callB call_len_seq (by rfl) T.len PySem.boot_len (pa_cons (pv 6) pa_nil)))) po_none) (pe_slice sl_list (pv 6) po_none (po_some (pe_op op_mod (pv 2) (pe_callB call_len_seq (by rfl) T.len PySem.boot_len (pa_cons (pv 6) pa_nil)))))))
      (pss_one (ps_ret (pe_lst (pa_cons (pe_comp rfl (pi_list (pv 6)) (compOk (defScope s_law_worst) ["_law_many_here", "_law_unit", "_law_turn", "_law_works_here", "_law_k", "_law_benches", "_law_pairs"] ["_law_work", "_law_bench"] [] 2 rfl rfl rfl (by decide +kernel) (by decide +kernel) (by decide +kernel) rfl (by decide +kernel) (fun cl C s H fp pins => (pg_tup rfl (pgs_cons (pg_name (i := 0) (show List.Nodup (["_law_work", "_law_bench"] : List Str) by decide +kernel) rfl (Or.inl rfl)) (pgs_cons (pg_name (i := 1) (show List.Nodup (["_law_work", "_law_bench"] : List Str) by decide +kernel) rfl (Or.inl rfl)) pgs_nil)))) (fun cl C s H fp pins => (pv 0)) (Or.inl ⟨rfl, rfl⟩))) (pa_cons (pe_comp rfl (pi_list (pv 6)) (compOk (defScope s_law_worst) ["_law_many_here", "_law_unit", "_law_turn", "_law_works_here", "_law_k", "_law_benches", "_law_pairs"] ["_law_work", "_law_bench"] [] 2 rfl rfl rfl (by decide +kernel) (by decide +kernel) (by decide +kernel) rfl (by decide +kernel) (fun cl C s H fp pins => (pg_tup rfl (pgs_cons (pg_name (i := 0) (show List.Nodup (["_law_work", "_law_bench"] : List Str) by decide +kernel) rfl (Or.inl rfl)) (pgs_cons (pg_name (i := 1) (show List.Nodup (["_law_work", "_law_bench"] : List Str) by decide +kernel) rfl (Or.inl rfl)) pgs_nil)))) (fun cl C s H fp pins => (pv 1)) (Or.inl ⟨rfl, rfl⟩))) pa_nil))))))))))), fn_okO (K := (KX K)) (XO := XO0) (E := E) (np := 3) (nv := 4) (m := b_law_worst)
      (ss_seq (ss_asg ((seo_lst (sa_cons (se_op sr_mul ser_var ser_var) sa_nil))).e sg_name)
      (ss_seq (ss_for (si_range2 len2 (sa_cons se_var (sa_cons (se_op sr_mul (se_int).r ser_var) sa_nil))) sg_name
      (ss_asg ((seo_op sr_cat ser_var ((seo_lst (sa_cons (se_op sr_mul ser_var ser_var) (sa_cons (se_op sr_mul ser_var ser_var) sa_nil)))).e.r)).e sg_name))
      (ss_seq (ss_asg ((seo_lst (sa_cons (se_op sr_sub ser_var (se_int).r) (sa_cons (se_op sr_sub ser_var (se_int).r) (sa_cons (se_op sr_sub ser_var (se_int).r) sa_nil))))).e sg_name)
      (ss_seq (ss_for (si_range2 len2 (sa_cons (se_op sr_add ser_var (se_int).r) (sa_cons (se_op sr_mul (se_int).r ser_var) sa_nil))) sg_name
      (ss_asg ((seo_op sr_cat ser_var ((seo_lst (sa_cons (se_op sr_sub ((se_op sr_sub ser_var ser_var)).r (se_int).r) (sa_cons (se_op sr_sub ((se_op sr_sub ((se_op sr_mul (se_int).r ser_var)).r (se_int).r)).r ser_var) sa_nil)))).e.r)).e sg_name))
      (ss_seq (ss_asg ((seo_lstZ (sar_cons ser_var (sar_cons ser_var sar_nil)))).e sg_name)
      (ss_seq (ss_asg ((seo_op sr_cat ((seo_slice ser_var (so_part (se_op sr_mod ser_var ((se_cb sc_len (sar_cons ser_var sar_nil))).r)) so_no)).e.r ((seo_slice ser_var so_no (so_part (se_op sr_mod ser_var ((se_cb sc_len (sar_cons ser_var sar_nil))).r)))).e.r)).e sg_name)
      (ss_retO (seo_lst (sa_cons ((seo_comp (sic_list ser_var) (by decide) (sg_tup (sgs_cons sg_nameC (sgs_cons sg_nameC sgs_nil))) (bw_tup (bws_cons bw_name (bws_cons bw_name bws_nil))) (Or.inl ⟨rfl, rfl⟩) se_var)).e (sa_cons ((seo_comp (sic_list ser_var) (by decide) (sg_tup (sgs_cons sg_nameC (sgs_cons sg_nameC sgs_nil))) (bw_tup (bws_cons bw_name (bws_cons bw_name bws_nil))) (Or.inl ⟨rfl, rfl⟩) se_var)).e sa_nil)))))))))) rfl h⟩

abbrev s_greatest_order : Stmt := top 1
theorem sc_greatest_order : FnScope ["sizes"] ["sizes"] (defScope s_greatest_order) := ⟨rfl, rfl, rfl, by decide +kernel, rfl, by decide +kernel, by decide +kernel⟩
theorem ok_greatest_order {f cdM tP : Addr} {oc : Value} {od anM : Option Addr} {osl : Array (Option Value)} {kVM docM pmM ctM : Value} (lk : K.lookup f = some ⟨oc, od, .func (PySem.W.fnOf "greatest_order" "greatest_order" (defArgs s_greatest_order) (defBody s_greatest_order) (defScope s_greatest_order) .none kVM docM pmM anM (.ref cdM) ctM), osl⟩) (hcd : PySem.W.codeIn K (.ref cdM) "greatest_order" = true) (T : Txt K mg) (hT : tabOf K = some (tP, #[.str ("greatest_order" ++ ".<locals>." ++ "<lambda>") 0, rawInt ((3 : Nat) : Int), rawInt ((41 : Nat) : Int)])) (hC : PySem.W.codeHdIn K cdM tP = true) (hB : BmAt mg base) : FnOk P w K mg base CX0 1 f (PySem.W.fnOf "greatest_order" "greatest_order" (defArgs s_greatest_order) (defBody s_greatest_order) (defScope s_greatest_order) .none kVM docM pmM anM (.ref cdM) ctM) ["sizes"] (spO (KX K) XO0 m_greatest_order) := by
  refine fn_of lk hcd sc_greatest_order (fun vs H Q E h => spO_len h) (fun A outer s H vs Q E hr h => ?_)
  have hu := hu_of hr
  exact ⟨_, (pss_one (ps_ret (pe_sortK rfl hr (by rfl) T.sorted (pa_cons (pe_rng1 (by rfl) T.range (pa_cons (pe_callB call_len_seq (by rfl) T.len PySem.boot_len (pa_cons (pv 0) pa_nil)) pa_nil)) pa_nil) hT hC rfl hB (fun cc h => by cases h; rfl) rfl (fun _ _ _ _ _ _ => rfl) rfl rfl rfl rfl rfl (by decide +kernel) rfl rfl (by decide) (by decide) (by decide)))), fn_okO (K := (KX K)) (XO := XO0) (E := E) (np := 1) (nv := 0) (m := b_greatest_order)
      (ss_retO seo_sortK) rfl h⟩

abbrev s_freest : Stmt := top 2
theorem sc_freest : FnScope ["sums"] ["sums"] (defScope s_freest) := ⟨rfl, rfl, rfl, by decide +kernel, rfl, by decide +kernel, by decide +kernel⟩
theorem ok_freest {f : Addr} {fd : FuncData} (F : Fun K "freest" "freest" s_freest f fd) (T : Txt K mg)  : FnOk P w K mg base CX0 1 f fd ["sums"] (spM (KX K) XO0 m_freest) := by
  refine F.ok sc_freest (fun vs H Q E h => spM_len h) (fun cdv A outer s H vs Q E hr h => ?_)
  have hu := hu_of hr
  exact ⟨_, (pss_one (ps_ret (pe_bm PySem.F.plainAttrs_list PySem.F.slot_list_index PySem.F.type_list_index mt_indexI (pv 0) (pa_cons (pe_callB (call_minL rfl) (by rfl) T.min boot_min (pa_cons (pv 0) pa_nil)) pa_nil)))), fn_ok (K := (KX K)) (XO := XO0) (E := E) (np := 1) (nv := 0) (m := b_freest)
      (ss_ret (se_index ser_var (se_cb sc_best (sar_cons ser_var sar_nil)))) rfl h⟩

abbrev s_put_by : Stmt := top 3
theorem sc_put_by : FnScope ["works", "many", "order", "sums", "put", "number", "bench"] ["works", "many", "order"] (defScope s_put_by) := ⟨rfl, rfl, rfl, by decide +kernel, rfl, by decide +kernel, by decide +kernel⟩
theorem ok_put_by {f : Addr} {fd : FuncData} (F : Fun K "put_by" "put_by" s_put_by f fd) (T : Txt K mg) (G_freest : Has P w K mg base CX0 1 "freest" ["sums"] (spM (KX K) XO0 m_freest)) : FnOk P w K mg base CX0 2 f fd ["works", "many", "order"] (spO (KX K) XO0 m_put_by) := by
  refine F.ok sc_put_by (fun vs H Q E h => spO_len h) (fun cdv A outer s H vs Q E hr h => ?_)
  have hu := hu_of hr
  exact ⟨_, (pss_cons (ps_setC (i := 3) sc_put_by.nd rfl (by first | exact Or.inl rfl | exact Or.inr rfl) rfl (pi_range1 rfl T.range (pa_cons (pv 1) pa_nil)) (compOk (defScope s_put_by) ["works", "many", "order", "sums", "put", "number", "bench"] ["bench"] [] 1 rfl rfl rfl (by decide +kernel) (by decide +kernel) (by decide +kernel) rfl (by decide +kernel) (fun cl C s H fp pins => (pg_name (i := 0) (show List.Nodup (["bench"] : List Str) by decide +kernel) rfl (Or.inl rfl))) (fun cl C s H fp pins => pe_int) (Or.inl ⟨rfl, rfl⟩)) rfl)
      (pss_cons (ps_setC (i := 4) sc_put_by.nd rfl (by first | exact Or.inl rfl | exact Or.inr rfl) rfl (pi_list (pv 0)) (compOk (defScope s_put_by) ["works", "many", "order", "sums", "put", "number", "bench"] ["work"] [] 1 rfl rfl rfl (by decide +kernel) (by decide +kernel) (by decide +kernel) rfl (by decide +kernel) (fun cl C s H fp pins => (pg_name (i := 0) (show List.Nodup (["work"] : List Str) by decide +kernel) rfl (Or.inl rfl))) (fun cl C s H fp pins => pe_int) (Or.inl ⟨rfl, rfl⟩)) rfl)
      (pss_cons (ps_for PassesOwn.never rfl (pi_list (pv 2)) (pg_name (i := 5) sc_put_by.nd rfl (by first | exact Or.inl rfl | exact Or.inr rfl))
      (pss_cons (ps_set (i := 6) sc_put_by.nd rfl (by first | exact Or.inl rfl | exact Or.inr rfl) (pe_has G_freest (hr.mono (by decide)) (by rfl) pass0 (pa_cons (pv 3) pa_nil)))
      (pss_cons (ps_augS (pv 3) (pv 6) get_list (pe_ix ix_list (pv 0) (pv 5) (fun _ _ => rfl)) ip_add set_list)
      (pss_one (ps_asg (pv 6) (pg_sub (pv 4) (pv 5) set_list))))))
      (pss_one (ps_ret (pv 4)))))), fn_okO (K := (KX K)) (XO := XO0) (E := E) (np := 3) (nv := 4) (m := b_put_by)
      (ss_seq (ss_new (seo_comp (si_range1 len1 (sa_cons se_var sa_nil)).c (by decide) sg_nameC bw_name (Or.inl ⟨rfl, rfl⟩) se_int))
      (ss_seq (ss_new (seo_comp (sic_list ser_var) (by decide) sg_nameC bw_name (Or.inl ⟨rfl, rfl⟩) se_int))
      (ss_seq (ss_for (si_list se_var) sg_name
      (ss_seq (ss_asg (se_callB (sab_own sab_nil)) sg_name)
      (ss_seq (ss_augL se_var (se_op sr_ixL ser_var ser_var))
      (ss_setL se_var se_var))))
      ss_retM))) rfl h⟩

abbrev s_put_longest_first : Stmt := top 4
theorem sc_put_longest_first : FnScope ["works", "many"] ["works", "many"] (defScope s_put_longest_first) := ⟨rfl, rfl, rfl, by decide +kernel, rfl, by decide +kernel, by decide +kernel⟩
theorem ok_put_longest_first {f : Addr} {fd : FuncData} (F : Fun K "put_longest_first" "put_longest_first" s_put_longest_first f fd) (T : Txt K mg) (G_greatest_order : Has P w K mg base CX0 1 "greatest_order" ["sizes"] (spO (KX K) XO0 m_greatest_order)) (G_put_by : Has P w K mg base CX0 2 "put_by" ["works", "many", "order"] (spO (KX K) XO0 m_put_by)) : FnOk P w K mg base CX0 3 f fd ["works", "many"] (spO (KX K) XO0 m_put_longest_first) := by
  refine F.ok sc_put_longest_first (fun vs H Q E h => spO_len h) (fun cdv A outer s H vs Q E hr h => ?_)
  have hu := hu_of hr
  exact ⟨_, (pss_one (ps_ret (pe_has G_put_by (hr.mono (by decide)) (by rfl) pass0 (pa_cons (pv 0) (pa_cons (pv 1) (pa_cons (pe_has G_greatest_order (hr.mono (by decide)) (by rfl) pass0 (pa_cons (pv 0) pa_nil)) pa_nil)))))), fn_okO (K := (KX K)) (XO := XO0) (E := E) (np := 2) (nv := 0) (m := b_put_longest_first)
      (ss_retO (seo_callN (sa_cons se_var (sa_cons se_var (sa_cons ((seo_callN (sa_cons se_var sa_nil))).e sa_nil))))) rfl h⟩

abbrev s_law_is_putting : Stmt := top 12
theorem sc_law_is_putting : FnScope ["_law_found", "_law_works_here", "_law_many_here", "_law_bench"] ["_law_found", "_law_works_here", "_law_many_here"] (defScope s_law_is_putting) := ⟨rfl, rfl, rfl, by decide +kernel, rfl, by decide +kernel, by decide +kernel⟩
theorem ok_law_is_putting {f : Addr} {fd : FuncData} (F : Fun K "_law_is_putting" "_law_is_putting" s_law_is_putting f fd) (T : Txt K mg)  : FnOk P w K mg base CX0 1 f fd ["_law_found", "_law_works_here", "_law_many_here"] (spM (KX K) XO0 m_law_is_putting) := by
  refine F.ok sc_law_is_putting (fun vs H Q E h => spM_len h) (fun cdv A outer s H vs Q E hr h => ?_)
  have hu := hu_of hr
  exact ⟨_, (pss_cons (ps_if ((pw_or (pt_not (pt_val (pe_callB call_isinstance (by rfl) T.isinstance boot_isinstance (pa_cons (pv 0) (pa_cons (pe_bltn (v := .ty "list") (by rfl) T.list boot_list rfl) pa_nil))))) (pw_or1 (pt_cmpR op_ne (pe_callB call_len_seq (by rfl) T.len PySem.boot_len (pa_cons (pv 0) pa_nil)) (pe_callB call_len_seq (by rfl) T.len PySem.boot_len (pa_cons (pv 1) pa_nil)) (nomark _))))).pt
      (pss_one (ps_ret pe_bl))
      pss_nil)
      (pss_cons (ps_for PassesOwn.never rfl (pi_list (pv 0)) (pg_name (i := 3) sc_law_is_putting.nd rfl (by first | exact Or.inl rfl | exact Or.inr rfl))
      (pss_one (ps_if ((pw_or (pt_not (pt_val (pe_callB call_isinstance (by rfl) T.isinstance boot_isinstance (pa_cons (pv 3) (pa_cons (pe_bltn (v := .ty "int") (by rfl) T.int boot_int rfl) pa_nil))))) (pw_or (pt_val (pe_callB call_isinstance (by rfl) T.isinstance boot_isinstance (pa_cons (pv 3) (pa_cons (pe_bltn (v := .ty "bool") (by rfl) T.bool boot_bool rfl) pa_nil)))) (pw_or (pt_cmpR op_lt (pv 3) pe_int (nomark _)) (pw_or1 (pt_cmpR op_ge (pv 3) (pv 2) (nomark _))))))).pt
      (pss_one (ps_ret pe_bl))
      pss_nil)))
      (pss_one (ps_ret pe_bl)))), fn_ok (K := (KX K)) (XO := XO0) (E := E) (np := 3) (nv := 1) (m := b_law_is_putting)
      (ss_seq (ss_if (st_or (st_not (st_b (se_isi kitA_list ser_var))) (st_test (se_op sr_ne ((se_cb sc_len (sar_cons ser_var sar_nil))).r ((se_cb sc_len (sar_cons ser_var sar_nil))).r)))
      (ss_ret se_bl)
      ss_next)
      (ss_seq (ss_for (si_list se_var) sg_name
      (ss_if (st_or (st_not (st_b (se_isi kitA_int ser_var))) (st_or (st_b (se_isi kitA_bool ser_var)) (st_or (st_test (se_op sr_lt ser_var (se_int).r)) (st_test (se_op sr_ge ser_var ser_var)))))
      (ss_ret se_bl)
      ss_next))
      (ss_ret se_bl))) rfl h⟩

abbrev s_law_heaviest : Stmt := top 13
theorem sc_law_heaviest : FnScope ["_law_works_here", "_law_many_here", "_law_put"] ["_law_works_here", "_law_many_here", "_law_put"] (defScope s_law_heaviest) := ⟨rfl, rfl, rfl, by decide +kernel, rfl, by decide +kernel, by decide +kernel⟩
theorem ok_law_heaviest {f : Addr} {fd : FuncData} (F : Fun K "_law_heaviest" "_law_heaviest" s_law_heaviest f fd) (T : Txt K mg)  : FnOk P w K mg base CX0 1 f fd ["_law_works_here", "_law_many_here", "_law_put"] (spM (KX K) XO0 m_law_heaviest) := by
  refine F.ok sc_law_heaviest (fun vs H Q E h => spM_len h) (fun cdv A outer s H vs Q E hr h => ?_)
  have hu := hu_of hr
  exact ⟨_, (pss_one (ps_ret (pe_callB (call_maxL rfl) (by rfl) T.max boot_max (pa_cons (pe_comp rfl (pi_range1 rfl T.range (pa_cons (pv 1) pa_nil)) (compOk (defScope s_law_heaviest) ["_law_works_here", "_law_many_here", "_law_put"] ["_law_works_here", "_law_put", "_law_bench"] [0, 2] 1 rfl rfl rfl (by decide +kernel) (by decide +kernel) (by decide +kernel) rfl (by decide +kernel) (fun cl C s H fp pins => (pg_name (i := 2) (show List.Nodup (["_law_works_here", "_law_put", "_law_bench"] : List Str) by decide +kernel) rfl (by first | exact Or.inl rfl | exact Or.inr rfl))) (fun cl C s H fp pins => (pe_callB (call_sum_ints rfl) (by rfl) (by exact T.sum) boot_sum (pa_cons (pe_comp rfl (pi_zip (by rfl) (by exact T.zip) (pa_cons (pv 0) (pa_cons (pv 1) pa_nil))) (compOk (relabelS _ (defScope s_law_heaviest)) ["_law_works_here", "_law_put", "_law_bench"] ["_law_bench", "_law_work", "_law_there"] [2] 2 rfl rfl rfl (by decide +kernel) (by decide +kernel) (by decide +kernel) rfl (by decide +kernel) (fun cl C s H fp pins => (pg_tup rfl (pgs_cons (pg_name (i := 1) (show List.Nodup (["_law_bench", "_law_work", "_law_there"] : List Str) by decide +kernel) rfl (Or.inl rfl)) (pgs_cons (pg_name (i := 2) (show List.Nodup (["_law_bench", "_law_work", "_law_there"] : List Str) by decide +kernel) rfl (Or.inl rfl)) pgs_nil)))) (fun cl C s H fp pins => (pv 1)) (Or.inr ⟨_, _, rfl, rfl, fun cl C s H fp pins => (pt_cmpR op_eq (pv 2) (pv 0) (nomark _))⟩))) pa_nil))) (Or.inl ⟨rfl, rfl⟩))) pa_nil)))), fn_ok (K := (KX K)) (XO := XO0) (E := E) (np := 3) (nv := 0) (m := b_law_heaviest)
      (ss_ret (se_cb sc_best (sar_cons ((seo_comp (si_range1 len1 (sa_cons se_var sa_nil)).c (by decide) sg_nameC bw_name (Or.inl ⟨rfl, rfl⟩) (se_cb sc_sum (sar_cons ((seo_comp (sic_zip (sar_cons ser_var (sar_cons ser_var sar_nil))) (by decide) (sg_tup (sgs_cons sg_nameC (sgs_cons sg_nameC sgs_nil))) (bw_tup (bws_cons bw_name (bws_cons bw_name bws_nil))) (Or.inr ⟨_, _, rfl, rfl, (st_test (se_op sr_eq ser_var ser_var))⟩) se_var)).e.r sar_nil)))).e.r sar_nil))) rfl h⟩

abbrev s_law : Stmt := top 14
theorem sc_law : FnScope ["_law_script", "_law_works_here", "_law_many_here", "_law_drawn", "_law_handed", "_law_found", "_law_rival"] ["_law_script"] (defScope s_law) := ⟨rfl, rfl, rfl, by decide +kernel, rfl, by decide +kernel, by decide +kernel⟩
theorem ok_law {f : Addr} {fd : FuncData} (F : Fun K "law" "law" s_law f fd) (T : Txt K mg) (G_law_cell_at : Has P w K mg base CX0 1 "_law_cell_at" ["_law_script", "_law_k"] (spM (KX K) XO0 m_law_cell_at)) (G_law_number : Has P w K mg base CX0 2 "_law_number" ["_law_script", "_law_k", "_law_top"] (spM (KX K) XO0 m_law_number)) (G_law_works : Has P w K mg base CX0 3 "_law_works" ["_law_script"] (spO (KX K) XO0 m_law_works)) (G_law_many : Has P w K mg base CX0 2 "_law_many" ["_law_script"] (spM (KX K) XO0 m_law_many)) (G_law_choice : Has P w K mg base CX0 2 "_law_choice" ["_law_script", "_law_k", "_law_many_here"] (spM (KX K) XO0 m_law_choice)) (G_law_worst : Has P w K mg base CX0 1 "_law_worst" ["_law_many_here", "_law_unit", "_law_turn"] (spO (KX K) XO0 m_law_worst)) (G_put_longest_first : Has P w K mg base CX0 3 "put_longest_first" ["works", "many"] (spO (KX K) XO0 m_put_longest_first)) (G_law_is_putting : Has P w K mg base CX0 1 "_law_is_putting" ["_law_found", "_law_works_here", "_law_many_here"] (spM (KX K) XO0 m_law_is_putting)) (G_law_heaviest : Has P w K mg base CX0 1 "_law_heaviest" ["_law_works_here", "_law_many_here", "_law_put"] (spM (KX K) XO0 m_law_heaviest)) : FnOk P w K mg base CX0 4 f fd ["_law_script"] (sp_law K) := by
  refine F.ok sc_law (fun vs H Q E h => ?_) (fun cdv A outer s H vs Q E hr h => ?_)
  · obtain ⟨a, ns, rfl, _⟩ := h
    rfl
  · obtain ⟨a, ns, rfl, hS, hlen, hq⟩ := h
    have hu := hu_of hr
    exact ⟨_, (pss_cons (ps_set (i := 1) sc_law.nd rfl (by first | exact Or.inl rfl | exact Or.inr rfl) (pe_has G_law_works (hr.mono (by decide)) (by rfl) pass0 (pa_cons (pv 0) pa_nil)))
      (pss_cons (ps_set (i := 2) sc_law.nd rfl (by first | exact Or.inl rfl | exact Or.inr rfl) (pe_has G_law_many (hr.mono (by decide)) (by rfl) pass0 (pa_cons (pv 0) pa_nil)))
      (pss_cons (ps_setC (i := 3) sc_law.nd rfl (by first | exact Or.inl rfl | exact Or.inr rfl) rfl (pi_range1 rfl T.range (pa_cons (pe_callB call_len_seq (by rfl) T.len PySem.boot_len (pa_cons (pv 1) pa_nil)) pa_nil)) (compOk (defScope s_law) ["_law_script", "_law_works_here", "_law_many_here", "_law_drawn", "_law_handed", "_law_found", "_law_rival"] ["_law_script", "_law_many_here", "_law_k"] [0, 2] 1 rfl rfl rfl (by decide +kernel) (by decide +kernel) (by decide +kernel) rfl (by decide +kernel) (fun cl C s H fp pins => (pg_name (i := 2) (show List.Nodup (["_law_script", "_law_many_here", "_law_k"] : List Str) by decide +kernel) rfl (Or.inl rfl))) (fun cl C s H fp pins => (pe_has G_law_choice (hr.mono (by decide)) (by rfl) pass0 (pa_cons (pv 0) (pa_cons (pe_op op_add pe_int (pv 2)) (pa_cons (pv 1) pa_nil))))) (Or.inl ⟨rfl, rfl⟩)) rfl)
      (pss_cons (ps_if ((pw_and (pt_cmpR op_eq (pe_op op_mod (pe_op op_fdivF (pe_has G_law_cell_at (hr.mono (by decide)) (by rfl) pass0 (pa_cons (pv 0) (pa_cons pe_int pa_nil))) pe_int) pe_int) pe_int (nomark _)) (pw_and1 (pt_cmpR op_lt (pv 2) pe_int (nomark _))))).pt
      (pss_one (ps_asg (pe_has G_law_worst (hr.mono (by decide)) (by rfl) pass0 (pa_cons (pv 2) (pa_cons (pe_op op_add pe_int (pe_has G_law_number (hr.mono (by decide)) (by rfl) pass0 (pa_cons (pv 0) (pa_cons pe_int (pa_cons (pe_op op_pow pe_int pe_int) pa_nil))))) (pa_cons (pe_has G_law_number (hr.mono (by decide)) (by rfl) pass0 (pa_cons (pv 0) (pa_cons pe_int (pa_cons pe_int pa_nil)))) pa_nil)))) (pg_unlist rfl (pgs_cons (pg_name (i := 1) sc_law.nd rfl (by first | exact Or.inl rfl | exact Or.inr rfl)) (pgs_cons (pg_name (i := 3) sc_law.nd rfl (by first | exact Or.inl rfl | exact Or.inr rfl)) pgs_nil)))))
      pss_nil)
      (pss_cons (ps_set (i := 4) sc_law.nd rfl (by first | exact Or.inl rfl | exact Or.inr rfl) (pe_callTy call_list_of (by rfl) T.list boot_list (pa_cons (pv 1) pa_nil)))
      (pss_cons (ps_set (i := 5) sc_law.nd rfl (by first | exact Or.inl rfl | exact Or.inr rfl) (pe_has G_put_longest_first (hr.mono (by decide)) (by rfl) pass0 (pa_cons (pv 4) (pa_cons (pv 2) pa_nil))))
      (pss_cons (ps_if ((pw_or (pt_not (pt_val (pe_has G_law_is_putting (hr.mono (by decide)) (by rfl) pass0 (pa_cons (pv 5) (pa_cons (pv 1) (pa_cons (pv 2) pa_nil)))))) (pw_or1 (pt_cmpR (op_neD hr.units) (pv 4) (pv 1) (nomark _))))).pt
      (pss_one (ps_ret pe_bl))
      pss_nil)
      (pss_cons (ps_set (i := 6) sc_law.nd rfl (by first | exact Or.inl rfl | exact Or.inr rfl) (pe_has G_law_heaviest (hr.mono (by decide)) (by rfl) pass0 (pa_cons (pv 1) (pa_cons (pv 2) (pa_cons (pv 3) pa_nil)))))
      (pss_one (ps_ret (pe_cmpR op_le (pe_op op_mulF (pe_op op_mulF pe_int (pv 2)) (pe_has G_law_heaviest (hr.mono (by decide)) (by rfl) pass0 (pa_cons (pv 1) (pa_cons (pv 2) (pa_cons (pv 5) pa_nil))))) (pe_op op_mulF (pe_op op_sub (pe_op op_mulF pe_int (pv 2)) pe_int) (pv 6)) (nomark _)))))))))))), fn_ok (K := (KX K)) (XO := XO0) (E := E) (np := 1) (nv := 6) (m := b_law)
      (ss_seq (ss_asg ((seo_callN (sa_cons se_var sa_nil))).e sg_name)
      (ss_seq (ss_asg (se_callN (sa_cons se_var sa_nil)) sg_name)
      (ss_seq (ss_asg ((seo_comp (si_range1 len1 (sa_cons (se_cb sc_len (sar_cons ser_var sar_nil)) sa_nil)).c (by decide) sg_nameC bw_name (Or.inl ⟨rfl, rfl⟩) (se_callN (sa_cons se_var (sa_cons (se_op sr_add (se_int).r ser_var) (sa_cons se_var sa_nil)))))).e sg_name)
      (ss_seq (ss_if (st_and (st_test (se_op sr_eq ((se_op sr_mod ((se_op sr_div ((se_callN (sa_cons se_var (sa_cons se_int sa_nil)))).r (se_int).r)).r (se_int).r)).r (se_int).r)) (st_test (se_op sr_lt ser_var (se_int).r)))
      (ss_asg ((seo_callN (sa_cons se_var (sa_cons (se_op sr_add (se_int).r ((se_callN (sa_cons se_var (sa_cons se_int (sa_cons (se_op sr_pow (se_int).r (se_int).r) sa_nil))))).r) (sa_cons (se_callN (sa_cons se_var (sa_cons se_int (sa_cons se_int sa_nil)))) sa_nil))))).e (sg_lst (sgs_cons sg_name (sgs_cons sg_name sgs_nil))))
      ss_next)
      (ss_seq (ss_asg ((seo_cb sc_list (sar_cons ser_var sar_nil))).e sg_name)
      (ss_seq (ss_asg ((seo_callN (sa_cons se_var (sa_cons se_var sa_nil)))).e sg_name)
      (ss_seq (ss_if (st_or (st_not (st_b (se_callN (sa_cons se_var (sa_cons se_var (sa_cons se_var sa_nil)))))) (st_test (se_op sr_neD ser_var ser_var)))
      (ss_ret se_bl)
      ss_next)
      (ss_seq (ss_asg (se_callN (sa_cons se_var (sa_cons se_var (sa_cons se_var sa_nil)))) sg_name)
      (ss_ret (se_op sr_le ((se_op sr_mul ((se_op sr_mul (se_int).r ser_var)).r ((se_callN (sa_cons se_var (sa_cons se_var (sa_cons se_var sa_nil))))).r)).r ((se_op sr_mul ((se_op sr_sub ((se_op sr_mul (se_int).r ser_var)).r (se_int).r)).r ser_var)).r)))))))))) rfl (law_sp (f := m_law) (law_true ns hlen) hS hq)⟩
end
theorem all_mk {l : PySem.W.OpenLaw} {w : World} {K : PySem.W.Frag} {h : Heap} {mg : Str → Option Value} {fa : Addr} (X : K.In h) (G : h.Ns mainGlobals mg) (hfa : mg "law" = some (.ref fa))
    (d0 : ∃ f fd, DefAt K "_law_cell_at" s_law_cell_at f fd)
    (d1 : ∃ f fd, DefAt K "_law_number" s_law_number f fd)
    (d2 : ∃ f fd, DefAt K "_law_works" s_law_works f fd)
    (d3 : ∃ f fd, DefAt K "_law_many" s_law_many f fd)
    (d4 : ∃ f fd, DefAt K "_law_choice" s_law_choice f fd)
    (d5 : ∃ f fd, DefAt K "_law_worst" s_law_worst f fd)
    (d7 : ∃ f fd, DefAt K "freest" s_freest f fd)
    (d8 : ∃ f fd, DefAt K "put_by" s_put_by f fd)
    (d9 : ∃ f fd, DefAt K "put_longest_first" s_put_longest_first f fd)
    (d10 : ∃ f fd, DefAt K "_law_is_putting" s_law_is_putting f fd)
    (d11 : ∃ f fd, DefAt K "_law_heaviest" s_law_heaviest f fd)
    {fL : Addr} {oc : Value} {od an : Option Addr} {osl : Array (Option Value)} {kV doc pm cdv ct : Value} (aL : PySem.W.nsIn K mainGlobals "law" = some (some (.ref fL)))
    (lL : K.lookup fL = some ⟨oc, od, .func (PySem.W.fnOf "law" "law" (defArgs s_law) (defBody s_law) (defScope s_law) .none kV doc pm an cdv ct), osl⟩) (cL : PySem.W.codeIn K cdv "law" = true) (kL : PySem.W.keepIn K (.ref fL) = true)
    (z0 : PySem.W.nsIn K mainGlobals "len" = some none)
    (z1 : PySem.W.nsIn K mainGlobals "isinstance" = some none)
    (z2 : PySem.W.nsIn K mainGlobals "list" = some none)
    (z3 : PySem.W.nsIn K mainGlobals "sum" = some none)
    (z4 : PySem.W.nsIn K mainGlobals "int" = some none)
    (z5 : PySem.W.nsIn K mainGlobals "bool" = some none)
    (z6 : PySem.W.nsIn K mainGlobals "range" = some none)
    (z7 : PySem.W.nsIn K mainGlobals "max" = some none)
    (z8 : PySem.W.nsIn K mainGlobals "min" = some none)
    (z9 : PySem.W.nsIn K mainGlobals "sorted" = some none)
    (z10 : PySem.W.nsIn K mainGlobals "zip" = some none)
    {fM cdM tP : Addr} {ocM oc2 : Value} {odM anM od2 : Option Addr} {oslM osl2 : Array (Option Value)} {vT : Array Value} {kVM docM pmM ctM : Value}
    (vn : PySem.W.nsIn K mainGlobals "greatest_order" = some (some (.ref fM)))
    (vl : K.lookup fM = some ⟨ocM, odM, .func (PySem.W.fnOf "greatest_order" "greatest_order" (defArgs s_greatest_order) (defBody s_greatest_order) (defScope s_greatest_order) .none kVM docM pmM anM (.ref cdM) ctM), oslM⟩)
    (vc : PySem.W.codeIn K (.ref cdM) "greatest_order" = true)
    (vk : PySem.W.keepIn K (.ref fM) = true)
    (vv : K.lookup cdM = some ⟨oc2, od2, .fields vT, osl2⟩)
    (vt : vT[11]? = some (Value.ref tP))
    (vT : tabOf K = some (tP, #[.str ("greatest_order" ++ ".<locals>." ++ "<lambda>") 0, rawInt ((3 : Nat) : Int), rawInt ((41 : Nat) : Int)]))
    (vC : PySem.W.codeHdIn K cdM tP = true)
    : ∃ fd : FuncData, (∀ (s : Shared) (v : Value), BindsTo s fd ⟨[v], []⟩ [("_law_script", v)]) ∧ ∀ base : Heap, K.In base → base.Ns mainGlobals mg → BmAt mg base → FnOk l.prog w K mg base CX0 4 fa fd ["_law_script"] (sp_law K) := by
  have e := hfa.symm.trans (PySem.W.mg_of X G aL)
  cases e
  have T : Txt K mg := ⟨PySem.W.mg_none_of X G z0, PySem.W.mg_none_of X G z1, PySem.W.mg_none_of X G z2, PySem.W.mg_none_of X G z3, PySem.W.mg_none_of X G z4, PySem.W.mg_none_of X G z5, PySem.W.mg_none_of X G z6, PySem.W.mg_none_of X G z7, PySem.W.mg_none_of X G z8, PySem.W.mg_none_of X G z9, PySem.W.mg_none_of X G z10⟩
  obtain ⟨f0, g0, D0⟩ := d0
  obtain ⟨f1, g1, D1⟩ := d1
  obtain ⟨f2, g2, D2⟩ := d2
  obtain ⟨f3, g3, D3⟩ := d3
  obtain ⟨f4, g4, D4⟩ := d4
  obtain ⟨f5, g5, D5⟩ := d5
  obtain ⟨f7, g7, D7⟩ := d7
  obtain ⟨f8, g8, D8⟩ := d8
  obtain ⟨f9, g9, D9⟩ := d9
  obtain ⟨f10, g10, D10⟩ := d10
  obtain ⟨f11, g11, D11⟩ := d11
  have D6 : DefAt K "greatest_order" s_greatest_order fM _ := ⟨vn, fun_mk (st := s_greatest_order) vl vc vk⟩
  have FL := fun_mk (st := s_law) lL cL kL
  refine ⟨PySem.W.fnOf "law" "law" (defArgs s_law) (defBody s_law) (defScope s_law) .none kV doc pm an cdv ct, fun s v => .of_eq rfl, fun base _ _ KB => ?_⟩
  have G_law_cell_at : Has l.prog w K mg base CX0 1 "_law_cell_at" ["_law_script", "_law_k"] (spM (KX K) XO0 m_law_cell_at) := D0.has X G (ok_law_cell_at D0.fn T  ) (D0.fn.binds fun _ _ _ _ _ _ us hl => match us, hl with | [_, _], _ => rfl)
  have G_law_number : Has l.prog w K mg base CX0 2 "_law_number" ["_law_script", "_law_k", "_law_top"] (spM (KX K) XO0 m_law_number) := D1.has X G (ok_law_number D1.fn T  G_law_cell_at) (D1.fn.binds fun _ _ _ _ _ _ us hl => match us, hl with | [_, _, _], _ => rfl)
  have G_law_works : Has l.prog w K mg base CX0 3 "_law_works" ["_law_script"] (spO (KX K) XO0 m_law_works) := D2.has X G (ok_law_works D2.fn T  G_law_cell_at G_law_number) (D2.fn.binds fun _ _ _ _ _ _ us hl => match us, hl with | [_], _ => rfl)
  have G_law_many : Has l.prog w K mg base CX0 2 "_law_many" ["_law_script"] (spM (KX K) XO0 m_law_many) := D3.has X G (ok_law_many D3.fn T  G_law_cell_at) (D3.fn.binds fun _ _ _ _ _ _ us hl => match us, hl with | [_], _ => rfl)
  have G_law_choice : Has l.prog w K mg base CX0 2 "_law_choice" ["_law_script", "_law_k", "_law_many_here"] (spM (KX K) XO0 m_law_choice) := D4.has X G (ok_law_choice D4.fn T  G_law_cell_at) (D4.fn.binds fun _ _ _ _ _ _ us hl => match us, hl with | [_, _, _], _ => rfl)
  have G_law_worst : Has l.prog w K mg base CX0 1 "_law_worst" ["_law_many_here", "_law_unit", "_law_turn"] (spO (KX K) XO0 m_law_worst) := D5.has X G (ok_law_worst D5.fn T  ) (D5.fn.binds fun _ _ _ _ _ _ us hl => match us, hl with | [_, _, _], _ => rfl)
  have G_greatest_order : Has l.prog w K mg base CX0 1 "greatest_order" ["sizes"] (spO (KX K) XO0 m_greatest_order) := D6.has X G (ok_greatest_order vl vc T vT vC KB ) (D6.fn.binds fun _ _ _ _ _ _ us hl => match us, hl with | [_], _ => rfl)
  have G_freest : Has l.prog w K mg base CX0 1 "freest" ["sums"] (spM (KX K) XO0 m_freest) := D7.has X G (ok_freest D7.fn T  ) (D7.fn.binds fun _ _ _ _ _ _ us hl => match us, hl with | [_], _ => rfl)
  have G_put_by : Has l.prog w K mg base CX0 2 "put_by" ["works", "many", "order"] (spO (KX K) XO0 m_put_by) := D8.has X G (ok_put_by D8.fn T  G_freest) (D8.fn.binds fun _ _ _ _ _ _ us hl => match us, hl with | [_, _, _], _ => rfl)
  have G_put_longest_first : Has l.prog w K mg base CX0 3 "put_longest_first" ["works", "many"] (spO (KX K) XO0 m_put_longest_first) := D9.has X G (ok_put_longest_first D9.fn T  G_greatest_order G_put_by) (D9.fn.binds fun _ _ _ _ _ _ us hl => match us, hl with | [_, _], _ => rfl)
  have G_law_is_putting : Has l.prog w K mg base CX0 1 "_law_is_putting" ["_law_found", "_law_works_here", "_law_many_here"] (spM (KX K) XO0 m_law_is_putting) := D10.has X G (ok_law_is_putting D10.fn T  ) (D10.fn.binds fun _ _ _ _ _ _ us hl => match us, hl with | [_, _, _], _ => rfl)
  have G_law_heaviest : Has l.prog w K mg base CX0 1 "_law_heaviest" ["_law_works_here", "_law_many_here", "_law_put"] (spM (KX K) XO0 m_law_heaviest) := D11.has X G (ok_law_heaviest D11.fn T  ) (D11.fn.binds fun _ _ _ _ _ _ us hl => match us, hl with | [_, _, _], _ => rfl)
  exact ok_law FL T G_law_cell_at G_law_number G_law_works G_law_many G_law_choice G_law_worst G_put_longest_first G_law_is_putting G_law_heaviest
theorem walk {l : PySem.W.OpenLaw} {q : Program} {loose : List Str} {XP : (Str → Option Value) → Heap → Prop} {YP : World → Heap → Prop} {d : DefRec} {K : Params → PySem.W.Frag} (hn : l.most = some 63) (hdf : d.params.defaults = [])
    (hY : ∀ (w : World) (h : Heap), YP w h → (K w.params).In h) {tP : Addr} (hY2 : ∀ (w : World) (h : Heap), YP w h → ∀ t ∈ [tP], h.get? t = some (PySem.W.tabObj #[])) (hT : ∀ w : World, tabChk (K w.params) tP = true)
    (F : ∀ (w : World) (mg : Str → Option Value) (fa : Addr) (h : Heap), (K w.params).In h → h.Ns mainGlobals mg → mg d.name = some (.ref fa) →
      ∃ fd : FuncData, (∀ (s : Shared) (u : Value), BindsTo s fd ⟨[u], []⟩ [("_law_script", u)]) ∧ ∀ base : Heap, (K w.params).In base → base.Ns mainGlobals mg → BmAt mg base → FnOk l.prog w (K w.params) mg base CX0 4 fa fd ["_law_script"] (sp_law (K w.params))) :
    PySem.W.WalkO q loose XP YP l.row.toRowW d [] (fun f vs => PySem.call f vs) :=
  L2.walk_ofT (n := 63) (k := 4) (x := "_law_script") (CX := fun _ => CX0) (sp := fun w => sp_law (K w.params)) hn (by decide) hdf ⟨rfl, by decide, by decide⟩ hY hY2 hT F (fun _ _ a ns hl hS => ⟨a, ns, rfl, hS, hl, fun _ => rfl⟩) fun _ _ _ _ _ z => z
end My
open PySem PySem.W PyProof.Rows
set_option maxRecDepth 100000 in
set_option maxHeartbeats 0 in
theorem PySem.Challenge.cw_goodenough_k27_whole_longest_first_and_a_holds : PySem.Challenge.rw_goodenough_k27_whole_longest_first_and_a.Holds := by
  w_on; o_law; k_head; (case hw => w_witness2)
  k_fill
  refine My.walk (l := PySem.Challenge.rw_goodenough_k27_whole_longest_first_and_a) rfl rfl (fun w h Y => by first | exact PySem.W.kIn_of Y | exact PySem.W.km_in_of Y) (fun w h Y => PySem.W.km_tabs_of Y) ?tab ?F
  (case tab => intro w; kernel_rfl)
  case F =>
    intro w mg fa h KX G hmg
    refine' My.all_mk KX G hmg (L2.defAt_mk ?a0 ?l0 ?c0 ?k0) (L2.defAt_mk ?a1 ?l1 ?c1 ?k1) (L2.defAt_mk ?a2 ?l2 ?c2 ?k2) (L2.defAt_mk ?a3 ?l3 ?c3 ?k3) (L2.defAt_mk ?a4 ?l4 ?c4 ?k4) (L2.defAt_mk ?a5 ?l5 ?c5 ?k5) (L2.defAt_mk ?a7 ?l7 ?c7 ?k7) (L2.defAt_mk ?a8 ?l8 ?c8 ?k8) (L2.defAt_mk ?a9 ?l9 ?c9 ?k9) (L2.defAt_mk ?a10 ?l10 ?c10 ?k10) (L2.defAt_mk ?a11 ?l11 ?c11 ?k11) ?aL ?lL ?cL ?kL ?z0 ?z1 ?z2 ?z3 ?z4 ?z5 ?z6 ?z7 ?z8 ?z9 ?z10 ?vn ?vl ?vc ?vk ?vv ?vt ?vT ?vC
    (case a0 => k_is); (case l0 => k_is); (case c0 => k_is); (case k0 => k_is)
    (case a1 => k_is); (case l1 => k_is); (case c1 => k_is); (case k1 => k_is)
    (case a2 => k_is); (case l2 => k_is); (case c2 => k_is); (case k2 => k_is)
    (case a3 => k_is); (case l3 => k_is); (case c3 => k_is); (case k3 => k_is)
    (case a4 => k_is); (case l4 => k_is); (case c4 => k_is); (case k4 => k_is)
    (case a5 => k_is); (case l5 => k_is); (case c5 => k_is); (case k5 => k_is)
    (case a7 => k_is); (case l7 => k_is); (case c7 => k_is); (case k7 => k_is)
    (case a8 => k_is); (case l8 => k_is); (case c8 => k_is); (case k8 => k_is)
    (case a9 => k_is); (case l9 => k_is); (case c9 => k_is); (case k9 => k_is)
    (case a10 => k_is); (case l10 => k_is); (case c10 => k_is); (case k10 => k_is)
    (case a11 => k_is); (case l11 => k_is); (case c11 => k_is); (case k11 => k_is)
    (case aL => k_is); (case lL => k_is); (case cL => k_is); (case kL => k_is)
    (case z0 => k_is)
    (case z1 => k_is)
    (case z2 => k_is)
    (case z3 => k_is)
    (case z4 => k_is)
    (case z5 => k_is)
    (case z6 => k_is)
    (case z7 => k_is)
    (case z8 => k_is)
    (case z9 => k_is)
    (case z10 => k_is)
    (case vn => k_is)
    (case vl => k_is)
    (case vc => k_is)
    (case vk => k_is)
    (case vv => k_is)
    (case vt => rfl)
    (case vT => kernel_rfl)
    (case vC => kernel_rfl)
#print axioms PySem.Challenge.cw_goodenough_k27_whole_longest_first_and_a_holds
