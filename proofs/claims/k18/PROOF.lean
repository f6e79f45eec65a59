import PyProof.Rows.All
import Wide.All
import OpenK.AllK
import Wide.FinOn
import Lean
import PyProof.EqAt
import PyProof.EqKinds
import PyProof.TupleCall
import PySem.Challenge.RW_goodenough_k18_walks
set_option Elab.async false
set_option linter.all false
set_option maxRecDepth 100000
set_option maxHeartbeats 4000000
noncomputable section
namespace L2
open PySem PySem.Spec PyProof.Rows
abbrev Key:=Sum Int Str
def zkl:Key→Value→Bool
  | .inl k,v=>Value.isInt k v
  | .inr x,v=>Value.isStrOf x v
def keyH (w:World):Key→Int
  | .inl k=>hashInt k
  | .inr x=>hashStr w x
theorem zbk:∀ {k:Key} {v:Value},zkl k v=true→(∃ i t,k=Sum.inl i∧v=Value.int i t)∨(∃ x t,k=Sum.inr x∧v=Value.str x t)
  | .inl i,v,h=>by
    obtain ⟨t,e⟩:=Value.isInt_shape (k:=i) (v:=v) h
    exact .inl ⟨i,t,rfl,e⟩
  | .inr x,v,h=>by
    obtain ⟨t,e⟩:=Value.isStrOf_shape (x:=x) (v:=v) h
    exact .inr ⟨x,t,rfl,e⟩
theorem zlw (i:Int) (t:Tok):zkl (.inl i) (.int i t)=true:=by simp [zkl,Value.isInt]
theorem zlG (x:Str) (t:Tok):zkl (.inr x) (.str x t)=true:=by simp [zkl,Value.isStrOf]
theorem zpO (a b:Int):decide ((Sum.inl a:Key)=Sum.inl b)=(a == b):=by
  by_cases e:a=b
  · subst e; simp
  · have h:¬ (Sum.inl a:Key)=Sum.inl b:=fun q=>e (Sum.inl.inj q)
    rw [decide_eq_false h]
    exact (beq_eq_false_iff_ne.mpr e).symm
theorem zqu (a b:Str):decide ((Sum.inr a:Key)=Sum.inr b)=decide (a=b):=by
  by_cases e:a=b
  · subst e; simp
  · have h:¬ (Sum.inr a:Key)=Sum.inr b:=fun q=>e (Sum.inr.inj q)
    rw [decide_eq_false h,decide_eq_false e]
theorem zqS (a:Int) (b:Str):decide ((Sum.inl a:Key)=Sum.inr b)=false:=decide_eq_false (fun q=>nomatch q)
theorem zqk (a:Str) (b:Int):decide ((Sum.inr a:Key)=Sum.inl b)=false:=decide_eq_false (fun q=>nomatch q)
def zbt (prog:Program) (w:World):PySem.KeyKind prog w Key where
  is:=zkl
  hash:=keyH w
  inj:=fun v a b ha hb=>by
    rcases zbk ha with ⟨i,t,rfl,rfl⟩ | ⟨x,t,rfl,rfl⟩
    · rcases zbk hb with ⟨j,u,rfl,e⟩ | ⟨y,u,rfl,e⟩
      · injection e with e1 _; rw [e1]
      · exact nomatch e
    · rcases zbk hb with ⟨j,u,rfl,e⟩ | ⟨y,u,rfl,e⟩
      · exact nomatch e
      · injection e with e1 _; rw [e1]
  byValue:=fun k v h=>by
    rcases zbk h with ⟨i,t,rfl,rfl⟩ | ⟨x,t,rfl,rfl⟩ <;> rfl
  pyHash:=fun hv h=>by
    rcases zbk hv with ⟨i,t,rfl,rfl⟩ | ⟨x,t,rfl,rfl⟩
    · exact wpAny_pyHash_int h
    · exact wpAny_pyHash_str h
  eqBool:=fun hu hv h=>by
    rcases zbk hu with ⟨i,t,rfl,rfl⟩ | ⟨x,t,rfl,rfl⟩
    · rcases zbk hv with ⟨j,u,rfl,rfl⟩ | ⟨y,u,rfl,rfl⟩
      · rw [zpO] at h; exact wpAny_eqBool_int h
      · rw [zqS] at h; exact SeqAt.EqAt.int_str i t y u _ _ _ _ h
    · rcases zbk hv with ⟨j,u,rfl,rfl⟩ | ⟨y,u,rfl,rfl⟩
      · rw [zqk] at h; exact SeqAt.EqAt.str_int x t j u _ _ _ _ h
      · rw [zqu] at h; exact wpAny_eqBool_str h
  «strs»:=fun k x t v h=>by
    rcases zbk h with ⟨i,u,rfl,e⟩ | ⟨y,u,rfl,e⟩
    · exact nomatch e
    · injection e with e1 _
      subst e1
      cases v <;> rfl
theorem zjt (prog:Program) (w:World) (i:Int) (t:Tok):(zbt prog w).is (.inl i) (.int i t)=true:=zlw i t
theorem zi2 (prog:Program) (w:World) (x:Str) (t:Tok):(zbt prog w).is (.inr x) (.str x t)=true:=zlG x t
end L2
namespace L2
open PySem PySem.Spec PyProof.Rows
inductive V where
  | non | bl (b:Bool) | int (i:Int) | str (x:Str) | byt (b:Array UInt8) | flt (b:UInt64) | ref (a:Addr) | ty (n:String)
  deriving DecidableEq
def RelV:V→Value→Prop
  | .non,u=>u=Value.none
  | .bl b,u=>u=Value.bool b
  | .int i,u=>∃ t,u=Value.int i t
  | .str x,u=>∃ t,u=Value.str x t
  | .byt b,u=>∃ t,u=Value.bytes b t
  | .flt b,u=>∃ t,u=Value.float b t
  | .ref a,u=>u=Value.ref a
  | .ty n,u=>u=Value.type n
abbrev Vals:List V→List Value→Prop:=Paired RelV
theorem Vals.length {xs:List V} {us:List Value} (r:Vals xs us):xs.length=us.length:=Paired.length r
theorem Vals.get:∀ {xs:List V} {us:List Value} {i:Nat} {x:V},Vals xs us→xs[i]?=some x→∃ u,us[i]?=some u∧RelV x u
  | _,_,_,_,.nil,e=>by simp at e
  | _,_,0,_,.cons r _,e=>by simp at e; subst e; exact ⟨_,rfl,r⟩
  | _,_,i + 1,x,.cons _ t,e=>by
    obtain ⟨u,h1,h2⟩:=Vals.get (i:=i) (x:=x) t (by simpa using e)
    exact ⟨u,by simpa using h1,h2⟩
theorem Vals.set {x:V} {u:Value} (r:RelV x u):∀ {xs:List V} {us:List Value} (i:Nat),Vals xs us→Vals (xs.set i x) (us.set i u)
  | _,_,_,.nil=>.nil
  | _,_,0,.cons _ t=>.cons r t
  | _,_,i + 1,.cons q t=>.cons q (Vals.set r i t)
theorem Vals.append:∀ {xs ys:List V} {us ws:List Value},Vals xs us→Vals ys ws→Vals (xs ++ ys) (us ++ ws)
  | _,_,_,_,.nil,s=>s
  | _,_,_,_,.cons r t,s=>.cons r (Vals.append t s)
theorem Vals.take:∀ {xs:List V} {us:List Value} (n:Nat),Vals xs us→Vals (xs.take n) (us.take n)
  | _,_,0,_=>.nil
  | _,_,_ + 1,.nil=>.nil
  | _,_,n + 1,.cons r t=>.cons r (Vals.take n t)
theorem Vals.drop:∀ {xs:List V} {us:List Value} (n:Nat),Vals xs us→Vals (xs.drop n) (us.drop n)
  | _,_,0,r=>r
  | _,_,_ + 1,.nil=>.nil
  | _,_,n + 1,.cons _ t=>Vals.drop n t
def RelO:Option V→Option Value→Prop
  | some v,some u=>RelV v u
  | none,none=>True
  | _,_=>False
def KV {κ:Type}:List (κ × V)→List (κ × Value)→Prop:=Paired fun (p:κ × V) (q:κ × Value)=>p.1=q.1∧RelV p.2 q.2
def kV:Key→V
  | .inl i=>.int i
  | .inr x=>.str x
inductive HO where
  | lst (xs:List V)
  | tup (xs:List V)
  | dK (kvs:List (Key × V)) | dT (kvs:List (List Key × V))
  | set (S:Int→Bool) (n:Nat)
  | ins (C dx:Addr) (fs:List (Str × V))
  | own (x:Addr)
  | xd (fs:List (Str × V))
  | met (f x:Addr)
  | rng (lo hi:Int)
  | frz (o:Obj) (u:HO)
  | tbl (ps:Array Value)
  | ext (φ:Heap→Prop)
abbrev Hp:=Addr→Option HO
def upd (H:Hp) (a:Addr) (o:HO):Hp:=fun b=>if b=a then some o else H b
theorem zaj {H:Hp} {a:Addr} {o:HO}:upd H a o a=some o:=by unfold upd; rw [if_pos rfl]
theorem zai {H:Hp} {a b:Addr} {o:HO} (h:b ≠ a):upd H a o b=H b:=by unfold upd; rw [if_neg h]
theorem zpC {H:Hp} {a:Addr} {o u:HO}:upd (upd H a o) a u=upd H a u:=by
  funext b; unfold upd; split <;> rfl
theorem zqR {H:Hp} {a b:Addr} {o u:HO} (h:H a=some o) (h':H b=some u) (d:o ≠ u):a ≠ b:=by
  intro e; subst e; rw [h] at h'; exact d (Option.some.inj h')
theorem zaq {H:Hp} {a b:Addr} {o:HO} (h:H a=some o) (h':H b=none):a ≠ b:=by
  intro e; subst e; rw [h] at h'; cases h'
def zpW (fd:FuncData):Option Pos :=
  match fd.body with
  | .stmts [.Return (some (.Call _ _ [⟨_,.Lambda _ _ _ pos,_⟩] _)) _]=>some pos
  | _=>none
def tabAt (K:PySem.W.Frag) (v:Value):Option Addr :=
  match v with
  | .ref c=>match K.lookup c with
    | some o=>match o.data with
      | .fields vs=>match (vs[11]?:Option Value) with
        | some (.ref P)=>some P
        | _=>none
      | _=>none
    | _=>none
  | _=>none
def tabOf (K:PySem.W.Frag):Option (Addr × Array Value) :=
  K.findSome? fun p=>match p.2.data with
    | .func fd=>match zpW fd with
      | some pos=>(tabAt K fd.code).map fun P=>(P,#[.str (fd.qualname ++ ".<locals>." ++ "<lambda>") 0,rawInt pos.line,rawInt pos.col])
      | none=>none
    | _=>none
def TblOk (H:Hp) (h:Heap) (a:Addr) (ps:Array Value):Prop :=
  ∃ (q:Str) (t:Tok) (ln cl:Int) (more:List Value) (real:Array Value),ps.toList = .str q t :: rawInt ln :: rawInt cl :: more∧h.get? a=some { cls:=.none,data:=.fields real } ∧
    (real = #[]∨∃ (c:Addr) (o:Obj) (vs:Array Value) (u:Tok),real = #[rawInt ln,rawInt cl,.ref c]∧H c=some (.own a)∧h.get? c=some o∧o.data = .fields vs∧vs[1]?=some (.str q u))
theorem TblOk.lt {H:Hp} {h:Heap} {a:Addr} {ps:Array Value} (x:TblOk H h a ps):a < h.objs.size:=by
  obtain ⟨_,_,_,_,_,_,_,e,_⟩:=x
  exact Heap.lt_size e
theorem TblOk.stay {H H':Hp} {h h':Heap} {a:Addr} {ps:Array Value} (x:TblOk H h a ps) (k:∀ b u,(b=a∨H b=some (.own a))→h.get? b=some u→h'.get? b=some u)
    (ho:∀ b,H b=some (.own a)→H' b=some (.own a)):TblOk H' h' a ps:=by
  obtain ⟨q,t,ln,cl,more,real,e1,e2,e3⟩:=x
  refine ⟨q,t,ln,cl,more,real,e1,k _ _ (.inl rfl) e2,?_⟩
  rcases e3 with e3 | ⟨c,o,vs,u,r1,r2,r3,r4⟩
  · exact .inl e3
  · exact .inr ⟨c,o,vs,u,r1,ho _ r2,k _ _ (.inr r2) r3,r4⟩
def TbAt (K:PySem.W.Frag) (H:Hp):Prop:=∀ t,tabOf K=some t→∃ more,H t.1=some (.tbl (t.2 ++ more))
theorem TbAt.none {K:PySem.W.Frag} {H:Hp} (h:tabOf K = .none):TbAt K H:=fun t e=>by rw [h] at e; cases e
theorem TbAt.grown {K:PySem.W.Frag} {H H':Hp} (x:TbAt K H) (g:∀ b ps,H b=some (.tbl ps)→∃ more,H' b=some (.tbl (ps ++ more))):TbAt K H':=fun t e=>by
  obtain ⟨m1,e1⟩:=x t e
  obtain ⟨m2,e2⟩:=g _ _ e1
  exact ⟨m1 ++ m2,by rw [e2,Array.append_assoc]⟩
section
variable (P:Program) (w:World)
def ObjOk (H:Hp) (h:Heap) (a:Addr):HO→Prop
  | .lst xs=>xs.length ≤ sizeLine∧∃ (its:List Value) (n:Nat),Vals xs its∧h.get? a=some { cls:=.type "list",data:=.seq its.toArray n }
  | .tup xs=>xs.length ≤ sizeLine∧∃ its:List Value,Vals xs its∧IsTup h a its.toArray
  | .dK kvs=>kvs.length ≤ sizeLine∧(a == sysModules)=false∧∃ vs,KV kvs vs∧h.DictOf (zbt P w) a vs
  | .dT kvs=>kvs.length ≤ sizeLine∧(a == sysModules)=false∧∃ xs:List (List Key × Addr × Value),
      Paired (fun (p:List Key × V) (q:List Key × Addr × Value)=>p.1=q.1∧H q.2.1=some (.tup (p.1.map kV))∧RelV p.2 q.2.2) kvs xs ∧
      ∃ o es ep,h.get? a=some o∧o.ExactDict∧o.data = .dict es ep∧es.toList=xs.map (entryOfKey (tupleKind (zbt P w)))∧(xs.map (·.1)).Nodup
  | .set S n=>h.SetOf (intKind P w) a S n
  | .ins C dx fs=>H dx=some (.own a)∧fs.length ≤ 1000∧dx ≠ a∧h.get? a=some (PySem.W.instObj C dx) ∧
      ∃ mA,h.Ns1 dx mA∧(∀ f,RelO (fs.lookup f) (mA f))∧PySem.Within mA (fs.map (·.1))
  | .own _=>∃ o,h.get? a=some o
  | .xd fs=>∃ mA,h.Ns1 a mA∧∀ f,RelO (fs.lookup f) (mA f)
  | .rng lo hi=>∃ t u v,h.get? a=some { cls:=.type "range",data:=.fields #[.int lo t,.int hi u,.int 1 v] }
  | .frz o u=>h.get? a=some o∧ObjOk H h a u
  | .tbl ps=>TblOk H h a ps
  | .met f x=>h.get? a=some (PySem.W.methodObj (.ref f) (.ref x))
  | .ext φ=>φ h∧(∃ o,h.get? a=some o)∧∀ h1 h2:Heap,φ h1→(∀ o,h1.get? a=some o→h2.get? a=some o)→φ h2
def HOk (H:Hp) (h:Heap):Prop:=∀ a o,H a=some o→ObjOk P w H h a o
end
section
variable {P:Program} {w:World} {H H':Hp} {h h':Heap} {a:Addr} {o:HO}
theorem ObjOk.lt (x:ObjOk P w H h a o):a < h.objs.size:=by
  cases o with
  | lst xs=>obtain ⟨_,_,_,_,e⟩:=x; exact Heap.lt_size e
  | tup xs=>obtain ⟨_,_,_,p⟩:=x; exact p.lt
  | dK kvs=>obtain ⟨_,_,_,_,o,_,_,e,_⟩:=x; exact Heap.lt_size e
  | dT kvs=>obtain ⟨_,_,_,_,o,_,_,e,_⟩:=x; exact Heap.lt_size e
  | set S n=>obtain ⟨o,_,_,_,e,_⟩:=x; exact Heap.lt_size e
  | ins C dx fs=>obtain ⟨_,_,_,e,_⟩:=x; exact Heap.lt_size e
  | own y=>obtain ⟨_,e⟩:=x; exact Heap.lt_size e
  | xd fs=>obtain ⟨_,⟨_,_,_,e,_⟩,_⟩:=x; exact Heap.lt_size e
  | rng lo hi=>obtain ⟨_,_,_,e⟩:=x; exact Heap.lt_size e
  | frz ob u=>obtain ⟨e,_⟩:=x; exact Heap.lt_size e
  | tbl ps=>exact TblOk.lt x
  | met f y=>exact Heap.lt_size (show h.get? a=some _ from x)
  | ext φ=>obtain ⟨_,⟨_,e⟩,_⟩:=x; exact Heap.lt_size e
theorem Paired.mapP {α β:Type} {F G:α→β→Prop}:∀ {l₁:List α} {l₂:List β},Paired F l₁ l₂→(∀ a b,F a b→G a b)→Paired G l₁ l₂
  | _,_,.nil,_=>.nil
  | _,_,.cons r t,f=>.cons (f _ _ r) (Paired.mapP t f)
theorem ObjOk.stay (x:ObjOk P w H h a o) (k:∀ b u,(b=a∨H b=some (.own a))→h.get? b=some u→h'.get? b=some u)
    (ho:∀ b,H b=some (.own a)→H' b=some (.own a)) (ht:∀ b xs,H b=some (.tup xs)→H' b=some (.tup xs)):ObjOk P w H' h' a o:=by
  induction o with
  | lst xs=>obtain ⟨z,its,n,r,e⟩:=x; exact ⟨z,its,n,r,k _ _ (.inl rfl) e⟩
  | tup xs=>obtain ⟨z,its,r,ob,e,c⟩:=x; exact ⟨z,its,r,ob,k _ _ (.inl rfl) e,c⟩
  | dK kvs=>obtain ⟨z,y,vs,r,ob,es,ep,e,c⟩:=x; exact ⟨z,y,vs,r,ob,es,ep,k _ _ (.inl rfl) e,c⟩
  | dT kvs =>
    obtain ⟨z,y,xs,r,ob,es,ep,e,c⟩:=x
    exact ⟨z,y,xs,Paired.mapP r fun p q z=>⟨z.1,ht _ _ z.2.1,z.2.2⟩,ob,es,ep,k _ _ (.inl rfl) e,c⟩
  | set S n=>obtain ⟨ob,es,ep,t,e,c⟩:=x; exact ⟨ob,es,ep,t,k _ _ (.inl rfl) e,c⟩
  | ins C dx fs =>
    obtain ⟨d,z,ne,e,mA,⟨od,es,ep,e2,c⟩,r⟩:=x
    exact ⟨ho _ d,z,ne,k _ _ (.inl rfl) e,mA,⟨od,es,ep,k _ _ (.inr d) e2,c⟩,r⟩
  | own y=>obtain ⟨ob,e⟩:=x; exact ⟨ob,k _ _ (.inl rfl) e⟩
  | xd fs=>obtain ⟨mA,⟨od,es,ep,e,c⟩,r⟩:=x; exact ⟨mA,⟨od,es,ep,k _ _ (.inl rfl) e,c⟩,r⟩
  | rng lo hi=>obtain ⟨t,u,v,e⟩:=x; exact ⟨t,u,v,k _ _ (.inl rfl) e⟩
  | frz ob u ih=>obtain ⟨e,q⟩:=x; exact ⟨k _ _ (.inl rfl) e,ih q⟩
  | tbl ps=>exact TblOk.stay x k ho
  | met f y =>
    have e:h.get? a=some (PySem.W.methodObj (.ref f) (.ref y)):=x
    show h'.get? a=some (PySem.W.methodObj (.ref f) (.ref y))
    exact k a _ (.inl rfl) e
  | ext φ=>obtain ⟨p,⟨o,e⟩,st⟩:=x; exact ⟨st _ _ p fun o q=>k _ _ (.inl rfl) q,⟨o,k _ _ (.inl rfl) e⟩,st⟩
theorem HOk.lt (x:HOk P w H h) (e:H a=some o):a < h.objs.size:=(x a o e).lt
theorem HOk.fresh (x:HOk P w H h) (e:h.objs.size ≤ a):H a=none:=by
  cases q:H a with
  | none=>rfl
  | some u=>exact absurd (Nat.lt_of_lt_of_le (x.lt q) e) (Nat.lt_irrefl _)
theorem HOk.kept (x:HOk P w H h) (k:∀ b u,h.get? b=some u→h'.get? b=some u):HOk P w H h':=fun a o e =>
  (x a o e).stay (fun b u _ q=>k b u q) (fun _ q=>q) fun _ _ q=>q
theorem HOk.laid (x:HOk P w H h) (k:∀ b u,h.get? b=some u→h'.get? b=some u) (hp:h.objs.size ≤ a) (new:ObjOk P w (upd H a o) h' a o):HOk P w (upd H a o) h':=fun b u e=>by
  have hn:=x.fresh hp
  by_cases hb:b=a
  · subst hb; rw [zaj] at e; cases e; exact new
  · rw [zai hb] at e
    exact (x b u e).stay (fun c v _ q=>k c v q) (fun c q=>by rw [zai (zaq q hn)]; exact q) fun c xs q=>by rw [zai (zaq q hn)]; exact q
end
def Rd (H:Hp) (a:Addr) (u:HO):Prop:=H a=some u∨∃ o,H a=some (.frz o u)
theorem Rd.ok {P:Program} {w:World} {H:Hp} {h:Heap} {a:Addr} {u:HO} (r:Rd H a u) (x:HOk P w H h):ObjOk P w H h a u:=by
  rcases r with r | ⟨o,r⟩
  · exact x a u r
  · obtain ⟨_,q⟩:=x a _ r
    exact q
def Mut:Option HO→Prop
  | some (.lst _)=>True
  | some (.dK _)=>True
  | some (.dT _)=>True
  | some (.set _ _)=>True
  | some (.ins _ _ _)=>True
  | some (.ext _)=>True
  | _=>False
section
variable {P:Program} {w:World} {H:Hp} {h h':Heap} {x e:Addr} {o':HO}
theorem HOk.write (ok:HOk P w H h) (mu:Mut (H x)) (he:e=x∨H e=some (.own x)) (k:∀ b u,b ≠ e→h.get? b=some u→h'.get? b=some u) (heo:∃ u,h'.get? e=some u)
    (new:ObjOk P w (upd H x o') h' x o'):HOk P w (upd H x o') h':=fun b u q=>by
  have nown:∀ c y,H c=some (.own y)→c ≠ x:=fun c y r z=>by subst z; rw [r] at mu; exact mu
  have ntup:∀ c xs,H c=some (.tup xs)→c ≠ x:=fun c xs r z=>by subst z; rw [r] at mu; exact mu
  by_cases hb:b=x
  · subst hb; rw [zaj] at q; cases q; exact new
  · rw [zai hb] at q
    by_cases hbe:b=e
    · have q':H b=some (.own x):=by
        rcases he with z | z
        · exact absurd (hbe.trans z) hb
        · rw [hbe]; exact z
      rw [q] at q'; cases q'
      obtain ⟨v,hv⟩:=heo
      exact ⟨v,by rw [hbe]; exact hv⟩
    · refine (ok b u q).stay (fun c v hc r=>k c v ?_ r) (fun c r=>by rw [zai (nown c b r)]; exact r) fun c xs r=>by rw [zai (ntup c xs r)]; exact r
      rcases hc with rfl | hc
      · exact hbe
      · rintro rfl
        rcases he with z | z
        · exact nown c b hc z
        · rw [hc] at z; cases z; exact hb rfl
end
structure Un (fs ex:List Addr) (H H':Hp) (h h':Heap):Prop where
  keep:∀ b o,h.get? b=some o→H b=none→b ∉ fs→b ∉ ex→h'.get? b=some o
  slot:∀ b o,h.get? b=some o→H b=none→b ∈ fs→b ∉ ex→∃ sl,h'.get? b=some { o with slots:=sl }
  free:∀ b o,h.get? b=some o→H b=none→b ∉ ex→H' b=none
  there:∀ b o,h.get? b=some o→b ∉ ex→∃ o',h'.get? b=some o'
  tups:∀ b xs,H b=some (.tup xs)→H' b=some (.tup xs)
  frzs:∀ b o u,H b=some (.frz o u)→H' b=some (.frz o u)
  tbls:∀ b ps,H b=some (.tbl ps)→∃ more,H' b=some (.tbl (ps ++ more))
section
variable {fs fs' ex ex':List Addr} {H H1 H2:Hp} {h h1 h2 h':Heap} {a x e:Addr} {o:HO}
theorem Un.any (u:Un fs ex H H1 h h1) {b:Addr} {ob:Obj} (q:h.get? b=some ob) (n:H b=none) (hx:b ∉ ex):∃ sl,h1.get? b=some { ob with slots:=sl }:=by
  by_cases hb:b ∈ fs
  · exact u.slot b ob q n hb hx
  · exact ⟨ob.slots,u.keep b ob q n hb hx⟩
theorem Un.kept (k:∀ b u,h.get? b=some u→h'.get? b=some u):Un fs ex H H h h' :=
  ⟨fun b ob q _ _ _=>k b ob q,fun b ob q _ _ _=>⟨ob.slots,k b ob q⟩,fun _ _ _ n _=>n,fun b ob q _=>⟨ob,k b ob q⟩,fun _ _ q=>q,fun _ _ _ q=>q,fun _ ps q=>⟨#[],by rw [q]; simp⟩⟩
theorem Un.refl:Un fs ex H H h h:=Un.kept fun _ _ q=>q
theorem Un.laid (k:∀ b u,h.get? b=some u→h'.get? b=some u) (hp:h.objs.size ≤ a) (hn:H a=none):Un fs ex H (upd H a o) h h' where
  keep:=fun b u q _ _ _=>k b u q
  slot:=fun b u q _ _ _=>⟨u.slots,k b u q⟩
  free:=fun b u q n _=>by rw [zai (Nat.ne_of_lt (Nat.lt_of_lt_of_le (Heap.lt_size q) hp))]; exact n
  there:=fun b u q _=>⟨u,k b u q⟩
  tups:=fun b xs q=>by rw [zai (zaq q hn)]; exact q
  frzs:=fun b u xs q=>by rw [zai (zaq q hn)]; exact q
  tbls:=fun b ps q=>⟨#[],by rw [zai (zaq q hn),q]; simp⟩
theorem Un.write (mu:Mut (H x)) (he:e=x∨H e=some (.own x)) (k:∀ b u,b ≠ e→h.get? b=some u→h'.get? b=some u) (heo:∃ u,h'.get? e=some u):Un fs ex H (upd H x o) h h':=by
  have hx:∀ b,H b=none→b ≠ x:=fun b n z=>by subst z; rw [n] at mu; exact mu
  have hb:∀ b,H b=none→b ≠ e:=fun b n z=>by
    subst z
    rcases he with r | r
    · exact hx b n r
    · rw [n] at r; cases r
  have hm:∀ b u,H b=some u→¬ Mut (some u)→b ≠ x:=fun b u q nm z=>by subst z; rw [q] at mu; exact nm mu
  refine ⟨fun b u q n _ _=>k b u (hb b n) q,fun b u q n _ _=>⟨u.slots,k b u (hb b n) q⟩,fun b u q n _=>by rw [zai (hx b n)]; exact n,fun b u q _=>?_,
    fun b xs q=>by rw [zai (hm b _ q fun z=>z)]; exact q,fun b u xs q=>by rw [zai (hm b _ q fun z=>z)]; exact q,fun b ps q=>⟨#[],by rw [zai (hm b _ q fun z=>z),q]; simp⟩⟩
  by_cases hbe:b=e
  · subst hbe; exact heo
  · exact ⟨u,k b u hbe q⟩
end
def trk (h:Heap) (H:Hp):List Addr:=(List.range h.objs.size).filter fun a=>(H a).isSome
def hidT (h:Heap) (H:Hp):Heap:=PySem.W.hideAll h (trk h H)
theorem zmC (h:Heap) (H:Hp):(hidT h H).objs.size=h.objs.size:=PySem.W.hideAll_size _ _
theorem znV {h:Heap} {H:Hp} {b:Addr} {o:Obj} (e:h.get? b=some o) (n:H b=none):(hidT h H).get? b=some o :=
  PySem.W.hideAll_get _ e fun hm=>by
    have q:(H b).isSome=true:=(List.mem_filter.mp hm).2
    rw [n] at q; simp at q
theorem zoF {h:Heap} {H:Hp} {b:Addr} {o:Obj} (e:(hidT h H).get? b=some o):h.get? b=some o∧H b=none:=by
  have e':h.get? b=some o:=PySem.W.of_hideAll (trk h H) e
  refine ⟨e',?_⟩
  cases q:H b with
  | none=>rfl
  | some x =>
    have hm:b ∈ trk h H:=List.mem_filter.mpr ⟨List.mem_range.mpr (Heap.lt_size e'),by simp [q]⟩
    have z:(hidT h H).get? b=none:=PySem.W.hideAll_none (trk h H) hm
    rw [z] at e; cases e
def zrl (g h:Heap) (L:Addr):List (Addr × Obj):=(List.range h.objs.size).filterMap fun a=>if a=L∨(g.get? a).isSome=true then none else (h.get? a).map fun o=>(a,o)
end L2
namespace L2
open PySem PySem.Spec PyProof.Rows
structure Mod (K:PySem.W.Frag) (mg:Str→Option Value) (base:Heap):Prop where
  kin:K.In base
  glob:base.Ns mainGlobals mg
  blt:∃ mb,base.Ns builtinsNs mb∧∀ x:Str,x ≠ "__name__"→mb x=bootBuiltins x
  nolimit:base.NoLimit
structure Cx where
  prog:Program
  w:World
  K:PySem.W.Frag
  mg:Str→Option Value
  base:Heap
  A:Around
  N:List Str
  s₀:Shared
  H₀:Hp
  env:Env
  outer:List Env
  stack:List Env
  ex:List Addr
  fn:Str→Bool
  calm:Bool
  pn:List (Addr × Obj)
  xe:Value→Shared→Prop
def frs (l:List Env):List Addr:=l.filterMap (·.frame)
abbrev Cx.fs (X:Cx):List Addr:=frs X.outer
def Vis (sc:Scope) (x:Str):Prop:=sc.names.lookup x=some .local∨sc.names.lookup x=some .cell∨sc.names.lookup x=some .free
def Loc (sc:Scope) (x:Str):Prop:=sc.names.lookup x=some .local∨sc.names.lookup x=some .cell
def Look (env:Env) (h:Heap) (m:Str→Option Value) (x:Str) (u:Value):Prop :=
  (env.kindOf x=some .local∧m x=some u)∨((env.kindOf x=some .cell∨env.kindOf x=some .free)∧∃ c,env.cells.lookup x=some c∧h.IsCell c (some u))
structure Cx.Ok (X:Cx):Prop where
  mod:Mod X.K X.mg X.base
  kind:X.env.scope.kind = .function
  glob:X.env.globals=mainGlobals
  blt:X.env.builtins=builtinsNs
  above:X.s₀.heap.objs.size ≤ X.env.locals
  inj:∀ x y c,X.env.cells.lookup x=some c→X.env.cells.lookup y=some c→x=y
  has:∀ x,(X.env.kindOf x=some .cell∨X.env.kindOf x=some .free)→∃ c,X.env.cells.lookup x=some c
  cab:∀ x c,X.fn x=true→X.env.cells.lookup x=some c→X.s₀.heap.objs.size ≤ c
  hd:X.calm=true→X.A.handled=none
  frames:X.A.frames=some X.stack
  stk:X.stack=X.outer∨(X.stack=X.env :: X.outer∧X.env.frame=some X.env.locals)
  exf:∀ b ∈ X.ex,b ≠ X.env.locals∧∀ x c,X.env.cells.lookup x=some c→c ≠ b
  bs:∀ b o,X.base.get? b=some o→X.s₀.heap.get? b=some o∧X.H₀ b=none
  bsz:X.base.objs.size ≤ X.s₀.heap.objs.size
  noex:∀ b o,X.base.get? b=some o→b ∉ X.ex
  exfs:∀ b ∈ X.ex,b ∉ X.fs
  funs:X.s₀.heap.FunFrames X.base X.outer
  frf:∀ b ∈ X.fs,X.H₀ b=none
  tb:TbAt X.K X.H₀
structure Inv (X:Cx) (pins:List (Addr × Obj)) (σ:List (Option V)) (H:Hp) (s:Shared):Prop where
  ok:X.Ok
  os:s.os=X.s₀.os
  bare:AllBare s.gens
  base:Un X.fs X.ex X.H₀ H X.s₀.heap s.heap
  loc:∃ m,s.heap.Ns X.env.locals m∧∀ (i:Nat) (x:Str) (v:V),X.N[i]?=some x→σ[i]?=some (some v)→Vis X.env.scope x→∃ u,RelV v u∧Look X.env s.heap m x u
  cell:∀ x c,X.env.cells.lookup x=some c→∃ v,s.heap.IsCell c v
  free:H X.env.locals=none
  freeC:∀ x c,X.env.cells.lookup x=some c→H c=none
  pin:∀ p ∈ X.pn ++ pins,s.heap.get? p.1=some p.2∧H p.1=none∧p.1 ≠ X.env.locals∧p.1 ∉ X.fs∧∀ v,p.2.data ≠ .cell v
  hok:HOk X.prog X.w H s.heap
  len:σ.length=X.N.length
section
variable {X:Cx} {pins:List (Addr × Obj)} {σ:List (Option V)} {H H':Hp} {s:Shared} {h':Heap}
theorem Cx.Ok.nofr (ok:X.Ok) {b:Addr} {o:Obj} (e:X.base.get? b=some o):b ∉ X.fs:=fun hb=>by
  have:=(ok.funs.mem hb).1
  rw [e] at this; cases this
theorem Inv.bs (I:Inv X pins σ H s):∀ b o,X.base.get? b=some o→s.heap.get? b=some o∧H b=none:=fun b o e =>
  ⟨I.base.keep b o (I.ok.bs b o e).1 (I.ok.bs b o e).2 (I.ok.nofr e) (I.ok.noex b o e),I.base.free b o (I.ok.bs b o e).1 (I.ok.bs b o e).2 (I.ok.noex b o e)⟩
theorem Inv.bk (I:Inv X pins σ H s):∀ b o,X.base.get? b=some o→s.heap.get? b=some o:=fun b o e=>(I.bs b o e).1
theorem Inv.mod (I:Inv X pins σ H s):Mod X.K X.mg X.base:=I.ok.mod
theorem Inv.kIn (I:Inv X pins σ H s):X.K.In s.heap:=I.ok.mod.kin.keeps I.bk
theorem Inv.lt (I:Inv X pins σ H s):X.env.locals < s.heap.objs.size:=let ⟨_,hn,_⟩:=I.loc; hn.lt
theorem Inv.sz (I:Inv X pins σ H s):X.s₀.heap.objs.size ≤ s.heap.objs.size:=Nat.le_trans I.ok.above (Nat.le_of_lt I.lt)
theorem Inv.nofs (I:Inv X pins σ H s) {a:Addr} (h:s.heap.objs.size ≤ a):a ∉ X.fs:=fun hb=>by
  obtain ⟨_,o,ho,_⟩:=I.ok.funs.mem hb
  exact absurd (Nat.lt_of_lt_of_le (Heap.lt_size ho) (Nat.le_trans I.sz h)) (Nat.lt_irrefl _)
theorem Inv.cne (I:Inv X pins σ H s):∀ x c,X.env.cells.lookup x=some c→c ≠ X.env.locals:=fun x c e z=>by
  obtain ⟨v,o,ho,hd⟩:=I.cell x c e
  obtain ⟨m,⟨o',es,ep,ho',hd',_⟩,_⟩:=I.loc
  rw [z,ho'] at ho; cases ho; rw [hd'] at hd; cases hd
theorem Inv.funs (I:Inv X pins σ H s):s.heap.FunFrames X.base X.outer:=by
  have all:∀ (l:List Env),(∀ b ∈ frs l,b ∈ X.fs)→X.s₀.heap.FunFrames X.base l→s.heap.FunFrames X.base l:=by
    intro l
    induction l with
    | nil=>intro _ _; trivial
    | cons env r ih =>
      intro hs hl
      obtain ⟨hk,⟨L,o,hf,hn,ho,hd⟩,hr⟩:=hl
      have hL:L ∈ X.fs:=hs L (by unfold frs; rw [List.filterMap_cons,hf]; exact List.mem_cons_self)
      obtain ⟨sl,e⟩:=I.base.slot L o ho (I.ok.frf L hL) hL fun z=>I.ok.exfs L z hL
      exact ⟨hk,⟨L,_,hf,hn,e,hd⟩,ih (fun b hb=>hs b (by unfold frs; rw [List.filterMap_cons,hf]; exact List.mem_cons_of_mem _ hb)) hr⟩
  exact all X.outer (fun _ hb=>hb) I.ok.funs
theorem Inv.stack (I:Inv X pins σ H s):s.heap.FunFrames X.base X.stack:=by
  rcases I.ok.stk with e | ⟨e,hf⟩
  · rw [e]; exact I.funs
  · rw [e]
    obtain ⟨m,hn,_⟩:=I.loc
    refine .cons (by rw [I.ok.kind]; decide) hf hn ?_ I.funs
    exact Heap.get?_none_of_le (Nat.le_trans I.ok.bsz I.ok.above)
theorem Inv.stkSub (I:Inv X pins σ H s):∀ b ∈ frs X.stack,b ∈ X.env.locals :: X.fs:=fun b hb=>by
  rcases I.ok.stk with e | ⟨e,hf⟩
  · rw [e] at hb; exact List.mem_cons_of_mem _ hb
  · rw [e] at hb
    unfold frs at hb
    rw [List.filterMap_cons,hf] at hb
    exact hb
theorem Inv.stkFree (I:Inv X pins σ H s):∀ b ∈ frs X.stack,H b=none:=fun b hb=>by
  rcases List.mem_cons.mp (I.stkSub b hb) with e | hb
  · rw [e]; exact I.free
  · obtain ⟨_,o,ho,_⟩:=I.ok.funs.mem hb
    exact I.base.free b o ho (I.ok.frf b hb) fun z=>I.ok.exfs b z hb
theorem Inv.step {g':Array GenState} {t':Nat} {d':Drawn} {ch:List Addr} (I:Inv X pins σ H s)
    (hch:∀ b ∈ ch,(b ∈ X.ex∨X.s₀.heap.objs.size ≤ b)∧b ≠ X.env.locals∧(∀ x c,X.env.cells.lookup x=some c→c ≠ b)∧∀ p ∈ X.pn ++ pins,p.1 ≠ b)
    (keep:∀ b o,b ≠ X.env.locals→b ∉ X.fs→b ∉ ch→s.heap.get? b=some o→H b=none→h'.get? b=some o)
    (slot:∀ b o,b ≠ X.env.locals→b ∈ X.fs→b ∉ ch→s.heap.get? b=some o→H b=none→∃ sl,h'.get? b=some { o with slots:=sl }) (free:∀ b o,b ∉ ch→s.heap.get? b=some o→H b=none→H' b=none)
    (there:∀ b o,b ∉ ch→s.heap.get? b=some o→∃ o',h'.get? b=some o')
    (tups:∀ b xs,H b=some (.tup xs)→H' b=some (.tup xs)) (frzs:∀ b o u,H b=some (.frz o u)→H' b=some (.frz o u)) (tbls:∀ b ps,H b=some (.tbl ps)→∃ more,H' b=some (.tbl (ps ++ more)))
    (ns:∀ m,s.heap.Ns X.env.locals m→h'.Ns X.env.locals m) (hok:HOk X.prog X.w H' h') (hg:AllBare g') :
    Inv X pins σ H' { s with heap:=h',gens:=g',drawn:=d',toks:=t' }:=by
  have neL:∀ b o,X.s₀.heap.get? b=some o→b ≠ X.env.locals:=fun b o e=>Nat.ne_of_lt (Nat.lt_of_lt_of_le (Heap.lt_size e) I.ok.above)
  have neC:∀ b o,X.s₀.heap.get? b=some o→b ∉ X.ex→b ∉ ch:=fun b o e hx hb=>by
    rcases (hch b hb).1 with z | z
    · exact hx z
    · exact absurd (Nat.lt_of_lt_of_le (Heap.lt_size e) z) (Nat.lt_irrefl _)
  have cellK:∀ x c,X.env.cells.lookup x=some c→∀ v,s.heap.IsCell c v→h'.IsCell c v:=fun x c e v ⟨o,ho,hd⟩=>by
    have nch:c ∉ ch:=fun z=>(hch c z).2.2.1 x c e rfl
    by_cases hc:c ∈ X.fs
    · obtain ⟨sl,q⟩:=slot c o (I.cne x c e) hc nch ho (I.freeC x c e)
      exact ⟨_,q,hd⟩
    · exact ⟨o,keep c o (I.cne x c e) hc nch ho (I.freeC x c e),hd⟩
  refine ⟨I.ok,I.os,hg,⟨fun b o e n hb hx=>?_,fun b o e n hb hx=>?_,fun b o e n hx=>?_,fun b o e hx=>?_,fun b xs e=>tups b xs (I.base.tups b xs e),fun b o xs e=>frzs b o xs (I.base.frzs b o xs e),fun b ps e=>?_⟩,?_,fun x c e=>?_,?_,fun x c e=>?_,fun p hp=>?_,hok,I.len⟩
  · exact keep b o (neL b o e) hb (neC b o e hx) (I.base.keep b o e n hb hx) (I.base.free b o e n hx)
  · obtain ⟨sl,e1⟩:=I.base.slot b o e n hb hx
    obtain ⟨sl',e2⟩:=slot b _ (neL b o e) hb (neC b o e hx) e1 (I.base.free b o e n hx)
    exact ⟨sl',e2⟩
  · obtain ⟨o',e1⟩:=I.base.there b o e hx
    exact free b o' (neC b o e hx) e1 (I.base.free b o e n hx)
  · obtain ⟨o',e1⟩:=I.base.there b o e hx
    exact there b o' (neC b o e hx) e1
  · obtain ⟨m1,e1⟩:=I.base.tbls b ps e
    obtain ⟨m2,e2⟩:=tbls b _ e1
    exact ⟨m1 ++ m2,by rw [e2,Array.append_assoc]⟩
  · obtain ⟨m,hn,hl⟩:=I.loc
    refine ⟨m,ns m hn,fun i x v e1 e2 e3=>?_⟩
    obtain ⟨u,r,l⟩:=hl i x v e1 e2 e3
    refine ⟨u,r,?_⟩
    rcases l with l | ⟨k,c,e,z⟩
    · exact .inl l
    · exact .inr ⟨k,c,e,cellK x c e _ z⟩
  · obtain ⟨v,z⟩:=I.cell x c e
    exact ⟨v,cellK x c e v z⟩
  · obtain ⟨m,⟨o,_,_,ho,_⟩,_⟩:=I.loc
    exact free _ o (fun z=>(hch _ z).2.1 rfl) ho I.free
  · obtain ⟨v,o,ho,hd⟩:=I.cell x c e
    exact free c o (fun z=>(hch c z).2.2.1 x c e rfl) ho (I.freeC x c e)
  · obtain ⟨e,n,ne,nf,d⟩:=I.pin p hp
    have nch:p.1 ∉ ch:=fun z=>(hch p.1 z).2.2.2 p hp rfl
    exact ⟨keep p.1 p.2 ne nf nch e n,free p.1 p.2 nch e n,ne,nf,d⟩
theorem Inv.un {t':Nat} (I:Inv X pins σ H s) (u:Un X.fs [] H H' s.heap h') (hok:HOk X.prog X.w H' h'):Inv X pins σ H' { s with heap:=h',toks:=t' }:=by
  obtain ⟨m,⟨o,es,ep,ho,r⟩,_⟩:=id I.loc
  obtain ⟨sl,hL⟩:=u.any ho I.free (by simp)
  exact I.step (g':=s.gens) (d':=s.drawn) (ch:=[]) (fun _ z=>nomatch z) (fun b o _ hb _ e n=>u.keep b o e n hb (by simp)) (fun b o _ hb _ e n=>u.slot b o e n hb (by simp)) (fun b o _ e n=>u.free b o e n (by simp)) (fun b o _ e=>u.there b o e (by simp)) u.tups u.frzs u.tbls (fun m' hm=>by
    obtain ⟨o',es',ep',ho',r'⟩:=hm
    rw [ho] at ho'; cases ho'
    exact ⟨_,es',ep',hL,r'⟩) hok I.bare
theorem Inv.call {g':Array GenState} {t':Nat} {d':Drawn} {ch:List Addr} (I:Inv X pins σ H s) (u:Un (frs X.stack) ch H H' s.heap h') (hok:HOk X.prog X.w H' h') (hg:AllBare g')
    (hch:∀ b ∈ ch,(b ∈ X.ex∨X.s₀.heap.objs.size ≤ b)∧b ≠ X.env.locals∧(∀ x c,X.env.cells.lookup x=some c→c ≠ b)∧∀ p ∈ X.pn ++ pins,p.1 ≠ b) :
    Inv X pins σ H' { s with heap:=h',gens:=g',drawn:=d',toks:=t' }:=by
  obtain ⟨m,⟨o,es,ep,ho,r⟩,_⟩:=id I.loc
  obtain ⟨sl,hL⟩:=u.any ho I.free fun z=>(hch _ z).2.1 rfl
  exact I.step (ch:=ch) hch (fun b o hL hb hc e n=>u.keep b o e n (fun z=>(List.mem_cons.mp (I.stkSub b z)).elim hL hb) hc) (fun b o _ _ hc e n=>u.any e n hc) (fun b o hc e n=>u.free b o e n hc) (fun b o hc e=>u.there b o e hc) u.tups u.frzs u.tbls (fun m' hm=>by
    obtain ⟨o',es',ep',ho',r'⟩:=hm
    rw [ho] at ho'; cases ho'
    exact ⟨_,es',ep',hL,r'⟩) hok hg
theorem Inv.turned {t':Nat} {it:Addr} (I:Inv X pins σ H s) (k:∀ b o,b ≠ it→s.heap.get? b=some o→h'.get? b=some o) (hn:H it=none) (hL:it ≠ X.env.locals)
    (h1:it ∈ X.ex∨X.s₀.heap.objs.size ≤ it) (h2:∀ x c,X.env.cells.lookup x=some c→c ≠ it) (h3:∀ p ∈ X.pn ++ pins,p.1 ≠ it):Inv X pins σ H { s with heap:=h',toks:=t' }:=by
  have nit:∀ b u,H b=some u→b ≠ it:=fun b u e z=>by rw [z,hn] at e; cases e
  refine I.step (g':=s.gens) (d':=s.drawn) (ch:=[it]) (fun b hb=>?_) (fun b o _ _ hc e _=>k b o (fun z=>hc (by simp [z])) e) (fun b o _ _ hc e _=>⟨o.slots,k b o (fun z=>hc (by simp [z])) e⟩) (fun _ _ _ _ n=>n)
    (fun b o hc e=>⟨o,k b o (fun z=>hc (by simp [z])) e⟩) (fun _ _ e=>e) (fun _ _ _ e=>e) (fun b ps e=>⟨#[],by rw [e]; simp⟩) (fun m hm=>?_) (fun b u e=>?_) I.bare
  · have e:b=it:=by simpa using hb
    subst e
    exact ⟨h1,hL,h2,h3⟩
  · obtain ⟨o,es,ep,ho,r⟩:=hm
    exact ⟨o,es,ep,k _ o (Ne.symm hL) ho,r⟩
  · refine (I.hok b u e).stay (fun c v hc q=>k c v ?_ q) (fun _ q=>q) fun _ _ q=>q
    rcases hc with z | z
    · rw [z]; exact nit b u e
    · exact nit c _ z
theorem Inv.tok (I:Inv X pins σ H s) (t:Nat):Inv X pins σ H { s with toks:=t }:=I.un (h':=s.heap) (t':=t) Un.refl I.hok
theorem Inv.kept {t':Nat} (I:Inv X pins σ H s) (k:∀ b u,s.heap.get? b=some u→h'.get? b=some u):Inv X pins σ H { s with heap:=h',toks:=t' }:=I.un (Un.kept k) (I.hok.kept k)
theorem Inv.laid {a:Addr} {o:HO} {t':Nat} (I:Inv X pins σ H s) (k:∀ b u,s.heap.get? b=some u→h'.get? b=some u) (hp:s.heap.objs.size ≤ a) (new:ObjOk X.prog X.w (upd H a o) h' a o) :
    Inv X pins σ (upd H a o) { s with heap:=h',toks:=t' }:=I.un (Un.laid k hp (I.hok.fresh hp)) (I.hok.laid k hp new)
theorem Inv.write {x e:Addr} {o:HO} {t':Nat} (I:Inv X pins σ H s) (mu:Mut (H x)) (he:e=x∨H e=some (.own x)) (k:∀ b u,b ≠ e→s.heap.get? b=some u→h'.get? b=some u) (heo:∃ u,h'.get? e=some u)
    (new:ObjOk X.prog X.w (upd H x o) h' x o):Inv X pins σ (upd H x o) { s with heap:=h',toks:=t' }:=I.un (Un.write mu he k heo) (I.hok.write mu he k heo new)
theorem Inv.pins_of {pins':List (Addr × Obj)} (I:Inv X pins σ H s) (h:∀ p ∈ pins',s.heap.get? p.1=some p.2∧H p.1=none∧p.1 ≠ X.env.locals∧p.1 ∉ X.fs∧∀ v,p.2.data ≠ .cell v):Inv X pins' σ H s :=
  ⟨I.ok,I.os,I.bare,I.base,I.loc,I.cell,I.free,I.freeC,fun p hp=>(List.mem_append.mp hp).elim (fun z=>I.pin p (List.mem_append_left _ z)) (h p),I.hok,I.len⟩
theorem zjQ {N:List Str} (hN:N.Nodup) {i j:Nat} {x:Str} (a:N[i]?=some x) (b:N[j]?=some x):i=j:=by
  obtain ⟨h1,e1⟩:=List.getElem?_eq_some_iff.mp a
  obtain ⟨h2,e2⟩:=List.getElem?_eq_some_iff.mp b
  exact (List.getElem_inj hN).mp (e1.trans e2.symm)
theorem zlM {M:Model} {A:Around} {E:Value→Shared→Prop} {i:Nat} {x:Str} {v:V} {u:Value} {Q:Unit→Shared→Prop} (I:Inv X pins σ H s) (hN:X.N.Nodup) (hi:X.N[i]?=some x) (hx:Loc X.env.scope x) (r:RelV v u)
    (h:∀ s',Inv X pins (σ.set i (some v)) H s'→(∃ a,Heap.SameBut a s.heap s'.heap∧(a=X.env.locals∨X.env.cells.lookup x=some a))→Q () s') (hf:X.fn x=true∨X.env.scope.names.lookup x=some .local:=by first | exact .inl rfl | exact .inr rfl | assumption):wpAny M A (storeName X.env x u) Q E s:=by
  obtain ⟨m,hn,hl⟩:=id I.loc
  have hcls:(X.env.scope.kind == .class || (X.env.scope.kind == .module && X.env.locals != X.env.globals))=false:=by rw [I.ok.kind]; rfl
  have hiσ:i < σ.length:=by rw [I.len]; exact (List.getElem?_eq_some_iff.mp hi).1
  have cne:=I.cne
  have tracked:∀ {a:Addr} {h':Heap},(∃ o,s.heap.get? a=some o∧H a=none)→Heap.SameBut a s.heap h'→HOk X.prog X.w H h':=fun {a h'} ha hs b ob e=>by
    obtain ⟨_,_,hfree⟩:=ha
    refine (I.hok b ob e).stay (fun c w' hc q=>(hs.2 c ?_).trans q) (fun _ q=>q) fun _ _ q=>q
    rintro rfl
    rcases hc with rfl | hc
    · rw [hfree] at e; cases e
    · rw [hfree] at hc; cases hc
  rcases hx with hk | hk
  · refine wpAny_storeName_local hk hn (fun h' hn' hs=>?_) hcls
    obtain ⟨oL,_,_,hoL,_⟩:=id hn
    refine h _ ⟨I.ok,I.os,I.bare,⟨fun b o e n hb hx=>?_,fun b o e n hb hx=>?_,I.base.free,fun b o e hx=>?_,I.base.tups,I.base.frzs,I.base.tbls⟩,⟨_,hn',fun j y v' e1 e2 e3=>?_⟩,fun y c e=>?_,I.free,I.freeC,fun p hp=>?_,tracked ⟨oL,hoL,I.free⟩ hs,by simpa using I.len⟩ ⟨_,hs,.inl rfl⟩
    · exact (hs.2 b (Nat.ne_of_lt (Nat.lt_of_lt_of_le (Heap.lt_size e) I.ok.above))).trans (I.base.keep b o e n hb hx)
    · obtain ⟨sl,e1⟩:=I.base.slot b o e n hb hx
      exact ⟨sl,(hs.2 b (Nat.ne_of_lt (Nat.lt_of_lt_of_le (Heap.lt_size e) I.ok.above))).trans e1⟩
    · obtain ⟨o',e1⟩:=I.base.there b o e hx
      exact ⟨o',(hs.2 b (Nat.ne_of_lt (Nat.lt_of_lt_of_le (Heap.lt_size e) I.ok.above))).trans e1⟩
    · by_cases hj:j=i
      · subst hj
        rw [hi] at e1; cases e1
        rw [List.getElem?_set_self hiσ] at e2
        cases e2
        exact ⟨u,r,.inl ⟨hk,by simp⟩⟩
      · rw [List.getElem?_set_ne (Ne.symm hj)] at e2
        obtain ⟨u',r',q⟩:=hl j y v' e1 e2 e3
        refine ⟨u',r',?_⟩
        rcases q with ⟨k,e⟩ | ⟨k,c,e,z⟩
        · refine .inl ⟨k,?_⟩
          have:y ≠ x:=fun e=>hj (zjQ hN e1 (e ▸ hi))
          simp [this,e]
        · exact .inr ⟨k,c,e,z.sameBut hs (cne y c e)⟩
    · obtain ⟨w',z⟩:=I.cell y c e
      exact ⟨w',z.sameBut hs (cne y c e)⟩
    · obtain ⟨e,n,ne,nf,d⟩:=I.pin p hp
      exact ⟨(hs.2 p.1 ne).trans e,n,ne,nf,d⟩
  · have hfn:X.fn x=true:=by
      rcases hf with z | z
      · exact z
      · rw [z] at hk; cases hk
    obtain ⟨c,hc⟩:=I.ok.has x (.inl hk)
    obtain ⟨w',z⟩:=I.cell x c hc
    refine wpAny_storeName_cell I.ok.kind hk hc z (fun h' hc' hs=>?_)
    obtain ⟨oc,hoc,hocd⟩:=id z
    refine h { s with heap:=h' } ⟨I.ok,I.os,I.bare,⟨fun b o e n hb hx=>?_,fun b o e n hb hx=>?_,I.base.free,fun b o e hx=>?_,I.base.tups,I.base.frzs,I.base.tbls⟩,⟨m,hn.sameBut hs (Ne.symm (cne x c hc)),fun j y v' e1 e2 e3=>?_⟩,fun y c' e=>?_,I.free,I.freeC,fun p hp=>?_,tracked ⟨oc,hoc,I.freeC x c hc⟩ hs,by simpa using I.len⟩ ⟨c,hs,.inr hc⟩
    · exact (hs.2 b (Nat.ne_of_lt (Nat.lt_of_lt_of_le (Heap.lt_size e) (I.ok.cab x c hfn hc)))).trans (I.base.keep b o e n hb hx)
    · obtain ⟨sl,e1⟩:=I.base.slot b o e n hb hx
      exact ⟨sl,(hs.2 b (Nat.ne_of_lt (Nat.lt_of_lt_of_le (Heap.lt_size e) (I.ok.cab x c hfn hc)))).trans e1⟩
    · obtain ⟨o',e1⟩:=I.base.there b o e hx
      exact ⟨o',(hs.2 b (Nat.ne_of_lt (Nat.lt_of_lt_of_le (Heap.lt_size e) (I.ok.cab x c hfn hc)))).trans e1⟩
    · by_cases hj:j=i
      · subst hj
        rw [hi] at e1; cases e1
        rw [List.getElem?_set_self hiσ] at e2
        cases e2
        exact ⟨u,r,.inr ⟨.inl hk,c,hc,hc'⟩⟩
      · rw [List.getElem?_set_ne (Ne.symm hj)] at e2
        obtain ⟨u',r',q⟩:=hl j y v' e1 e2 e3
        refine ⟨u',r',?_⟩
        rcases q with q | ⟨k,c',e,z'⟩
        · exact .inl q
        · refine .inr ⟨k,c',e,z'.sameBut hs ?_⟩
          rintro rfl
          exact hj (zjQ hN e1 (I.ok.inj _ _ _ e hc ▸ hi))
    · by_cases hcc:c'=c
      · subst hcc; exact ⟨_,hc'⟩
      · obtain ⟨w2,z2⟩:=I.cell y c' e
        exact ⟨w2,z2.sameBut hs hcc⟩
    · obtain ⟨e,n,ne,nf,d⟩:=I.pin p hp
      refine ⟨(hs.2 p.1 ?_).trans e,n,ne,nf,d⟩
      intro q
      rw [q,hoc] at e
      have q':oc=p.2:=Option.some.inj e
      exact d w' (by rw [← q']; exact hocd)
theorem zhv {M:Model} {A:Around} {E:Value→Shared→Prop} {i:Nat} {x:Str} {v:V} {u:Value} {Q:Unit→Shared→Prop} (I:Inv X pins σ H s) (hN:X.N.Nodup) (hi:X.N[i]?=some x) (hx:Loc X.env.scope x) (r:RelV v u)
    (h:∀ s',Inv X pins (σ.set i (some v)) H s'→Q () s') (hf:X.fn x=true∨X.env.scope.names.lookup x=some .local:=by first | exact .inl rfl | exact .inr rfl | assumption):wpAny M A (storeName X.env x u) Q E s :=
  zlM I hN hi hx r (fun s' I' _=>h s' I') hf
end
abbrev XK:=Value→Option Addr→Hp→Prop
abbrev St:=List (Option V)
abbrev VK:=V→Hp→Prop
abbrev TE:=St→Hp→VK→Prop
abbrev TT:=St→Hp→(Bool→Hp→Prop)→Prop
abbrev TA:=St→Hp→(List V→Hp→Prop)→Prop
structure Ends where
  nx:St→Hp→Prop
  rt:VK
  bk:St→Hp→Prop:=fun _ _=>False
  ct:St→Hp→Prop:=fun _ _=>False
abbrev TS:=Ends→St→Hp→Prop
def EP (X:Cx) (pins:List (Addr × Obj)) (σ:St) (Q:VK) (u:Value) (s':Shared):Prop:=∃ v H',Inv X pins σ H' s'∧RelV v u∧Q v H'
def TP (X:Cx) (pins:List (Addr × Obj)) (σ:St) (Q:Bool→Hp→Prop) (b:Bool) (s':Shared):Prop:=∃ H',Inv X pins σ H' s'∧Q b H'
def AP (X:Cx) (pins:List (Addr × Obj)) (σ:St) (Q:List V→Hp→Prop) (us:List Value) (s':Shared):Prop:=∃ vs H',Inv X pins σ H' s'∧Vals vs us∧Q vs H'
def SP (X:Cx) (pins:List (Addr × Obj)) (D:Ends) (f:Flow) (s':Shared):Prop :=
  match f with
  | .next=>∃ σ' H',Inv X pins σ' H' s'∧D.nx σ' H'
  | .brk=>∃ σ' H',Inv X pins σ' H' s'∧D.bk σ' H'
  | .cont=>∃ σ' H',Inv X pins σ' H' s'∧D.ct σ' H'
  | .ret u=>∃ v σ' H',Inv X pins σ' H' s'∧RelV v u∧D.rt v H'
def PE (X:Cx) (e:Expr) (t:TE):Prop :=
  ∀ (pins:List (Addr × Obj)) (s:Shared) (σ:St) (H:Hp) (Q:VK),Inv X pins σ H s→t σ H Q→wpAny (model X.prog X.w) X.A (eval e X.env) (EP X pins σ Q) X.xe s
def PT (X:Cx) (e:Expr) (t:TT):Prop :=
  ∀ (pins:List (Addr × Obj)) (s:Shared) (σ:St) (H:Hp) (Q:Bool→Hp→Prop),Inv X pins σ H s→t σ H Q→wpAny (model X.prog X.w) X.A (isTrue e X.env (eval e X.env)) (TP X pins σ Q) X.xe s
def PW (X:Cx) (e:Expr) (t:TT):Prop :=
  ∀ (whole:Sem Value) (pins:List (Addr × Obj)) (s:Shared) (σ:St) (H:Hp) (Q:Bool→Hp→Prop),Inv X pins σ H s→t σ H Q→wpAny (model X.prog X.w) X.A (isTrue e X.env whole) (TP X pins σ Q) X.xe s
theorem PW.pt {X:Cx} {e:Expr} {t:TT} (h:PW X e t):PT X e t:=h _
def PA (X:Cx) (es:List Expr) (t:TA):Prop :=
  ∀ (pos:Pos) (pins:List (Addr × Obj)) (s:Shared) (σ:St) (H:Hp) (Q:List V→Hp→Prop),Inv X pins σ H s→t σ H Q→wpAny (model X.prog X.w) X.A (spliced (backTo pos (starEach es X.env))) (AP X pins σ Q) X.xe s
def PS (X:Cx) (st:Stmt) (t:TS):Prop :=
  ∀ (pins:List (Addr × Obj)) (s:Shared) (σ:St) (H:Hp) (D:Ends),Inv X pins σ H s→t D σ H→wpAny (model X.prog X.w) X.A (exec st X.env) (SP X pins D) X.xe s
def PSs (X:Cx) (st:List Stmt) (t:TS):Prop :=
  ∀ (pins:List (Addr × Obj)) (s:Shared) (σ:St) (H:Hp) (D:Ends),Inv X pins σ H s→t D σ H→wpAny (model X.prog X.w) X.A (execs st X.env) (SP X pins D) X.xe s
theorem thn {α:Type} {t:Sem α} {Q Q':α→Shared→Prop} {M:Model} {A:Around} {E:Value→Shared→Prop} {s:Shared} (h:wpAny M A t Q E s) (hQ:∀ a s,Q a s→Q' a s):wpAny M A t Q' E s:=wpAny_mono h hQ fun _ _ x=>x
end L2
namespace L2
open PySem PySem.Spec PyProof.Rows
section
variable {X:Cx}
def tVar (i:Nat):TE:=fun σ H Q=>∃ v,σ[i]?=some (some v)∧Q v H
def tC (v:V):TE:=fun _ H Q=>Q v H
theorem zqU {i:Nat} {x:Str} {pos:Pos} (hN:X.N[i]?=some x) (hv:Vis X.env.scope x) (hd:(x == ("__debug__" : Str))=false:=by decide) (hcd:(x == ("__classdict__" : Str))=false:=by decide):PE X (.Name x pos) (tVar i):=by
  intro pins s σ H Q I h
  obtain ⟨v,e,h⟩:=h
  obtain ⟨m,hn,hl⟩:=I.loc
  obtain ⟨u,r,l⟩:=hl i x v hN e hv
  have fin:EP X pins σ Q u s:=⟨v,H,I,r,h⟩
  rcases l with ⟨hk,hm⟩ | ⟨hk,c,hc,hcell⟩
  · exact wpAny_Name (wpAny_loadName_local I.ok.kind hk hn hm fin) hd
  · rcases hk with hk | hk
    · exact wpAny_Name (wpAny_loadName_cell I.ok.kind hk hc hcell fin) hd
    · exact wpAny_Name (wpAny_loadName_free I.ok.kind hk hc hcell fin hcd) hd
theorem zak {i j pos}:PE X (.Constant (.int i) j pos) (tC (.int i)):=fun _ _ _ H _ I h=>wpAny_Constant_int ⟨.int i,H,I.tok _,⟨_,rfl⟩,h⟩
theorem zf5 {b j pos}:PE X (.Constant (.bool b) j pos) (tC (.bl b)):=fun _ _ _ H _ I h=>Constant_bool ⟨.bl b,H,I,rfl,h⟩
theorem zoc {j pos}:PE X (.Constant .none j pos) (tC .non):=fun _ _ _ H _ I h=>Constant_none ⟨.non,H,I,rfl,h⟩
def Gl (X:Cx) (x:Str):Prop:=X.env.kindOf x=some .globalImplicit
theorem zln {E:Value→Shared→Prop} {pins:List (Addr × Obj)} {s:Shared} {σ:St} {H:Hp} {x:Str} {u:Value} {pos:Pos} {Q:Value→Shared→Prop} (I:Inv X pins σ H s) (hg:Gl X x) (hm:X.mg x=some u) (h:Q u s)
    (hd:(x == ("__debug__" : Str))=false:=by decide):wpAny (model X.prog X.w) X.A (eval (.Name x pos) X.env) Q E s :=
  Calls.Name_function_global I.ok.kind hg (Calls.loadGlobal_global (by rw [I.ok.glob]; exact I.mod.glob.keeps I.bk) hm h) hd
theorem zer {E:Value→Shared→Prop} {pins:List (Addr × Obj)} {s:Shared} {σ:St} {H:Hp} {x:Str} {u:Value} {pos:Pos} {Q:Value→Shared→Prop} (I:Inv X pins σ H s) (hg:Gl X x) (hm:X.mg x=none) (hv:bootBuiltins x=some u) (h:Q u s)
    (hn:x ≠ "__name__":=by decide) (hd:(x == ("__debug__" : Str))=false:=by decide):wpAny (model X.prog X.w) X.A (eval (.Name x pos) X.env) Q E s:=by
  obtain ⟨mb,h1,h2⟩:=I.mod.blt
  exact Calls.Name_function_global I.ok.kind hg (Calls.loadGlobal_builtin (by rw [I.ok.glob]; exact I.mod.glob.keeps I.bk) hm (by rw [I.ok.blt]; exact h1.keeps I.bk) ((h2 x hn).trans hv) h) hd
theorem zjp {x:Str} {v:V} {u:Value} {pos:Pos} (hg:Gl X x) (hm:X.mg x=none) (hv:bootBuiltins x=some u) (r:RelV v u) (hn:x ≠ "__name__":=by decide) (hd:(x == ("__debug__" : Str))=false:=by decide):PE X (.Name x pos) (tC v) :=
  fun _ _ _ H _ I h=>zer I hg hm hv ⟨v,H,I,r,h⟩ hn hd
variable {a b:Expr} {ta tb:TE} {pos:Pos}
def PC (X:Cx) (op:CmpOp) (a b:Expr) (t:TE):Prop :=
  ∀ (pins:List (Addr × Obj)) (s:Shared) (σ:St) (H:Hp) (Q:VK),Inv X pins σ H s→t σ H Q →
    wpAny (model X.prog X.w) X.A (eval a X.env) (fun v s₁=>wpAny (model X.prog X.w) X.A (eval b X.env) (fun u s₂=>wpAny (model X.prog X.w) X.A (compareOp op v u) (EP X pins σ Q) X.xe s₂) X.xe s₁) X.xe s
def tB (t:TE):TT:=fun σ H Q=>t σ H fun x H1=>∃ c,x = .bl c∧Q c H1
theorem zoj {op:CmpOp} {t:TE} (h:PC X op a b t) (h1:behindInMarks op b=false:=by first | exact nobehind _ (by decide) (by decide) | rfl):PT X (.Compare a [op] [b] pos) (tB t):=by
  intro pins s σ H Q I hw
  refine wpAny_isTrue_Compare1 (thn (h pins s σ H _ I hw) fun v s1 h1=>thn h1 fun u s2 h2=>thn h2 fun c s3 ⟨x,H1,I1,r1,q1⟩=>?_) h1
  obtain ⟨d,rfl,q⟩:=q1
  cases r1
  exact wpAny_truthy_bool ⟨H1,I1,q⟩
theorem zeC {e:Expr} {t:TE} (h:PE X e t) (he:∀ whole,isTrue e X.env whole=(do let v ← whole; standAt e.pos; holding [v] (truthy v)):=by intro _; rfl):PT X e (tB t):=by
  intro pins s σ H Q I hw
  refine isTrue_plain (thn (h pins s σ H _ I hw) fun v s1 ⟨x,H1,I1,r1,q1⟩=>?_) (he _)
  obtain ⟨d,rfl,q⟩:=q1
  cases r1
  exact wpAny_truthy_bool ⟨H1,I1,q⟩
variable {tA tB':TT} {rest:List Expr}
def tAnd (t u:TT):TT:=fun σ H Q=>t σ H fun c H1=>if c=true then u σ H1 Q else Q false H1
def tOr (t u:TT):TT:=fun σ H Q=>t σ H fun c H1=>if c=true then Q true H1 else u σ H1 Q
def tNot (t:TT):TT:=fun σ H Q=>t σ H fun c H1=>Q (!c) H1
theorem zo0 (ha:PT X a tA):PW X (.BoolOp .And [a] pos) tA:=by
  intro wh pins s σ H Q I h
  refine isTrue_and (thn (ha pins s σ H Q I h) fun c s1 e=>?_)
  cases c with
  | true=>exact isTrue_and_nil e
  | false=>exact e
theorem zgI (ha:PT X a tA):PW X (.BoolOp .Or [a] pos) tA:=by
  intro wh pins s σ H Q I h
  refine isTrue_or (thn (ha pins s σ H Q I h) fun c s1 e=>?_)
  cases c with
  | false=>exact isTrue_or_nil e
  | true=>exact e
theorem zp8 (ha:PT X a tA) (hb:PW X (.BoolOp .And (b :: rest) pos) tB'):PW X (.BoolOp .And (a :: b :: rest) pos) (tAnd tA tB'):=by
  intro wh pins s σ H Q I h
  refine isTrue_and (thn (ha pins s σ H _ I h) fun c s1 ⟨H1,I1,q1⟩=>?_)
  cases c with
  | true=>exact hb wh pins s1 σ H1 Q I1 q1
  | false=>exact ⟨H1,I1,q1⟩
theorem zfp (ha:PT X a tA) (hb:PW X (.BoolOp .Or (b :: rest) pos) tB'):PW X (.BoolOp .Or (a :: b :: rest) pos) (tOr tA tB'):=by
  intro wh pins s σ H Q I h
  refine isTrue_or (thn (ha pins s σ H _ I h) fun c s1 ⟨H1,I1,q1⟩=>?_)
  cases c with
  | true=>exact ⟨H1,I1,q1⟩
  | false=>exact hb wh pins s1 σ H1 Q I1 q1
theorem zgu (ha:PT X a tA):PT X (.UnaryOp .Not a pos) (tNot tA):=by
  intro pins s σ H Q I h
  exact isTrue_not (ha pins s σ H (fun c H1=>Q (!c) H1) I h)
def zp7 (ta tb:TE):TE:=fun σ H Q=>ta σ H fun x H1=>∃ c,x = .bl c∧if c=true then tb σ H1 Q else Q (.bl false) H1
def zp1 (ta:TE):TE:=fun σ H Q=>ta σ H fun x H1=>∃ c,x = .bl c∧Q (.bl (!c)) H1
theorem zos {op} {t:TE} (h:PE X a t):PE X (.BoolOp op [a] pos) t:=fun pins s σ H Q I hw=>BoolOp_one (h pins s σ H Q I hw)
theorem zmg (ha:PE X a ta) (hb:PE X (.BoolOp .And (b :: rest) pos) tb):PE X (.BoolOp .And (a :: b :: rest) pos) (zp7 ta tb):=by
  intro pins s σ H Q I h
  refine BoolOp_and (thn (ha pins s σ H _ I h) fun v s1 ⟨x,H1,I1,r1,q1⟩=>?_)
  obtain ⟨c,rfl,q1⟩:=q1
  cases r1
  refine wpAny_truthy_bool ?_
  cases c with
  | true=>exact hb pins s1 σ H1 Q I1 q1
  | false=>exact ⟨.bl false,H1,I1,rfl,q1⟩
theorem zpV (ha:PE X a ta):PE X (.UnaryOp .Not a pos) (zp1 ta):=by
  intro pins s σ H Q I h
  refine UnaryOp_ (thn (ha pins s σ H _ I h) fun v s1 ⟨x,H1,I1,r1,q1⟩=>?_)
  obtain ⟨c,rfl,q1⟩:=q1
  cases r1
  exact not_of (wpAny_truthy_bool ⟨.bl (!c),H1,I1,rfl,q1⟩)
def tIf (t:TT) (ta tb:TE):TE:=fun σ H Q=>t σ H fun c H1=>if c=true then ta σ H1 Q else tb σ H1 Q
theorem zm7 {c:Expr} (hc:PT X c tA) (ha:PE X a ta) (hb:PE X b tb):PE X (.IfExp c a b pos) (tIf tA ta tb):=by
  intro pins s σ H Q I h
  refine wpAny_IfExp (thn (hc pins s σ H _ I h) fun d s1 ⟨H1,I1,q1⟩=>?_)
  cases d with
  | true=>exact ha pins s1 σ H1 Q I1 q1
  | false=>exact hb pins s1 σ H1 Q I1 q1
end
end L2
namespace L2
open PySem PySem.Spec PyProof.Rows
def SqL (K:PySem.W.Frag) (H:Hp) (a:Addr) (xs:List V):Prop :=
  Rd H a (.lst xs) ∨
    ∃ (o:Obj) (its:Array Value) (n:Nat),K.lookup a=some o∧o.cls = .type "list"∧o.dict=none∧o.data = .seq its n∧its.size ≤ sizeLine∧Vals xs its.toList
def SqT (K:PySem.W.Frag) (H:Hp) (a:Addr) (xs:List V):Prop :=
  Rd H a (.tup xs) ∨
    ∃ (o:Obj) (its:Array Value) (n:Nat),K.lookup a=some o∧o.cls = .type "tuple"∧o.data = .seq its n∧its.size ≤ sizeLine∧Vals xs its.toList
def absV:Value→Option V
  | .none=>some .non
  | .bool b=>some (.bl b)
  | .int i _=>some (.int i)
  | .str x _=>some (.str x)
  | .bytes b _=>some (.byt b)
  | .float b _=>some (.flt b)
  | .ref a=>some (.ref a)
  | .type n=>some (.ty n)
  | _=>none
theorem RelV.abs {x:V} {u:Value} (r:RelV x u):absV u=some x:=by
  cases x with
  | non=>cases r; rfl
  | bl _=>cases r; rfl
  | int _=>obtain ⟨t,rfl⟩:=r; rfl
  | str _=>obtain ⟨t,rfl⟩:=r; rfl
  | byt _=>obtain ⟨t,rfl⟩:=r; rfl
  | flt _=>obtain ⟨t,rfl⟩:=r; rfl
  | ref _=>cases r; rfl
  | ty _=>cases r; rfl
theorem RelV.inj {x y:V} {u:Value} (r:RelV x u) (q:RelV y u):x=y:=Option.some.inj (r.abs.symm.trans q.abs)
theorem Vals.inj:∀ {xs ys:List V} {us:List Value},Vals xs us→Vals ys us→xs=ys
  | _,_,_,.nil,.nil=>rfl
  | _,_,_,.cons r t,.cons r' t'=>by rw [r.inj r',Vals.inj t t']
section
variable {X:Cx} {pins:List (Addr × Obj)} {σ:St} {H:Hp} {s:Shared} {a:Addr} {xs ys:List V}
theorem SqT.of {K:PySem.W.Frag} (h:H a=some (.tup xs)):SqT K H a xs:=.inl (.inl h)
theorem Inv.list (I:Inv X pins σ H s) (h:SqL X.K H a xs):∃ its:List Value,Vals xs its∧PlainL s.heap a its.toArray∧xs.length ≤ sizeLine:=by
  rcases h with h | ⟨o,its,n,hk,hc,hd,hs,hz,r⟩
  · obtain ⟨z,its,n,r,e⟩:=h.ok I.hok
    exact ⟨its,r,⟨_,n,e,rfl,rfl,rfl⟩,z⟩
  · refine ⟨its.toList,r,⟨o,n,I.kIn a o hk,hc,hd,by simpa using hs⟩,?_⟩
    have e:=r.length
    simp only [Array.length_toList] at e
    omega
theorem Inv.tuple (I:Inv X pins σ H s) (h:SqT X.K H a xs):∃ its:List Value,Vals xs its∧IsTup s.heap a its.toArray∧xs.length ≤ sizeLine:=by
  rcases h with h | ⟨o,its,n,hk,hc,hs,hz,r⟩
  · obtain ⟨z,its,r,p⟩:=h.ok I.hok
    exact ⟨its,r,p,z⟩
  · refine ⟨its.toList,r,⟨o,I.kIn a o hk,hc,n,by simpa using hs⟩,?_⟩
    have e:=r.length
    simp only [Array.length_toList] at e
    omega
theorem Inv.list_inj (I:Inv X pins σ H s) (h:SqL X.K H a xs) (h':SqL X.K H a ys):xs=ys:=by
  obtain ⟨its,r,⟨o,n,e,_,_,d⟩,_⟩:=I.list h
  obtain ⟨its',r',⟨o',n',e',_,_,d'⟩,_⟩:=I.list h'
  rw [e] at e'; cases e'
  rw [d] at d'
  injection d' with d1 _
  have:its=its':=by simpa using congrArg Array.toList d1
  subst this
  exact r.inj r'
theorem Inv.tuple_inj (I:Inv X pins σ H s) (h:SqT X.K H a xs) (h':SqT X.K H a ys):xs=ys:=by
  obtain ⟨its,r,⟨o,e,_,n,d⟩,_⟩:=I.tuple h
  obtain ⟨its',r',⟨o',e',_,n',d'⟩,_⟩:=I.tuple h'
  rw [e] at e'; cases e'
  rw [d] at d'
  injection d' with d1 _
  have:its=its':=by simpa using congrArg Array.toList d1
  subst this
  exact r.inj r'
end
abbrev Cx.wish (X:Cx) (E:Value→Shared→Prop):Cx:={ X with xe:=E }
abbrev Cx.nox (X:Cx):Cx:=X.wish fun _ _=>False
theorem Cx.Ok.wish {X:Cx} (ok:X.Ok) (E:Value→Shared→Prop):(X.wish E).Ok :=
  ⟨ok.mod,ok.kind,ok.glob,ok.blt,ok.above,ok.inj,ok.has,ok.cab,ok.hd,ok.frames,ok.stk,ok.exf,ok.bs,ok.bsz,ok.noex,ok.exfs,ok.funs,ok.frf,ok.tb⟩
theorem Cx.Ok.unwish {X:Cx} {E:Value→Shared→Prop} (ok:(X.wish E).Ok):X.Ok :=
  ⟨ok.mod,ok.kind,ok.glob,ok.blt,ok.above,ok.inj,ok.has,ok.cab,ok.hd,ok.frames,ok.stk,ok.exf,ok.bs,ok.bsz,ok.noex,ok.exfs,ok.funs,ok.frf,ok.tb⟩
section
variable {X:Cx} {pins:List (Addr × Obj)} {σ:St} {H:Hp} {s:Shared} {E:Value→Shared→Prop}
theorem Inv.wish (I:Inv X pins σ H s) (E:Value→Shared→Prop):Inv (X.wish E) pins σ H s:=⟨I.ok.wish E,I.os,I.bare,I.base,I.loc,I.cell,I.free,I.freeC,I.pin,I.hok,I.len⟩
theorem Inv.unwish (I:Inv (X.wish E) pins σ H s):Inv X pins σ H s:=⟨I.ok.unwish,I.os,I.bare,I.base,I.loc,I.cell,I.free,I.freeC,I.pin,I.hok,I.len⟩
theorem SP.unwish {D:Ends} {f:Flow} {s':Shared} (h:SP (X.wish E) pins D f s'):SP X pins D f s':=by
  cases f with
  | next=>obtain ⟨σ',H',I,q⟩:=h; exact ⟨σ',H',I.unwish,q⟩
  | brk=>obtain ⟨σ',H',I,q⟩:=h; exact ⟨σ',H',I.unwish,q⟩
  | cont=>obtain ⟨σ',H',I,q⟩:=h; exact ⟨σ',H',I.unwish,q⟩
  | ret u=>obtain ⟨v,σ',H',I,r,q⟩:=h; exact ⟨v,σ',H',I.unwish,r,q⟩
theorem PSs.nox {st:List Stmt} {t:TS} (h:PSs X.nox st t):PSs X st t:=fun pins s σ H D I hw =>
  wpAny_mono (h pins s σ H D (I.wish _) hw) (fun _ _ q=>q.unwish) fun _ _ z=>False.elim z
end
section
variable {X:Cx} {st:Stmt} {rest:List Stmt} {t u:TS} {e:Expr} {te:TE} {pos:Pos}
def znM:TS:=fun D σ H=>D.nx σ H
def tSeq (t u:TS):TS:=fun D σ H=>t { D with nx:=u D } σ H
theorem zbg:PSs X [] znM:=fun _ _ σ H _ I h=>wpAny_execs_nil ⟨σ,H,I,h⟩
theorem zaf (h1:PS X st t) (h2:PSs X rest u):PSs X (st :: rest) (tSeq t u):=by
  intro pins s σ H D I h
  refine wpAny_execs_cons (thn (h1 pins s σ H { D with nx:=u D } I h) fun f s1 q=>?_)
  cases f with
  | next =>
    obtain ⟨σ',H',I',q⟩:=q
    exact h2 pins s1 σ' H' D I' q
  | ret v=>exact q
  | brk=>exact q
  | cont=>exact q
theorem zan (h1:PS X st t):PSs X [st] t:=by
  intro pins s σ H D I h
  refine wpAny_execs_cons (thn (h1 pins s σ H D I h) fun f s1 q=>?_)
  cases f with
  | next=>exact wpAny_execs_nil q
  | ret v=>exact q
  | brk=>exact q
  | cont=>exact q
theorem Inv.quiet {pins:List (Addr × Obj)} {σ:St} {H:Hp} {s:Shared} (I:Inv X pins σ H s):interactive X.env=false:=by simp [interactive,I.ok.kind]
def zkS (te:TE):TS:=fun D σ H=>te σ H fun _ H1=>D.nx σ H1
theorem zbV (he:PE X e te) (hs:swapsWith e none pos.line X.env=pure false:=by rfl):PS X (.Expr e pos) (zkS te):=by
  intro pins s σ H D I h
  exact wpAny_Expr_any (thn (he pins s σ H _ I h) fun v s1 ⟨x,H1,I1,r1,q1⟩=>⟨σ,H1,I1,q1⟩) I.quiet hs
def tRet (te:TE):TS:=fun D σ H=>te σ H D.rt
theorem zaW (he:PE X e te):PS X (.Return (some e) pos) (tRet te):=by
  intro pins s σ H D I h
  exact wpAny_Return_some (thn (he pins s σ H _ I h) fun v s1 ⟨x,H1,I1,r1,q1⟩=>⟨x,σ,H1,I1,r1,q1⟩)
def tIfS (c:TT) (t u:TS):TS:=fun D σ H=>c σ H fun b H1=>if b=true then t D σ H1 else u D σ H1
theorem zcx {c:Expr} {a b:List Stmt} {tc:TT} (hc:PT X c tc) (ha:PSs X a t) (hb:PSs X b u):PS X (.If c a b pos) (tIfS tc t u):=by
  intro pins s σ H D I h
  refine wpAny_If (thn (hc pins s σ H _ I h) fun d s1 ⟨H1,I1,q1⟩=>?_)
  cases d with
  | true=>exact ha pins s1 σ H1 D I1 q1
  | false=>exact hb pins s1 σ H1 D I1 q1
def zj3:TS:=fun _ _ _=>False
theorem zg5:PS X st zj3:=fun _ _ _ _ _ _ h=>h.elim
theorem zmE {sts:List Stmt}:PSs X sts zj3:=fun _ _ _ _ _ _ h=>h.elim
end
abbrev TG:=V→St→Hp→(St→Hp→Prop)→Prop
abbrev TGs:=List V→St→Hp→(St→Hp→Prop)→Prop
def PG (X:Cx) (target:Expr) (t:TG):Prop :=
  ∀ (pins:List (Addr × Obj)) (s:Shared) (σ:St) (H:Hp) (v:V) (u:Value) (Q:St→Hp→Prop),Inv X pins σ H s→RelV v u→t v σ H Q →
    wpAny (model X.prog X.w) X.A (assign target X.env u) (fun _ s'=>∃ σ' H',Inv X pins σ' H' s'∧Q σ' H') X.xe s
def PGs (X:Cx) (ts:List Expr) (t:TGs):Prop :=
  ∀ (pins:List (Addr × Obj)) (s:Shared) (σ:St) (H:Hp) (vs:List V) (us:List Value) (Q:St→Hp→Prop),Inv X pins σ H s→Vals vs us→t vs σ H Q →
    wpAny (model X.prog X.w) X.A (assignInOrder ((assignEach ts X.env).map (·.2)) us) (fun _ s'=>∃ σ' H',Inv X pins σ' H' s'∧Q σ' H') X.xe s
abbrev TSet:=V→V→V→Hp→(Hp→Prop)→Prop
def PSet (X:Cx) (t:TSet):Prop :=
  ∀ (pins:List (Addr × Obj)) (s:Shared) (σ:St) (H:Hp) (o i v:V) (ov iv u:Value) (Q:Hp→Prop),Inv X pins σ H s→RelV o ov→RelV i iv→RelV v u→t o i v H Q →
    wpAny (model X.prog X.w) X.A (setItem ov iv u) (fun _ s'=>∃ H',Inv X pins σ H' s'∧Q H') X.xe s
section
variable {X:Cx} {pos:Pos}
def zeS (i:Nat):TG:=fun v σ H Q=>Q (σ.set i (some v)) H
theorem zaF {i:Nat} {x:Str} (hN:X.N.Nodup) (hi:X.N[i]?=some x) (hx:Loc X.env.scope x) (hf:X.fn x=true∨X.env.scope.names.lookup x=some .local:=by first | exact .inl rfl | exact .inr rfl | assumption):PG X (.Name x pos) (zeS i):=by
  intro pins s σ H v u Q I r h
  exact wpAny_assign_Name (zhv I hN hi hx r (fun s' I'=>⟨_,H,I',h⟩) hf)
def gNil:TGs:=fun vs σ H Q=>vs = []∧Q σ H
def zqn (t:TG) (u:TGs):TGs:=fun vs σ H Q=>∃ v r,vs=v :: r∧t v σ H fun σ' H'=>u r σ' H' Q
theorem zgi:PGs X [] gNil:=by
  intro pins s σ H vs us Q I r h
  obtain ⟨e,h⟩:=h
  subst e
  cases r
  exact assignInOrder_nil ⟨σ,H,I,h⟩
theorem zcc {e:Expr} {es:List Expr} {t:TG} {u:TGs} (h1:PG X e t) (h2:PGs X es u)
    (hs:(assignEach (e :: es) X.env).map (·.2)=assign e X.env :: (assignEach es X.env).map (·.2):=by rfl):PGs X (e :: es) (zqn t u):=by
  intro pins s σ H vs us Q I r h
  obtain ⟨v,vr,e1,h⟩:=h
  subst e1
  cases r with
  | cons r rr =>
    rw [hs]
    refine assignInOrder_cons (thn (h1 pins s σ H _ _ _ I r h) fun _ s1 ⟨σ1,H1,I1,q1⟩=>?_)
    exact h2 pins s1 σ1 H1 _ _ Q I1 rr q1
def gTup (K:PySem.W.Frag) (n:Nat) (t:TGs):TG:=fun v σ H Q=>∃ a xs,v = .ref a∧SqT K H a xs∧xs.length=n∧t xs σ H Q
theorem zij {es:List Expr} {k:Nat} {t:TGs} {n:Nat} (hc:X.calm=true) (h:PGs X es t)
    (hn:(assignEach es X.env).length=n:=by rfl) (hst:(assignEach es X.env).findIdx? (·.1)=none:=by rfl):PG X (.Tuple es k pos) (gTup X.K n t):=by
  intro pins s σ H v u Q I r hw
  obtain ⟨a,xs,e1,hq,hl,hw⟩:=hw
  subst e1
  cases r
  obtain ⟨its,rv,ht,hz⟩:=I.tuple hq
  refine assign_Tuple_tuple (I.ok.hd hc) ht (by simp [hn,← hl,rv.length]) hst fun h' hx=>?_
  have I1:Inv X pins σ H { s with heap:=h' }:=I.kept (t':=s.toks) fun b o e=>hx b o (Nat.ne_of_lt (Heap.lt_size e)) e
  exact h pins _ σ H xs _ Q I1 (by simpa using rv) hw
def gSub (to ti:TE) (t:TSet):TG:=fun v σ H Q=>to σ H fun o H1=>ti σ H1 fun i H2=>t o i v H2 fun H3=>Q σ H3
theorem zk7 {o i:Expr} {to ti:TE} {t:TSet} (ho:PE X o to) (hi:PE X i ti) (hs:PSet X t)
    (ha:∀ v,assign (.Subscript o i pos) X.env v=(do
      let ov ← holding [v] (eval o X.env)
      let iv ← holding [v,ov] (eval i X.env)
      standAt pos
      holding [v,ov,iv] (setItem ov iv v)
      release [v,ov,iv] []):=by intro _; rfl):PG X (.Subscript o i pos) (gSub to ti t):=by
  intro pins s σ H v u Q I r h
  rw [ha]
  refine wpAny_bind (wpAny_holding (thn (ho pins s σ H _ I h) fun ov s1 ⟨x,H1,I1,r1,q1⟩=>?_))
  refine wpAny_bind (wpAny_holding (thn (hi pins s1 σ H1 _ I1 q1) fun iv s2 ⟨y,H2,I2,r2,q2⟩=>?_))
  refine wpAny_bind (wpAny_standAt (wpAny_bind (wpAny_holding (thn (hs pins s2 σ H2 x y v ov iv u _ I2 r1 r2 r q2) fun _ s3 ⟨H3,I3,q3⟩=>?_))))
  exact wpAny_release ⟨σ,H3,I3,q3⟩
def tAsg (te:TE) (g:TG):TS:=fun D σ H=>te σ H fun x H1=>g x σ H1 D.nx
theorem zl0 {tg e:Expr} {te:TE} {g:TG} (he:PE X e te) (hg:PG X tg g) (hs:swapsWithSole [tg] e pos.line X.env=pure false:=by rfl) (hw:swappedStores [tg] e X.env=pure none:=by rfl)
    (h1:(assignEach [tg] X.env).map (·.2) = [assign tg X.env]:=by rfl):PS X (.Assign [tg] e pos) (tAsg te g):=by
  intro pins s σ H D I h
  refine wpAny_Assign_stores (thn (he pins s σ H _ I h) fun v s1 ⟨x,H1,I1,r1,q1⟩=>?_) hs hw
  rw [h1]
  exact thn (hg pins s1 σ H1 x v _ I1 r1 q1) fun _ s2 q=>q
theorem zaE {i:Nat} {x:Str} {e:Expr} {te:TE} {pos':Pos} (hN:X.N.Nodup) (hi:X.N[i]?=some x) (hx:Loc X.env.scope x) (he:PE X e te) (hs:swapsWith e (some (.Name x pos')) pos.line X.env=pure false:=by rfl) (hf:X.fn x=true∨X.env.scope.names.lookup x=some .local:=by first | exact .inl rfl | exact .inr rfl | assumption) :
    PS X (.Assign [.Name x pos'] e pos) (tAsg te (zeS i)):=by
  intro pins s σ H D I h
  refine wpAny_Assign_Name (thn (he pins s σ H _ I h) fun v s1 ⟨y,H1,I1,r1,q1⟩=>?_) hs
  exact zhv I1 hN hi hx r1 (fun s2 I2=>⟨_,H1,I2,q1⟩) hf
end
section
variable {X:Cx} {pos:Pos}
def zod (c:TT) (tb:TS):TS:=fun D σ H=>∃ W:Nat→St→Hp→Prop,(∃ m,W m σ H)∧∀ m σ H,W m σ H →
  c σ H fun b H1=>if b=true then ∃ N:St→Hp→Prop,(∀ σ' H',N σ' H'→∃ m',m' < m∧W m' σ' H')∧tb { D with nx:=N,ct:=N,bk:=D.nx } σ H1 else D.nx σ H1
theorem zfw {c:Expr} {body:List Stmt} {tc:TT} {tb:TS} (hp:PassesOwn (model X.prog X.w) X.A X.env X.xe) (hc:PT X c tc) (hb:PSs X body tb):PS X (.While c body [] pos) (zod tc tb):=by
  intro pins s σ H D I h
  obtain ⟨W,⟨m0,w0⟩,turn⟩:=h
  refine wpAny_While (codeAny_whileLoop (fun n s'=>∃ σ' H',Inv X pins σ' H' s'∧W n σ' H') ?_ m0 ⟨σ,H,I,w0⟩)
  rintro n s1 ⟨σ1,H1,I1,w1⟩
  refine wpAny_passesOwn hp (thn (hc pins s1 σ1 H1 _ I1 (turn n σ1 H1 w1)) fun b s2 ⟨H2,I2,q2⟩=>?_)
  cases b with
  | true =>
    obtain ⟨N,hN,q2⟩:=q2
    rw [if_pos rfl]
    refine wpAny_passesOwn hp (thn (hb pins s2 σ1 H2 _ I2 q2) fun f s3 q3=>?_)
    cases f with
    | next =>
      obtain ⟨σ3,H3,I3,n3⟩:=q3
      obtain ⟨m',hm,w3⟩:=hN σ3 H3 n3
      exact ⟨m',hm,σ3,H3,I3,w3⟩
    | cont =>
      obtain ⟨σ3,H3,I3,n3⟩:=q3
      obtain ⟨m',hm,w3⟩:=hN σ3 H3 n3
      exact ⟨m',hm,σ3,H3,I3,w3⟩
    | brk=>exact q3
    | ret v=>exact q3
  | false =>
    rw [if_neg Bool.false_ne_true]
    exact wpAny_execs_nil ⟨σ1,H2,I2,q2⟩
end
structure It where
  go:Nat→Hp→Prop
  yld:Nat→Hp→V→Hp→Prop
  stop:Nat→Hp→Prop
def FpOk (X:Cx) (pins:List (Addr × Obj)) (H:Hp) (b:Addr):Prop :=
  H b=none∧b ≠ X.env.locals∧b ∉ X.fs∧(b ∈ X.ex∨X.s₀.heap.objs.size ≤ b)∧(∀ x c,X.env.cells.lookup x=some c→c ≠ b)∧∀ p ∈ X.pn ++ pins,p.1 ≠ b
theorem Inv.fpOk {X:Cx} {pins:List (Addr × Obj)} {σ:St} {H H':Hp} {s:Shared} {b:Addr} (I:Inv X pins σ H s) (hb:s.heap.objs.size ≤ b) (hn:H' b=none):FpOk X pins H' b:=by
  refine ⟨hn,Nat.ne_of_gt (Nat.lt_of_lt_of_le I.lt hb),I.nofs hb,.inr (Nat.le_trans I.sz hb),fun x c e z=>?_,fun p hp z=>?_⟩
  · obtain ⟨v,q⟩:=I.cell x c e
    exact absurd (Nat.lt_of_lt_of_le q.lt (by rw [z]; exact hb)) (Nat.lt_irrefl _)
  · exact absurd (Nat.lt_of_lt_of_le (Heap.lt_size (I.pin p hp).1) (by rw [z]; exact hb)) (Nat.lt_irrefl _)
structure Turn (P:Program) (w:World) (K:PySem.W.Frag) (tg:Expr) (J:It) (fp:List Addr) (it:Addr) (tn:Nat→Heap→Prop):Prop where
  mem:it ∈ fp
  obj:∀ i h,tn i h→∀ b ∈ fp,∃ o,h.get? b=some o∧∀ v,o.data ≠ .cell v
  keep:∀ i h h',tn i h→(∀ b ∈ fp,∀ o,h.get? b=some o→h'.get? b=some o)→tn i h'
  item:∀ (X:Cx),X.prog=P→X.w=w→X.K=K→X.calm=true→∀ (i:Nat) (pins:List (Addr × Obj)) (s:Shared) (σ:St) (H:Hp) (E:Value→Shared→Prop),Inv X pins σ H s→(∀ b ∈ fp,FpOk X pins H b)→tn i s.heap→J.go i H →
    wpAny (model P w) X.A (pyNext (.ref it)) (fun r s1=>∃ u,r=some u ∧
      wpAny (model P w) X.A (letOwnedTupleGo tg (.ref it) u) (fun _ s2=>∃ x H',Inv X pins σ H' s2∧RelV x u∧J.yld i H x H'∧tn (i + 1) s2.heap∧∀ b ∈ fp,H' b=none) E s1) E s
  done:∀ (X:Cx),X.prog=P→X.w=w→X.K=K→X.calm=true→∀ (i:Nat) (pins:List (Addr × Obj)) (s:Shared) (σ:St) (H:Hp) (E:Value→Shared→Prop),Inv X pins σ H s→(∀ b ∈ fp,FpOk X pins H b)→tn i s.heap→J.stop i H →
    wpAny (model P w) X.A (pyNext (.ref it)) (fun r s1=>r=none∧Inv X pins σ H s1) E s
  self:∀ (A:Around) (i:Nat) (s:Shared) (Q:Value→Shared→Prop) (E:Value→Shared→Prop),tn i s.heap→Q (.ref it) s→wpAny (model P w) A (pyIter (.ref it)) Q E s
abbrev TI:=St→Hp→(It→Hp→Prop)→Prop
def PIE (X:Cx) (pins:List (Addr × Obj)) (σ:St) (tg:Expr) (R:It→Hp→Prop) (itv:Value) (s2:Shared):Prop :=
  ∃ (it:Addr) (fp:List Addr) (tn:Nat→Heap→Prop) (J:It) (H':Hp),itv = .ref it∧Inv X pins σ H' s2∧Turn X.prog X.w X.K tg J fp it tn∧tn 0 s2.heap∧(∀ b ∈ fp,FpOk X pins H' b)∧R J H'
def PI (X:Cx) (tg iter:Expr) (wi:TI):Prop :=
  ∀ (pins:List (Addr × Obj)) (s:Shared) (σ:St) (H:Hp) (R:It→Hp→Prop),Inv X pins σ H s→wi σ H R →
    wpAny (model X.prog X.w) X.A (eval iter X.env) (fun v s1=>wpAny (model X.prog X.w) X.A (pyIter v) (PIE X pins σ tg R) X.xe s1) X.xe s
theorem zlr {M:Model} {A:Around} {E:Value→Shared→Prop} {s:Shared} {tg:Expr} {it:Addr} {u:Value} {o:Obj} {n:String} {vs:Array Value} {Q:Unit→Shared→Prop} (ho:s.heap.get? it=some o) (hc:o.cls = .type n) (hd:o.data = .fields vs)
    (hn : ["enumerate","zip","dict_itemiterator","dict_reverseitemiterator","odict_iterator","itertools.zip_longest","itertools.pairwise"].contains n=false) (hQ:Q () s):wpAny M A (letOwnedTupleGo tg (.ref it) u) Q E s:=by
  unfold letOwnedTupleGo
  cases tg <;> first
    | exact wpAny_pure hQ
    | (cases u <;> first
        | exact wpAny_pure hQ
        | (refine wpAny_bind (wpAny_load ho ?_)
           rw [hc,hd]
           show wpAny M A (if (["enumerate","zip","dict_itemiterator","dict_reverseitemiterator","odict_iterator","itertools.zip_longest","itertools.pairwise"].contains n && vs[0]? == some (rawInt _))=true then _ else _) Q E s
           rw [if_neg (by intro h; rw [hn,Bool.false_and] at h; cases h)]
           exact wpAny_pure hQ))
def Itl (K:PySem.W.Frag) (a:Addr):It :=
  ⟨fun i H=>∃ xs x,SqL K H a xs∧xs[i]?=some x,fun i H x H'=>H'=H∧∀ xs,SqL K H a xs→xs[i]?=some x,fun i H=>∃ xs,SqL K H a xs∧xs.length ≤ i⟩
def Itt (K:PySem.W.Frag) (a:Addr):It :=
  ⟨fun i H=>∃ xs x,SqT K H a xs∧xs[i]?=some x,fun i H x H'=>H'=H∧∀ xs,SqT K H a xs→xs[i]?=some x,fun i H=>∃ xs,SqT K H a xs∧xs.length ≤ i⟩
def Itr (lo:Int) (n:Nat):It:=⟨fun i _=>i < n,fun i H x H'=>H'=H∧x = .int (lo + i),fun i _=>n ≤ i⟩
theorem zk0 {P:Program} {w:World} {K:PySem.W.Frag} {tg:Expr} (a it:Addr):Turn P w K tg (Itl K a) [it] it (fun i h=>h.IsListIter it a i) where
  mem:=by simp
  obj:=fun i h st b hb=>by
    have e:b=it:=by simpa using hb
    subst e
    obtain ⟨o,e,c,d⟩:=st
    exact ⟨o,e,fun v z=>by rw [d] at z; cases z⟩
  keep:=fun i h h' st k=>st.at fun o e=>k it (by simp) o e
  item:=by
    intro X hP hw hK hc i pins s σ H E I hf st hg
    subst hP hw hK
    obtain ⟨xs,x,hq,hx⟩:=hg
    obtain ⟨its,rv,p,hz⟩:=I.list hq
    obtain ⟨u,hu,ru⟩:=rv.get hx
    obtain ⟨f0,f1,f2,f3,f4,f5⟩:=hf it (by simp)
    refine wpAny_pyNext_list_item st p.isList (x:=u) (by simpa using hu) fun h' st' sb=>?_
    have I1:Inv X pins σ H { s with heap:=h' }:=I.turned (t':=s.toks) (fun b o hb e=>(sb.2 b hb).trans e) f0 f1 f3 f4 f5
    obtain ⟨o,e,c,d⟩:=id st'
    exact ⟨u,rfl,zlr (s:={ s with heap:=h' }) e c d (by decide) ⟨x,H,I1,ru,⟨rfl,fun ys hy=>by rw [I.list_inj hy hq]; exact hx⟩,st',fun b hb=>(hf b hb).1⟩⟩
  done:=by
    intro X hP hw hK hc i pins s σ H E I hf st hg
    subst hP hw hK
    obtain ⟨xs,hq,hx⟩:=hg
    obtain ⟨its,rv,p,hz⟩:=I.list hq
    obtain ⟨f0,f1,f2,f3,f4,f5⟩:=hf it (by simp)
    have hl:=rv.length
    exact wpAny_pyNext_list_end (I.ok.hd hc) st p.isList (by simp; omega) fun h' eb=>⟨rfl,I.turned (t':=s.toks) (fun b o hb e=>eb b o hb e) f0 f1 f3 f4 f5⟩
  self:=fun _ _ _ _ _ st h=>wpAny_pyIter_listiter st h
theorem zkJ {P:Program} {w:World} {K:PySem.W.Frag} {tg:Expr} (a it:Addr):Turn P w K tg (Itt K a) [it] it (fun i h=>h.IsTupleIter it a i) where
  mem:=by simp
  obj:=fun i h st b hb=>by
    have e:b=it:=by simpa using hb
    subst e
    obtain ⟨o,e,c,d⟩:=st
    exact ⟨o,e,fun v z=>by rw [d] at z; cases z⟩
  keep:=fun i h h' st k=>st.at fun o e=>k it (by simp) o e
  item:=by
    intro X hP hw hK hc i pins s σ H E I hf st hg
    subst hP hw hK
    obtain ⟨xs,x,hq,hx⟩:=hg
    obtain ⟨its,rv,p,hz⟩:=I.tuple hq
    obtain ⟨u,hu,ru⟩:=rv.get hx
    obtain ⟨f0,f1,f2,f3,f4,f5⟩:=hf it (by simp)
    refine wpAny_pyNext_tuple_item st (show s.heap.IsTuple a its.toArray from p) (x:=u) (by simpa using hu) fun h' st' sb=>?_
    have I1:Inv X pins σ H { s with heap:=h' }:=I.turned (t':=s.toks) (fun b o hb e=>(sb.2 b hb).trans e) f0 f1 f3 f4 f5
    obtain ⟨o,e,c,d⟩:=id st'
    exact ⟨u,rfl,zlr (s:={ s with heap:=h' }) e c d (by decide) ⟨x,H,I1,ru,⟨rfl,fun ys hy=>by rw [I.tuple_inj hy hq]; exact hx⟩,st',fun b hb=>(hf b hb).1⟩⟩
  done:=by
    intro X hP hw hK hc i pins s σ H E I hf st hg
    subst hP hw hK
    obtain ⟨xs,hq,hx⟩:=hg
    obtain ⟨its,rv,p,hz⟩:=I.tuple hq
    obtain ⟨f0,f1,f2,f3,f4,f5⟩:=hf it (by simp)
    have hl:=rv.length
    exact wpAny_pyNext_tuple_end (I.ok.hd hc) st (show s.heap.IsTuple a its.toArray from p) (by simp; omega) fun h' eb=>⟨rfl,I.turned (t':=s.toks) (fun b o hb e=>eb b o hb e) f0 f1 f3 f4 f5⟩
  self:=fun _ _ _ _ _ st h=>wpAny_pyIter_tupleiter st h
theorem zj8 {P:Program} {w:World} {K:PySem.W.Frag} {tg:Expr} (it:Addr) (lo:Int) (n:Nat):Turn P w K tg (Itr lo n) [it] it (fun i h=>IsRangeIter h it (lo + (i:Nat) * 1) ((n:Int) - (i:Nat)) 1) where
  mem:=by simp
  obj:=fun i h st b hb=>by
    have e:b=it:=by simpa using hb
    subst e
    exact ⟨_,st,fun v z=>by
      have z':Data.fields _=Data.cell v:=z
      cases z'⟩
  keep:=fun i h h' st k=>k it (by simp) _ st
  item:=by
    intro X hP hw hK hc i pins s σ H E I hf st hg
    subst hP hw hK
    obtain ⟨f0,f1,f2,f3,f4,f5⟩:=hf it (by simp)
    have W:=Walks.range (prog:=X.prog) (w:=X.w) (I.ok.hd hc) it lo 1 n
    refine W.item i s _ _ hg st fun v h' tk hv st' kk=>?_
    obtain ⟨t,rfl⟩:=hv
    have I1:Inv X pins σ H { s with heap:=h',toks:=tk }:=I.turned (fun b o hb e=>kk b o (by simpa using hb) e) f0 f1 f3 f4 f5
    refine ⟨_,rfl,zlr (s:={ s with heap:=h',toks:=tk }) (n:="range_iterator") st' rfl rfl (by decide) ⟨.int (lo + i),H,I1,⟨t,?_⟩,⟨rfl,rfl⟩,st',fun b hb=>(hf b hb).1⟩⟩
    rw [Int.mul_one]
  done:=by
    intro X hP hw hK hc i pins s σ H E I hf st hg
    subst hP hw hK
    obtain ⟨f0,f1,f2,f3,f4,f5⟩:=hf it (by simp)
    exact wpAny_pyNext_range_end (I.ok.hd hc) st (by have:n ≤ i:=hg; omega) fun h' eb=>⟨rfl,I.turned (t':=s.toks) (fun b o hb e=>eb b o hb e) f0 f1 f3 f4 f5⟩
  self:=fun _ _ _ _ _ st h=>wpAny_pyIter_rangeiter st h
end L2
namespace L2
open PySem PySem.Spec PyProof.Rows
section
variable {X:Cx} {tg:Expr}
def zo7 (K:PySem.W.Frag) (tl:TE):TI:=fun σ H R=>tl σ H fun x H1=>∃ a,x = .ref a∧(∃ xs,SqL K H1 a xs)∧R (Itl K a) H1
def iTup (K:PySem.W.Frag) (tl:TE):TI:=fun σ H R=>tl σ H fun x H1=>∃ a,x = .ref a∧(∃ xs,SqT K H1 a xs)∧R (Itt K a) H1
theorem zcy {l:Expr} {tl:TE} (hl:PE X l tl):PI X tg l (zo7 X.K tl):=by
  intro pins s σ H R I h
  refine thn (hl pins s σ H _ I h) fun v s1 ⟨x,H1,I1,r1,q1⟩=>?_
  obtain ⟨a,e,⟨xs,hq⟩,q⟩:=q1
  subst e
  cases r1
  obtain ⟨its,rv,p,hz⟩:=I1.list hq
  refine wpAny_pyIter_list p.isList ?_
  refine ⟨s1.heap.objs.size,[s1.heap.objs.size],_,_,H1,rfl,I1.kept (t':=s1.toks) fun b o e=>Heap.get?_push_of_some _ e,zk0 a _,⟨_,Heap.get?_push_size _ rfl,rfl,rfl⟩,fun b hb=>?_,q⟩
  have e:b=s1.heap.objs.size:=by simpa using hb
  subst e
  exact I1.fpOk (Nat.le_refl _) (I1.hok.fresh (Nat.le_refl _))
theorem zpQ {l:Expr} {tl:TE} (hl:PE X l tl):PI X tg l (iTup X.K tl):=by
  intro pins s σ H R I h
  refine thn (hl pins s σ H _ I h) fun v s1 ⟨x,H1,I1,r1,q1⟩=>?_
  obtain ⟨a,e,⟨xs,hq⟩,q⟩:=q1
  subst e
  cases r1
  obtain ⟨its,rv,p,hz⟩:=I1.tuple hq
  refine wpAny_pyIter_tuple (show s1.heap.IsTuple a its.toArray from p) ?_
  refine ⟨s1.heap.objs.size,[s1.heap.objs.size],_,_,H1,rfl,I1.kept (t':=s1.toks) fun b o e=>Heap.get?_push_of_some _ e,zkJ a _,⟨_,Heap.get?_push_size _ rfl,rfl,rfl⟩,fun b hb=>?_,q⟩
  have e:b=s1.heap.objs.size:=by simpa using hb
  subst e
  exact I1.fpOk (Nat.le_refl _) (I1.hok.fresh (Nat.le_refl _))
theorem zjP {pins:List (Addr × Obj)} {σ:St} {H:Hp} {s:Shared} {R:It→Hp→Prop} {E:Value→Shared→Prop} {lo hi:Int} {t u v:Tok} {tk:Nat} (I:Inv X pins σ H s) (h1 : -(2 ^ 62) ≤ lo) (h2:lo < 2 ^ 62) (h3 : -(2 ^ 62) ≤ hi) (h4:hi < 2 ^ 62)
    (q:R (Itr lo (hi - lo).toNat) H):wpAny (model X.prog X.w) X.A (pyIter (.ref s.heap.objs.size)) (PIE X pins σ tg R) E { s with heap:=s.heap.push { cls:=.type "range",data:=.fields #[.int lo t,.int hi u,.int 1 v] },toks:=tk }:=by
  refine wpAny_pyIter_range (IsRange.new ..) (small_one h1 h2 h3 h4) ?_
  have I1:Inv X pins σ H { s with heap:=s.heap.push { cls:=.type "range",data:=.fields #[.int lo t,.int hi u,.int 1 v] },toks:=tk }:=I.kept fun b o e=>Heap.get?_push_of_some _ e
  refine ⟨(s.heap.push { cls:=.type "range",data:=.fields #[.int lo t,.int hi u,.int 1 v] }).objs.size,[(s.heap.push { cls:=.type "range",data:=.fields #[.int lo t,.int hi u,.int 1 v] }).objs.size],_,_,H,rfl,
    I1.kept (t':=tk) fun b o e=>Heap.get?_push_of_some _ e,zj8 _ lo (hi - lo).toNat,?_,fun b hb=>?_,q⟩
  · have e1:lo + ((0:Nat):Int) * 1=lo:=by simp
    have e2:(((hi - lo).toNat:Nat):Int) - ((0:Nat):Int)=Builtin.Range.rangeSize lo hi 1:=by rw [rangeSize_one]; split <;> omega
    show IsRangeIter _ _ (lo + ((0:Nat):Int) * 1) ((((hi - lo).toNat:Nat):Int) - ((0:Nat):Int)) 1
    rw [e1,e2]
    exact Heap.get?_push_size _ rfl
  · have e:b=(s.heap.push { cls:=.type "range",data:=.fields #[.int lo t,.int hi u,.int 1 v] }).objs.size:=by simpa using hb
    subst e
    exact I1.fpOk (Nat.le_refl _) (I1.hok.fresh (Nat.le_refl _))
def zqD (ta:TA):TI:=fun σ H R=>ta σ H fun vs H1=>∃ j:Int,vs = [.int j]∧-(2 ^ 62) ≤ j∧j < 2 ^ 62∧R (Itr 0 j.toNat) H1
def zpY (ta:TA):TI:=fun σ H R=>ta σ H fun vs H1=>∃ i j:Int,vs = [.int i,.int j]∧(-(2 ^ 62) ≤ i∧i < 2 ^ 62∧-(2 ^ 62) ≤ j∧j < 2 ^ 62)∧R (Itr i (j - i).toNat) H1
theorem za0 {a:Expr} {ta:TA} {p pos:Pos} (hg:Gl X "range") (hm:X.mg "range"=none) (ha:PA X [a] ta) (hs:starEach [a] X.env = [(false,eval a X.env)]:=by rfl):PI X tg (.Call (.Name "range" p) [a] [] pos) (zqD ta):=by
  intro pins s σ H R I h
  refine Call_ (zer I hg hm boot_range (PyProof.Rows.callWith_type1 (thn (ha pos pins s σ H _ I h) fun us s1 ⟨vs,H1,I1,r1,q1⟩=>?_) hs rfl))
  obtain ⟨j,e,q1,q2,q⟩:=q1
  subst e
  cases r1 with
  | cons r rr =>
    cases rr
    obtain ⟨t,rfl⟩:=r
    exact call_range_1 (zjP I1 (by omega) (by omega) q1 q2 (by simpa using q))
theorem zlT {a b:Expr} {ta:TA} {p pos:Pos} (hg:Gl X "range") (hm:X.mg "range"=none) (ha:PA X [a,b] ta) (hs:starEach [a,b] X.env = [(false,eval a X.env),(false,eval b X.env)]:=by rfl) (hs2:starEach [b] X.env = [(false,eval b X.env)]:=by rfl) :
    PI X tg (.Call (.Name "range" p) [a,b] [] pos) (zpY ta):=by
  intro pins s σ H R I h
  refine Call_ (zer I hg hm boot_range (PyProof.Rows.callWith_type1 (thn (ha pos pins s σ H _ I h) fun us s1 ⟨vs,H1,I1,r1,q1⟩=>?_) (by rw [hs,hs2]) (by rw [hs2]; rfl)))
  obtain ⟨i,j,e,⟨q1,q2,q3,q4⟩,q⟩:=q1
  subst e
  cases r1 with
  | cons r rr =>
    cases rr with
    | cons r' rr =>
      cases rr
      obtain ⟨t,rfl⟩:=r
      obtain ⟨t',rfl⟩:=r'
      exact call_range_2 (zjP I1 q1 q2 q3 q4 q)
def tFor (wi:TI) (g:TG) (tb:TS):TS:=fun D σ H=>wi σ H fun J H1=>∃ W:Nat→Nat→St→Hp→Prop,(∃ m,W 0 m σ H1)∧∀ i m σ H,W i m σ H →
  (J.stop i H∧D.nx σ H)∨(J.go i H∧∃ N:St→Hp→Prop,(∀ σ' H',N σ' H'→∃ m',m' < m∧W (i + 1) m' σ' H')∧∀ x H',J.yld i H x H'→g x σ H' fun σ2 H2=>tb { D with nx:=N,ct:=N,bk:=D.nx } σ2 H2)
def zgW (fp:List Addr) (h:Heap):List (Addr × Obj):=fp.filterMap fun b=>(h.get? b).map fun o=>(b,o)
theorem zc8 {fp:List Addr} {h:Heap} {b:Addr} {o:Obj} (hb:b ∈ fp) (e:h.get? b=some o):(b,o) ∈ zgW fp h:=List.mem_filterMap.mpr ⟨b,hb,by rw [e]; rfl⟩
theorem zlm {fp:List Addr} {h:Heap} {p:Addr × Obj} (hp:p ∈ zgW fp h):p.1 ∈ fp∧h.get? p.1=some p.2:=by
  obtain ⟨b,hb,e⟩:=List.mem_filterMap.mp hp
  cases q:h.get? b with
  | none=>rw [q] at e; cases e
  | some o =>
    rw [q] at e
    have e':(b,o)=p:=Option.some.inj e
    subst e'
    exact ⟨hb,q⟩
theorem Inv.pinned {pins:List (Addr × Obj)} {σ:St} {H:Hp} {s:Shared} {fp:List Addr} (I:Inv X pins σ H s) (hf:∀ b ∈ fp,FpOk X pins H b) (ho:∀ b ∈ fp,∃ o,s.heap.get? b=some o∧∀ v,o.data ≠ .cell v):Inv X (pins ++ zgW fp s.heap) σ H s :=
  I.pins_of fun p hp=>(List.mem_append.mp hp).elim (fun z=>I.pin p (List.mem_append_right _ z)) fun z=>by
    obtain ⟨hb,e⟩:=zlm z
    obtain ⟨f0,f1,f2,_⟩:=hf p.1 hb
    obtain ⟨o,e',d⟩:=ho p.1 hb
    rw [e] at e'; cases e'
    exact ⟨e,f0,f1,f2,d⟩
theorem Inv.unpinned {pins pl:List (Addr × Obj)} {σ:St} {H:Hp} {s:Shared} (I:Inv X (pins ++ pl) σ H s):Inv X pins σ H s:=I.pins_of fun p hp=>I.pin p (List.mem_append_right _ (List.mem_append_left _ hp))
theorem zbG {iter:Expr} {body:List Stmt} {wi:TI} {g:TG} {tb:TS} {pos:Pos} (hp:PassesOwn (model X.prog X.w) X.A X.env X.xe) (hc:X.calm=true) (hi:PI X tg iter wi) (hg:PG X tg g) (hb:PSs X body tb)
    (hs:∀ x,foldedSetIterable iter X.env x=pure x:=by intro _; rfl):PS X (.For tg iter body [] pos) (tFor wi g tb):=by
  intro pins s σ H D I h
  refine wpAny_For (thn (hi pins s σ H _ I h) fun v s1 h1=>thn h1 fun itv s2 h2=>?_) hs
  obtain ⟨it,fp,tn,J,H2,e,I2,T,st2,f2,W,⟨m0,w0⟩,turn⟩:=h2
  subst e
  -- what stays true of the iterator's objects through the loop
  have stat:∀ {H':Hp},(∀ b ∈ fp,H' b=none)→∀ b ∈ fp,FpOk X pins H' b:=fun hn b hb=>⟨hn b hb,(f2 b hb).2⟩
  refine codeAny_forLoop_any (fun n s'=>∃ i σ' H',Inv X pins σ' H' s'∧tn i s'.heap∧(∀ b ∈ fp,H' b=none)∧W i n σ' H') ?_ m0 ⟨0,σ,H2,I2,st2,fun b hb=>(f2 b hb).1,w0⟩
  rintro n s3 ⟨i,σ3,H3,I3,st3,fr3,w3⟩
  rcases turn i n σ3 H3 w3 with ⟨stop,qn⟩ | ⟨go,N,hN,step⟩
  · refine wpAny_passesOwn hp (thn (T.done X rfl rfl rfl hc i pins s3 σ3 H3 X.xe I3 (stat fr3) st3 stop) fun r s4 ⟨hr,I4⟩=>?_)
    subst hr
    exact wpAny_execs_nil ⟨σ3,H3,I4,qn⟩
  · refine wpAny_passesOwn hp (thn (T.item X rfl rfl rfl hc i pins s3 σ3 H3 X.xe I3 (stat fr3) st3 go) fun r s4 ⟨u,hr,h4⟩=>?_)
    subst hr
    refine wpAny_passesOwn hp (thn h4 fun _ s5 ⟨x,H5,I5,r5,y5,st5,fr5⟩=>?_)
    have I5':=I5.pinned (stat fr5) (T.obj _ _ st5)
    refine wpAny_passesOwn hp (thn (hg _ s5 σ3 H5 x u _ I5' r5 (step x H5 y5)) fun _ s6 ⟨σ6,H6,I6,q6⟩=>?_)
    refine wpAny_passesOwn hp (thn (hb _ s6 σ6 H6 _ I6 q6) fun f s7 q7=>?_)
    have again:∀ {σ7:St} {H7:Hp},Inv X (pins ++ zgW fp s5.heap) σ7 H7 s7→N σ7 H7→∃ m,m < n∧∃ i σ' H',Inv X pins σ' H' s7∧tn i s7.heap∧(∀ b ∈ fp,H' b=none)∧W i m σ' H':=fun {σ7 H7} I7 n7=>by
      obtain ⟨m',hm,w7⟩:=hN σ7 H7 n7
      refine ⟨m',hm,i + 1,σ7,H7,I7.unpinned,T.keep _ _ _ st5 fun b hb o e=>(I7.pin (b,o) (List.mem_append_right _ (List.mem_append_right _ (zc8 hb e)))).1,fun b hb=>?_,w7⟩
      obtain ⟨o,e,d⟩:=T.obj _ _ st5 b hb
      exact (I7.pin (b,o) (List.mem_append_right _ (List.mem_append_right _ (zc8 hb e)))).2.1
    cases f with
    | next=>obtain ⟨σ7,H7,I7,n7⟩:=q7; exact again I7 n7
    | cont=>obtain ⟨σ7,H7,I7,n7⟩:=q7; exact again I7 n7
    | brk=>obtain ⟨σ7,H7,I7,q7⟩:=q7; exact ⟨σ7,H7,I7.unpinned,q7⟩
    | ret v=>obtain ⟨x7,σ7,H7,I7,r7,q7⟩:=q7; exact ⟨x7,σ7,H7,I7.unpinned,r7,q7⟩
end
end L2
namespace L2
open PySem PySem.Spec PyProof.Rows
abbrev R2:=V→V→Hp→VK→Prop
def OpR (X:Cx) (f:Value→Value→Sem Value) (r:R2):Prop :=
  ∀ (pins:List (Addr × Obj)) (s:Shared) (σ:St) (H:Hp) (x y:V) (v u:Value) (Q:VK),Inv X pins σ H s→RelV x v→RelV y u→r x y H Q →
    wpAny (model X.prog X.w) X.A (f v u) (EP X pins σ Q) X.xe s
def UnR (X:Cx) (f:Value→Sem Value) (r:V→Hp→VK→Prop):Prop :=
  ∀ (pins:List (Addr × Obj)) (s:Shared) (σ:St) (H:Hp) (x:V) (v:Value) (Q:VK),Inv X pins σ H s→RelV x v→r x H Q →
    wpAny (model X.prog X.w) X.A (f v) (EP X pins σ Q) X.xe s
def zdI (X:Cx) (f:Value) (r:List V→Hp→VK→Prop):Prop :=
  ∀ (pins:List (Addr × Obj)) (s:Shared) (σ:St) (H:Hp) (xs:List V) (us:List Value) (Q:VK),Inv X pins σ H s→Vals xs us→r xs H Q →
    wpAny (model X.prog X.w) X.A (call f us) (EP X pins σ Q) X.xe s
def tOp (r:R2) (ta tb:TE):TE:=fun σ H Q=>ta σ H fun x H1=>tb σ H1 fun y H2=>r x y H2 Q
def tUn (r:V→Hp→VK→Prop) (ta:TE):TE:=fun σ H Q=>ta σ H fun x H1=>r x H1 Q
def rI (C:Int→Int→Prop) (g:Int→Int→V):R2:=fun x y H Q=>∃ i j,x = .int i∧y = .int j∧C i j∧Q (g i j) H
def rI0 (g:Int→Int→V):R2:=fun x y H Q=>∃ i j,x = .int i∧y = .int j∧Q (g i j) H
def rU (g:Int→V):V→Hp→VK→Prop:=fun x H Q=>∃ i,x = .int i∧Q (g i) H
section
variable {X:Cx} {a b c:Expr} {ta tb tc:TE} {pos:Pos}
theorem binT (ha:PE X a ta) (hb:PE X b tb) {pins:List (Addr × Obj)} {s:Shared} {σ:St} {H:Hp} {R:V→V→Hp→Prop} (I:Inv X pins σ H s)
    (h:ta σ H fun x H1=>tb σ H1 fun y H2=>R x y H2) {Q:Value→Shared→Prop} {f:Value→Value→Sem Value}
    (hf:∀ v u s2 x y H2,Inv X pins σ H2 s2→RelV x v→RelV y u→R x y H2→wpAny (model X.prog X.w) X.A (f v u) Q X.xe s2) :
    wpAny (model X.prog X.w) X.A (eval a X.env) (fun v s₁=>wpAny (model X.prog X.w) X.A (eval b X.env) (fun u s₂=>wpAny (model X.prog X.w) X.A (f v u) Q X.xe s₂) X.xe s₁) X.xe s:=by
  refine thn (ha pins s σ H _ I h) fun v s1 ⟨x,H1,I1,r1,q1⟩=>?_
  refine thn (hb pins s1 σ H1 _ I1 q1) fun u s2 ⟨y,H2,I2,r2,q2⟩=>?_
  exact hf v u s2 x y H2 I2 r1 r2 q2
theorem zaP {op:Operator} {r:R2} (ho:OpR X (binaryOp op) r) (ha:PE X a ta) (hb:PE X b tb):PE X (.BinOp a op b pos) (tOp r ta tb):=by
  intro pins s σ H Q I h
  exact wpAny_BinOp (binT ha hb I h fun v u s2 x y H2 I2 rx ry q=>ho pins s2 σ H2 x y v u Q I2 rx ry q)
theorem zkU {op:UnaryOp} {r:V→Hp→VK→Prop} (ho:UnR X (unaryOp op) r) (ha:PE X a ta):PE X (.UnaryOp op a pos) (tUn r ta):=by
  intro pins s σ H Q I h
  exact UnaryOp_ (thn (ha pins s σ H _ I h) fun v s1 ⟨x,H1,I1,r1,q1⟩=>ho pins s1 σ H1 x v Q I1 r1 q1)
theorem opI {f:Value→Value→Sem Value} {C:Int→Int→Prop} {g:Int→Int→Int}
    (rule:∀ (i j:Int) (t u:Tok) (s:Shared) (Q:Value→Shared→Prop) (E:Value→Shared→Prop),C i j→Q (.int (g i j) s.toks) { s with toks:=s.toks + 1 }→wpAny (model X.prog X.w) X.A (f (.int i t) (.int j u)) Q E s) :
    OpR X f (rI C fun i j=>.int (g i j)):=by
  intro pins s σ H x y v u Q I rx ry h
  obtain ⟨i,j,rfl,rfl,hc,q⟩:=h
  obtain ⟨t,rfl⟩:=rx
  obtain ⟨t',rfl⟩:=ry
  exact rule i j t t' s _ _ hc ⟨.int (g i j),H,I.tok _,⟨_,rfl⟩,q⟩
theorem opI0 {f:Value→Value→Sem Value} {g:Int→Int→Int}
    (rule:∀ (i j:Int) (t u:Tok) (s:Shared) (Q:Value→Shared→Prop) (E:Value→Shared→Prop),Q (.int (g i j) s.toks) { s with toks:=s.toks + 1 }→wpAny (model X.prog X.w) X.A (f (.int i t) (.int j u)) Q E s) :
    OpR X f (rI0 fun i j=>.int (g i j)):=by
  intro pins s σ H x y v u Q I rx ry h
  obtain ⟨i,j,rfl,rfl,q⟩:=h
  obtain ⟨t,rfl⟩:=rx
  obtain ⟨t',rfl⟩:=ry
  exact rule i j t t' s _ _ ⟨.int (g i j),H,I.tok _,⟨_,rfl⟩,q⟩
theorem opB0 {f:Value→Value→Sem Value} {g:Int→Int→Bool}
    (rule:∀ (i j:Int) (t u:Tok) (s:Shared) (Q:Value→Shared→Prop) (E:Value→Shared→Prop),Q (.bool (g i j)) s→wpAny (model X.prog X.w) X.A (f (.int i t) (.int j u)) Q E s) :
    OpR X f (rI0 fun i j=>.bl (g i j)):=by
  intro pins s σ H x y v u Q I rx ry h
  obtain ⟨i,j,rfl,rfl,q⟩:=h
  obtain ⟨t,rfl⟩:=rx
  obtain ⟨t',rfl⟩:=ry
  exact rule i j t t' s _ _ ⟨.bl (g i j),H,I,rfl,q⟩
def CPow (i j:Int):Prop:=0 ≤ j∧j ≤ 1000000∧i.natAbs < 2 ^ 64
theorem zbm:OpR X (binaryOp .Add) (rI0 fun i j=>.int (i + j)):=opI0 fun _ _ _ _ _ _ _ q=>add_int q
theorem ziB:OpR X (binaryOp .Sub) (rI0 fun i j=>.int (i - j)):=opI0 fun _ _ _ _ _ _ _ q=>sub_int q
theorem zeJ:OpR X (binaryOp .Mod) (rI (fun _ j=>0 < j) fun i j=>.int (i % j)):=opI fun i j _ _ _ _ _ hc q=>by
  have h1:(0:Int) < j:=hc
  exact mod_int' (by omega) (by rw [Int.fmod_eq_emod_of_nonneg i (by omega)]; exact q)
theorem zox:OpR X (binaryOp .Pow) (rI CPow fun i j=>.int (i ^ j.toNat)):=opI fun _ _ _ _ _ _ _ hc q=>pow_int_small hc.1 hc.2.1 hc.2.2 q
theorem unI {f:Value→Sem Value} {g:Int→Int}
    (rule:∀ (i:Int) (t:Tok) (s:Shared) (Q:Value→Shared→Prop) (E:Value→Shared→Prop),Q (.int (g i) s.toks) { s with toks:=s.toks + 1 }→wpAny (model X.prog X.w) X.A (f (.int i t)) Q E s) :
    UnR X f (rU fun i=>.int (g i)):=by
  intro pins s σ H x v Q I rx h
  obtain ⟨i,rfl,q⟩:=h
  obtain ⟨t,rfl⟩:=rx
  exact rule i t s _ _ ⟨.int (g i),H,I.tok _,⟨_,rfl⟩,q⟩
theorem zgP:UnR X (unaryOp .USub) (rU fun i=>.int (-i)):=unI fun _ _ _ _ _ q=>neg_int q
end
def scal:V→V→Bool
  | .non,.non=>true | .non,.int _=>true | .int _,.non=>true | .non,.bl _=>true | .bl _,.non=>true | .non,.str _=>true | .str _,.non=>true
  | .int _,.int _=>true | .bl _,.bl _=>true | .str _,.str _=>true | .byt _,.byt _=>true
  | .int _,.str _=>true | .str _,.int _=>true | .bl _,.str _=>true | .str _,.bl _=>true
  | _,_=>false
def rEq:R2:=fun x y H Q=>scal x y=true∧Q (.bl (decide (x=y))) H
def rNe:R2:=fun x y H Q=>scal x y=true∧Q (.bl (!decide (x=y))) H
theorem zmI {i j:Int}:decide (V.int i=V.int j)=(i == j):=by
  rw [Bool.eq_iff_iff]
  simp
theorem zoo {i j:Bool}:decide (V.bl i=V.bl j)=(i == j):=by
  rw [Bool.eq_iff_iff]
  simp
theorem zlo {i j:Str}:decide (V.str i=V.str j)=(i == j):=by
  rw [Bool.eq_iff_iff]
  simp
theorem zmp {i j:Array UInt8}:decide (V.byt i=V.byt j)=(i.toList == j.toList):=by
  rw [Bool.eq_iff_iff]
  cases i
  cases j
  simp
section
variable {X:Cx} {a b c:Expr} {ta tb tc:TE} {pos:Pos}
theorem zbd {pins:List (Addr × Obj)} {σ:St} {H:Hp} {s:Shared} {Q:VK} {k k':Bool} (I:Inv X pins σ H s) (q:Q (.bl k) H) (e:k=k'):EP X pins σ Q (.bool k') s:=by
  subst e
  exact ⟨.bl k,H,I,rfl,q⟩
theorem zhA:OpR X (compareOp .Eq) rEq:=by
  intro pins s σ H x y v u Q I rx ry h
  obtain ⟨hs,q⟩:=h
  cases x with
  | non =>
    cases rx
    cases y with
    | non=>cases ry; exact PySem.EqNone.eq_none_none (zbd I q (by simp))
    | bl j=>cases ry; exact PySem.EqNone.eq_none_bool (zbd I q (by simp))
    | int j=>obtain ⟨t',rfl⟩:=ry; exact PySem.EqNone.eq_none_int (zbd I q (by simp))
    | str j=>obtain ⟨t',rfl⟩:=ry; exact PySem.EqNone.eq_none_str (zbd I q (by simp))
    | _=>exact absurd (show false=true from hs) Bool.false_ne_true
  | bl i =>
    cases rx
    cases y with
    | non=>cases ry; exact PySem.EqNone.eq_bool_none (zbd I q (by simp))
    | bl j=>cases ry; exact eq_bool (zbd I q zoo)
    | str j=>obtain ⟨t',rfl⟩:=ry; exact PySem.EqMixed.eq_bool_str (zbd I q (by simp))
    | _=>exact absurd (show false=true from hs) Bool.false_ne_true
  | int i =>
    obtain ⟨t,rfl⟩:=rx
    cases y with
    | non=>cases ry; exact PySem.EqNone.eq_int_none (zbd I q (by simp))
    | int j=>obtain ⟨t',rfl⟩:=ry; exact eq_int (zbd I q zmI)
    | str j=>obtain ⟨t',rfl⟩:=ry; exact PySem.EqMixed.eq_int_str (zbd I q (by simp))
    | _=>exact absurd (show false=true from hs) Bool.false_ne_true
  | str i =>
    obtain ⟨t,rfl⟩:=rx
    cases y with
    | non=>cases ry; exact PySem.EqNone.eq_str_none (zbd I q (by simp))
    | bl j=>cases ry; exact PySem.EqMixed.eq_str_bool (zbd I q (by simp))
    | int j=>obtain ⟨t',rfl⟩:=ry; exact PySem.EqMixed.eq_str_int (zbd I q (by simp))
    | str j=>obtain ⟨t',rfl⟩:=ry; exact eq_str (zbd I q zlo)
    | _=>exact absurd (show false=true from hs) Bool.false_ne_true
  | byt i =>
    obtain ⟨t,rfl⟩:=rx
    cases y with
    | byt j=>obtain ⟨t',rfl⟩:=ry; exact PySem.W.eq_bytes (zbd I q zmp)
    | _=>exact absurd (show false=true from hs) Bool.false_ne_true
  | _=>cases y <;> exact absurd (show false=true from hs) Bool.false_ne_true
theorem zmy:OpR X (compareOp .NotEq) rNe:=by
  intro pins s σ H x y v u Q I rx ry h
  obtain ⟨hs,q⟩:=h
  cases x with
  | non =>
    cases rx
    cases y with
    | non=>cases ry; exact PySem.EqNone.ne_none_none (zbd I q (by simp))
    | bl j=>cases ry; exact PySem.EqNone.ne_none_bool (zbd I q (by simp))
    | int j=>obtain ⟨t',rfl⟩:=ry; exact PySem.EqNone.ne_none_int (zbd I q (by simp))
    | str j=>obtain ⟨t',rfl⟩:=ry; exact PySem.EqNone.ne_none_str (zbd I q (by simp))
    | _=>exact absurd (show false=true from hs) Bool.false_ne_true
  | bl i =>
    cases rx
    cases y with
    | non=>cases ry; exact PySem.EqNone.ne_bool_none (zbd I q (by simp))
    | bl j=>cases ry; exact ne_bool (zbd I q (congrArg not zoo))
    | str j=>obtain ⟨t',rfl⟩:=ry; exact PySem.EqMixed.ne_bool_str (zbd I q (by simp))
    | _=>exact absurd (show false=true from hs) Bool.false_ne_true
  | int i =>
    obtain ⟨t,rfl⟩:=rx
    cases y with
    | non=>cases ry; exact PySem.EqNone.ne_int_none (zbd I q (by simp))
    | int j=>obtain ⟨t',rfl⟩:=ry; exact ne_int (zbd I q (congrArg not zmI))
    | str j=>obtain ⟨t',rfl⟩:=ry; exact PySem.EqMixed.ne_int_str (zbd I q (by simp))
    | _=>exact absurd (show false=true from hs) Bool.false_ne_true
  | str i =>
    obtain ⟨t,rfl⟩:=rx
    cases y with
    | non=>cases ry; exact PySem.EqNone.ne_str_none (zbd I q (by simp))
    | bl j=>cases ry; exact PySem.EqMixed.ne_str_bool (zbd I q (by simp))
    | int j=>obtain ⟨t',rfl⟩:=ry; exact PySem.EqMixed.ne_str_int (zbd I q (by simp))
    | str j=>obtain ⟨t',rfl⟩:=ry; exact ne_str (zbd I q (congrArg not zlo))
    | _=>exact absurd (show false=true from hs) Bool.false_ne_true
  | byt i =>
    obtain ⟨t,rfl⟩:=rx
    cases y with
    | byt j=>obtain ⟨t',rfl⟩:=ry; exact PySem.W.ne_bytes (zbd I q (congrArg not zmp))
    | _=>exact absurd (show false=true from hs) Bool.false_ne_true
  | _=>cases y <;> exact absurd (show false=true from hs) Bool.false_ne_true
theorem zqr:OpR X (compareOp .Lt) (rI0 fun i j=>.bl (decide (i < j))):=opB0 fun _ _ _ _ _ _ _ q=>lt_int q
theorem zmY:OpR X (compareOp .Gt) (rI0 fun i j=>.bl (decide (j < i))):=opB0 fun _ _ _ _ _ _ _ q=>gt_int q
theorem zp0:OpR X (compareOp .Is) (fun x y H Q=>y = .non∧Q (.bl (decide (x = .non))) H):=by
  intro pins s σ H x y v u Q I rx ry h
  obtain ⟨rfl,q⟩:=h
  cases ry
  refine is_none_gen (zbd I q ?_)
  cases x <;> first
    | (cases rx; rfl)
    | (obtain ⟨t,rfl⟩:=rx; rfl)
theorem za4 (b:Expr) {op:CmpOp} (h:op ≠ .In:=by decide) (h2:op ≠ .NotIn:=by decide):behindInMarks op b=false:=by
  have e1:(op == CmpOp.In)=false:=by cases op <;> first | rfl | exact absurd rfl h
  have e2:(op == CmpOp.NotIn)=false:=by cases op <;> first | rfl | exact absurd rfl h2
  cases b <;> simp [behindInMarks,e1,e2]
theorem zhq {op:CmpOp} {r:R2} (ho:OpR X (compareOp op) r) (ha:PE X a ta) (hb:PE X b tb) (hm:behindInMarks op b=false):PE X (.Compare a [op] [b] pos) (tOp r ta tb):=by
  intro pins s σ H Q I h
  exact wpAny_Compare1 (binT ha hb I h fun v u s2 x y H2 I2 rx ry q=>ho pins s2 σ H2 x y v u Q I2 rx ry q) hm
def zqv (t:TE):TT:=fun σ H Q=>t σ H fun x H'=>∃ k,x = .bl k∧Q k H'
theorem zaM {op:CmpOp} {r:R2} (ho:OpR X (compareOp op) r) (ha:PE X a ta) (hb:PE X b tb) (hm:behindInMarks op b=false):PT X (.Compare a [op] [b] pos) (zqv (tOp r ta tb)):=by
  intro pins s σ H Q I h
  refine wpAny_isTrue_Compare1 (thn (ha pins s σ H _ I h) fun v s1 ⟨x,H1,I1,r1,q1⟩=>thn (hb pins s1 σ H1 _ I1 q1) fun u s2 ⟨y,H2,I2,r2,q2⟩ =>
    thn (ho pins s2 σ H2 x y v u _ I2 r1 r2 q2) fun c s3 ⟨z,H3,I3,r3,k,e,q3⟩=>?_) hm
  subst e
  cases r3
  exact wpAny_truthy_bool ⟨H3,I3,q3⟩
theorem zjX:(sizeLine:Nat) < 2 ^ 63:=by rw [sizeLine_eq]; decide
theorem zey {x:V} {us:List Value} (r:Vals [x] us):∃ u,us = [u]∧RelV x u:=by
  cases r with
  | cons r1 r2=>cases r2; exact ⟨_,rfl,r1⟩
theorem zll {x y:V} {us:List Value} (r:Vals [x,y] us):∃ u w',us = [u,w']∧RelV x u∧RelV y w':=by
  cases r with
  | cons r1 r2 =>
    cases r2 with
    | cons r3 r4=>cases r4; exact ⟨_,_,rfl,r1,r3⟩
theorem zj1:zdI X (.builtin "abs") (fun xs H Q=>∃ i,xs = [.int i]∧Q (.int (if i < 0 then -i else i)) H):=by
  intro pins s σ H xs us Q I r h
  obtain ⟨i,rfl,q⟩:=h
  obtain ⟨u,rfl,t,rfl⟩:=zey r
  exact call_abs_int fun u tk=>⟨.int (if i < 0 then -i else i),H,I.tok _,⟨_,rfl⟩,q⟩
theorem zl1 (hc:X.calm=true):zdI X (.builtin "max") (fun xs H Q=>∃ i j,xs = [.int i,.int j]∧Q (.int (if j > i then j else i)) H):=by
  intro pins s σ H xs us Q I r h
  obtain ⟨i,j,rfl,q⟩:=h
  obtain ⟨u,w',rfl,⟨t,rfl⟩,⟨t',rfl⟩⟩:=zll r
  refine max_two_ints (I.ok.hd hc) fun h' tk k=>⟨_,H,I.kept k,?_,q⟩
  by_cases hj:j > i
  · rw [if_pos hj,if_pos hj]; exact ⟨_,rfl⟩
  · rw [if_neg hj,if_neg hj]; exact ⟨_,rfl⟩
theorem zic (hc:X.calm=true):zdI X (.builtin "min") (fun xs H Q=>∃ i j,xs = [.int i,.int j]∧Q (.int (if j < i then j else i)) H):=by
  intro pins s σ H xs us Q I r h
  obtain ⟨i,j,rfl,q⟩:=h
  obtain ⟨u,w',rfl,⟨t,rfl⟩,⟨t',rfl⟩⟩:=zll r
  refine min_two_ints (I.ok.hd hc) fun h' tk k=>⟨_,H,I.kept k,?_,q⟩
  by_cases hj:j < i
  · rw [if_pos hj,if_pos hj]; exact ⟨_,rfl⟩
  · rw [if_neg hj,if_neg hj]; exact ⟨_,rfl⟩
end
end L2
namespace L2
open PySem PySem.Spec PyProof.Rows
structure ObjM (h:Heap) (x dx C:Addr) (mA:Str→Option Value):Prop where
  obj:h.get? x=some (PySem.W.instObj C dx)
  ns:h.Ns1 dx mA
  ne:dx ≠ x
theorem zle {h:Heap} {dx:Addr} {mA:Str→Option Value} (n:h.Ns1 dx mA):∃ od,h.get? dx=some od∧∀ name,PySem.W.lookIn name od=some (mA name):=by
  obtain ⟨o,es,ep,ho,hd,hk,_,hm⟩:=n
  refine ⟨o,ho,fun name=>?_⟩
  have e:=hm name
  unfold nsFind findBy at e
  rw [← Array.find?_toList] at e
  unfold PySem.W.lookIn
  rw [hd]
  dsimp only
  split
  · rename_i y q
    rw [q] at e
    exact congrArg some e
  · rename_i q
    rw [q] at e
    have a:es.toList.any (·.refKey)=false:=by
      rw [List.any_eq_false]
      intro y hy
      obtain ⟨z,t,hkey⟩:=hk y (Array.mem_toList_iff.mp hy)
      simp [DictEntry.refKey,hkey]
    have a':¬ es.toList.any (·.refKey)=true:=by rw [a]; exact Bool.false_ne_true
    rw [if_neg a']
    exact congrArg some e
theorem ObjM.look {h:Heap} {x dx C:Addr} {mA:Str→Option Value} (I:ObjM h x dx C mA):∃ od,PySem.W.InstAt h x (PySem.W.instObj C dx) C (some od)∧∀ name,PySem.W.lookIn name od=some (mA name) :=
  let ⟨od,ho,hl⟩:=zle I.ns
  ⟨od,⟨I.obj,rfl,rfl,ho⟩,hl⟩
section
variable {prog:Program} {w:World} {A:Around} {E:Value→Shared→Prop} {s:Shared} {K:PySem.W.Frag} {x dx C f:Addr} {mA:Str→Option Value} {name:Str} {v:Value}
theorem get_map {expr:Bool} {Q:Value→Shared→Prop} (X:K.In s.heap) (I:ObjM s.heap x dx C mA) (hg:PySem.W.plainGet K C name=true) (hh:PySem.W.hasDictIn K C=true)
    (ha:PySem.W.findIn K (.ref C) name=some none) (hv:mA name=some v) (hv':PySem.W.handedIn v=true) (h:Q v { s with toks:=s.toks + 1 }) :
    wpAny (model prog w) A (getAttr (.ref x) name expr) Q E s:=by
  obtain ⟨od,J,hl⟩:=I.look
  exact PySem.W.get_value X J (PySem.W.plainGet_of hg).1 (PySem.W.findObj_own hh ha rfl (by rw [hl,hv])) hv' h
theorem znT {pl:Sem Bool} {Q:Value × List Value→Shared→Prop} (X:K.In s.heap) (I:ObjM s.heap x dx C mA) (hg:PySem.W.plainGet K C name=true)
    (hf:PySem.W.findIn K (.ref C) name=some (some (.ref f))) (ht:PySem.W.isFn K (.ref f)=true) (hv:mA name=none) (h:Q (.ref f,[.ref x]) s) :
    wpAny (model prog w) A (getMethod (.ref x) name pl) Q E s:=by
  obtain ⟨od,J,hl⟩:=I.look
  exact PySem.W.method_fn X J (PySem.W.plainGet_of hg).1 (PySem.W.plainGet_of hg).2 hf (beq_iff_eq.mp ht) (by show (PySem.W.lookIn name od).map (·.isSome)=some false; rw [hl,hv]; rfl) h
theorem zpI {ns:List Str} {Q:Unit→Shared→Prop} (X:K.In s.heap) (I:ObjM s.heap x dx C mA)
    (hs:PySem.W.findIn K (.ref C) "__setattr__"=some (some (.builtin "object.__setattr__"))) (hp:PySem.W.plainOver K C=true) (ht:PySem.W.takerIn K C name=some none) (hh:PySem.W.hasDictIn K C=true)
    (hw:PySem.Within mA ns) (hsz:ns.length ≤ sizeLine)
    (h:∀ h',ObjM h' x dx C (fun y=>if y=name then some v else mA y)→Heap.SameBut dx s.heap h'→Q () { s with heap:=h',toks:=s.toks + 2 }) :
    wpAny (model prog w) A (setAttr (.ref x) name v) Q E s:=by
  obtain ⟨od,J,hl⟩:=I.look
  refine PySem.W.set_plain X J hs (PySem.W.osa_open (s:={ s with toks:=s.toks + 1 }) (r:=none) X J hp ht fun b=>?_)
  obtain ⟨cd,hc,hd'⟩:=PySem.W.any_some hh
  have hx:s.heap.get? x=some ⟨.ref C,some dx,.plain,#[]⟩:=I.obj
  refine wpAny_bind (wpAny_pure (wpAny_bind (wpAny_bind (wpAny_loadPart hx (wpAny_bind (PySem.W.Looks.here (s:={ s with toks:=s.toks + 1 }) (PySem.W.looks_clsIn X hc) ?_))))))
  rw [hd']
  refine wpAny_pure (a:=some dx) (wpAny_bind (wpAny_pure (wpAny_bind ?_)))
  refine wpAny_nsSet1 (s:={ s with toks:=s.toks + 1 }) I.ns fun h' hn2 hs2=>?_
  obtain ⟨oD,esD,epD,hoD,hdD,hcD⟩:=hn2.count (PySem.Within.cons name v hw)
  refine wpAny_bind (wpAny_lookBehind hoD (by rw [hdD]; exact pastItsLine_dict (Nat.le_trans hcD (by rw [List.length_cons]; omega))) ?_)
  exact wpAny_pure (h _ ⟨(hs2.2 _ (Ne.symm I.ne)).trans I.obj,hn2,I.ne⟩ hs2)
theorem zmV {R:Result→Shared→Prop} {vs:List Value} {kw:List (Str × Value)} (X:K.In s.heap) (hm:PySem.W.makesIn K C=true)
    (hi:PySem.W.findIn K (.ref C) "__init__"=some (some (.ref f))) (hf:PySem.W.typeIn K (.ref f)=some (.type "function"))
    (h:codeAny (model prog w) (A.under (.builtin "type.__call__" ⟨.ref C :: vs,kw⟩)) (.call (.ref f) ⟨.ref (s.heap.objs.size + 1) :: vs,kw⟩) (PySem.W.InitBack (s.heap.objs.size + 1) R)
      { s with heap:=(s.heap.push PySem.W.emptyDict).push (PySem.W.instObj C s.heap.objs.size) }) :
    codeAny (model prog w) A (.call (.ref C) ⟨vs,kw⟩) R s:=by
  obtain ⟨hh,g,d,t,os⟩:=s
  exact PySem.W.make_core (PySem.W.makes_of X hm) (PySem.W.looks_findIn X hi) (fun self=>PySem.W.bind_fn X self hf) (.inl rfl) h
end
def putF (f:Str) (v:V):List (Str × V)→List (Str × V)
  | []=>[(f,v)]
  | (g,x) :: r=>if g=f then (g,v) :: r else (g,x) :: putF f v r
theorem zgd (f g:Str) (v:V):∀ fs:List (Str × V),(putF f v fs).lookup g=if g=f then some v else fs.lookup g
  | []=>by
    show List.lookup g [(f,v)]=_
    by_cases h:g=f
    · have hb:(g == f)=true:=beq_iff_eq.mpr h
      simp only [List.lookup,hb,if_pos h]
    · have hb:(g == f)=false:=beq_eq_false_iff_ne.mpr h
      simp only [List.lookup,hb,if_neg h]
  | (k,x) :: r=>by
    have ih:=zgd f g v r
    rw [show putF f v ((k,x) :: r)=(if k=f then (k,v) :: r else (k,x) :: putF f v r) from rfl]
    by_cases hk:k=f
    · rw [if_pos hk]
      by_cases h:g=k
      · have hb:(g == k)=true:=beq_iff_eq.mpr h
        simp only [List.lookup,hb,if_pos (h.trans hk)]
      · have hb:(g == k)=false:=beq_eq_false_iff_ne.mpr h
        simp only [List.lookup,hb,if_neg (fun e:g=f=>h (e.trans hk.symm))]
    · rw [if_neg hk]
      by_cases h:g=k
      · have hb:(g == k)=true:=beq_iff_eq.mpr h
        simp only [List.lookup,hb,if_neg (fun e:g=f=>hk (h.symm.trans e))]
      · have hb:(g == k)=false:=beq_eq_false_iff_ne.mpr h
        simp only [List.lookup,hb]
        exact ih
theorem zgk (f:Str) (v:V):∀ fs:List (Str × V),f ∈ (putF f v fs).map (·.1)∧∀ g,g ∈ fs.map (·.1)→g ∈ (putF f v fs).map (·.1)
  | []=>⟨by simp [putF],fun g h=>by simp at h⟩
  | (k,x) :: r=>by
    obtain ⟨i1,i2⟩:=zgk f v r
    rw [show putF f v ((k,x) :: r)=(if k=f then (k,v) :: r else (k,x) :: putF f v r) from rfl]
    by_cases hk:k=f
    · rw [if_pos hk]
      subst hk
      exact ⟨by simp,fun g h=>by simpa using h⟩
    · rw [if_neg hk]
      refine ⟨?_,fun g h=>?_⟩
      · rw [List.map_cons]
        exact List.mem_cons_of_mem _ i1
      · rw [List.map_cons] at h ⊢
        rcases List.mem_cons.mp h with e | e
        · exact List.mem_cons.mpr (.inl e)
        · exact List.mem_cons_of_mem _ (i2 g e)
theorem zfU (f:Str) (v:V):∀ fs:List (Str × V),(putF f v fs).length ≤ fs.length + 1
  | []=>by simp [putF]
  | (k,x) :: r=>by
    have ih:=zfU f v r
    rw [show putF f v ((k,x) :: r)=(if k=f then (k,v) :: r else (k,x) :: putF f v r) from rfl]
    by_cases hk:k=f
    · rw [if_pos hk,List.length_cons,List.length_cons]; omega
    · rw [if_neg hk,List.length_cons,List.length_cons]; omega
theorem RelO.some_of {v:V} {o:Option Value} (r:RelO (some v) o):∃ u,o=some u∧RelV v u:=by
  cases o with
  | none=>exact (show False from r).elim
  | some u=>exact ⟨u,rfl,r⟩
theorem RelO.none_of {o:Option Value} (r:RelO none o):o=none:=by
  cases o with
  | none=>rfl
  | some u=>exact (show False from r).elim
theorem zmv {v:V} {u:Value} (r:RelV v u):PySem.W.handedIn u=true:=by
  cases v with
  | non=>cases (show u=Value.none from r); rfl
  | bl b=>cases (show u=Value.bool b from r); rfl
  | int i=>obtain ⟨t,e⟩:=(show ∃ t,u=Value.int i t from r); cases e; rfl
  | str x=>obtain ⟨t,e⟩:=(show ∃ t,u=Value.str x t from r); cases e; rfl
  | byt b=>obtain ⟨t,e⟩:=(show ∃ t,u=Value.bytes b t from r); cases e; rfl
  | flt b=>obtain ⟨t,e⟩:=(show ∃ t,u=Value.float b t from r); cases e; rfl
  | ref a=>cases (show u=Value.ref a from r); rfl
  | ty n=>cases (show u=Value.type n from r); rfl
section
variable {P:Program} {w:World} {H H':Hp} {h h':Heap} {a C dx:Addr} {fs fs':List (Str × V)}
theorem zhz (hok:HOk P w H h) (e:H a=some (.ins C dx fs)):∃ mA,ObjM h a dx C mA∧(∀ f,RelO (fs.lookup f) (mA f))∧PySem.Within mA (fs.map (·.1))∧fs.length ≤ 1000∧H dx=some (.own a):=by
  obtain ⟨d,z,ne,ob,mA,n,r,q⟩:=(show ObjOk P w H h a (.ins C dx fs) from hok a _ e)
  exact ⟨mA,⟨ob,n,ne⟩,r,q,z,d⟩
end
structure Cls (K:PySem.W.Frag) (C:Addr):Prop where
  pg:PySem.W.plainGet K C Str.empty=true
  hd:PySem.W.hasDictIn K C=true
  po:PySem.W.plainOver K C=true
  sa:PySem.W.findIn K (.ref C) "__setattr__"=some (some (.builtin "object.__setattr__"))
theorem Cls.get {K:PySem.W.Frag} {C:Addr} (c:Cls K C) (f:Str):PySem.W.plainGet K C f=true:=c.pg
def NoAttr (K:PySem.W.Frag) (C:Addr) (f:Str):Prop:=PySem.W.findIn K (.ref C) f=some none
theorem NoAttr.taker {K:PySem.W.Frag} {C:Addr} {f:Str} (n:NoAttr K C f):PySem.W.takerIn K C f=some none:=by
  unfold PySem.W.takerIn
  rw [show PySem.W.findIn K (.ref C) f=some none from n]
  rfl
structure Meth (K:PySem.W.Frag) (C:Addr) (m:Str) (f:Addr):Prop where
  at_:PySem.W.findIn K (.ref C) m=some (some (.ref f))
  fn:PySem.W.isFn K (.ref f)=true
  kp:PySem.W.keepIn K (.ref f)=true
section
variable {X:Cx} {pins:List (Addr × Obj)} {σ:St} {H:Hp} {s:Shared} {a C dx:Addr} {fs:List (Str × V)} {f:Str} {v:V} {A:Around} {E:Value→Shared→Prop}
theorem zkB {b:Bool} {Q:Value→Shared→Prop} (I:Inv X pins σ H s) (e:H a=some (.ins C dx fs)) (c:Cls X.K C) (n:NoAttr X.K C f) (l:fs.lookup f=some v)
    (h:∀ u s',Inv X pins σ H s'→RelV v u→Q u s'):wpAny (model X.prog X.w) A (getAttr (.ref a) f b) Q E s:=by
  obtain ⟨mA,O,r,_,_,_⟩:=zhz I.hok e
  obtain ⟨u,hu,ru⟩:=RelO.some_of (v:=v) (o:=mA f) (by rw [← l]; exact r f)
  exact get_map I.kIn O (c.get f) c.hd n hu (zmv ru) (h u _ (I.tok _) ru)
theorem zkh {m:Str} {g:Addr} {pl:Sem Bool} {Q:Value × List Value→Shared→Prop} (I:Inv X pins σ H s) (e:H a=some (.ins C dx fs)) (c:Cls X.K C) (k:Meth X.K C m g) (l:fs.lookup m=none)
    (h:Q (.ref g,[.ref a]) s):wpAny (model X.prog X.w) A (getMethod (.ref a) m pl) Q E s:=by
  obtain ⟨mA,O,r,_,_,_⟩:=zhz I.hok e
  have hn:mA m=none:=RelO.none_of (by rw [← l]; exact r m)
  exact znT I.kIn O (c.get m) k.at_ k.fn hn h
theorem zkc {y:V} {u:Value} {Q:Unit→Shared→Prop} (I:Inv X pins σ H s) (e:H a=some (.ins C dx fs)) (c:Cls X.K C) (n:NoAttr X.K C f) (hl:fs.length < 1000) (ry:RelV y u)
    (h:∀ s',Inv X pins σ (upd H a (.ins C dx (putF f y fs))) s'→Q () s'):wpAny (model X.prog X.w) A (setAttr (.ref a) f u) Q E s:=by
  obtain ⟨mA,O,r,wi,_,ho⟩:=zhz I.hok e
  have hz:(fs.map (·.1)).length ≤ sizeLine:=by rw [List.length_map,sizeLine_eq]; omega
  refine zpI I.kIn O c.sa c.po n.taker c.hd wi hz fun h' O' sb=>h _ ?_
  have hd:∃ o,h'.get? dx=some o:=let ⟨o,_,_,e',_⟩:=O'.ns; ⟨o,e'⟩
  refine I.write (x:=a) (e:=dx) (by rw [e]; exact True.intro) (.inr ho) (fun b q hb z=>(sb.2 b hb).trans z) hd ?_
  refine ⟨by rw [zai O.ne]; exact ho,?_,O.ne,O'.obj,_,O'.ns,fun g=>?_,fun g hg=>?_⟩
  · have:=zfU f y fs; omega
  · show RelO ((putF f y fs).lookup g) (if g=f then some u else mA g)
    rw [zgd]
    by_cases q:g=f
    · rw [if_pos q,if_pos q]; exact ry
    · rw [if_neg q,if_neg q]; exact r g
  · by_cases q:g=f
    · rw [q]; exact (zgk f y fs).1
    · refine (zgk f y fs).2 g (wi g fun z=>hg ?_)
      show (if g=f then some u else mA g)=none
      rw [if_neg q]; exact z
theorem Inv.made (I:Inv X pins σ H s):Inv X pins σ (upd (upd H s.heap.objs.size (.own (s.heap.objs.size + 1))) (s.heap.objs.size + 1) (.ins C s.heap.objs.size []))
    { s with heap:=(s.heap.push PySem.W.emptyDict).push (PySem.W.instObj C s.heap.objs.size) }:=by
  have e1:(s.heap.push PySem.W.emptyDict).get? s.heap.objs.size=some PySem.W.emptyDict:=Heap.get?_push_size s.heap rfl
  have e2:((s.heap.push PySem.W.emptyDict).push (PySem.W.instObj C s.heap.objs.size)).get? (s.heap.objs.size + 1)=some (PySem.W.instObj C s.heap.objs.size):=by
    have:=Heap.get?_push_size (s.heap.push PySem.W.emptyDict) (o:=PySem.W.instObj C s.heap.objs.size) rfl
    rwa [Heap.size_push] at this
  have e3:(s.heap.push PySem.W.emptyDict).Ns s.heap.objs.size (fun _=>none):=⟨PySem.W.emptyDict,#[],_,e1,rfl,(fun e he=>absurd he (by simp)),fun _=>rfl⟩
  have I1:=I.laid (a:=s.heap.objs.size) (o:=.own (s.heap.objs.size + 1)) (h':=s.heap.push PySem.W.emptyDict) (t':=s.toks) (fun b u q=>Heap.get?_push_of_some _ q) (Nat.le_refl _) ⟨_,e1⟩
  refine I1.laid (a:=s.heap.objs.size + 1) (o:=.ins C s.heap.objs.size []) (t':=s.toks) (fun b u q=>Heap.get?_push_of_some _ q) (Nat.le_of_eq (Heap.size_push _ _)) ?_
  have ne:s.heap.objs.size ≠ s.heap.objs.size + 1:=Nat.ne_of_lt (Nat.lt_succ_self _)
  refine ⟨by rw [zai ne,zaj],Nat.zero_le _,ne,e2,fun _=>none,(Heap.Ns1.of_empty e3).at fun o q=>Heap.get?_push_of_some _ q,fun _=>True.intro,fun y hy=>absurd rfl hy⟩
theorem zph {prog:Program} {w:World} {env:Env} {e:Expr} {f:Str} {pos:Pos} {s:Shared} {Q:Value→Shared→Prop} (hb:attributeBase e f env (eval e env)=eval e env)
    (h:wpAny (model prog w) A (eval e env) (fun o s₁=>wpAny (model prog w) A (getAttr o f true) Q E s₁) E s):wpAny (model prog w) A (eval (.Attribute e f pos) env) Q E s :=
  Attribute_any_ h (by rw [arm_eval_Attribute,hb])
end
def tFld (K:PySem.W.Frag) (ta:TE) (f:Str):TE:=fun σ H Q=>ta σ H fun x H1=>∃ a C dx fs v,x = .ref a∧H1 a=some (.ins C dx fs)∧Cls K C∧NoAttr K C f∧fs.lookup f=some v∧Q v H1
def sFld (K:PySem.W.Frag) (ta tv:TE) (f:Str):TS:=fun D σ H=>tv σ H fun y H1=>ta σ H1 fun x H2=>∃ a C dx fs,x = .ref a∧H2 a=some (.ins C dx fs)∧Cls K C∧NoAttr K C f∧fs.length < 1000 ∧
  D.nx σ (upd H2 a (.ins C dx (putF f y fs)))
section
variable {X:Cx} {o e value:Expr} {f:Str} {pos pos' tpos:Pos} {ta tv:TE}
theorem zgJ (he:PE X e ta) (hb:attributeBase e f X.env (eval e X.env)=eval e X.env):PE X (.Attribute e f pos) (tFld X.K ta f):=by
  intro pins s σ H Q I h
  refine zph hb (thn (he pins s σ H _ I h) fun u s1 ⟨x,H1,I1,rx,a,C,dx,fs,v,ex,ea,c,n,l,q⟩=>?_)
  subst ex
  obtain rfl:u=Value.ref a:=rx
  exact zkB I1 ea c n l fun u' s2 I2 ru=>⟨v,H1,I2,ru,q⟩
theorem zn7 (ha:PE X o ta) (hv:PE X value tv) (hs:swapsWith value (some (.Attribute o f pos')) pos.line X.env=pure false):PS X (.Assign [.Attribute o f pos'] value pos) (sFld X.K ta tv f):=by
  intro pins s σ H D I h
  refine plainObj_wpAny_Assign_Attribute (thn (hv pins s σ H _ I h) fun u s1 ⟨y,H1,I1,ry,q⟩=>thn (ha pins s1 σ H1 _ I1 q) fun ov s2 ⟨x,H2,I2,rx,a,C,dx,fs,ex,ea,c,n,l,q2⟩=>?_) hs
  subst ex
  obtain rfl:ov=Value.ref a:=rx
  exact zkc I2 ea c n l ry fun s3 I3=>⟨σ,_,I3,q2⟩
end
section
variable {X:Cx} {pins:List (Addr × Obj)} {σ:St} {H:Hp} {s:Shared} {A:Around} {E:Value→Shared→Prop} {Q:Value→Shared→Prop} {c:Value} {b:Bool}
inductive TyOf (K:PySem.W.Frag) (H:Hp):V→Value→Prop where
  | non:TyOf K H .non (.type "NoneType")
  | bl (x:Bool):TyOf K H (.bl x) (.type "bool")
  | int (i:Int):TyOf K H (.int i) (.type "int")
  | str (x:Str):TyOf K H (.str x) (.type "str")
  | flt (x:UInt64):TyOf K H (.flt x) (.type "float")
  | lst {a:Addr} {xs:List V} (e:H a=some (.lst xs)):TyOf K H (.ref a) (.type "list")
  | frz {a:Addr} {o:Obj} {xs:List V} (e:H a=some (.frz o (.lst xs))):TyOf K H (.ref a) (.type "list")
  | tup {a:Addr} {xs:List V} (e:H a=some (.tup xs)):TyOf K H (.ref a) (.type "tuple")
  | dK {a:Addr} {kvs:List (Key × V)} (e:H a=some (.dK kvs)):TyOf K H (.ref a) (.type "dict")
  | dT {a:Addr} {kvs:List (List Key × V)} (e:H a=some (.dT kvs)):TyOf K H (.ref a) (.type "dict")
  | ins {a C dx:Addr} {fs:List (Str × V)} (e:H a=some (.ins C dx fs)) (cl:Cls K C) (ha:PySem.W.findIn K (.ref C) "__class__"=some (some (.builtin "object.__class__")))
      (hn:PySem.W.specialIn K (.builtin "object.__class__") "__get__"=some (some (.builtin "getset_descriptor.__get__"))) (htk:PySem.W.takesIn K (.builtin "object.__class__")=some true)
      (hm:PySem.W.mroIn K C (.type "object")=some true):TyOf K H (.ref a) (.ref C)
theorem zk9 {x:V} {u t:Value} (I:Inv X pins σ H s) (rx:RelV x u) (ty:TyOf X.K H x t) (e:PySem.W.kitOne X.K t c=some b) (h:∀ tk,Q (.bool b) { s with toks:=tk }) :
    wpAny (model X.prog X.w) A (call (.builtin "isinstance") [u,c]) Q E s:=by
  cases ty with
  | non=>cases (show u=Value.none from rx); exact PySem.W.kia_one PySem.W.kitx_none I.kIn True.intro e (fun z=>nomatch z) h
  | bl y=>cases (show u=Value.bool y from rx); exact PySem.W.kia_one PySem.W.kitx_bool I.kIn True.intro e (fun z=>nomatch z) h
  | int i=>obtain ⟨t,q⟩:=(show ∃ t,u=Value.int i t from rx); cases q; exact PySem.W.kia_one PySem.W.kitx_int I.kIn True.intro e (fun z=>nomatch z) h
  | str y=>obtain ⟨t,q⟩:=(show ∃ t,u=Value.str y t from rx); cases q; exact PySem.W.kia_one PySem.W.kitx_str I.kIn True.intro e (fun z=>nomatch z) h
  | flt y=>obtain ⟨t,q⟩:=(show ∃ t,u=Value.float y t from rx); cases q; exact PySem.W.kia_one PySem.W.kitx_float I.kIn True.intro e (fun z=>nomatch z) h
  | @lst a xs ea =>
    cases (show u=Value.ref a from rx)
    obtain ⟨_,_,n,_,h1⟩:=(show ObjOk X.prog X.w H s.heap a (.lst xs) from I.hok a _ ea)
    exact PySem.W.kia_one PySem.W.kitx_list I.kIn ⟨_,h1,rfl⟩ e (fun z=>nomatch z) h
  | @frz a ob xs ea =>
    cases (show u=Value.ref a from rx)
    obtain ⟨_,_,_,n,_,h1⟩:=(show ObjOk X.prog X.w H s.heap a (.frz ob (.lst xs)) from I.hok a _ ea)
    exact PySem.W.kia_one PySem.W.kitx_list I.kIn ⟨_,h1,rfl⟩ e (fun z=>nomatch z) h
  | @tup a xs ea =>
    cases (show u=Value.ref a from rx)
    obtain ⟨_,_,_,p⟩:=(show ObjOk X.prog X.w H s.heap a (.tup xs) from I.hok a _ ea)
    obtain ⟨o,h1,h2,_⟩:=p
    exact PySem.W.kia_one PySem.W.kitx_tuple I.kIn ⟨o,h1,h2⟩ e (fun z=>nomatch z) h
  | @dK a kvs ea =>
    cases (show u=Value.ref a from rx)
    obtain ⟨_,_,vs,_,p⟩:=(show ObjOk X.prog X.w H s.heap a (.dK kvs) from I.hok a _ ea)
    obtain ⟨o,es,ep,h1,h2,_⟩:=p
    exact PySem.W.kia_one PySem.W.kitx_dict I.kIn ⟨o,h1,h2.1⟩ e (fun z=>nomatch z) h
  | @dT a kvs ea =>
    cases (show u=Value.ref a from rx)
    obtain ⟨_,_,xs,_,o,es,ep,h1,h2,_⟩:=(show ObjOk X.prog X.w H s.heap a (.dT kvs) from I.hok a _ ea)
    exact PySem.W.kia_one PySem.W.kitx_dict I.kIn ⟨o,h1,h2.1⟩ e (fun z=>nomatch z) h
  | @ins a C dx fs ea cl ha hn htk hm =>
    cases (show u=Value.ref a from rx)
    obtain ⟨mA,O,_⟩:=zhz I.hok ea
    obtain ⟨od,J,_⟩:=O.look
    exact PySem.W.kia_one (PySem.W.kitx_own (cl.get _) cl.hd ha hn htk hm) I.kIn J e (fun z=>nomatch z) h
end
end L2
namespace L2
open PySem PySem.Spec PyProof.Rows
structure Room (k:Nat) (A:Around):Prop where
  hd:A.handled=none
  dp:A.depth + 3 * k + 5 < recursionLimit
  un:A.units + 16 * k + 200 < cLine
theorem Room.mono {j k:Nat} {A:Around} (r:Room k A) (h:j ≤ k):Room j A:=⟨r.hd,by have:=r.dp; omega,by have:=r.un; omega⟩
theorem Room.deeper {k:Nat} {A:Around} (r:Room (k + 1) A) (env:Env):Room k (A.deeper env) :=
  ⟨r.hd,by have:=r.dp; show A.depth + 1 + 3 * k + 5 < _; omega,by have:=r.un; show A.units + 3 + 16 * k + 200 < _; omega⟩
theorem zkb {A:Around} {C:Addr} {us:List Value} {kw:List (Str × Value)}:(A.under (.builtin "type.__call__" ⟨.ref C :: us,kw⟩)).depth=A.depth + 1:=by
  first | rfl | simp [Around.under,Code.weight,Code.isCreation,Code.isGuard,Code.isCaller,Code.frames,Code.isFrame,guardIds]
theorem zkj {A:Around} {C:Addr} {us:List Value} {kw:List (Str × Value)}:(A.under (.builtin "type.__call__" ⟨.ref C :: us,kw⟩)).units=A.units + 1:=by
  first | rfl | simp [Around.under,Code.cUnits,Code.frames,Code.isFrame]
theorem Room.make {k:Nat} {A:Around} (r:Room (k + 1) A) (C:Addr) (us:List Value) (kw:List (Str × Value)):Room k (A.under (.builtin "type.__call__" ⟨.ref C :: us,kw⟩)) :=
  ⟨r.hd,by have:=r.dp; rw [zkb]; omega,by have:=r.un; rw [zkj]; omega⟩
theorem Room.depth {k:Nat} {A:Around} (r:Room k A):A.depth < recursionLimit:=by have:=r.dp; omega
theorem Room.units {k:Nat} {A:Around} (r:Room k A):A.units + 64 < cLine:=by have:=r.un; omega
def tNil:TA:=fun _ H Q=>Q [] H
def zby (ta:TE) (tr:TA):TA:=fun σ H Q=>ta σ H fun x H1=>tr σ H1 fun xs H2=>Q (x :: xs) H2
section
variable {X:Cx} {e:Expr} {es:List Expr} {te:TE} {t:TA} {pos:Pos}
theorem zae:PA X [] tNil:=fun _ _ _ _ H Q I h=>Calls.spliced_nil ⟨[],H,I,.nil,h⟩
theorem zab (ha:PE X e te) (hr:PA X es t) (hs:starEach (e :: es) X.env=(false,eval e X.env) :: starEach es X.env:=by rfl):PA X (e :: es) (zby te t):=by
  intro pos pins s σ H Q I h
  rw [hs]
  show wpAny _ _ (spliced ((false,eval e X.env) :: backTo pos (starEach es X.env))) _ _ s
  refine Calls.spliced_cons (thn (ha pins s σ H _ I h) fun u s1 ⟨x,H1,I1,r1,q1⟩=>?_)
  exact thn (hr pos pins s1 σ H1 _ I1 q1) fun us s2 ⟨xs,H2,I2,r2,q2⟩=>⟨x :: xs,H2,I2,.cons r1 r2,q2⟩
def tTup (t:TA):TE:=fun σ H Q=>t σ H fun xs H1=>xs.length ≤ sizeLine∧∀ p,H1 p=none→Q (.ref p) (upd H1 p (.tup xs))
def tLst (t:TA):TE:=fun σ H Q=>t σ H fun xs H1=>xs.length ≤ sizeLine∧∀ p,H1 p=none→Q (.ref p) (upd H1 p (.lst xs))
theorem zdx {x1} (h:PA X es t):PE X (.Tuple es x1 pos) (tTup t):=by
  intro pins s σ H Q I hq
  refine wpAny_Tuple_spliced (thn (h pos pins s σ H _ I hq) fun us s1 ⟨xs,H1,I1,r,z,q⟩=>⟨by rw [← r.length]; exact z,?_⟩)
  have hf:H1 s1.heap.objs.size=none:=I1.hok.fresh (Nat.le_refl _)
  refine ⟨.ref s1.heap.objs.size,upd H1 s1.heap.objs.size (.tup xs),I1.laid (t':=s1.toks) (fun b u e=>Heap.get?_push_of_some _ e) (Nat.le_refl _) ?_,rfl,q _ hf⟩
  exact ⟨z,us,r,⟨_,Heap.get?_push_size _ rfl,rfl,_,rfl⟩⟩
theorem za8 (h:PA X es t):PE X (.List es pos) (tLst t):=by
  intro pins s σ H Q I hq
  refine wpAny_List_spliced (thn (h pos pins s σ H _ I hq) fun us s1 ⟨xs,H1,I1,r,z,q⟩=>⟨by rw [← r.length]; exact z,?_⟩)
  have hf:H1 s1.heap.objs.size=none:=I1.hok.fresh (Nat.le_refl _)
  refine ⟨.ref s1.heap.objs.size,upd H1 s1.heap.objs.size (.lst xs),I1.laid (t':=s1.toks) (fun b u e=>Heap.get?_push_of_some _ e) (Nat.le_refl _) ?_,rfl,q _ hf⟩
  exact ⟨z,us,0,r,Heap.get?_push_size _ rfl⟩
end
abbrev Sp:=List V→Hp→VK→XK→Prop
abbrev CXT:=List Env→Hp→Shared→XK→Value→Shared→Prop
structure Env0 (P:Program) (w:World) (K:PySem.W.Frag) (mg:Str→Option Value) (base:Heap) (A:Around) (outer:List Env) (s:Shared) (H:Hp):Prop where
  frames:A.frames=some outer
  mod:Mod K mg base
  bs:∀ b o,base.get? b=some o→s.heap.get? b=some o∧H b=none
  bsz:base.objs.size ≤ s.heap.objs.size
  funs:s.heap.FunFrames base outer
  frf:∀ b ∈ frs outer,H b=none
  hok:HOk P w H s.heap
  bare:AllBare s.gens
  tb:TbAt K H
def CE (outer:List Env) (P:Program) (w:World) (H:Hp) (s:Shared) (Q:VK) (u:Value) (s':Shared):Prop :=
  ∃ v H',s'.os=s.os∧AllBare s'.gens∧Un (frs outer) [] H H' s.heap s'.heap∧HOk P w H' s'.heap∧RelV v u∧Q v H'
def CR (CX:CXT) (outer:List Env) (P:Program) (w:World) (H:Hp) (s:Shared) (Q:VK) (E:XK) (r:Result) (s':Shared):Prop :=
  match r with
  | .ok (.ret u)=>CE outer P w H s Q u s'
  | .ok _=>False
  | .error e=>CX outer H s E e s'
structure FnOk (P:Program) (w:World) (K:PySem.W.Frag) (mg:Str→Option Value) (base:Heap) (CX:CXT) (k:Nat) (f:Addr) (fd:FuncData) (ps:List Str) (sp:Sp):Prop where
  len:∀ vs H Q E,sp vs H Q E→vs.length=ps.length
  run:∀ (A:Around) (outer:List Env) (s:Shared) (H:Hp) (args:Args) (us:List Value) (vs:List V) (Q:VK) (E:XK),Room k A→Env0 P w K mg base A outer s H→BindsTo s fd args (ps.zip us)→Vals vs us→sp vs H Q E →
    codeAny (model P w) A (.call (.ref f) args) (CR CX outer P w H s Q E) s
theorem FnOk.mono {P:Program} {w:World} {K:PySem.W.Frag} {mg:Str→Option Value} {base:Heap} {CX:CXT} {j k:Nat} {f:Addr} {fd:FuncData} {ps:List Str} {sp:Sp} (F:FnOk P w K mg base CX j f fd ps sp) (h:j ≤ k) :
    FnOk P w K mg base CX k f fd ps sp:=⟨F.len,fun A outer s H args us vs Q E hr=>F.run A outer s H args us vs Q E (hr.mono h)⟩
theorem FnOk.imp {P:Program} {w:World} {K:PySem.W.Frag} {mg:Str→Option Value} {base:Heap} {CX:CXT} {k:Nat} {f:Addr} {fd:FuncData} {ps:List Str} {sp sp':Sp} (F:FnOk P w K mg base CX k f fd ps sp)
    (h:∀ vs H Q E,sp' vs H Q E→sp vs H Q E):FnOk P w K mg base CX k f fd ps sp' :=
  ⟨fun vs H Q E q=>F.len vs H Q E (h _ _ _ _ q),fun A outer s H args us vs Q E hr he hb hv hs=>F.run A outer s H args us vs Q E hr he hb hv (h _ _ _ _ hs)⟩
theorem Env0.make {P:Program} {w:World} {K:PySem.W.Frag} {mg:Str→Option Value} {base:Heap} {A:Around} {outer:List Env} {s:Shared} {H:Hp} (e:Env0 P w K mg base A outer s H) (C:Addr) (us:List Value) (kw:List (Str × Value)) :
    Env0 P w K mg base (A.under (.builtin "type.__call__" ⟨.ref C :: us,kw⟩)) outer s H:=⟨by first | exact e.frames | (simpa [Around.under,Code.envs,Code.isFrame,pushEnvs] using e.frames),e.mod,e.bs,e.bsz,e.funs,e.frf,e.hok,e.bare,e.tb⟩
section
variable {X:Cx} {pins:List (Addr × Obj)} {σ:St} {H:Hp} {s s':Shared}
theorem Inv.env0 (I:Inv X pins σ H s):Env0 X.prog X.w X.K X.mg X.base X.A X.stack s H :=
  ⟨I.ok.frames,I.ok.mod,I.bs,Nat.le_trans I.ok.bsz I.sz,I.stack,I.stkFree,I.hok,I.bare,I.ok.tb.grown I.base.tbls⟩
theorem Inv.after {Q:VK} {u:Value} (I:Inv X pins σ H s) (h:CE X.stack X.prog X.w H s Q u s'):EP X pins σ Q u s':=by
  obtain ⟨v,H',os,bare,un,hok,r,q⟩:=h
  obtain ⟨hh,g,d,t,os'⟩:=s'
  obtain rfl:os'=s.os:=os
  exact ⟨v,H',I.call (h':=hh) (g':=g) (d':=d) (t':=t) (ch:=[]) un hok bare (fun b z=>absurd z (by simp)),r,q⟩
end
def zj9 (sp:Sp) (dvs:List V) (E:XK) (t:TA):TE:=fun σ H Q=>t σ H fun vs H1=>sp (vs ++ dvs) H1 Q E
def zla (C:Addr) (m:Str) (sp:Sp) (dvs:List V) (E:XK) (ta:TE) (t:TA):TE:=fun σ H Q=>ta σ H fun x H1=>∃ a dx fs,x = .ref a∧H1 a=some (.ins C dx fs)∧fs.lookup m=none ∧
  t σ H1 fun vs H2=>sp (x :: (vs ++ dvs)) H2 Q E
def zoJ (C:Addr) (sp:Sp) (dvs:List V) (E:XK) (t:TA):TE:=fun σ H Q=>t σ H fun vs H1=>∀ x dx,H1 x=none→H1 dx=none→dx ≠ x →
  sp (.ref x :: (vs ++ dvs)) (upd (upd H1 dx (.own x)) x (.ins C dx [])) (fun v H2=>v = .non∧Q (.ref x) H2) E
def Binds (K:PySem.W.Frag) (fd:FuncData) (ps:List Str) (ds:List Value):Prop :=
  ∀ (s:Shared) (us:List Value),K.In s.heap→(us ++ ds).length=ps.length→BindsTo s fd ⟨us,[]⟩ (ps.zip (us ++ ds))
theorem Binds.all {K:PySem.W.Frag} {fd:FuncData} {ps:List Str} (h:∀ us:List Value,us.length=ps.length→bindArgs fd ⟨us,[]⟩=pure (ps.zip us)):Binds K fd ps []:=fun s us _ hl=>by
  rw [List.append_nil] at hl ⊢
  exact .of_eq (h us hl)
def zes (CX:CXT) (X:Cx) (E:XK):Prop:=∀ (pins:List (Addr × Obj)) (σ:St) (H:Hp) (s:Shared) (e:Value) (s':Shared),Inv X pins σ H s→CX X.stack H s E e s'→X.xe e s'
section
variable {X:Cx} {CX:CXT} {k:Nat} {f C:Addr} {fd:FuncData} {ps:List Str} {sp:Sp} {dvs:List V} {ds:List Value} {E:XK} {x m:Str} {p pos apos:Pos} {e o:Expr} {es:List Expr} {ta:TE} {t:TA}
theorem zn8 {pins:List (Addr × Obj)} {σ:St} {H:Hp} {s:Shared} {Q:VK} {us:List Value} {vs:List V} (F:FnOk X.prog X.w X.K X.mg X.base CX k f fd ps sp) (hr:Room k X.A) (hb:Binds X.K fd ps ds) (hd:Vals dvs ds) (hx:zes CX X E)
    (I:Inv X pins σ H s) (r:Vals vs us) (h:sp (vs ++ dvs) H Q E):wpAny (model X.prog X.w) X.A (call (.ref f) us) (EP X pins σ Q) X.xe s:=by
  have r2:Vals (vs ++ dvs) (us ++ ds):=r.append hd
  have hl:(us ++ ds).length=ps.length:=by rw [← r2.length]; exact F.len _ _ _ _ h
  refine wpAny_call (codeAny_mono (F.run X.A X.stack s H ⟨us,[]⟩ (us ++ ds) (vs ++ dvs) Q E hr I.env0 (hb s us I.kIn hl) r2 h) fun r s' hq=>?_)
  cases r with
  | error e=>exact hx pins σ H s e s' I hq
  | ok fl =>
    cases fl with
    | ret u=>exact I.after hq
    | next=>exact False.elim hq
    | brk=>exact False.elim hq
    | cont=>exact False.elim hq
theorem zpA (F:FnOk X.prog X.w X.K X.mg X.base CX k f fd ps sp) (hr:Room k X.A) (hg:Gl X x) (hm:X.mg x=some (.ref f)) (hk:PySem.W.keepIn X.K (.ref f)=true) (hb:Binds X.K fd ps ds) (hd:Vals dvs ds) (hx:zes CX X E)
    (ha:PA X (e :: es) t) (hdb:(x == ("__debug__" : Str))=false:=by decide) (he:starEach (e :: es) X.env=(false,eval e X.env) :: starEach es X.env:=by rfl) (hpl:(backTo pos (starEach es X.env)).any (·.1)=false:=by rfl) :
    PE X (.Call (.Name x p) (e :: es) [] pos) (zj9 sp dvs E t):=by
  intro pins s σ H Q I h
  refine wpAny_Call_Name_kw (zln I hg hm ?_ hdb)
  refine PySem.W.callWith_K (h₀:=X.base) I.ok.mod.kin hk (thn (ha pos pins s σ H _ I h) fun us s1 ⟨vs,H1,I1,r,q⟩=>⟨I1.kIn,?_⟩) he hpl
  exact zn8 F hr hb hd hx I1 r q
theorem zoD {pl:Sem Bool} (he:PE X o ta) (c:Cls X.K C) (hm:Meth X.K C m f) (F:FnOk X.prog X.w X.K X.mg X.base CX k f fd ps sp) (hr:Room k X.A) (hb:Binds X.K fd ps ds) (hd:Vals dvs ds) (hx:zes CX X E) (ha:PA X (e :: es) t)
    (hst:starEach (e :: es) X.env=(false,eval e X.env) :: starEach es X.env:=by rfl) (hpl:(backTo pos (starEach es X.env)).any (·.1)=false:=by rfl)
    (ht:eval (.Call (.Attribute o m apos) (e :: es) [] pos) X.env=(do
      let ov ← eval o X.env
      standAt apos.atName
      let (f,first) ← holding [ov] (getMethod ov m pl)
      callWith pos f first (backTo pos (starEach (e :: es) X.env)) (backToKw pos (keywordEach [] X.env))):=by rfl) :
    PE X (.Call (.Attribute o m apos) (e :: es) [] pos) (zla C m sp dvs E ta t):=by
  intro pins s σ H Q I h
  refine PySem.W.methodCall_KW (pl:=pl) (thn (he pins s σ H _ I h) fun u s1 ⟨x,H1,I1,rx,a,dx,fs,ex,ea,l,q⟩=>?_) ht
  subst ex
  obtain rfl:u=Value.ref a:=rx
  refine zkh I1 ea c hm l ?_
  refine PySem.W.callWith_K (first:=[.ref a]) (h₀:=X.base) I.ok.mod.kin hm.kp (thn (ha pos pins s1 σ H1 _ I1 q) fun us s2 ⟨vs,H2,I2,r,q2⟩=>⟨I2.kIn,?_⟩) hst hpl
  exact zn8 (us:=.ref a :: us) (vs:=.ref a :: vs) F hr hb hd hx I2 (.cons rfl r) q2
structure Mk (K:PySem.W.Frag) (C f:Addr):Prop where
  makes:PySem.W.makesIn K C=true
  init:PySem.W.findIn K (.ref C) "__init__"=some (some (.ref f))
  fn:PySem.W.isFn K (.ref f)=true
  kp:PySem.W.keepIn K (.ref C)=true
theorem znB {pins:List (Addr × Obj)} {σ:St} {H:Hp} {s:Shared} {Q:VK} {us:List Value} {vs:List V} (M:Mk X.K C f) (F:FnOk X.prog X.w X.K X.mg X.base CX k f fd ps sp) (hr:Room (k + 1) X.A) (hb:Binds X.K fd ps ds) (hd:Vals dvs ds)
    (hx:zes CX X E) (I:Inv X pins σ H s) (r:Vals vs us)
    (h:∀ x dx,H x=none→H dx=none→dx ≠ x→sp (.ref x :: (vs ++ dvs)) (upd (upd H dx (.own x)) x (.ins C dx [])) (fun v H2=>v = .non∧Q (.ref x) H2) E) :
    wpAny (model X.prog X.w) X.A (call (.ref C) us) (EP X pins σ Q) X.xe s:=by
  have hq:=h (s.heap.objs.size + 1) s.heap.objs.size (I.hok.fresh (Nat.le_succ _)) (I.hok.fresh (Nat.le_refl _)) (Nat.ne_of_lt (Nat.lt_succ_self _))
  have I2:=Inv.made (C:=C) I
  have r2:Vals (V.ref (s.heap.objs.size + 1) :: (vs ++ dvs)) (Value.ref (s.heap.objs.size + 1) :: (us ++ ds)):=.cons rfl (r.append hd)
  have hl:(Value.ref (s.heap.objs.size + 1) :: us ++ ds).length=ps.length:=by
    have e:=r2.length
    rw [F.len _ _ _ _ hq] at e
    exact e.symm
  refine wpAny_call (zmV (f:=f) I.kIn M.makes M.init (beq_iff_eq.mp M.fn) (codeAny_mono (F.run _ X.stack _ _ ⟨Value.ref (s.heap.objs.size + 1) :: us,[]⟩ (Value.ref (s.heap.objs.size + 1) :: (us ++ ds)) _ _ E (hr.make C us [])
    (I2.env0.make C us []) (hb _ (Value.ref (s.heap.objs.size + 1) :: us) I2.kIn hl) r2 hq) fun r s' hq'=>?_))
  cases r with
  | error e=>exact hx pins σ _ _ e s' I2 hq'
  | ok fl =>
    cases fl with
    | ret u =>
      obtain ⟨v,H',I3,rv,ev,q3⟩:=I2.after hq'
      subst ev
      exact ⟨rv,⟨V.ref (s.heap.objs.size + 1),H',I3,rfl,q3⟩⟩
    | next=>exact False.elim hq'
    | brk=>exact False.elim hq'
    | cont=>exact False.elim hq'
theorem zpe (M:Mk X.K C f) (F:FnOk X.prog X.w X.K X.mg X.base CX k f fd ps sp) (hr:Room (k + 1) X.A) (hg:Gl X x) (hm:X.mg x=some (.ref C)) (hb:Binds X.K fd ps ds) (hd:Vals dvs ds) (hx:zes CX X E)
    (ha:PA X (e :: es) t) (hdb:(x == ("__debug__" : Str))=false:=by decide) (he:starEach (e :: es) X.env=(false,eval e X.env) :: starEach es X.env:=by rfl) (hpl:(backTo pos (starEach es X.env)).any (·.1)=false:=by rfl) :
    PE X (.Call (.Name x p) (e :: es) [] pos) (zoJ C sp dvs E t):=by
  intro pins s σ H Q I h
  refine wpAny_Call_Name_kw (zln I hg hm ?_ hdb)
  refine PySem.W.callWith_K (h₀:=X.base) I.ok.mod.kin M.kp (thn (ha pos pins s σ H _ I h) fun us s1 ⟨vs,H1,I1,r,q⟩=>⟨I1.kIn,?_⟩) he hpl
  exact znB M F hr hb hd hx I1 r q
end
section
variable {X:Cx} {CX:CXT} {k:Nat} {f C:Addr} {fd:FuncData} {ps ks:List Str} {sp:Sp} {E:XK} {x m:Str} {p pos apos kpos:Pos} {e o:Expr} {es:List Expr} {kws:List Keyword} {te ta:TE} {t tk:TA} {nm:Option Str}
variable {g:List Value→List Value→List Value} {gV:List V→List V→List V}
end
structure FnScope (N P:List Str) (sc:Scope):Prop where
  kind:sc.kind = .function
  co:sc.isCoroutine=false
  gen:sc.isGenerator=false
  nd:N.Nodup
  pre:N.take P.length=P
  par:∀ x ∈ P,sc.names.lookup x=some .local∨sc.names.lookup x=some .cell
  nofree:∀ y ∈ sc.names,y.2 ≠ .free
theorem zhZ {kindOf:Str→Option NameKind} {x:Str}:∀ {binds:List (Str × Value)} {m:Str→Option Value},(∀ v,(x,v) ∉ binds)→bindL kindOf binds m x=m x
  | [],_,_=>rfl
  | (n,v) :: r,m,h=>by
    unfold bindL
    rw [zhZ fun w hw=>h w (List.mem_cons_of_mem _ hw)]
    split
    · have:x ≠ n:=by rintro rfl; exact h v List.mem_cons_self
      simp [this]
    · rfl
theorem zh5 {kindOf:Str→Option NameKind} {x:Str}:∀ {binds:List (Str × Value)} {m:Str→Option Value},(∀ v,(x,v) ∉ binds)→bindC kindOf binds m x=m x
  | [],_,_=>rfl
  | (n,v) :: r,m,h=>by
    unfold bindC
    rw [zh5 fun w hw=>h w (List.mem_cons_of_mem _ hw)]
    split
    · rfl
    · have:x ≠ n:=by rintro rfl; exact h v List.mem_cons_self
      simp [this]
theorem zh8 {kindOf:Str→Option NameKind} {x:Str} {v:Value}:∀ {P:List Str} {vs:List Value} {i:Nat} {m:Str→Option Value},P.Nodup→P[i]?=some x→vs[i]?=some v→kindOf x=some .local →
    bindL kindOf (P.zip vs) m x=some v
  | [],_,_,_,_,h,_,_=>by simp at h
  | _ :: _,[],_,_,_,_,h,_=>by simp at h
  | p :: P,w :: vs,0,m,nd,h1,h2,hk=>by
    simp at h1 h2; subst h1; subst h2
    show bindL kindOf ((p,w) :: P.zip vs) m p=_
    unfold bindL
    rw [zhZ fun v hv=>(List.nodup_cons.mp nd).1 (List.of_mem_zip hv).1,if_pos hk]
    simp
  | p :: P,w :: vs,i + 1,m,nd,h1,h2,hk=>by
    show bindL kindOf ((p,w) :: P.zip vs) m x=_
    unfold bindL
    exact zh8 (i:=i) (List.nodup_cons.mp nd).2 (by simpa using h1) (by simpa using h2) hk
theorem zhV {kindOf:Str→Option NameKind} {x:Str} {v:Value}:∀ {P:List Str} {vs:List Value} {i:Nat} {m:Str→Option Value},P.Nodup→P[i]?=some x→vs[i]?=some v→kindOf x ≠ some .local →
    bindC kindOf (P.zip vs) m x=some v
  | [],_,_,_,_,h,_,_=>by simp at h
  | _ :: _,[],_,_,_,_,h,_=>by simp at h
  | p :: P,w :: vs,0,m,nd,h1,h2,hk=>by
    simp at h1 h2; subst h1; subst h2
    show bindC kindOf ((p,w) :: P.zip vs) m p=_
    unfold bindC
    rw [zh5 fun v hv=>(List.nodup_cons.mp nd).1 (List.of_mem_zip hv).1,if_neg hk]
    simp
  | p :: P,w :: vs,i + 1,m,nd,h1,h2,hk=>by
    show bindC kindOf ((p,w) :: P.zip vs) m x=_
    unfold bindC
    exact zhV (i:=i) (List.nodup_cons.mp nd).2 (by simpa using h1) (by simpa using h2) hk
def start (N:List Str) (vs:List V):St:=vs.map some ++ List.replicate (N.length - vs.length) none
def cxOf (CX:CXT) (P:Program) (w:World) (K:PySem.W.Frag) (mg:Str→Option Value) (base:Heap) (N:List Str) (qual:Str) (scope:Scope) (f:Addr) (cd:Value) (A:Around) (outer:List Env) (s:Shared) (H:Hp) (E:XK):Cx where
  prog:=P
  w:=w
  K:=K
  mg:=mg
  base:=base
  A:=A.deeper (envOfC qual scope s.heap.objs.size f cd)
  N:=N
  s₀:=s
  H₀:=H
  env:=envOfC qual scope s.heap.objs.size f cd
  outer:=outer
  stack:=envOfC qual scope s.heap.objs.size f cd :: outer
  ex:=[]
  calm:=true
  fn:=fun _=>true
  pn:=[]
  xe:=fun e s'=>wpAny (model P w) (A.deeper (envOfC qual scope s.heap.objs.size f cd)) (leaving (envOfC qual scope s.heap.objs.size f cd) e) (fun _ s''=>CX outer H s E e s'') (fun e' s''=>CX outer H s E e' s'') s'
theorem zjW {sc:Scope} {n:Nat} {x:Str} (h:sc.names.lookup x=some .cell):∃ c,(cellsFrom n sc.names []).lookup x=some c:=by
  have q:=PySem.W.cellsFrom_some sc.names n [] (.inl h)
  exact Option.isSome_iff_exists.mp q
theorem zlH {CX:CXT} {P:Program} {w:World} {K:PySem.W.Frag} {mg:Str→Option Value} {base:Heap} {N ps:List Str} {qual:Str} {scope:Scope} {f:Addr} {cd:Value} {A:Around} {outer:List Env} {s s1:Shared} {H:Hp} {E:XK} {us:List Value} {vs:List V}
    (S:FnScope N ps scope) (hd:A.handled=none) (e0:Env0 P w K mg base A outer s H) (hl:vs.length=ps.length) (r:Vals vs us)
    (x:InCallC s s.heap.objs.size (bindL (envOfC qual scope s.heap.objs.size f cd).kindOf (ps.zip us) fun _=>none) (cellsFrom (s.heap.objs.size + 1) scope.names []) (bindC (envOfC qual scope s.heap.objs.size f cd).kindOf (ps.zip us) fun _=>none) s1) :
    Inv (cxOf CX P w K mg base N qual scope f cd A outer s H E) [] (start N vs) H s1:=by
  have hpl:ps.length ≤ N.length:=by have:=congrArg List.length S.pre; rw [List.length_take] at this; omega
  obtain ⟨h1,tk,rfl,hk⟩:=x.done
  have noA:∀ b:Addr,b ∉ (cxOf CX P w K mg base N qual scope f cd A outer s H E).ex:=fun b z=>absurd (show b ∈ ([]:List Addr) from z) (by simp)
  refine ⟨⟨e0.mod,S.kind,rfl,rfl,Nat.le_refl _,fun y z c h1 h2=>?_,fun y hy=>?_,fun y c _ h=>?_,fun _=>hd,Around.frames_deeper e0.frames,.inr ⟨rfl,rfl⟩,fun b z=>absurd z (noA b),e0.bs,e0.bsz,fun b _ _=>noA b,fun b z=>absurd z (noA b),e0.funs,e0.frf,e0.tb⟩,
    rfl,e0.bare,Un.kept hk,⟨_,x.toInCall.ns,fun i y v h1 h2 h3=>?_⟩,fun y c h=>⟨_,x.cell y c h⟩,e0.hok.fresh (Nat.le_refl _),fun y c h=>?_,fun p hp=>absurd (show p ∈ ([]:List (Addr × Obj)) from hp) (by simp),e0.hok.kept hk,?_⟩
  · exact name_of_addr x.apart (PySem.mem_of_lookup h1) (PySem.mem_of_lookup h2)
  · have hy:scope.names.lookup y=some .cell∨scope.names.lookup y=some .free:=hy
    rcases hy with hy | hy
    · exact zjW hy
    · exact absurd rfl (S.nofree _ (PySem.mem_of_lookup hy))
  · exact Nat.le_of_lt (x.above y c (PySem.mem_of_lookup h))
  · have hi:i < vs.length:=by
      unfold start at h2
      by_cases hi:i < vs.length
      · exact hi
      · rw [List.getElem?_append_right (by simpa using hi)] at h2
        rw [List.getElem?_replicate] at h2
        split at h2 <;> cases h2
    have ha:vs[i]?=some v:=by
      unfold start at h2
      rw [List.getElem?_append_left (by simpa using hi),List.getElem?_map] at h2
      cases e:vs[i]? with
      | none=>rw [e] at h2; cases h2
      | some a=>rw [e] at h2; cases h2; rfl
    obtain ⟨u,hu,rv⟩:=r.get ha
    have hp:ps[i]?=some y:=by
      rw [← S.pre,List.getElem?_take_of_lt (by omega)]; exact h1
    have ndP:ps.Nodup:=by rw [← S.pre]; exact S.nd.sublist (List.take_sublist _ _)
    refine ⟨u,rv,?_⟩
    rcases S.par y (List.mem_of_getElem? hp) with k | k
    · exact .inl ⟨k,zh8 ndP hp hu k⟩
    · obtain ⟨c,e⟩:=zjW (n:=s.heap.objs.size + 1) k
      refine .inr ⟨.inl k,c,e,?_⟩
      have q:=x.cell y c e
      rw [zhV ndP hp hu (by show scope.names.lookup y ≠ _; rw [k]; decide)] at q
      exact q
  · exact e0.hok.fresh (Nat.le_of_lt (x.above y c (PySem.mem_of_lookup h)))
  · unfold start
    show _=N.length
    rw [List.length_append,List.length_map,List.length_replicate]
    omega
theorem zq2 {CX:CXT} {P:Program} {w:World} {K:PySem.W.Frag} {mg:Str→Option Value} {base:Heap} {k:Nat} {f:Addr} {name qual:Str} {params:Arguments} {body:List Stmt} {scope:Scope} {dV kV doc pm cdv ct oc:Value} {an od:Option Addr}
    {osl:Array (Option Value)} {N ps:List Str} {sp:Sp} (lk:K.lookup f=some ⟨oc,od,.func (PySem.W.fnOf name qual params body scope dV kV doc pm an cdv ct),osl⟩) (hcd:PySem.W.codeIn K cdv qual=true) (S:FnScope N ps scope)
    (len:∀ vs H Q E,sp vs H Q E→vs.length=ps.length)
    (hbody:∀ (A:Around) (outer:List Env) (s:Shared) (H:Hp) (vs:List V) (Q:VK) (E:XK),Room k (A.deeper (envOfC qual scope s.heap.objs.size f cdv))→sp vs H Q E →
      ∃ t,PSs (cxOf CX P w K mg base N qual scope f cdv A outer s H E) body t∧t { nx:=fun _ H'=>Q .non H',rt:=Q } (start N vs) H) :
    FnOk P w K mg base CX (k + 1) f (PySem.W.fnOf name qual params body scope dV kV doc pm an cdv ct) ps sp:=by
  refine ⟨len,fun A outer s H args us vs Q E hr e0 hb r hsp=>?_⟩
  have hl:=len _ _ _ _ hsp
  have KX:K.In s.heap:=e0.mod.kin.keeps fun b o e=>(e0.bs b o e).1
  have lim:s.heap.NoLimit:=e0.mod.nolimit.keeps fun b o e=>(e0.bs b o e).1
  have hkind:∀ y ∈ ps.zip us,scope.names.lookup y.1=some .local∨(scope.names.lookup y.1=some .cell∧((cellsFrom (s.heap.objs.size + 1) scope.names []).lookup y.1).isSome=true):=fun ⟨n,v⟩ hy=>by
    rcases S.par n (List.of_mem_zip hy).1 with q | q
    · exact .inl q
    · exact .inr ⟨q,PySem.W.cellsFrom_some _ _ _ (.inl q)⟩
  refine codeAny_call_function hr.depth (KX _ _ lk) rfl S.co S.gen rfl (PySem.W.codeRec_of KX hcd) (hb _ _ _ _ ?_)
  refine wpAny_newFunctionEnv_cells S.kind hkind fun env he s1 x=>?_
  subst he
  refine ⟨lim.keeps x.toInCall.keep,codeAny_func ?_⟩
  obtain ⟨t,ht,hq⟩:=hbody A outer s H vs Q E (hr.deeper _) hsp
  have I:Inv (cxOf CX P w K mg base N qual scope f cdv A outer s H E) [] (start N vs) H s1:=zlH S hr.hd e0 hl r x
  refine wpAny_mono (ht [] s1 (start N vs) H _ I hq) (fun fl s' hs=>?_) fun e s' hs=>hs
  have fin:∀ {σ':St} {H':Hp} {v:V} {u:Value},Inv (cxOf CX P w K mg base N qual scope f cdv A outer s H E) [] σ' H' s'→RelV v u→Q v H'→CE outer P w H s Q u s' :=
    fun {σ' H' v u} J rv q=>⟨v,H',J.os,J.bare,J.base,J.hok,rv,q⟩
  cases fl with
  | ret u =>
    obtain ⟨v,σ',H',J,rv,q⟩:=hs
    exact fin J rv q
  | next =>
    obtain ⟨σ',H',J,q⟩:=hs
    exact fin (v:=V.non) (u:=Value.none) J rfl q
  | brk =>
    obtain ⟨_,_,_,q⟩:=hs
    exact False.elim q
  | cont =>
    obtain ⟨_,_,_,q⟩:=hs
    exact False.elim q
end L2
namespace L2
open PySem PySem.Spec PyProof.Rows
section
variable {X:Cx} {x:Str} {p pos:Pos} {e:Expr} {es:List Expr} {t:TA} {id T:String} {r:List V→Hp→VK→Prop}
def tCB (r:List V→Hp→VK→Prop) (t:TA):TE:=fun σ H Q=>t σ H fun vs H1=>r vs H1 Q
theorem zaB (hc:zdI X (.builtin id) r) (hg:Gl X x) (hm:X.mg x=none) (hv:bootBuiltins x=some (.builtin id)) (ha:PA X (e :: es) t) (hn:x ≠ "__name__":=by decide) (hdb:(x == ("__debug__" : Str))=false:=by decide)
    (he:starEach (e :: es) X.env=(false,eval e X.env) :: starEach es X.env:=by rfl) (hpl:(backTo pos (starEach es X.env)).any (·.1)=false:=by rfl):PE X (.Call (.Name x p) (e :: es) [] pos) (tCB r t):=by
  intro pins s σ H Q I h
  refine wpAny_Call_Name_kw (zer I hg hm hv ?_ hn hdb)
  exact PyProof.Rows.callWith_builtin1 (thn (ha pos pins s σ H _ I h) fun us s1 ⟨vs,H1,I1,r1,q1⟩=>hc pins s1 σ H1 vs us Q I1 r1 q1) he hpl
theorem zbK (hc:zdI X (.type T) r) (hg:Gl X x) (hm:X.mg x=none) (hv:bootBuiltins x=some (.type T)) (ha:PA X (e :: es) t) (hn:x ≠ "__name__":=by decide) (hdb:(x == ("__debug__" : Str))=false:=by decide)
    (he:starEach (e :: es) X.env=(false,eval e X.env) :: starEach es X.env:=by rfl) (hpl:(backTo pos (starEach es X.env)).any (·.1)=false:=by rfl):PE X (.Call (.Name x p) (e :: es) [] pos) (tCB r t):=by
  intro pins s σ H Q I h
  refine wpAny_Call_Name_kw (zer I hg hm hv ?_ hn hdb)
  exact PyProof.Rows.callWith_type1 (thn (ha pos pins s σ H _ I h) fun us s1 ⟨vs,H1,I1,r1,q1⟩=>hc pins s1 σ H1 vs us Q I1 r1 q1) he hpl
end
end L2
namespace HT
open PySem PyProof.Rows
def lexLt:List Int→List Int→Bool
  | [],[]=>false
  | [],_ :: _=>true
  | _ :: _,[]=>false
  | x :: xs,y :: ys=>if x=y then lexLt xs ys else decide (x < y)
section
open PySem.SeqAt
open PySem.AutoSeq1 (wpAny_loadPart')
open PySem.MeetsSeq PySem.MeetsSeq2 PySem.MeetsSeq3
end
section
variable {prog:Program} {w:World} {A:Around} {E:Value→Shared→Prop} {s:Shared}
theorem cat_tup {t b:Addr} {vs ws:List Value} {Q:Value→Shared→Prop} (ht:IsTup s.heap t vs.toArray) (hb:IsTup s.heap b ws.toArray) (hv:vs ≠ [])
    (h1:ws = []→Q (.ref t) s) (h2:ws ≠ []→Q (.ref s.heap.objs.size) { s with heap:=s.heap.push { cls:=.type "tuple",data:=.seq (vs ++ ws).toArray } })
    (hsz:vs.length + ws.length ≤ sizeLine):wpAny (model prog w) A (binaryOp .Add (.ref t) (.ref b)) Q E s:=by
  obtain ⟨⟨cls,dd,data,sl⟩,ho,hc,n,hd⟩:=id ht
  obtain ⟨⟨cls2,dd2,data2,sl2⟩,ho2,hc2,n2,hd2⟩:=id hb
  simp only at hc hd hc2 hd2
  subst hc hd hc2 hd2
  have e:vs.toArray ++ ws.toArray=(vs ++ ws).toArray:=by simp
  by_cases hw:ws = []
  · exact concat_meets ⟨_,ho,rfl⟩ ⟨_,ho2,rfl⟩ noFill_tuple_add seq_tuple_add PySem.F.slot_tuple_add PySem.F.entry_tuple_add (PySem.F.args_tuple_add_2 _ _)
      (tuple_addW1 t b vs.toArray ws.toArray n n2 dd dd2 sl sl2 (by simpa using hv) (by simp [hw])) ⟨ho,ho2,h1 hw⟩
  · refine concat_meets ⟨_,ho,rfl⟩ ⟨_,ho2,rfl⟩ noFill_tuple_add seq_tuple_add PySem.F.slot_tuple_add PySem.F.entry_tuple_add (PySem.F.args_tuple_add_2 _ _)
      (tuple_addW2 t b vs.toArray ws.toArray n n2 dd dd2 sl sl2 (by simpa using hv) (by simpa using hw) (by rw [List.size_toArray,List.size_toArray]; exact hsz)) ⟨ho,ho2,?_⟩
    rw [e]
    exact h2 hw
def sIx (n d:Nat):Option Int→Nat
  | none=>d
  | some v=>if v < 0 then (v + (n:Int)).toNat else min v.toNat n
theorem zp3 (n d:Nat) (hd:d ≤ n) (o:Option Int):sIx n d o ≤ n:=by
  cases o with
  | none=>exact hd
  | some v =>
    show (if v < 0 then (v + (n:Int)).toNat else min v.toNat n) ≤ n
    by_cases hv:v < 0
    · rw [if_pos hv]; omega
    · rw [if_neg hv]; exact Nat.min_le_right _ _
theorem zk4 (v:Int) (n d:Nat):(if v < 0 then max (v + (n:Int)) 0 else min v (n:Int))=((sIx n d (some v):Nat):Int):=by
  show (if v < 0 then max (v + (n:Int)) 0 else min v (n:Int))=(((if v < 0 then (v + (n:Int)).toNat else min v.toNat n):Nat):Int)
  by_cases hv:v < 0
  · simp only [if_pos hv]; omega
  · simp only [if_neg hv]; omega
theorem zkt (lo hi:Option Int) (n:Nat):Builtin.Slice.sliceAdjust lo hi 1 (n:Int)=(((sIx n 0 lo:Nat):Int),((sIx n n hi:Nat):Int)):=by
  have h1:¬ ((1:Int) < 0):=by omega
  unfold Builtin.Slice.sliceAdjust
  simp only [h1,if_false]
  refine Prod.ext ?_ ?_
  · cases lo with
    | none=>rfl
    | some v=>exact zk4 v n 0
  · cases hi with
    | none=>rfl
    | some v=>exact zk4 v n n
theorem zkA (i j:Nat):Builtin.Slice.slicePlaces (i:Int) (j:Int) 1=j - i:=by
  unfold Builtin.Slice.slicePlaces
  have h1:(1:Int) > 0:=by omega
  simp only [h1,if_true,Int.ediv_one]
  split <;> omega
theorem zgN {v:Value} {o:Option Int} {Q:Option Int→Shared→Prop} (p:IsPart v o) (h:Q o s):wpAny (model prog w) A (Builtin.Slice.slicePartIndex v) Q E s:=by
  cases p with
  | none=>exact slicePart_none h
  | int i t=>exact slicePart_int h
theorem zfs {sl:Addr} {vl vu:Value} {lo hi:Option Int} {n:Nat} {Q:Int × Int × Nat→Shared→Prop} (hs:s.heap.IsSliceOf sl vl vu .none) (pl:IsPart vl lo) (pu:IsPart vu hi)
    (h:Q (((sIx n 0 lo:Nat):Int),1,sIx n n hi - sIx n 0 lo) s):wpAny (model prog w) A (Builtin.Slice.sliceApplied (.ref sl) (pure (n:Int))) Q E s:=by
  obtain ⟨os,hos,hcs,hds⟩:=id hs
  unfold Builtin.Slice.sliceApplied Builtin.Slice.sliceFields
  refine wpAny_bind (wpAny_bind (wpAny_field hos hds (x:=vl) rfl (wpAny_bind (wpAny_field hos hds (x:=vu) rfl (wpAny_bind (wpAny_field hos hds (x:=.none) rfl (wpAny_pure ?_)))))))
  refine wpAny_bind (slicePart_none ?_)
  show wpAny _ _ (if ((1:Int) == 0)=true then _ else _) _ _ s
  rw [if_neg (by decide)]
  refine wpAny_bind (zgN pl (wpAny_bind (zgN pu (wpAny_bind (wpAny_pure ?_)))))
  show wpAny _ _ (match Builtin.Slice.sliceAdjust lo hi 1 (n:Int) with | (lo,hi)=>pure (lo,(1:Int),Builtin.Slice.slicePlaces lo hi 1)) _ _ s
  rw [zkt lo hi n]
  show wpAny _ _ (pure (((sIx n 0 lo:Nat):Int),(1:Int),Builtin.Slice.slicePlaces ((sIx n 0 lo:Nat):Int) ((sIx n n hi:Nat):Int) 1)) _ _ s
  rw [zkA]
  exact wpAny_pure h
theorem znK (xs:Array Value) (i k:Nat):((List.range k).filterMap fun (m:Nat)=>xs[((i:Int) + (m:Int) * 1).toNat]?).toArray=((xs.toList.drop i).take k).toArray:=by
  have e:(fun (m:Nat)=>xs[((i:Int) + (m:Int) * 1).toNat]?)=fun m=>xs[i + m]?:=by
    funext m
    have:((i:Int) + (m:Int) * 1).toNat=i + m:=by omega
    rw [this]
  rw [e]
  have:=pick_run xs i k
  rw [List.filterMap_map] at this
  have e2:((fun x=>xs[x]?) ∘ fun x=>i + x)=fun m=>xs[i + m]?:=rfl
  rw [e2] at this
  rw [this]
theorem getItem_tuple_cut {t sl:Addr} {items:Array Value} {vl vu:Value} {lo hi:Option Int} {Q:Value→Shared→Prop} (ht:IsTup s.heap t items) (hs:s.heap.IsSliceOf sl vl vu .none) (pl:IsPart vl lo) (pu:IsPart vu hi)
    (hw:¬ (sIx items.size 0 lo=0∧sIx items.size items.size hi=items.size))
    (h:Q (.ref s.heap.objs.size) { s with heap:=s.heap.push { cls:=.type "tuple",data:=.seq ((items.toList.drop (sIx items.size 0 lo)).take (sIx items.size items.size hi - sIx items.size 0 lo)).toArray } })
    (hsz:items.size ≤ sizeLine):wpAny (model prog w) A (getItem (.ref t) (.ref sl)) Q E s:=by
  have htake:sizeOk (.seq ((items.toList.drop (sIx items.size 0 lo)).take (sIx items.size items.size hi - sIx items.size 0 lo)).toArray):=by
    show ((items.toList.drop (sIx items.size 0 lo)).take (sIx items.size items.size hi - sIx items.size 0 lo)).toArray.size ≤ sizeLine
    rw [List.size_toArray,List.length_take,List.length_drop,Array.length_toList]
    omega
  have hj:sIx items.size items.size hi ≤ items.size:=zp3 _ _ (Nat.le_refl _) hi
  obtain ⟨os,hos,hcs,hds⟩:=id hs
  have hTs:s.TypeIs (.ref sl) "slice":=⟨os,hos,hcs⟩
  unfold getItem
  try with_reducible refine wpAny_holding ?_
  first | refine wpAny_bind (wpAny_pure ?_) | skip
  refine wpAny_bind (wpAny_sequenceKey ht.typeIs (by decide) ?_)
  refine wpAny_bind (wpAny_callSpecial?_slot (name:=Str.ofString "__getitem__") ht.typeIs PyProof.Rows.slot_tuple_getitem
    (wpAny_call_entry PyProof.Rows.slot_tuple_getitem ht.typeIs entry_tuple_getitem ?_ (args_tuple_getitem _ _)))
  show wpAny _ _ (Builtin.Tuple.tupleItemsOf (.ref t) >>= _) _ _ s
  refine wpAny_bind (tupleItemsOf_ ht ?_)
  refine wpAny_bind (wpAny_typeOf hTs ?_)
  rw [if_pos (by decide)]
  refine wpAny_bind (zfs hs pl pu ?_)
  have hno:¬ ((((sIx items.size 0 lo:Nat):Int) == 0 && (1:Int) == 1 && (sIx items.size items.size hi - sIx items.size 0 lo) == items.size)=true):=by
    intro q
    rw [Bool.and_eq_true,Bool.and_eq_true] at q
    have q1:((sIx items.size 0 lo:Nat):Int)=0:=eq_of_beq q.1.1
    have q2:sIx items.size items.size hi - sIx items.size 0 lo=items.size:=eq_of_beq q.2
    exact hw ⟨by omega,by omega⟩
  show wpAny _ _ (if (((sIx items.size 0 lo:Nat):Int) == 0 && (1:Int) == 1 && (sIx items.size items.size hi - sIx items.size 0 lo) == items.size)=true then _ else _) _ _ s
  rw [if_neg hno,znK]
  first
    | exact wpAny_bind (m:=Builtin.Tuple.tupleExact _) (wpAny_newObj_type (wpAny_pure ⟨_,rfl,wpAny_pure h⟩) htake)
    | exact wpAny_bind (m:=Builtin.Tuple.tupleExact _) (wpAny_newObj_type (wpAny_bind (wpAny_pure (wpAny_pure ⟨_,rfl,wpAny_pure h⟩))) htake)
    | exact wpAny_bind (wpAny_bind (m:=Builtin.Tuple.tupleExact _) (wpAny_newObj_type (wpAny_pure (wpAny_pure ⟨_,rfl,wpAny_pure h⟩)) htake))
    | exact wpAny_bind (wpAny_bind (m:=Builtin.Tuple.tupleExact _) (wpAny_newObj_type (wpAny_pure ⟨_,rfl,wpAny_pure h⟩) htake))
end
end HT
namespace L2
open PySem PySem.Spec PyProof.Rows
abbrev TO:=St→Hp→(Option Int→Hp→Prop)→Prop
def PO (X:Cx) (e:Option Expr) (t:TO):Prop :=
  ∀ (pins:List (Addr × Obj)) (s:Shared) (σ:St) (H:Hp) (Q:Option Int→Hp→Prop),Inv X pins σ H s→t σ H Q →
    wpAny (model X.prog X.w) X.A (evalPart e X.env) (fun u s'=>∃ o H',Inv X pins σ H' s'∧IsPart u o∧Q o H') X.xe s
def zjs:TO:=fun _ H Q=>Q none H
def zmK (t:TE):TO:=fun σ H Q=>t σ H fun x H1=>∃ i,x = .int i∧Q (some i) H1
section
variable {X:Cx} {e:Expr} {te:TE} {lo hi:Option Expr} {tl th:TO} {pos p2:Pos}
theorem ziQ:PO X none zjs:=by
  intro pins s σ H Q I h
  rw [evalPart_none]
  exact wpAny_pure ⟨none,H,I,.none,h⟩
theorem zgv (h:PE X e te):PO X (some e) (zmK te):=by
  intro pins s σ H Q I hw
  rw [evalPart_some]
  refine thn (h pins s σ H _ I hw) fun u s1 ⟨x,H1,I1,r1,q1⟩=>?_
  obtain ⟨i,rfl,q⟩:=q1
  obtain ⟨t,rfl⟩:=r1
  exact ⟨some i,H1,I1,.int i t,q⟩
def SlR (X:Cx) (r:V→Option Int→Option Int→Hp→VK→Prop):Prop :=
  ∀ (pins:List (Addr × Obj)) (s:Shared) (σ:St) (H:Hp) (x:V) (v vl vu:Value) (lo hi:Option Int) (sl:Addr) (Q:VK),Inv X pins σ H s→RelV x v→s.heap.IsSliceOf sl vl vu .none→IsPart vl lo→IsPart vu hi→r x lo hi H Q →
    ∃ T id,typeLookup (.type T) "__getitem__"=pure (some (.builtin id))∧s.TypeIs v T∧wpAny (model X.prog X.w) X.A (getItem v (.ref sl)) (EP X pins σ Q) X.xe s
def tSl (r:V→Option Int→Option Int→Hp→VK→Prop) (te:TE) (tl th:TO):TE:=fun σ H Q=>te σ H fun x H1=>tl σ H1 fun l H2=>th σ H2 fun u H3=>r x l u H3 Q
theorem zfC {r:V→Option Int→Option Int→Hp→VK→Prop} (hr:SlR X r) (he:PE X e te) (hl:PO X lo tl) (hu:PO X hi th):PE X (.Subscript e (.Slice lo hi none p2) pos) (tSl r te tl th):=by
  intro pins s σ H Q I h
  refine Subscript_ (thn (he pins s σ H _ I h) fun v s1 ⟨x,H1,I1,r1,q1⟩=>?_)
  refine wpAny_Slice (thn (hl pins s1 σ H1 _ I1 q1) fun vl s2 ⟨l,H2,I2,pl,q2⟩=>thn (hu pins s2 σ H2 _ I2 q2) fun vu s3 ⟨u,H3,I3,pu,q3⟩=>?_)
  rw [evalPart_none]
  refine wpAny_pure ?_
  have I4:Inv X pins σ H3 { s3 with heap:=s3.heap.push { cls:=.type "slice",data:=.fields #[vl,vu,.none] } }:=I3.kept (t':=s3.toks) fun b ob q=>Heap.get?_push_of_some _ q
  obtain ⟨T,id,hT,ht,hg⟩:=hr pins { s3 with heap:=s3.heap.push { cls:=.type "slice",data:=.fields #[vl,vu,.none] } } σ H3 x v vl vu l u s3.heap.objs.size Q I4 r1 (Heap.IsSliceOf.new ..) pl pu q3
  show wpAny (model X.prog X.w) X.A (subscriptTail e (.Slice lo hi none p2) v (.ref s3.heap.objs.size)) (EP X pins σ Q) X.xe { s3 with heap:=s3.heap.push { cls:=.type "slice",data:=.fields #[vl,vu,.none] } }
  exact tail_any (ops:=[.ref s3.heap.objs.size,v]) ht hT hg (by with_unfolding_all rfl)
def cutV (xs:List V) (lo hi:Option Int):List V:=(xs.drop (HT.sIx xs.length 0 lo)).take (HT.sIx xs.length xs.length hi - HT.sIx xs.length 0 lo)
theorem zgq (xs:List V) (lo hi:Option Int):(cutV xs lo hi).length ≤ xs.length:=by
  unfold cutV
  rw [List.length_take,List.length_drop]
  omega
def rSlT (K:PySem.W.Frag):V→Option Int→Option Int→Hp→VK→Prop:=fun x lo hi H Q=>∃ a xs,x = .ref a∧SqT K H a xs ∧
  ¬ (HT.sIx xs.length 0 lo=0∧HT.sIx xs.length xs.length hi=xs.length)∧∀ p,H p=none→Q (.ref p) (upd H p (.tup (cutV xs lo hi)))
theorem zow:SlR X (rSlT X.K):=by
  intro pins s σ H x v vl vu lo hi sl Q I rx hs pl pu h
  obtain ⟨a,xs,rfl,hx,hw,q⟩:=h
  cases rx
  obtain ⟨its,r,ht,hz⟩:=I.tuple hx
  have hlen:its.toArray.size=xs.length:=by rw [List.size_toArray]; exact r.length.symm
  refine ⟨"tuple",_,PyProof.Rows.slot_tuple_getitem.lookup,ht.typeIs,?_⟩
  refine HT.getItem_tuple_cut ht hs pl pu (by rw [hlen]; exact hw) ?_ (by rw [hlen]; exact hz)
  rw [hlen]
  refine ⟨.ref s.heap.objs.size,_,I.laid (t':=s.toks) (o:=.tup (cutV xs lo hi)) (fun b ob q=>Heap.get?_push_of_some _ q) (Nat.le_refl _) ?_,rfl,q _ (I.hok.fresh (Nat.le_refl _))⟩
  exact ⟨Nat.le_trans (zgq xs lo hi) hz,_,(r.drop (HT.sIx xs.length 0 lo)).take (HT.sIx xs.length xs.length hi - HT.sIx xs.length 0 lo),IsTup.new _ _⟩
def zra (K:PySem.W.Frag):R2:=fun x y H Q=>∃ a b xs ys,x = .ref a∧y = .ref b∧SqT K H a xs∧SqT K H b ys∧xs ≠ []∧xs.length + ys.length ≤ sizeLine ∧
  (ys = []→Q (.ref a) H)∧(ys ≠ []→∀ p,H p=none→Q (.ref p) (upd H p (.tup (xs ++ ys))))
theorem Vals.nil_iff {xs:List V} {us:List Value} (r:Vals xs us):us = [] ↔ xs = []:=by
  cases r with
  | nil=>simp
  | cons _ _=>simp
theorem zoE:OpR X (binaryOp .Add) (zra X.K):=by
  intro pins s σ H x y v u Q I rx ry h
  obtain ⟨a,b,xs,ys,rfl,rfl,ha,hb,hx,hz,q1,q2⟩:=h
  cases rx
  cases ry
  obtain ⟨its,r1,p1,_⟩:=I.tuple ha
  obtain ⟨its2,r2,p2,_⟩:=I.tuple hb
  refine HT.cat_tup p1 p2 (fun z=>hx (r1.nil_iff.mp z)) (fun z=>⟨.ref a,H,I,rfl,q1 (r2.nil_iff.mp z)⟩) (fun z=>?_) (by rw [← r1.length,← r2.length]; exact hz)
  refine ⟨.ref s.heap.objs.size,_,I.laid (t':=s.toks) (o:=.tup (xs ++ ys)) (fun b ob q=>Heap.get?_push_of_some _ q) (Nat.le_refl _) ?_,rfl,q2 (fun w=>z (r2.nil_iff.mpr w)) _ (I.hok.fresh (Nat.le_refl _))⟩
  exact ⟨by rw [List.length_append]; exact hz,_,r1.append r2,IsTup.new _ _⟩
end
end L2
namespace L2
open PySem PySem.Spec PyProof.Rows
def ixN (n:Nat) (i:Int):Option Nat:=if 0 ≤ i then (if i < n then some i.toNat else none) else if -(n:Int) ≤ i then some (i + n).toNat else none
def atI {α:Type} (xs:List α) (i:Int):Option α:=(ixN xs.length i).bind fun j=>xs[j]?
theorem zlF {n:Nat} {i:Int} {j:Nat} (h:ixN n i=some j):seqIndex? i n=some j∧j < n∧-(n:Int) ≤ i∧i < n:=by
  unfold ixN at h
  by_cases h0:0 ≤ i
  · rw [if_pos h0] at h
    by_cases h1:i < n
    · rw [if_pos h1] at h
      have e:i.toNat=j:=Option.some.inj h
      exact ⟨by rw [seqIndex_of h0 h1,e],by omega,by omega,h1⟩
    · rw [if_neg h1] at h; cases h
  · rw [if_neg h0] at h
    by_cases h1 : -(n:Int) ≤ i
    · rw [if_pos h1] at h
      have e:(i + n).toNat=j:=Option.some.inj h
      exact ⟨by rw [seqIndex_neg (by omega) h1,e],by omega,h1,by omega⟩
    · rw [if_neg h1] at h; cases h
theorem zml {α:Type} {xs:List α} {i:Int} {v:α} (h:atI xs i=some v):∃ j,seqIndex? i xs.length=some j∧xs[j]?=some v∧j < xs.length∧-(xs.length:Int) ≤ i∧i < xs.length:=by
  unfold atI at h
  cases e:ixN xs.length i with
  | none=>rw [e] at h; cases h
  | some j =>
    rw [e] at h
    obtain ⟨h1,h2,h3,h4⟩:=zlF e
    exact ⟨j,h1,h,h2,h3,h4⟩
theorem atI_nat {α:Type} {xs:List α} {j:Nat} {v:α} (h:xs[j]?=some v):atI xs (j:Int)=some v:=by
  have hj:j < xs.length:=(List.getElem?_eq_some_iff.mp h).1
  have e:ixN xs.length (j:Int)=some j:=by
    unfold ixN
    rw [if_pos (by omega),if_pos (by omega)]; simp
  unfold atI; rw [e]; exact h
def zpn (b:Expr):Prop:=∀ o i,subscripted b false o i=operate [o,i] (getItem o i)
def IxR (X:Cx) (r:R2):Prop :=
  ∀ (value slice:Expr) (pins:List (Addr × Obj)) (s:Shared) (σ:St) (H:Hp) (x y:V) (v u:Value) (Q:VK),Inv X pins σ H s→RelV x v→RelV y u→r x y H Q →
    subscripted slice false v u=operate [v,u] (getItem v u)→wpAny (model X.prog X.w) X.A (subscriptTail value slice v u) (EP X pins σ Q) X.xe s
def MtR (X:Cx) (id:String) (r:V→List V→Hp→VK→Prop):Prop :=
  ∀ (pins:List (Addr × Obj)) (s:Shared) (σ:St) (H:Hp) (x:V) (xs:List V) (v:Value) (us:List Value) (Q:VK),Inv X pins σ H s→RelV x v→Vals xs us→r x xs H Q →
    wpAny (model X.prog X.w) X.A (call (.builtin id) (v :: us)) (EP X pins σ Q) X.xe s
section
variable {X:Cx} {a b:Expr} {ta tb:TE} {pos:Pos}
theorem zaS {r:R2} (hr:IxR X r) (ha:PE X a ta) (hb:PE X b tb) (hs:zpn b):PE X (.Subscript a b pos) (tOp r ta tb):=by
  intro pins s σ H Q I h
  exact Subscript_ (binT ha hb I h fun v u s2 x y H2 I2 rx ry q=>hr a b pins s2 σ H2 x y v u Q I2 rx ry q (hs _ _))
def rIxL (K:PySem.W.Frag):R2:=fun x y H Q=>∃ p xs i v,x = .ref p∧y = .int i∧SqL K H p xs∧atI xs i=some v∧Q v H
def rIxT (K:PySem.W.Frag):R2:=fun x y H Q=>∃ p xs i v,x = .ref p∧y = .int i∧SqT K H p xs∧atI xs i=some v∧Q v H
theorem zay:IxR X (rIxL X.K):=by
  intro value slice pins s σ H x y v u Q I rx ry h hs
  obtain ⟨p,xs,i,z,rfl,rfl,hq,he,q⟩:=h
  cases rx
  obtain ⟨t,rfl⟩:=ry
  obtain ⟨its,r,pl,hz⟩:=I.list hq
  obtain ⟨j,h1,h2,h3,h4,h5⟩:=zml he
  obtain ⟨w,ew,rw'⟩:=r.get h2
  have hl:=r.length
  have hn:=zjX
  have fin:EP X pins σ Q w s:=⟨z,H,I,rw',q⟩
  by_cases h0:0 ≤ i
  · have hj:i.toNat=j:=by
      rw [seqIndex_of h0 h5] at h1
      exact Option.some.inj h1
    exact item_listR pl.isList h0 (by omega) (by rw [hj]; simpa using ew) fin hs
  · have hj:(i + (its.toArray.size:Int)).toNat=j:=by
      rw [seqIndex_neg (by omega) h4] at h1
      rw [List.size_toArray,← hl]
      exact Option.some.inj h1
    exact subscriptTail_builtinR (x:=w) pl.isList.typeIs slot_list_getitem.lookup
      (wpAny_getItem_list_neg (Q:=fun r s'=>r=w∧EP X pins σ Q r s') pl.isList (by omega) (by rw [List.size_toArray] <;> omega) (by omega) (by rw [hj]; simpa using ew) ⟨rfl,fin⟩) hs
theorem zcq:IxR X (rIxT X.K):=by
  intro value slice pins s σ H x y v u Q I rx ry h hs
  obtain ⟨p,xs,i,z,rfl,rfl,hq,he,q⟩:=h
  cases rx
  obtain ⟨t,rfl⟩:=ry
  obtain ⟨its,r,pl,hz⟩:=I.tuple hq
  obtain ⟨j,h1,h2,h3,h4,h5⟩:=zml he
  obtain ⟨w,ew,rw'⟩:=r.get h2
  have hl:=r.length
  have hn:=zjX
  have fin:EP X pins σ Q w s:=⟨z,H,I,rw',q⟩
  exact subscriptTail_builtinR (x:=w) pl.typeIs slot_tuple_getitem.lookup
    (getItem_tuple (j:=j) (Q:=fun r s'=>r=w∧EP X pins σ Q r s') pl (by omega) (by omega) (by rw [List.size_toArray,← hl]; exact h1) (by simpa using ew) ⟨rfl,fin⟩) hs
theorem zkf (its:List Value) (n j:Nat) (u:Value):Obj.mapSeq (·.setIfInBounds j u) { cls:=.type "list",data:=.seq its.toArray n } = { cls:=.type "list",data:=.seq (its.set j u).toArray n }:=by
  simp [Obj.mapSeq]
theorem Inv.lst {pins:List (Addr × Obj)} {σ:St} {H:Hp} {s:Shared} {p:Addr} {xs:List V} (I:Inv X pins σ H s) (h:H p=some (.lst xs)) :
    ∃ (its:List Value) (n:Nat),Vals xs its∧s.heap.get? p=some { cls:=.type "list",data:=.seq its.toArray n }∧xs.length ≤ sizeLine:=by
  obtain ⟨z,its,n,r,e⟩:=I.hok p _ h
  exact ⟨its,n,r,e,z⟩
theorem Inv.lstUpd {pins:List (Addr × Obj)} {σ:St} {H:Hp} {s:Shared} {p:Addr} {xs ys:List V} {its its':List Value} {n n':Nat} {f:Obj→Obj} (I:Inv X pins σ H s) (h:H p=some (.lst xs))
    (ho:s.heap.get? p=some { cls:=.type "list",data:=.seq its.toArray n }) (hf:f { cls:=.type "list",data:=.seq its.toArray n } = { cls:=.type "list",data:=.seq its'.toArray n' }) (r:Vals ys its') (hz:ys.length ≤ sizeLine) (t:Nat) :
    Inv X pins σ (upd H p (.lst ys)) { s with heap:=s.heap.update p f,toks:=t }:=by
  have e:(s.heap.update p f).get? p=some { cls:=.type "list",data:=.seq its'.toArray n' }:=by
    rw [Heap.get?_update_self f ho (by rw [hf] <;> rfl),hf]
  refine I.write (x:=p) (e:=p) (by rw [h]; trivial) (.inl rfl) (fun b u hb q=>(Heap.get?_update_other _ _ (Ne.symm hb)).trans q) ⟨_,e⟩ ?_
  exact ⟨hz,its',n',r,e⟩
def zqm:V→V→V→Hp→(Hp→Prop)→Prop:=fun o i v H Q=>∃ p xs k j,o = .ref p∧i = .int k∧H p=some (.lst xs)∧ixN xs.length k=some j∧Q (upd H p (.lst (xs.set j v)))
theorem zg6:PSet X zqm:=by
  intro pins s σ H o i v ov iv u Q I ro ri rv h
  obtain ⟨p,xs,k,j,rfl,rfl,hp,hj,q⟩:=h
  cases ro
  obtain ⟨t,rfl⟩:=ri
  obtain ⟨its,n,r,ho,hz⟩:=I.lst hp
  obtain ⟨h1,h2,h3,h4⟩:=zlF hj
  have hl:=r.length
  have hn:=zjX
  have I':Inv X pins σ (upd H p (.lst (xs.set j v))) { s with heap:=s.heap.update p (Obj.mapSeq (·.setIfInBounds j u)) } :=
    I.lstUpd hp ho (zkf its n j u) (r.set rv j) (by rw [List.length_set]; exact hz) s.toks
  by_cases h0:0 ≤ k
  · have hk:k.toNat=j:=by
      rw [seqIndex_of h0 h4] at h1
      exact Option.some.inj h1
    exact PySem.W.ki_setAt ho h0 (by omega) (by rw [List.size_toArray,← hl]; exact h4) (by rw [hk]; exact ⟨_,I',q⟩)
  · have hk:(k + (its.toArray.size:Int)).toNat=j:=by
      rw [seqIndex_neg (by omega) h3] at h1
      rw [List.size_toArray,← hl]
      exact Option.some.inj h1
    exact PySem.W.ki_setBack ho (by omega) (by rw [List.size_toArray,← hl]; exact h3) (by omega) (by rw [hk]; exact ⟨_,I',q⟩)
theorem zhR (lo hi:Option Int) (n:Nat):(sliceBounds lo hi none n).1=((HT.sIx n 0 lo:Nat):Int)∧(sliceBounds lo hi none n).2.1=((HT.sIx n n hi:Nat):Int)∧(sliceBounds lo hi none n).2.2=1:=by
  refine ⟨?_,?_,rfl⟩
  · cases lo with
    | none=>simp [sliceBounds,HT.sIx]
    | some i =>
      simp only [sliceBounds,HT.sIx,Option.getD_none,show (1:Int) > 0 by decide,if_true]
      by_cases h:i < 0
      · simp only [h,if_true] <;> omega
      · simp only [h,if_false] <;> omega
  · cases hi with
    | none=>simp [sliceBounds,HT.sIx]
    | some i =>
      simp only [sliceBounds,HT.sIx,Option.getD_none,show (1:Int) > 0 by decide,if_true]
      by_cases h:i < 0
      · simp only [h,if_true] <;> omega
      · simp only [h,if_false] <;> omega
theorem zha (its:List Value) (lo hi:Option Int):slicePick its.toArray lo hi none=((its.drop (HT.sIx its.length 0 lo)).take (HT.sIx its.length its.length hi - HT.sIx its.length 0 lo)).toArray:=by
  obtain ⟨h1,h2,h3⟩:=zhR lo hi its.toArray.size
  unfold slicePick
  rw [h1,h2,h3]
  simp only [sliceRange_one,pick_run,List.size_toArray] <;> rfl
def rSlL (K:PySem.W.Frag):V→Option Int→Option Int→Hp→VK→Prop:=fun x lo hi H Q=>∃ a xs,x = .ref a∧SqL K H a xs∧∀ p,H p=none→Q (.ref p) (upd H p (.lst (cutV xs lo hi)))
theorem zlK:SlR X (rSlL X.K):=by
  intro pins s σ H x v vl vu lo hi sl Q I rx hs pl pu h
  obtain ⟨a,xs,rfl,hx,q⟩:=h
  cases rx
  obtain ⟨its,r,ht,hz⟩:=I.list hx
  have hlen:=r.length
  refine ⟨"list",_,slot_list_getitem.lookup,ht.isList.typeIs,?_⟩
  refine wpAny_getItem_list_slice ht.isList hs pl pu .none (by simp) ?_ (by rw [List.size_toArray] <;> omega)
  rw [zha,← hlen]
  refine ⟨.ref s.heap.objs.size,_,I.laid (t':=s.toks) (o:=.lst (cutV xs lo hi)) (fun b ob q=>Heap.get?_push_of_some _ q) (Nat.le_refl _) ?_,rfl,q _ (I.hok.fresh (Nat.le_refl _))⟩
  exact ⟨Nat.le_trans (zgq xs lo hi) hz,_,0,(r.drop (HT.sIx xs.length 0 lo)).take (HT.sIx xs.length xs.length hi - HT.sIx xs.length 0 lo),Heap.get?_push_size _ rfl⟩
def zhE:V→Bool
  | .non=>true
  | .bl _=>true
  | .int _=>true
  | .str _=>true
  | _=>false
def eqV:V→V→Bool
  | .non,.non=>true
  | .bl a,.bl b=>a == b
  | .bl a,.int b=>(if a then 1 else 0) == b
  | .int a,.bl b=>a == (if b then 1 else 0)
  | .int a,.int b=>a == b
  | .str a,.str b=>a == b
  | _,_=>false
theorem zqW {A:Around} {s:Shared} {y x:V} {u v:Value} (ry:RelV y u) (rx:RelV x v) (fy:zhE y=true) (fx:zhE x=true):SeqAt.EqAt A s u v (eqV y x):=by
  cases y with
  | non =>
    cases ry
    cases x with
    | non=>cases rx; exact SeqAt.EqAt.same _
    | bl b=>cases rx; exact SeqAt.EqAt.none_bool b
    | int b=>obtain ⟨t,rfl⟩:=rx; exact SeqAt.EqAt.none_int b t
    | str b=>obtain ⟨t,rfl⟩:=rx; exact SeqAt.EqAt.none_str b t
    | _=>exact absurd (show false=true from fx) Bool.false_ne_true
  | bl a =>
    cases ry
    cases x with
    | non=>cases rx; exact SeqAt.EqAt.bool_none a
    | bl b=>cases rx; exact SeqAt.EqAt.bool_bool a b
    | int b=>obtain ⟨t,rfl⟩:=rx; exact SeqAt.EqAt.bool_int a b t
    | str b=>obtain ⟨t,rfl⟩:=rx; exact SeqAt.EqAt.bool_str a b t
    | _=>exact absurd (show false=true from fx) Bool.false_ne_true
  | int a =>
    obtain ⟨t',rfl⟩:=ry
    cases x with
    | non=>cases rx; exact SeqAt.EqAt.int_none a t'
    | bl b=>cases rx; exact SeqAt.EqAt.int_bool a t' b
    | int b=>obtain ⟨t,rfl⟩:=rx; exact SeqAt.EqAt.int_int a t' b t
    | str b=>obtain ⟨t,rfl⟩:=rx; exact SeqAt.EqAt.int_str a t' b t
    | _=>exact absurd (show false=true from fx) Bool.false_ne_true
  | str a =>
    obtain ⟨t',rfl⟩:=ry
    cases x with
    | non=>cases rx; exact SeqAt.EqAt.str_none a t'
    | bl b=>cases rx; exact SeqAt.EqAt.str_bool a t' b
    | int b=>obtain ⟨t,rfl⟩:=rx; exact SeqAt.EqAt.str_int a t' b t
    | str b=>obtain ⟨t,rfl⟩:=rx; exact SeqAt.EqAt.str_str a t' b t
    | _=>exact absurd (show false=true from fx) Bool.false_ne_true
  | _=>exact absurd (show false=true from fy) Bool.false_ne_true
def eqU (x:V) (u:Value):Bool:=match u with
  | .none=>eqV .non x
  | .bool b=>eqV (.bl b) x
  | .int i _=>eqV (.int i) x
  | .str z _=>eqV (.str z) x
  | _=>false
theorem zoi {x y:V} {u:Value} (r:RelV y u) (f:zhE y=true):eqU x u=eqV y x:=by
  cases y with
  | non=>cases r; rfl
  | bl b=>cases r; rfl
  | int i=>obtain ⟨t,rfl⟩:=r; rfl
  | str z=>obtain ⟨t,rfl⟩:=r; rfl
  | _=>exact absurd (show false=true from f) Bool.false_ne_true
theorem zfL {x:V}:∀ {xs:List V} {us:List Value},Vals xs us→xs.all zhE=true→us.any (eqU x)=xs.any fun y=>eqV y x
  | _,_,.nil,_=>rfl
  | y :: xs,u :: us,.cons r t,f=>by
    rw [List.all_cons,Bool.and_eq_true] at f
    rw [List.any_cons,List.any_cons,zoi r f.1,zfL t f.2]
theorem zeR {A:Around} {s:Shared} {x:V} {v:Value} (rx:RelV x v) (fx:zhE x=true):∀ {xs:List V} {us:List Value},Vals xs us→xs.all zhE=true→∀ u ∈ us,SeqAt.EqAt A s u v (eqU x u)
  | _,_,.nil,_=>fun u hu=>by cases hu
  | y :: xs,u :: us,.cons r t,f=>fun u' hu=>by
    rw [List.all_cons,Bool.and_eq_true] at f
    rcases List.mem_cons.mp hu with rfl | hu
    · rw [zoi r f.1]; exact zqW r rx f.1 fx
    · exact zeR rx fx t f.2 u' hu
def inV (x:V) (xs:List V):Bool:=xs.any fun y=>eqV y x
def rIn (K:PySem.W.Frag) (neg:Bool):R2:=fun x y H Q=>∃ p xs,y = .ref p∧(SqL K H p xs∨SqT K H p xs)∧zhE x=true∧xs.all zhE=true∧Q (.bl (if neg then !inV x xs else inV x xs)) H
theorem zlc:OpR X (compareOp .In) (rIn X.K false):=by
  intro pins s σ H x y v u Q I rx ry h
  obtain ⟨p,xs,rfl,hq,fx,fs,q⟩:=h
  cases ry
  rcases hq with hq | hq
  · obtain ⟨its,r,pl,hz⟩:=I.list hq
    refine SeqAt.in_listAt (eqU x) pl.isList (fun w hw=>zeR rx fx r fs w (by simpa using hw)) ⟨.bl _,H,I,rfl,?_⟩
    rw [show its.toArray.any (eqU x)=its.any (eqU x) by simp,zfL r fs]
    exact q
  · obtain ⟨its,r,pl,hz⟩:=I.tuple hq
    refine SeqAt.in_tupleAt (eqU x) pl (fun w hw=>zeR rx fx r fs w (by simpa using hw)) ⟨.bl _,H,I,rfl,?_⟩
    rw [show its.toArray.any (eqU x)=its.any (eqU x) by simp,zfL r fs]
    exact q
theorem zid:OpR X (compareOp .NotIn) (rIn X.K true):=by
  intro pins s σ H x y v u Q I rx ry h
  obtain ⟨p,xs,rfl,hq,fx,fs,q⟩:=h
  cases ry
  rcases hq with hq | hq
  · obtain ⟨its,r,pl,hz⟩:=I.list hq
    refine SeqAt.notIn_listAt (eqU x) pl.isList (fun w hw=>zeR rx fx r fs w (by simpa using hw)) ⟨.bl _,H,I,rfl,?_⟩
    rw [show its.toArray.any (eqU x)=its.any (eqU x) by simp,zfL r fs]
    exact q
  · obtain ⟨its,r,pl,hz⟩:=I.tuple hq
    refine SeqAt.notIn_tupleAt (eqU x) pl (fun w hw=>zeR rx fx r fs w (by simpa using hw)) ⟨.bl _,H,I,rfl,?_⟩
    rw [show its.toArray.any (eqU x)=its.any (eqU x) by simp,zfL r fs]
    exact q
theorem zaA:zdI X (.builtin "len") (fun xs H Q=>∃ p ys,xs = [.ref p]∧(SqL X.K H p ys∨SqT X.K H p ys)∧Q (.int ys.length) H):=by
  intro pins s σ H xs us Q I r h
  obtain ⟨p,ys,rfl,hq,q⟩:=h
  obtain ⟨u,rfl,rx⟩:=zey r
  cases rx
  have hn:=zjX
  rcases hq with hq | hq
  · obtain ⟨its,r',pl,hz⟩:=I.list hq
    have hlen:=r'.length
    exact Calls.call_len_list pl.isList (by simp only [List.size_toArray] <;> omega) ⟨.int ys.length,H,I.tok _,⟨s.toks + 1,by rw [List.size_toArray,hlen]⟩,q⟩
  · obtain ⟨its,r',pl,hz⟩:=I.tuple hq
    have hlen:=r'.length
    exact len_tuple pl (by simp only [List.size_toArray] <;> omega) ⟨.int ys.length,H,I.tok _,⟨s.toks + 1,by rw [List.size_toArray,hlen]⟩,q⟩
theorem zbA:zdI X (.type "list") (fun xs H Q=>∃ p ys,xs = [.ref p]∧(SqL X.K H p ys∨SqT X.K H p ys)∧∀ l,H l=none→Q (.ref l) (upd H l (.lst ys))):=by
  intro pins s σ H xs us Q I r h
  obtain ⟨p,ys,rfl,hq,q⟩:=h
  obtain ⟨u,rfl,rx⟩:=zey r
  cases rx
  have fin:∀ (its:List Value),Vals ys its→ys.length ≤ sizeLine→∀ (h':Heap) (c':Nat),(∀ b o',s.heap.get? b=some o'→h'.get? b=some o') →
      h'.get? s.heap.objs.size=some { cls:=.type "list",dict:=none,data:=.seq its.toArray c',slots:=#[] }→EP X pins σ Q (.ref s.heap.objs.size) { s with heap:=h' }:=fun its r' hz h' c' kp e =>
    ⟨.ref s.heap.objs.size,_,I.laid (t':=s.toks) kp (Nat.le_refl _) (show ObjOk X.prog X.w _ h' _ (.lst ys) from ⟨hz,its,c',r',e⟩),rfl,q _ (I.hok.fresh (Nat.le_refl _))⟩
  rcases hq with hq | hq
  · obtain ⟨its,r',pl,hz⟩:=I.list hq
    have hlen:=r'.length
    obtain ⟨o,ho,hc,n,hd⟩:=pl.isList
    exact call_list_seq p (.inl rfl) ho hc hd (fun h' c' kp e=>fin its r' hz h' c' kp e) (by simp only [List.size_toArray] <;> omega)
  · obtain ⟨its,r',pl,hz⟩:=I.tuple hq
    have hlen:=r'.length
    obtain ⟨o,ho,hc,n,hd⟩:=pl
    exact call_list_seq p (.inr rfl) ho hc hd (fun h' c' kp e=>fin its r' hz h' c' kp e) (by simp only [List.size_toArray] <;> omega)
theorem zhw:zdI X (.type "tuple") (fun xs H Q=>∃ p ys,xs = [.ref p]∧((SqL X.K H p ys∧∀ l,H l=none→Q (.ref l) (upd H l (.tup ys)))∨(SqT X.K H p ys∧Q (.ref p) H))):=by
  intro pins s σ H xs us Q I r h
  obtain ⟨p,ys,rfl,h⟩:=h
  obtain ⟨u,rfl,rx⟩:=zey r
  cases rx
  rcases h with ⟨hq,q⟩ | ⟨hq,q⟩
  · obtain ⟨its,r',pl,hz⟩:=I.list hq
    have hlen:=r'.length
    refine call_tuple_list pl.isList (fun h' kp=>?_) (by simp only [List.size_toArray] <;> omega)
    have I1:Inv X pins σ H { s with heap:=h' }:=I.kept (t':=s.toks) kp
    have I2:Inv X pins σ (upd H h'.objs.size (.tup ys)) { s with heap:=h'.push { cls:=.type "tuple",data:=.seq its.toArray } } :=
      I1.laid (t':=s.toks) (fun b o e=>Heap.get?_push_of_some _ e) (Nat.le_refl _) (show ObjOk X.prog X.w _ _ _ (.tup ys) from ⟨hz,its,r',IsTup.new _ _⟩)
    exact ⟨.ref h'.objs.size,_,I2,rfl,q _ (I1.hok.fresh (Nat.le_refl _))⟩
  · obtain ⟨its,r',pl,hz⟩:=I.tuple hq
    exact call_tuple_same pl ⟨.ref p,H,I,rfl,q⟩
def tyV (K:PySem.W.Frag) (T:String) (x:V) (H:Hp):Prop:=match x with
  | .str _=>T = "str"
  | .int _=>T = "int"
  | .ref p=>(T = "list"∧∃ xs,SqL K H p xs)∨(T = "tuple"∧∃ o,K.lookup p=some o∧o.cls = .type "tuple"∧o.dict=none) ∨
      (T = "dict"∧((∃ kvs,H p=some (.dK kvs))∨∃ kvs,H p=some (.dT kvs)))∨(T = "set"∧∃ S n,H p=some (.set S n))
  | _=>False
theorem zn9 {pins:List (Addr × Obj)} {σ:St} {H:Hp} {s:Shared} {T:String} {x:V} {v:Value} (I:Inv X pins σ H s) (r:RelV x v) (ty:tyV X.K T x H) :
    s.TypeIs v T∧∀ a,v = .ref a→∃ ob,s.heap.get? a=some ob∧ob.dict=none:=by
  cases x with
  | str z =>
    obtain ⟨t,rfl⟩:=r
    cases (show T = "str" from ty)
    exact ⟨typeIs_str s z t,fun _ e=>nomatch e⟩
  | int i =>
    obtain ⟨t,rfl⟩:=r
    cases (show T = "int" from ty)
    exact ⟨typeIs_int s i t,fun _ e=>nomatch e⟩
  | ref p =>
    cases r
    rcases ty with ⟨rfl,xs,hq⟩ | ⟨rfl,o,hk,hc,hd⟩ | ⟨rfl,hk⟩ | ⟨rfl,S,n,hk⟩
    · obtain ⟨its,_,pl,_⟩:=I.list hq
      refine ⟨pl.isList.typeIs,fun a e=>?_⟩
      cases e
      obtain ⟨o,n,e,c,hd,_⟩:=pl
      exact ⟨o,e,hd⟩
    · refine ⟨⟨o,I.kIn p o hk,hc⟩,fun a e=>?_⟩
      cases e
      exact ⟨o,I.kIn _ o hk,hd⟩
    · have z:∃ o,s.heap.get? p=some o∧o.ExactDict:=by
        rcases hk with ⟨kvs,hk⟩ | ⟨kvs,hk⟩
        · obtain ⟨_,_,_,_,o,_,_,e,ex,_⟩:=I.hok p _ hk
          exact ⟨o,e,ex⟩
        · obtain ⟨_,_,_,_,o,_,_,e,ex,_⟩:=I.hok p _ hk
          exact ⟨o,e,ex⟩
      obtain ⟨o,e,ex⟩:=z
      refine ⟨⟨o,e,ex.1⟩,fun a e2=>?_⟩
      cases e2
      exact ⟨o,e,ex.2.1⟩
    · obtain ⟨o,_,_,_,e,ex,_⟩:=I.hok p _ hk
      refine ⟨⟨o,e,ex.1⟩,fun a e2=>?_⟩
      cases e2
      exact ⟨o,e,ex.2.1⟩
  | _=>exact False.elim ty
def tBM0 (K:PySem.W.Frag) (T:String) (r:V→List V→Hp→VK→Prop) (to:TE):TE:=fun σ H Q=>to σ H fun x H1=>tyV K T x H1∧r x [] H1 Q
def tBM (K:PySem.W.Frag) (T:String) (r:V→List V→Hp→VK→Prop) (to:TE) (t:TA):TE:=fun σ H Q=>to σ H fun x H1=>tyV K T x H1∧t σ H1 fun xs H2=>r x xs H2 Q
variable {o e:Expr} {es:List Expr} {to:TE} {t:TA} {name:Str} {apos cpos:Pos} {T id:String} {r:V→List V→Hp→VK→Prop}
theorem zlO (pa:PlainAttrs T) (slot:Slot T name id) (hty:typeOf (.builtin id)=pure (.type "method_descriptor")) (hm:MtR X id r) (ho:PE X o to)
    (hbase:attributeBase o name X.env (eval o X.env)=eval o X.env:=by rfl) (hline:(apos.endLine == cpos.line)=true:=by rfl):PE X (.Call (.Attribute o name apos) [] [] cpos) (tBM0 X.K T r to):=by
  intro pins s σ H Q I h
  refine wpAny_Call_method0_late hbase hline (thn (ho pins s σ H _ I h) fun v s1 ⟨x,H1,I1,r1,ty,q1⟩=>?_)
  obtain ⟨h1,h2⟩:=zn9 I1 r1 ty
  exact ⟨T,id,pa,slot,hty,h1,h2,Calls.callWith_builtin rfl (PySem.evalArgs_none (hm pins s1 σ H1 x [] v [] Q I1 r1 .nil q1))⟩
theorem zeV (pa:PlainAttrs T) (slot:Slot T name id) (hty:typeOf (.builtin id)=pure (.type "method_descriptor")) (hm:MtR X id r) (ho:PE X o to) (ha:PA X (e :: es) t)
    (hbase:attributeBase o name X.env (eval o X.env)=eval o X.env:=by rfl)
    (hfew:((backTo cpos (starEach (e :: es) X.env)).all (fun x=>!x.1) && (backToKw cpos (keywordEach [] X.env)).all (fun x=>x.1.isSome)
      && decide ((e :: es).length + ([]:List Keyword).length + (if ([]:List Keyword).isEmpty then 0 else 1) < 30))=true:=by rfl)
    (hline:(apos.endLine == cpos.line)=true:=by rfl) (hs:starEach (e :: es) X.env=(false,eval e X.env) :: starEach es X.env:=by rfl) (hplain:(backTo cpos (starEach es X.env)).any (·.1)=false:=by rfl) :
    PE X (.Call (.Attribute o name apos) (e :: es) [] cpos) (tBM X.K T r to t):=by
  intro pins s σ H Q I h
  refine wpAny_Call_method_late hbase hfew hline rfl (thn (ho pins s σ H _ I h) fun v s1 ⟨x,H1,I1,r1,ty,q1⟩=>?_)
  obtain ⟨h1,h2⟩:=zn9 I1 r1 ty
  refine ⟨T,id,pa,slot,hty,h1,h2,?_⟩
  have hA:=ha cpos pins s1 σ H1 _ I1 q1
  rw [hs] at hA ⊢
  refine Calls.callWith_builtin (by show (false || (backTo cpos (starEach es X.env)).any (·.1))=false; rw [hplain] <;> rfl) (Calls.evalArgs_plain ?_)
  exact thn hA fun us s2 ⟨vs,H2,I2,r2,q2⟩=>hm pins s2 σ H2 x vs v us Q I2 r1 r2 q2
end
end L2
namespace L2
open PySem PySem.Spec PyProof.Rows
def MtM (X:Cx) (id:String) (r:V→List V→Hp→VK→Prop):Prop :=
  ∀ (pins:List (Addr × Obj)) (s:Shared) (σ:St) (H:Hp) (x:V) (xs:List V) (v:Value) (us:List Value) (Q:VK),Inv X pins σ H s→RelV x v→Vals xs us→r x xs H Q →
    wpAny (model X.prog X.w) X.A (call (.builtin id) (v :: us)) (EP X pins σ Q) X.xe s
theorem Vals.one:∀ {x:V} {us:List Value},Vals [x] us→∃ u,us = [u]∧RelV x u
  | _,_,.cons r .nil=>⟨_,rfl,r⟩
theorem Vals.zero:∀ {us:List Value},Vals [] us→us = []
  | _,.nil=>rfl
theorem Vals.dropLast {xs:List V} {us:List Value} (h:Vals xs us):Vals xs.dropLast us.dropLast:=by
  induction h with
  | nil=>exact .nil
  | cons r t ih =>
    cases t with
    | nil=>exact .nil
    | cons q t'=>exact .cons r ih
theorem Vals.eraseIdx:∀ {xs:List V} {us:List Value} (i:Nat),Vals xs us→Vals (xs.eraseIdx i) (us.eraseIdx i)
  | _,_,_,.nil=>.nil
  | _,_,0,.cons _ t=>t
  | _,_,i + 1,.cons r t=>.cons r (Vals.eraseIdx i t)
theorem Vals.reverse {xs:List V} {us:List Value} (h:Vals xs us):Vals xs.reverse us.reverse:=by
  induction h with
  | nil=>exact .nil
  | cons r t ih=>rw [List.reverse_cons,List.reverse_cons]; exact Vals.append ih (.cons r .nil)
theorem zkR {α:Type} (l:List α):l.eraseIdx (l.length - 1)=l.dropLast:=by
  induction l with
  | nil=>rfl
  | cons a r ih =>
    cases r with
    | nil=>rfl
    | cons b r =>
      have e:(a :: b :: r).length - 1=((b :: r).length - 1) + 1:=by
        have h1:(a :: b :: r).length=r.length + 2:=rfl
        have h2:(b :: r).length=r.length + 1:=rfl
        omega
      rw [e,List.eraseIdx_cons_succ,ih]
      all_goals rfl
theorem zh2 {α:Type}:∀ (l:List α) (i:Nat),(l.eraseIdx i).length ≤ l.length
  | [],_=>Nat.le_refl _
  | _ :: _,0=>Nat.le_succ _
  | _ :: r,i + 1=>Nat.succ_le_succ (zh2 r i)
section
variable {X:Cx} {pins:List (Addr × Obj)} {σ:St} {H:Hp} {s:Shared} {l b:Addr} {xs ys zs:List V}
theorem Inv.lset {its its':List Value} {n:Nat} {f:Array Value→Array Value} {t':Nat} (I:Inv X pins σ H s) (hH:H l=some (.lst xs))
    (e:s.heap.get? l=some { cls:=.type "list",data:=.seq its.toArray n }) (hf:f its.toArray=its'.toArray) (hv:Vals ys its') (hz:ys.length ≤ sizeLine) :
    Inv X pins σ (upd H l (.lst ys)) { s with heap:=s.heap.update l (Obj.mapSeq f),toks:=t' }:=by
  have q:=PySem.IsL.update e f
  rw [hf] at q
  refine I.write (x:=l) (e:=l) (by rw [hH]; exact trivial) (.inl rfl) (fun b' u hb hu=>(Heap.get?_update_other s.heap (Obj.mapSeq f) (Ne.symm hb)).trans hu) ⟨_,q⟩ ?_
  exact ⟨hz,its',_,hv,q⟩
theorem Inv.lnew {its:List Value} {t':Nat} (I:Inv X pins σ H s) (hv:Vals ys its) (hz:ys.length ≤ sizeLine) :
    Inv X pins σ (upd H s.heap.objs.size (.lst ys)) { s with heap:=s.heap.push { cls:=.type "list",data:=.seq its.toArray },toks:=t' } :=
  I.laid (fun _ _ q=>Heap.get?_push_of_some _ q) (Nat.le_refl _) ⟨hz,its,0,hv,Heap.get?_push_size _ rfl⟩
theorem Inv.fresh (I:Inv X pins σ H s):H s.heap.objs.size=none:=I.hok.fresh (Nat.le_refl _)
theorem Inv.lstM (I:Inv X pins σ H s) (hH:H l=some (.lst xs)):xs.length ≤ sizeLine∧∃ (its:List Value) (n:Nat),Vals xs its∧xs.length=its.length∧s.heap.get? l=some { cls:=.type "list",data:=.seq its.toArray n }:=by
  obtain ⟨z,its,n,r,e⟩:=I.hok l _ hH
  exact ⟨z,its,n,r,r.length,e⟩
end
section
variable {X:Cx}
def ziY:V→List V→Hp→VK→Prop:=fun x vs H Q=>∃ l xs y,x = .ref l∧vs = [y]∧H l=some (.lst xs)∧xs.length < sizeLine∧Q .non (upd H l (.lst (xs ++ [y])))
theorem zbC:MtM X "list.append" ziY:=by
  intro pins s σ H x vs v us Q I rx rv h
  obtain ⟨l,xs,y,rfl,rfl,hH,hz,q⟩:=h
  cases rx
  obtain ⟨u,rfl,ru⟩:=rv.one
  obtain ⟨z,its,n,r,hl,e⟩:=I.lstM hH
  refine call_meets F.slot_list_append ⟨_,e,rfl⟩ F.entry_list_append (F.args_list_append_2 _ _) (PySem.list_append l its.toArray n u (by rw [List.size_toArray]; omega)) ⟨e,?_⟩
  refine ⟨.non,_,I.lset (its':=its ++ [u]) hH e (by simp) (r.append (.cons ru .nil)) ?_,rfl,q⟩
  rw [List.length_append,List.length_singleton]
  omega
def rPop:V→List V→Hp→VK→Prop:=fun x vs H Q=>∃ l xs y,x = .ref l∧vs = []∧H l=some (.lst xs)∧xs[xs.length - 1]?=some y∧Q y (upd H l (.lst xs.dropLast))
theorem zmO:MtM X "list.pop" rPop:=by
  intro pins s σ H x vs v us Q I rx rv h
  obtain ⟨l,xs,y,rfl,rfl,hH,hy,q⟩:=h
  cases rx
  have hus:=rv.zero
  subst hus
  obtain ⟨z,its,n,r,hl,e⟩:=I.lstM hH
  obtain ⟨u,hu,ru⟩:=r.get hy
  have hy':its.toArray[its.toArray.size - 1]?=some u:=by
    show its.toArray[its.length - 1]?=some u
    rw [← Array.getElem?_toList,← hl]
    exact hu
  refine call_meets F.slot_list_pop ⟨_,e,rfl⟩ F.entry_list_pop (F.args_list_pop_1 _) (MeetsSeq.list_pop_last l its.toArray n u hy' (by rw [List.size_toArray]; omega)) ⟨e,?_⟩
  refine ⟨y,_,I.lset (its':=its.dropLast) hH e ?_ r.dropLast ?_,ru,q⟩
  · show its.toArray.eraseIdxIfInBounds (its.toArray.size - 1)=its.dropLast.toArray
    rw [List.size_toArray,List.eraseIdxIfInBounds_toArray,zkR]
  · rw [List.length_dropLast]
    omega
def zou:V→List V→Hp→VK→Prop:=fun x vs H Q=>∃ l xs i k y,x = .ref l∧vs = [.int i]∧H l=some (.lst xs)∧-(2 ^ 63) ≤ i∧i < 2 ^ 63∧seqIndex? i xs.length=some k∧xs[k]?=some y∧Q y (upd H l (.lst (xs.eraseIdx k)))
theorem zn1:MtM X "list.pop" zou:=by
  intro pins s σ H x vs v us Q I rx rv h
  obtain ⟨l,xs,i,k,y,rfl,rfl,hH,h1,h2,hk,hy,q⟩:=h
  cases rx
  obtain ⟨u,rfl,ru⟩:=rv.one
  obtain ⟨t,rfl⟩:=ru
  obtain ⟨z,its,n,r,hl,e⟩:=I.lstM hH
  obtain ⟨w,hw,rw'⟩:=r.get hy
  refine call_meets F.slot_list_pop ⟨_,e,rfl⟩ F.entry_list_pop (F.args_list_pop_2 _ _)
    (MeetsSeq.list_pop_at l its.toArray n i t k w (fitsIndex_both h1 h2) (by rw [List.size_toArray,← hl]; exact hk) (by rw [← Array.getElem?_toList]; exact hw) (by rw [List.size_toArray]; omega)) ⟨e,?_⟩
  refine ⟨y,_,I.lset (its':=its.eraseIdx k) hH e ?_ (r.eraseIdx k) ?_,rw',q⟩
  · show its.toArray.eraseIdxIfInBounds k=(its.eraseIdx k).toArray
    rw [List.eraseIdxIfInBounds_toArray]
  · have:=zh2 xs k
    omega
end
section
variable {prog:Program} {w:World} {A:Around} {E:Value→Shared→Prop} {s:Shared}
end
section
variable {X:Cx}
end
end L2
namespace L2
open PySem PySem.Spec PyProof.Rows
section
variable {κ:Type} [DecidableEq κ]
def valV (kvs:List (κ × V)) (k:κ):Option V:=(kvs.find? fun kv=>decide (kv.1=k)).map (·.2)
def putK (kvs:List (κ × V)) (k:κ) (v:V):List (κ × V) :=
  if (kvs.any fun kv=>decide (kv.1=k))=true then kvs.map (fun kv=>if kv.1=k then (kv.1,v) else kv) else kvs ++ [(k,v)]
theorem zbT {p:κ × V} {r:List (κ × V)} {k:κ} (e:p.1=k):valV (p :: r) k=some p.2:=by simp [valV,List.find?_cons,e]
theorem zbY {p:κ × V} {r:List (κ × V)} {k:κ} (e:¬ p.1=k):valV (p :: r) k=valV r k:=by simp [valV,List.find?_cons,e]
theorem zfA (k:κ):∀ kvs:List (κ × V),(kvs.any fun kv=>decide (kv.1=k))=(valV kvs k).isSome
  | []=>rfl
  | p :: r=>by
    rw [List.any_cons]
    by_cases e:p.1=k
    · simp only [zbT e,decide_eq_true e,Bool.true_or,Option.isSome_some]
    · rw [zbY e,decide_eq_false e,Bool.false_or]; exact zfA k r
theorem zj0 (k j:κ) (y:V):∀ kvs:List (κ × V),valV (kvs.map fun kv=>if kv.1=k then (kv.1,y) else kv) j=(valV kvs j).map fun x=>if j=k then y else x
  | []=>rfl
  | p :: r=>by
    have ih:=zj0 k j y r
    rw [List.map_cons]
    by_cases h:p.1=k
    · rw [if_pos h]
      by_cases e:p.1=j
      · rw [zbT (p:=(p.1,y)) e,zbT e,Option.map_some,if_pos (e.symm.trans h)]
      · rw [zbY (p:=(p.1,y)) e,zbY e,ih]
    · rw [if_neg h]
      by_cases e:p.1=j
      · rw [zbT (p:=p) e,zbT e,Option.map_some,if_neg (fun z=>h (e.trans z))]
      · rw [zbY (p:=p) e,zbY e,ih]
theorem zhY (k j:κ) (y:V):∀ kvs:List (κ × V),valV kvs k=none→valV (kvs ++ [(k,y)]) j=if j=k then some y else valV kvs j
  | [],_=>by
    by_cases e:k=j
    · rw [if_pos e.symm]; exact zbT (p:=(k,y)) e
    · rw [if_neg (fun z=>e z.symm)]; exact zbY (p:=(k,y)) e
  | p :: r,hn=>by
    rw [List.cons_append]
    have hk:¬ p.1=k:=fun z=>by rw [zbT z] at hn; cases hn
    rw [zbY hk] at hn
    have ih:=zhY k j y r hn
    by_cases e:p.1=j
    · rw [zbT e,zbT e,if_neg (fun z=>hk (e.trans z))]
    · rw [zbY e,zbY e,ih]
theorem zjy (kvs:List (κ × V)) (k j:κ) (y:V):valV (putK kvs k y) j=if j=k then some y else valV kvs j:=by
  unfold putK
  by_cases a:(kvs.any fun kv=>decide (kv.1=k))=true
  · rw [if_pos a,zj0]
    rw [zfA] at a
    by_cases e:j=k
    · obtain ⟨x,hx⟩:=Option.isSome_iff_exists.mp a
      rw [if_pos e,e,hx,Option.map_some,if_pos rfl]
    · rw [if_neg e]
      cases valV kvs j with
      | none=>rfl
      | some x=>rw [Option.map_some,if_neg e]
  · rw [if_neg a]
    refine zhY k j y kvs ?_
    rw [zfA] at a
    cases q:valV kvs k with
    | none=>rfl
    | some x=>rw [q] at a; exact (a rfl).elim
theorem zek (kvs:List (κ × V)) (k:κ) (v:V):(putK kvs k v).length ≤ kvs.length + 1:=by
  unfold putK
  split
  · rw [List.length_map]; omega
  · rw [List.length_append,List.length_cons,List.length_nil]; omega
theorem RelO.isSome_eq {o:Option V} {u:Option Value} (r:RelO o u):o.isSome=u.isSome:=by
  cases o with
  | none=>cases u with
    | none=>rfl
    | some _=>exact (show False from r).elim
  | some _=>cases u with
    | none=>exact (show False from r).elim
    | some _=>rfl
theorem RelO.getD {o:Option V} {u:Option Value} {d:V} {d':Value} (r:RelO o u) (rd:RelV d d'):RelV (o.getD d) (u.getD d'):=by
  cases o with
  | none=>cases u with
    | none=>exact rd
    | some _=>exact (show False from r).elim
  | some _=>cases u with
    | none=>exact (show False from r).elim
    | some _=>exact r
theorem KV.val {kvs:List (κ × V)} {vs:List (κ × Value)} (r:KV kvs vs) (k:κ):RelO (valV kvs k) (valueAt vs k):=by
  unfold KV at r
  induction r with
  | nil=>exact True.intro
  | @cons p q ps qs h t ih =>
    obtain ⟨h1,h2⟩:=h
    by_cases e:p.1=k
    · have e':q.1=k:=h1.symm.trans e
      have b:valueAt (q :: qs) k=some q.2:=by simp [valueAt,List.find?_cons,e']
      rw [zbT e,b]; exact h2
    · have e':¬ q.1=k:=fun z=>e (h1.trans z)
      have b:valueAt (q :: qs) k=valueAt qs k:=by simp [valueAt,List.find?_cons,e']
      rw [zbY e,b]; exact ih
theorem KV.any {kvs:List (κ × V)} {vs:List (κ × Value)} (r:KV kvs vs) (k:κ):(kvs.any fun kv=>decide (kv.1=k))=vs.any fun kv=>decide (kv.1=k):=by
  unfold KV at r
  induction r with
  | nil=>rfl
  | cons h t ih=>rw [List.any_cons,List.any_cons,ih,h.1]
theorem KV.repl {kvs:List (κ × V)} {vs:List (κ × Value)} (r:KV kvs vs) (k:κ) {y:V} {u:Value} (ry:RelV y u) :
    KV (kvs.map fun kv=>if kv.1=k then (kv.1,y) else kv) (vs.map fun kv=>if kv.1=k then (kv.1,u) else kv):=by
  unfold KV at r ⊢
  induction r with
  | nil=>exact .nil
  | @cons p q ps qs h t ih =>
    rw [List.map_cons,List.map_cons]
    refine .cons ?_ ih
    obtain ⟨h1,h2⟩:=h
    by_cases e:p.1=k
    · rw [if_pos e,if_pos (h1.symm.trans e)]; exact ⟨h1,ry⟩
    · rw [if_neg e,if_neg (fun z=>e (h1.trans z))]; exact ⟨h1,h2⟩
theorem KV.put {kvs:List (κ × V)} {vs:List (κ × Value)} (r:KV kvs vs) (k:κ) {y:V} {u:Value} (ry:RelV y u):KV (putK kvs k y) (stored vs k u):=by
  unfold putK stored
  rw [r.any k]
  by_cases e:(vs.any fun kv=>decide (kv.1=k))=true
  · rw [if_pos e,if_pos e]; exact r.repl k ry
  · rw [if_neg e,if_neg e]; exact Paired.snoc r ⟨rfl,ry⟩
theorem KV.length {kvs:List (κ × V)} {vs:List (κ × Value)} (r:KV kvs vs):kvs.length=vs.length:=Paired.length r
end
theorem zlP {P:Program} {w:World} {k:Key} {u:Value} (r:RelV (kV k) u):(zbt P w).is k u=true:=by
  cases k with
  | inl i=>obtain ⟨t,e⟩:=(show ∃ t,u=Value.int i t from r); subst e; exact zjt P w i t
  | inr x=>obtain ⟨t,e⟩:=(show ∃ t,u=Value.str x t from r); subst e; exact zi2 P w x t
theorem ziw {P:Program} {w:World}:∀ {ks:List Key} {us:List Value},Vals (ks.map kV) us→ItemsAre (zbt P w) ks us
  | [],_,r=>by rw [List.map_nil] at r; cases r; exact .nil
  | k :: ks,_,r=>by
    rw [List.map_cons] at r
    cases r with
    | cons h t=>exact .cons (zlP h) (ziw t)
abbrev KT (H:Hp):List (List Key × V)→List (List Key × Addr × Value)→Prop:=Paired fun p q=>p.1=q.1∧H q.2.1=some (.tup (p.1.map kV))∧RelV p.2 q.2.2
theorem KT.val {H:Hp} {kvs:List (List Key × V)} {xs:List (List Key × Addr × Value)} (r:KT H kvs xs) (k:List Key):RelO (valV kvs k) ((atKey xs k).map (·.2)):=by
  induction r with
  | nil=>exact True.intro
  | @cons p q ps qs h t ih =>
    obtain ⟨h1,_,h2⟩:=h
    by_cases e:p.1=k
    · have e':q.1=k:=h1.symm.trans e
      have b:atKey (q :: qs) k=some q.2:=by simp [atKey,List.find?_cons,e']
      rw [zbT e,b]; exact h2
    · have e':¬ q.1=k:=fun z=>e (h1.trans z)
      have b:atKey (q :: qs) k=atKey qs k:=by simp [atKey,List.find?_cons,e']
      rw [zbY e,b]; exact ih
theorem KT.repl {H:Hp} {kvs:List (List Key × V)} {xs:List (List Key × Addr × Value)} (r:KT H kvs xs) (k:List Key) {y:V} {u:Value} (ry:RelV y u) :
    KT H (kvs.map fun kv=>if kv.1=k then (kv.1,y) else kv) (xs.map (putAt k u)):=by
  induction r with
  | nil=>exact .nil
  | @cons p q ps qs h t ih =>
    rw [List.map_cons,List.map_cons]
    refine .cons ?_ ih
    obtain ⟨h1,h2,h3⟩:=h
    unfold putAt
    by_cases e:p.1=k
    · rw [if_pos e,if_pos (h1.symm.trans e)]; exact ⟨h1,h2,ry⟩
    · rw [if_neg e,if_neg (fun z=>e (h1.trans z))]; exact ⟨h1,h2,h3⟩
theorem KT.put {H:Hp} {kvs:List (List Key × V)} {xs:List (List Key × Addr × Value)} (r:KT H kvs xs) (k:List Key) {b:Addr} {y:V} {u:Value} (hb:H b=some (.tup (k.map kV))) (ry:RelV y u) :
    KT H (putK kvs k y) (storedH xs k b u):=by
  have e:(kvs.any fun kv=>decide (kv.1=k))=(atKey xs k).isSome:=by
    rw [zfA,(r.val k).isSome_eq,Option.isSome_map]
  unfold putK storedH
  rw [e]
  by_cases q:(atKey xs k).isSome=true
  · rw [if_pos q,if_pos q]; exact r.repl k ry
  · rw [if_neg q,if_neg q]; exact Paired.snoc r ⟨rfl,hb,ry⟩
theorem KT.keeps {H H':Hp} {kvs:List (List Key × V)} {xs:List (List Key × Addr × Value)} (r:KT H kvs xs) (ht:∀ b ys,H b=some (.tup ys)→H' b=some (.tup ys)):KT H' kvs xs :=
  Paired.mapP r fun _ _ z=>⟨z.1,ht _ _ z.2.1,z.2.2⟩
section
variable {P:Program} {w:World} {H:Hp} {h:Heap} {a:Addr}
theorem zqj {u:HO} (ok:HOk P w H h) (e:Rd H a u):ObjOk P w H h a u:=e.ok ok
theorem zi7 {kvs:List (Key × V)} (ok:HOk P w H h) (e:Rd H a (.dK kvs)):kvs.length ≤ sizeLine∧(a == sysModules)=false∧∃ vs,KV kvs vs∧h.DictOf (zbt P w) a vs :=
  show ObjOk P w H h a (.dK kvs) from zqj ok e
theorem zrc {kvs:List (Key × V)} (ok:HOk P w H h) (e:H a=some (.dK kvs)):kvs.length ≤ sizeLine∧(a == sysModules)=false∧∃ vs,KV kvs vs∧h.DictOf (zbt P w) a vs:=zi7 ok (.inl e)
theorem zgY {ks:List Key} (ok:HOk P w H h) (e:H a=some (.tup (ks.map kV))):(tupleKind (zbt P w)).is h ks a:=by
  obtain ⟨_,its,r,o,h1,h2,n,h3⟩:=(show ObjOk P w H h a (.tup (ks.map kV)) from ok a _ e)
  exact ⟨o,its.toArray,n,h1,h2,h3,by simpa using ziw r⟩
theorem zkI {kvs:List (List Key × V)} (ok:HOk P w H h) (e:Rd H a (.dT kvs)):kvs.length ≤ sizeLine∧(a == sysModules)=false ∧
    ∃ xs,KT H kvs xs∧h.DictOfH (tupleKind (zbt P w)) a xs:=by
  obtain ⟨z,y,xs,r,o,es,ep,h1,h2,h3,h4,h5⟩:=(show ObjOk P w H h a (.dT kvs) from zqj ok e)
  refine ⟨z,y,xs,r,o,es,ep,h1,h2,h3,h4,fun x hx=>?_,h5⟩
  have all:∀ {l:List (List Key × V)} {m:List (List Key × Addr × Value)},KT H l m→∀ x ∈ m,(tupleKind (zbt P w)).is h x.1 x.2.1:=by
    intro l m q
    induction q with
    | nil=>intro x hx; exact nomatch hx
    | @cons p q ps qs hq t ih =>
      intro x hx
      rcases List.mem_cons.mp hx with e | hx
      · subst e
        exact zgY ok (by rw [← hq.1]; exact hq.2.1)
      · exact ih x hx
  exact all r x hx
theorem zqq {kvs:List (List Key × V)} (ok:HOk P w H h) (e:H a=some (.dT kvs)):kvs.length ≤ sizeLine∧(a == sysModules)=false ∧
    ∃ xs,KT H kvs xs∧h.DictOfH (tupleKind (zbt P w)) a xs:=zkI ok (.inl e)
end
def DGet (H:Hp) (a:Addr) (y:V) (r:Option V):Prop :=
  (∃ kvs k,Rd H a (.dK kvs)∧y=kV k∧r=valV kvs k)∨∃ kvs k b,Rd H a (.dT kvs)∧y = .ref b∧H b=some (.tup (k.map kV))∧r=valV kvs k
def DPut (H:Hp) (a:Addr) (y v:V) (H':Hp):Prop :=
  (∃ kvs k,H a=some (.dK kvs)∧y=kV k∧kvs.length < sizeLine∧H'=upd H a (.dK (putK kvs k v))) ∨
  ∃ kvs k b,H a=some (.dT kvs)∧y = .ref b∧H b=some (.tup (k.map kV))∧kvs.length < sizeLine∧H'=upd H a (.dT (putK kvs k v))
theorem DGet.k {H:Hp} {a:Addr} {kvs:List (Key × V)} {k:Key} (e:H a=some (.dK kvs)):DGet H a (kV k) (valV kvs k):=.inl ⟨kvs,k,.inl e,rfl,rfl⟩
theorem DGet.t {H:Hp} {a b:Addr} {kvs:List (List Key × V)} {k:List Key} (e:H a=some (.dT kvs)) (eb:H b=some (.tup (k.map kV))):DGet H a (.ref b) (valV kvs k):=.inr ⟨kvs,k,b,.inl e,rfl,eb,rfl⟩
theorem DPut.k {H:Hp} {a:Addr} {kvs:List (Key × V)} {k:Key} {v:V} (e:H a=some (.dK kvs)) (hl:kvs.length < sizeLine):DPut H a (kV k) v (upd H a (.dK (putK kvs k v))):=.inl ⟨kvs,k,e,rfl,hl,rfl⟩
theorem DPut.t {H:Hp} {a b:Addr} {kvs:List (List Key × V)} {k:List Key} {v:V} (e:H a=some (.dT kvs)) (eb:H b=some (.tup (k.map kV))) (hl:kvs.length < sizeLine) :
    DPut H a (.ref b) v (upd H a (.dT (putK kvs k v))):=.inr ⟨kvs,k,b,e,rfl,eb,hl,rfl⟩
section
variable {X:Cx} {pins:List (Addr × Obj)} {σ:St} {H:Hp} {s:Shared} {a:Addr} {y v:V} {u r:Value} {o:Option V} {A:Around} {E:Value→Shared→Prop}
theorem Inv.big (I:Inv X pins σ H s):sysModules < s.heap.objs.size:=by
  have h:mainGlobals < s.heap.objs.size:=(I.mod.glob.keeps I.bk).lt
  exact Nat.lt_trans (by decide) h
theorem zmR {Q:Value→Shared→Prop} (hu:A.units + 1 < cLine) (I:Inv X pins σ H s) (g:DGet H a y (some v)) (ry:RelV y u) (h:∀ w' s',Inv X pins σ H s'→RelV v w'→Q w' s') :
    wpAny (model X.prog X.w) A (getItem (.ref a) u) Q E s:=by
  rcases g with ⟨kvs,k,e,ey,l⟩ | ⟨kvs,k,b,e,ey,eb,l⟩
  · subst ey
    obtain ⟨z,hd,vs,rel,dd⟩:=zi7 I.hok e
    obtain ⟨w',hw,rw'⟩:=RelO.some_of (v:=v) (o:=valueAt vs k) (by rw [l]; exact rel.val k)
    exact wpAny_getItem_of (zlP ry) dd.mapOf hw (h w' _ (I.tok _) rw')
  · subst ey
    cases (show u=Value.ref b from ry)
    obtain ⟨z,hd,xs,rel,dd⟩:=zkI I.hok e
    obtain ⟨w',hw,rw'⟩:=RelO.some_of (v:=v) (o:=(atKey xs k).map (·.2)) (by rw [l]; exact rel.val k)
    obtain ⟨p,hp,hp2⟩:=Option.map_eq_some_iff.mp hw
    refine wpAny_getItem_heap (tupleKind_room_in1 hu) (zgY I.hok eb) dd hp ?_
    rw [hp2]
    exact h w' _ (I.tok _) rw'
theorem zpl {Q:Value→Shared→Prop} (hu:A.units + 1 < cLine) (I:Inv X pins σ H s) (g:DGet H a y o) (ry:RelV y u) (h:∀ s',Inv X pins σ H s'→Q (.bool (!o.isSome)) s') :
    wpAny (model X.prog X.w) A (compareOp .NotIn u (.ref a)) Q E s:=by
  rcases g with ⟨kvs,k,e,ey,l⟩ | ⟨kvs,k,b,e,ey,eb,l⟩
  · subst ey
    obtain ⟨z,hd,vs,rel,dd⟩:=zi7 I.hok e
    refine wpAny_notIn_of (zlP ry) hd dd.mapOf ?_
    rw [← (rel.val k).isSome_eq,← l]
    exact h _ (I.tok _)
  · subst ey
    cases (show u=Value.ref b from ry)
    obtain ⟨z,hd,xs,rel,dd⟩:=zkI I.hok e
    refine wpAny_notIn_heap (tupleKind_room_in1 hu) (zgY I.hok eb) hd dd ?_
    have q:=(rel.val k).isSome_eq
    rw [Option.isSome_map] at q
    rw [← q,← l]
    exact h _ (I.tok _)
theorem ziW {h':Heap} {t':Nat} {ob:HO} (I:Inv X pins σ H s) (mu:Mut (H a)) (hs:Heap.SameBut a s.heap h') (he:∃ q,h'.get? a=some q) (new:ObjOk X.prog X.w (upd H a ob) h' a ob) :
    Inv X pins σ (upd H a ob) { s with heap:=h',toks:=t' } :=
  I.write (x:=a) (e:=a) mu (.inl rfl) (fun b q hb z=>(hs.2 b hb).trans z) he new
theorem zpP {P:Program} {w:World} {H':Hp} {h':Heap} {kvs:List (Key × V)} {vs:List (Key × Value)} (z:kvs.length ≤ sizeLine) (hd:(a == sysModules)=false) (rel:KV kvs vs) (dd:h'.DictOf (zbt P w) a vs) :
    ObjOk P w H' h' a (.dK kvs):=⟨z,hd,vs,rel,dd⟩
theorem zld {H':Hp} {Q:Unit→Shared→Prop} (hu:A.units + 1 < cLine) (I:Inv X pins σ H s) (g:DPut H a y v H') (ry:RelV y u) (rv:RelV v r) (h:∀ s',Inv X pins σ H' s'→Q () s') :
    wpAny (model X.prog X.w) A (setItem (.ref a) u r) Q E s:=by
  rcases g with ⟨kvs,k,e,ey,l,eH⟩ | ⟨kvs,k,b,e,ey,eb,l,eH⟩
  · subst ey eH
    obtain ⟨z,hd,vs,rel,dd⟩:=zrc I.hok e
    have hz:vs.length ≤ sizeLine:=by rw [← rel.length]; exact z
    have hl:(putK kvs k v).length ≤ sizeLine:=by have:=zek kvs k v; omega
    refine wpAny_setItem_pairs (hsz:=hz) (zlP ry) dd fun h' dd' hs=>h _ ?_
    have he:∃ q,h'.get? a=some q:=let ⟨q,_,_,hq,_⟩:=dd'; ⟨q,hq⟩
    exact ziW I (by rw [e]; exact True.intro) hs he (zpP hl hd (rel.put k rv) dd')
  · subst ey eH
    cases (show u=Value.ref b from ry)
    obtain ⟨z,hd,xs,rel,dd⟩:=zqq I.hok e
    have hz:xs.length ≤ sizeLine:=by rw [← Paired.length rel]; exact z
    have hl:(putK kvs k v).length ≤ sizeLine:=by have:=zek kvs k v; omega
    refine wpAny_setItem_heap (hsz:=hz) (tupleKind_room_in1 hu) (zgY I.hok eb) dd fun h' dd' hs=>h _ ?_
    obtain ⟨q,es,ep,hq,h2,h3,h4,_,h5⟩:=dd'
    refine ziW I (by rw [e]; exact True.intro) hs ⟨q,hq⟩ ⟨hl,hd,_,(rel.put k eb rv).keeps fun c ys ec=>?_,q,es,ep,hq,h2,h3,h4,h5⟩
    rw [zai (zqR ec e (fun z=>nomatch z))]
    exact ec
end
section
variable {X:Cx} {pins:List (Addr × Obj)} {σ:St} {H:Hp} {s:Shared} {a:Addr} {kvs:List (Key × V)} {k:Key} {u:Value} {A:Around} {E:Value→Shared→Prop}
end
def NoSl (i:Expr):Prop:=∀ ov iv,subscripted i false ov iv=operate [ov,iv] (getItem ov iv)
theorem zpt {prog:Program} {w:World} {A:Around} {E:Value→Shared→Prop} {s:Shared} {env:Env} {value slice:Expr} {pos:Pos} {T id:String} {Q:Value→Shared→Prop}
    (hl:typeLookup (.type T) "__getitem__"=pure (some (.builtin id))) (hs:NoSl slice)
    (h:wpAny (model prog w) A (eval value env) (fun o s₁=>wpAny (model prog w) A (eval slice env) (fun i s₂=>s₂.TypeIs o T∧wpAny (model prog w) A (getItem o i) Q E s₂) E s₁) E s) :
    wpAny (model prog w) A (eval (.Subscript value slice pos) env) Q E s:=by
  refine Subscript_ (wpAny_mono h (fun o s₁ h₁=>wpAny_mono h₁ (fun i s₂ h₂=>?_) fun _ _ x=>x) fun _ _ x=>x)
  obtain ⟨hT,h₂⟩:=h₂
  unfold subscriptTail
  refine wpAny_bind ?_
  rw [getitemInPython_of_ne hT.not_modules]
  refine wpAny_bind (wpAny_specialOf hT hl ?_)
  have fin:wpAny (model prog w) A (subscripted slice false o i) (fun r s₃=>wpAny (model prog w) A (letTemporaryGo value o r >>= fun _=>pure r) Q E s₃) E s₂:=by
    rw [hs o i]
    exact wpAny_operating (wpAny_mono h₂ (fun r s₃ h₃=>wpAny_bind (wpAny_letTemporaryGo (wpAny_pure h₃))) fun _ _ x=>x)
  first
    | exact wpAny_pure (wpAny_bind fin)
    | exact wpAny_bind (wpAny_pure (wpAny_bind fin))
    | exact wpAny_bind fin
theorem zjc {X:Cx} {pins:List (Addr × Obj)} {σ:St} {H:Hp} {s:Shared} {a:Addr} {y:V} {o:Option V} (I:Inv X pins σ H s) (g:DGet H a y o):s.TypeIs (.ref a) "dict":=by
  rcases g with ⟨kvs,k,e,_,_⟩ | ⟨kvs,k,b,e,_,_,_⟩
  · obtain ⟨_,_,vs,_,dd⟩:=zi7 I.hok e
    exact dd.typeIs
  · obtain ⟨_,_,xs,_,dd⟩:=zkI I.hok e
    exact dd.typeIs
def znG (td ty:TE):TE:=fun σ H Q=>td σ H fun x H1=>ty σ H1 fun y H2=>∃ a v,x = .ref a∧DGet H2 a y (some v)∧Q v H2
def zjw (ty td:TE):TE:=fun σ H Q=>ty σ H fun y H1=>td σ H1 fun x H2=>∃ a o,x = .ref a∧DGet H2 a y o∧Q (.bl (!o.isSome)) H2
def zoA (td ty tv:TE):TS:=fun D σ H=>tv σ H fun v H1=>td σ H1 fun x H2=>ty σ H2 fun y H3=>∃ a H4,x = .ref a∧DPut H3 a y v H4∧D.nx σ H4
section
variable {X:Cx} {o i e value:Expr} {pos pos' tpos:Pos} {td ty tv:TE}
theorem zje (hu:X.A.units + 1 < cLine) (ho:PE X o td) (hi:PE X i ty) (hs:NoSl i):PE X (.Subscript o i pos) (znG td ty):=by
  intro pins s σ H Q I h
  refine zpt PySem.F.slot_dict_getitem.lookup hs (thn (ho pins s σ H _ I h) fun u s1 ⟨x,H1,I1,rx,q1⟩=>thn (hi pins s1 σ H1 _ I1 q1) fun iv s2 ⟨y,H2,I2,ry,a,v,ex,g,q2⟩=>?_)
  subst ex
  obtain rfl:u=Value.ref a:=rx
  exact ⟨zjc I2 g,zmR hu I2 g ry fun w' s3 I3 rw'=>⟨v,H2,I3,rw',q2⟩⟩
theorem zix (hu:X.A.units + 1 < cLine) (hi:PE X i ty) (ho:PE X o td):PC X .NotIn i o (zjw ty td):=by
  intro pins s σ H Q I h
  refine thn (hi pins s σ H _ I h) fun iv s1 ⟨y,H1,I1,ry,q1⟩=>thn (ho pins s1 σ H1 _ I1 q1) fun u s2 ⟨x,H2,I2,rx,a,ov,ex,g,q2⟩=>?_
  subst ex
  obtain rfl:u=Value.ref a:=rx
  exact zpl hu I2 g ry fun s3 I3=>⟨.bl (!ov.isSome),H2,I3,rfl,q2⟩
theorem ziM (hu:X.A.units + 1 < cLine) (ho:PE X o td) (hi:PE X i ty) (hv:PE X value tv) (hs:swapsWith value (some (.Subscript o i pos')) pos.line X.env=pure false) :
    PS X (.Assign [.Subscript o i pos'] value pos) (zoA td ty tv):=by
  intro pins s σ H D I h
  refine wpAny_Assign_Subscript (thn (hv pins s σ H _ I h) fun r s1 ⟨v,H1,I1,rv,q1⟩=>thn (ho pins s1 σ H1 _ I1 q1) fun u s2 ⟨x,H2,I2,rx,q2⟩=>thn (hi pins s2 σ H2 _ I2 q2) fun iv s3 ⟨y,H3,I3,ry,a,H4,ex,g,q3⟩=>?_) hs
  subst ex
  obtain rfl:u=Value.ref a:=rx
  exact zld hu I3 g ry rv fun s4 I4=>⟨σ,H4,I4,q3⟩
end
theorem znu {P:Program} {w:World} {H:Hp} (h:Heap) (hb:sysModules < h.objs.size):ObjOk P w H (h.push { cls:=.type "dict",data:=.dict #[] }) h.objs.size (.dK []) :=
  ⟨Nat.zero_le _,beq_eq_false_iff_ne.mpr (Ne.symm (Nat.ne_of_lt hb)),[],.nil,Heap.DictOf.new h⟩
theorem zmZ {P:Program} {w:World} {H:Hp} (h:Heap) (hb:sysModules < h.objs.size):ObjOk P w H (h.push { cls:=.type "dict",data:=.dict #[] }) h.objs.size (.dT []) :=
  ⟨Nat.zero_le _,beq_eq_false_iff_ne.mpr (Ne.symm (Nat.ne_of_lt hb)),[],.nil,_,#[],0,Heap.get?_push_size _ rfl,⟨rfl,rfl,rfl⟩,rfl,rfl,List.nodup_nil⟩
def zof:TE:=fun _ H Q=>∀ p,H p=none→Q (.ref p) (upd H p (.dK []))
section
variable {X:Cx} {pos:Pos}
theorem zj2:PE X (.Dict [] [] pos) zof:=fun pins s σ H Q I h =>
  wpAny_Dict_empty ⟨.ref s.heap.objs.size,_,I.laid (a:=s.heap.objs.size) (o:=.dK []) (t':=s.toks) (fun _ _ q=>Heap.get?_push_of_some _ q) (Nat.le_refl _) (znu s.heap I.big),rfl,h _ (I.hok.fresh (Nat.le_refl _))⟩
end
def zmm:List (TE × TE)→St→Hp→(List (V × V)→Hp→Prop)→Prop
  | [],_,H,Q=>Q [] H
  | (tk,tv) :: r,σ,H,Q=>tk σ H fun x H1=>tv σ H1 fun y H2=>zmm r σ H2 fun ps H3=>Q ((x,y) :: ps) H3
abbrev VV:List (V × V)→List (Value × Value)→Prop:=Paired fun p q=>RelV p.1 q.1∧RelV p.2 q.2
def PPs (X:Cx) (pos:Pos) (keys:List (Option Expr)) (values:List Expr) (trs:List (TE × TE)):Prop :=
  ∀ (pins:List (Addr × Obj)) (s:Shared) (σ:St) (H:Hp) (Q:List (V × V)→Hp→Prop),Inv X pins σ H s→zmm trs σ H Q →
    wpAny (model X.prog X.w) X.A (evalPairs (pairTrees keys values X.env pos)) (fun vs s'=>∃ ps H',Inv X pins σ H' s'∧VV ps vs∧Q ps H') X.xe s
theorem zo4 {X:Cx} {pos:Pos}:PPs X pos [] [] []:=fun pins s σ H Q I h=>pairTrees_nil_walk ⟨[],H,I,.nil,h⟩
theorem zm6 {X:Cx} {pos:Pos} {k v:Expr} {ks:List (Option Expr)} {vs:List Expr} {tk tv:TE} {trs:List (TE × TE)} (hk:PE X k tk) (hv:PE X v tv) (hr:PPs X pos ks vs trs) :
    PPs X pos (some k :: ks) (v :: vs) ((tk,tv) :: trs):=fun pins s σ H Q I h =>
  pairTrees_cons_walk (thn (hk pins s σ H _ I h) fun u s1 ⟨x,H1,I1,rx,q1⟩=>thn (hv pins s1 σ H1 _ I1 q1) fun w2 s2 ⟨y,H2,I2,ry,q2⟩ =>
    thn (hr pins s2 σ H2 _ I2 q2) fun ws s3 ⟨ps,H3,I3,rel,q3⟩=>⟨(x,y) :: ps,H3,I3,.cons ⟨rx,ry⟩ rel,q3⟩)
structure M2 (X:Cx) (o:Expr) (m:Str) (apos:Pos) (e f:Expr) (cpos:Pos):Prop where
  base:attributeBase o m X.env (eval o X.env)=eval o X.env
  few:((backTo cpos (starEach [e,f] X.env)).all (fun x=>!x.1) && (backToKw cpos (keywordEach [] X.env)).all (fun x=>x.1.isSome)
    && decide (([e,f]:List Expr).length + ([]:List Keyword).length + (if ([]:List Keyword).isEmpty then 0 else 1) < 30))=true
  line:(apos.endLine == cpos.line)=true
  trees:backTo cpos (starEach [e,f] X.env) = [(false,eval e X.env),(false,eval f X.env)]
def IsD (H:Hp) (a:Addr):Prop:=(∃ kvs,Rd H a (.dK kvs))∨∃ kvs,Rd H a (.dT kvs)
theorem zot {X:Cx} {pins:List (Addr × Obj)} {σ:St} {H:Hp} {s:Shared} {a:Addr} (I:Inv X pins σ H s) (d:IsD H a) :
    s.TypeIs (.ref a) "dict"∧(∀ b,Value.ref a = .ref b→∃ ob,s.heap.get? b=some ob∧ob.dict=none)∧(a == sysModules)=false:=by
  rcases d with ⟨kvs,e⟩ | ⟨kvs,e⟩
  · obtain ⟨_,hd,vs,_,dd⟩:=zi7 I.hok e
    refine ⟨dd.typeIs,fun b q=>?_,hd⟩
    cases q
    obtain ⟨ob,_,_,h1,h2,_⟩:=dd
    exact ⟨ob,h1,h2.2.1⟩
  · obtain ⟨_,hd,xs,_,dd⟩:=zkI I.hok e
    refine ⟨dd.typeIs,fun b q=>?_,hd⟩
    cases q
    obtain ⟨ob,_,_,h1,h2,_⟩:=dd
    exact ⟨ob,h1,h2.2.1⟩
section
variable {X:Cx} {pins:List (Addr × Obj)} {σ:St} {H:Hp} {s:Shared} {a:Addr} {y d:V} {u r:Value} {o:Option V} {A:Around} {E:Value→Shared→Prop}
theorem zp2 {Q:Value→Shared→Prop} (hu:A.units + 1 < cLine) (I:Inv X pins σ H s) (g:DGet H a y o) (ry:RelV y u) (rd:RelV d r) (h:∀ w' s',Inv X pins σ H s'→RelV (o.getD d) w'→Q w' s') :
    wpAny (model X.prog X.w) A (call (.builtin "dict.get") [.ref a,u,r]) Q E s:=by
  rcases g with ⟨kvs,k,e,ey,l⟩ | ⟨kvs,k,b,e,ey,eb,l⟩
  · subst ey
    obtain ⟨z,hd,vs,rel,dd⟩:=zi7 I.hok e
    refine call_meetsIn PySem.F.slot_dict_get dd.typeIs PySem.F.entry_dict_get (PySem.F.args_dict_get_3 _ _ _) (meets_dict_get_default (zbt X.prog X.w) a (zlP ry) hd r) ⟨_,dd.mapOf,h _ _ (I.tok _) ?_⟩
    rw [l]
    exact (rel.val k).getD rd
  · subst ey
    cases (show u=Value.ref b from ry)
    obtain ⟨z,hd,xs,rel,dd⟩:=zkI I.hok e
    refine call_meetsIn PySem.F.slot_dict_get dd.typeIs PySem.F.entry_dict_get (PySem.F.args_dict_get_3 _ _ _) (meetsH_dict_get_default (tupleKind (zbt X.prog X.w)) a b hd r) ⟨tupleKind_room_in1 hu,k,xs,zgY I.hok eb,dd,h _ _ (I.tok _) ?_⟩
    rw [l]
    exact (rel.val k).getD rd
end
def zom (td ty tx:TE):TE:=fun σ H Q=>td σ H fun x H1=>∃ a,x = .ref a∧IsD H1 a∧ty σ H1 fun y H2=>tx σ H2 fun z H3=>∃ o,DGet H3 a y o∧Q (o.getD z) H3
section
variable {X:Cx} {o e f:Expr} {apos cpos:Pos} {td ty tx:TE}
theorem znS (hu:X.A.units + 1 < cLine) (ho:PE X o td) (he:PE X e ty) (hf:PE X f tx) (m:M2 X o "get" apos e f cpos):PE X (.Call (.Attribute o "get" apos) [e,f] [] cpos) (zom td ty tx):=by
  intro pins s σ H Q I h
  refine wpAny_Call_method m.base m.few m.line PySem.F.plainAttrs_dict PySem.F.slot_dict_get PySem.F.type_dict_get (thn (ho pins s σ H _ I h) fun u s1 ⟨x,H1,I1,rx,a,ex,d,q1⟩=>?_)
  subst ex
  obtain rfl:u=Value.ref a:=rx
  obtain ⟨t1,t2,_⟩:=zot I1 d
  refine ⟨t1,t2,?_⟩
  rw [m.trees]
  refine Calls.callWith_builtin rfl (Calls.evalArgs_plain (Calls.spliced_cons (thn (he pins s1 σ H1 _ I1 q1) fun iv s2 ⟨y,H2,I2,ry,q2⟩ =>
    Calls.spliced_cons (thn (hf pins s2 σ H2 _ I2 q2) fun fv s3 ⟨z,H3,I3,rz,ov,g,q3⟩=>Calls.spliced_nil ?_))))
  exact zp2 hu I3 g ry rz fun w' s4 I4 rw'=>⟨_,H3,I4,rw',q3⟩
end
section
variable {X:Cx} {pins:List (Addr × Obj)} {σ:St} {H:Hp} {s:Shared} {a:Addr} {kvs:List (Key × V)} {A:Around} {E:Value→Shared→Prop}
end
section
variable {X:Cx} {pins:List (Addr × Obj)} {σ:St} {H:Hp} {s:Shared} {a:Addr} {y:V} {u:Value} {A:Around} {E:Value→Shared→Prop}
end
end L2
namespace Att
open PySem PySem.W PySem.Calls PyProof.Rows
theorem zfZ {P:Params} {h:Heap}:∀ (ns:List Int) (vs:List Value),WellAll P h vs (ns.map WData.int)→IntsAre vs ns:=by
  intro ns
  induction ns with
  | nil =>
    intro vs w
    rw [List.map_nil] at w
    cases w
    exact .nil
  | cons n ns ih =>
    intro vs w
    rw [List.map_cons] at w
    cases w with
    | cons a b =>
      cases a
      exact .cons _ _ (ih _ b)
theorem zmq {l:OpenLaw} {n:Nat} (hn:l.most=some n) {P:Params} {h:Heap} {args:List WData} {vals:List Value}
    (hpre:l.row.toRowW.claim.pre args=true) (hwl:WellAll P h vals args) :
    ∃ a vs ns,vals = [Value.ref a]∧args = [WData.list (ns.map WData.int)]∧h.get? a=some { cls:=.type "list",data:=.seq vs.toArray }∧IntsAre vs ns∧ns.length ≤ n:=by
  have hsh:WShape.hasAll [] args [.list .int]=true:=(pre_splitW hpre).1
  have hc:l.pre.holds [] { args:=args }=true:=(pre_splitW hpre).2
  obtain ⟨d,r,rfl,h1,h2⟩:=hasAllW_cons hsh
  obtain rfl:=hasAllW_nil h2
  obtain ⟨xs,rfl,h3⟩:=hasW_list h1
  obtain ⟨ns,rfl⟩:=items_int h3
  have hlen:ns.length ≤ n:=by
    unfold OpenLaw.pre at hc
    have h4:(WTm.not (.lt (.lit (.int (n:Int))) (.len (.arg 0)))).holds [] { args:=[.list (ns.map .int)] }=true:=by
      have h4:=(holds_andW hc).1
      rw [hn] at h4
      exact h4
    have h5:=condW_of h4 (w_not (w_lt w_lit (w_len_list (w_arg rfl))))
    rw [List.length_map] at h5
    refine Nat.le_of_not_lt fun q=>?_
    have q':(n:Int) < ((ns.length:Nat):Int):=by omega
    first
      | (rw [decide_eq_true q'] at h5; exact absurd h5 (by decide))
      | (simp at h5; omega)
  cases hwl with
  | cons w1 w2 =>
    cases w2
    cases w1 with
    | list ho hall=>exact ⟨_,_,ns,rfl,rfl,ho,zfZ ns _ hall,hlen⟩
theorem zlh (l:OpenLaw) (args:List WData):l.row.toRowW.claim.post args (.bool true) args=true :=
  postW_of (r:=l.row.toRowW) (X:=(true == true))
    (show WShape.has [] (.bool true) .bool=true by first | rfl | decide | simp [WShape.has,WShape.arms,WShape.armsAll])
    (show (WTm.eq .res (.lit (.bool true))).value [] { args:=args,res:=some (.bool true),after:=args }=some (.bool (true == true)) from w_eq_bool (w_res rfl) w_lit) rfl
theorem attach_call {l:OpenLaw} {n:Nat} {q:Program} {loose:List Str} {XP:(Str→Option Value)→Heap→Prop} {YP:World→Heap→Prop} {d:DefRec}
    (hn:l.most=some n) (hdf:d.params.defaults = [])
    (call:∀ (w:World) (s₀ s₁:Shared) (mg mb:Str→Option Value) (fa:Addr) (o:Obj) (pm cd doc:Value) (a:Addr) (vs:List Value) (ns:List Int),
      Ground q loose [] XP w s₀ mg mb s₁.heap→YP w s₁.heap →
      s₁.heap.get? fa=some o→o.data = .func (docDef d.name d.params d.body d.scope pm cd doc)→s₁.heap.CodeRec cd d.name→mg d.name=some (.ref fa) →
      s₁.heap.get? a=some { cls:=.type "list",data:=.seq vs.toArray }→IntsAre vs ns→ns.length ≤ n→s₁.gens = #[] →
      codeAny (model l.prog w) callerA (.call (.ref fa) ⟨[.ref a],[]⟩) (fun r s'=>r = .ok (.ret (.bool true))∧OldK s₁.heap s'.heap∧s'.os=s₁.os∧AllBare s'.gens) s₁) :
    WalkO q loose XP YP l.row.toRowW d [] (fun f vs=>PySem.call f vs):=by
  intro w s₀ s₁ mg mb G Y fa o pm cd doc dV kV ho hd hcd hD hmg hg args vals as hpre hlay hrd hwl hlo
  obtain rfl:dV = .none:=Dflts.none hD hdf
  obtain rfl:kV = .none:=Dflts.noKw hD
  obtain ⟨a,vs,ns,rfl,rfl,hobj,hints,hlen⟩:=zmq hn hpre hwl
  refine enter_call (codeAny_mono (call w s₀ s₁ mg mb fa o pm cd doc a vs ns G Y ho (fd_plain hd) hcd hmg hobj hints hlen hg) fun r s' hq=>?_)
  obtain ⟨rfl,h2,h3,h4⟩:=hq
  exact ⟨.inl ⟨.bool true,.bool true,[],rfl,fun _=>rfl,.bool true,zlh l _,fun _=>⟨List.Pairwise.nil,fun _ hm=>(nomatch hm)⟩⟩,h2,h3,h4⟩
section
variable {prog:Program} {w:World} {A:Around} {E:Value→Shared→Prop} {s:Shared} {K:Frag}
end
end Att
namespace L2
open PySem PySem.Spec PyProof.Rows
theorem ziG:∀ {vs:List Value} {ns:List Int},IntsAre vs ns→Vals (ns.map V.int) vs
  | _,_,.nil=>.nil
  | _,_,.cons n t h=>.cons ⟨t,rfl⟩ (ziG h)
def Only (H:Hp):Prop:=∀ b,H b=none∨∃ o xs,H b=some (.frz o (.lst xs))
theorem znI {P:Program} {w:World} {K:PySem.W.Frag} {mg mb:Str→Option Value} {CX:CXT} {k:Nat} {fa a:Addr} {fd:FuncData} {x:Str} {sp:Sp} {s₁:Shared} {vs:List Value} {ns:List Int}
    (KX:K.In s₁.heap) (hT0:tabOf K=none) (hns:s₁.heap.Ns mainGlobals mg) (hb:s₁.heap.Ns builtinsNs mb) (hbb:∀ x:Str,x ≠ "__name__"→mb x=bootBuiltins x) (hlim:s₁.heap.NoLimit) (hg:s₁.gens = #[])
    (ha:s₁.heap.get? a=some { cls:=.type "list",data:=.seq vs.toArray }) (hi:IntsAre vs ns) (hl:ns.length ≤ sizeLine) (hr:Room k callerA)
    (F:∀ base:Heap,K.In base→base.Ns mainGlobals mg→FnOk P w K mg base CX k fa fd [x] sp) (hbind:∀ (s:Shared) (u:Value),BindsTo s fd ⟨[u],[]⟩ [(x,u)])
    (hsp:∀ H:Hp,Only H→SqL K H a (ns.map V.int)→sp [.ref a] H (fun v _=>v = .bl true) fun _ _ _=>False)
    (hCX:∀ H e s',CX [] H s₁ (fun _ _ _=>False) e s'→False) :
    codeAny (model P w) callerA (.call (.ref fa) ⟨[.ref a],[]⟩) (fun r s'=>r = .ok (.ret (.bool true))∧OldK s₁.heap s'.heap∧s'.os=s₁.os∧AllBare s'.gens) s₁:=by
  have rv:=ziG hi
  have lenV:=hi.length
  -- from an abstract heap in which nothing but the script may be tracked
  have core:∀ H:Hp,Only H→SqL K H a (ns.map V.int)→HOk P w H s₁.heap→(∀ b,H b ≠ none→b=a)→(H a ≠ none→K.lookup a=none) →
      codeAny (model P w) callerA (.call (.ref fa) ⟨[.ref a],[]⟩) (fun r s'=>r = .ok (.ret (.bool true))∧OldK s₁.heap s'.heap∧s'.os=s₁.os∧AllBare s'.gens) s₁:=by
    intro H hO hS hok hA hK
    have base_of:∀ {b:Addr} {o:Obj},s₁.heap.get? b=some o→H b=none→(hidT s₁.heap H).get? b=some o:=fun e n=>znV e n
    have noA:∀ {b:Addr} {o:Obj} {es:Array DictEntry} {ep:Nat},s₁.heap.get? b=some o→o.data = .dict es ep→H b=none:=fun {b o es ep} e d=>by
      cases q:H b with
      | none=>rfl
      | some u =>
        have e':b=a:=hA b (by rw [q]; simp)
        subst e'
        rw [ha] at e; cases e
        have d':Data.seq vs.toArray _=Data.dict es ep:=d
        cases d'
    have nsK:∀ {b:Addr} {m:Str→Option Value},s₁.heap.Ns b m→(hidT s₁.heap H).Ns b m:=fun {b m} ⟨o,es,ep,e,d,r⟩=>⟨o,es,ep,base_of e (noA e d),d,r⟩
    have hKb:K.In (hidT s₁.heap H):=fun b o e=>base_of (KX b o e) (by
      cases q:H b with
      | none=>rfl
      | some u =>
        have e':b=a:=hA b (by rw [q]; simp)
        subst e'
        rw [hK (by rw [q]; simp)] at e; cases e)
    have hM:Mod K mg (hidT s₁.heap H):=⟨hKb,nsK hns,⟨mb,nsK hb,hbb⟩,let ⟨mc,h1,h2⟩:=hlim; ⟨mc,nsK h1,h2⟩⟩
    have e0:Env0 P w K mg (hidT s₁.heap H) callerA [] s₁ H:=⟨rfl,hM,fun b o e=>zoF e,Nat.le_of_eq (zmC _ _),trivial,fun b hb=>absurd (show b ∈ ([]:List Addr) from hb) (by simp),hok,.of_eq hg,.none hT0⟩
    refine codeAny_mono ((F _ hKb (nsK hns)).run callerA [] s₁ H ⟨[.ref a],[]⟩ [.ref a] [.ref a] _ _ hr e0 (hbind s₁ (.ref a)) (.cons rfl .nil) (hsp H hO hS)) fun r s' h=>?_
    cases r with
    | error e=>exact (hCX H e s' h).elim
    | ok fl =>
      cases fl with
      | next=>exact False.elim h
      | brk=>exact False.elim h
      | cont=>exact False.elim h
      | ret u =>
        obtain ⟨v,H',os,bare,un,hok',r',q⟩:=h
        have q':v = .bl true:=q
        subst q'
        obtain rfl:u=Value.bool true:=r'
        refine ⟨rfl,OldK.of_keep fun b o e=>?_,os,bare⟩
        cases q:H b with
        | none=>exact un.keep b o e q (by intro z; exact absurd (show b ∈ ([]:List Addr) from z) (by simp)) (by simp)
        | some u =>
          rcases hO b with z | ⟨ob,xs,z⟩
          · rw [q] at z; cases z
          · have z2:=un.frzs b ob _ z
            obtain ⟨e1,_⟩:=hok b _ z
            obtain ⟨e2,_⟩:=hok' b _ z2
            rw [e] at e1; cases e1
            exact e2
  cases hk:K.lookup a with
  | some o =>
    -- the script is one of the module's own objects
    have e:=KX a o hk
    rw [ha] at e
    cases e
    refine core (fun _=>none) (fun _=>.inl rfl) (.inr ⟨_,vs.toArray,_,hk,rfl,rfl,rfl,by rw [List.size_toArray,lenV]; exact hl,by simpa using rv⟩) (fun b u z=>by have z':(none:Option HO)=some u:=z; cases z') (fun b z=>absurd rfl z) fun z=>absurd rfl z
  | none =>
    refine core (fun b=>if b=a then some (.frz { cls:=.type "list",data:=.seq vs.toArray } (.lst (ns.map V.int))) else none) (fun b=>?_) (.inl (.inr ⟨{ cls:=.type "list",data:=.seq vs.toArray },if_pos rfl⟩)) (fun b u z=>?_) (fun b z=>?_) fun _=>hk
    · by_cases hb:b=a
      · exact .inr ⟨_,_,if_pos hb⟩
      · exact .inl (if_neg hb)
    · by_cases hb:b=a
      · have z':=(if_pos hb).symm.trans z
        cases z'
        subst hb
        exact ⟨ha,by rw [List.length_map]; exact hl,vs,_,rv,ha⟩
      · have z':=(if_neg hb).symm.trans z
        cases z'
    · by_cases hb:b=a
      · exact hb
      · exact absurd (if_neg hb) z
end L2
namespace L2
open PySem PySem.Spec PyProof.Rows
theorem walk_of {l:PySem.W.OpenLaw} {n k:Nat} {q:Program} {loose:List Str} {XP:(Str→Option Value)→Heap→Prop} {YP:World→Heap→Prop} {d:DefRec} {K:Params→PySem.W.Frag} {CX:World→CXT} {sp:World→Sp} {x:Str}
    (hn:l.most=some n) (hn2:n ≤ sizeLine) (hdf:d.params.defaults = []) (hr:Room k callerA)
    (hY:∀ (w:World) (h:Heap),YP w h→(K w.params).In h) (hT0:∀ w:World,tabOf (K w.params)=none)
    (F:∀ (w:World) (mg:Str→Option Value) (fa:Addr) (h:Heap),(K w.params).In h→h.Ns mainGlobals mg→mg d.name=some (.ref fa) →
      ∃ fd:FuncData,(∀ (s:Shared) (u:Value),BindsTo s fd ⟨[u],[]⟩ [(x,u)]) ∧
        ∀ base:Heap,(K w.params).In base→base.Ns mainGlobals mg→FnOk l.prog w (K w.params) mg base (CX w) k fa fd [x] (sp w))
    (hsp:∀ (w:World) (H:Hp) (a:Addr) (ns:List Int),ns.length ≤ n→Only H→SqL (K w.params) H a (ns.map V.int)→sp w [.ref a] H (fun v _=>v = .bl true) fun _ _ _=>False)
    (hCX:∀ (w:World) (H:Hp) (s:Shared) (e:Value) (s':Shared),CX w [] H s (fun _ _ _=>False) e s'→False) :
    PySem.W.WalkO q loose XP YP l.row.toRowW d [] (fun f vs=>PySem.call f vs):=by
  refine Att.attach_call hn hdf fun w s₀ s₁ mg mb fa o pm cd doc a vs ns G Y ho hd hcd hmg hobj hints hlen hg=>?_
  have KX:=hY w _ Y
  obtain ⟨fd,hb,hF⟩:=F w mg fa _ KX G.T.g hmg
  exact znI KX (hT0 w) G.T.g G.T.b G.T.builtins G.T.nolimit hg hobj hints (Nat.le_trans hlen hn2) hr hF hb (fun H hO hS=>hsp w H a ns hlen hO hS) fun H e s'=>hCX w H s₁ e s'
end L2
namespace L2
open PySem PySem.Spec PyProof.Rows
def ziT (s:Stmt) (j:Nat):Stmt:=match s with
  | .ClassDef _ _ _ body _ _ _ _ _ _ _=>body.getD j (.Pass ⟨0,0,0,0⟩)
  | _=>.Pass ⟨0,0,0,0⟩
def zdK (s:Stmt):Arguments:=match s with
  | .FunctionDef _ a _ _ _ _ _ _ _ _=>a
  | _=>{ posonlyargs:=[],args:=[],vararg:=none,kwonlyargs:=[],kw_defaults:=[],kwarg:=none,defaults:=[] }
def zc9 (s:Stmt):List Stmt:=match s with
  | .FunctionDef _ _ b _ _ _ _ _ _ _=>b
  | _=>[]
def zau (s:Stmt):Scope:=match s with
  | .FunctionDef _ _ _ _ _ _ sc _ _ _=>sc
  | _=>{ kind:=.function,names:=[],isGenerator:=false,isCoroutine:=false }
abbrev CX0:CXT:=fun _ _ _ _ _ _=>False
abbrev E0:XK:=fun _ _ _=>False
theorem zbb {X:Cx}:zes CX0 X E0:=fun _ _ _ _ _ _ _ h=>h.elim
structure Fun (K:PySem.W.Frag) (x qual:Str) (st:Stmt) (f:Addr) (fd:FuncData):Prop where
  ex:∃ (oc:Value) (od:Option Addr) (kV doc pm:Value) (an:Option Addr) (cdv ct:Value) (osl:Array (Option Value)),
    fd=PySem.W.fnOf x qual (zdK st) (zc9 st) (zau st) .none kV doc pm an cdv ct∧K.lookup f=some ⟨oc,od,.func fd,osl⟩∧PySem.W.codeIn K cdv qual=true
  kp:PySem.W.keepIn K (.ref f)=true
section
variable {P:Program} {w:World} {K:PySem.W.Frag} {mg:Str→Option Value} {base:Heap}
theorem Fun.ok {x qual:Str} {st:Stmt} {f:Addr} {fd:FuncData} {N ps:List Str} {k:Nat} {sp:Sp} (F:Fun K x qual st f fd) (S:FnScope N ps (zau st)) (len:∀ vs H Q E,sp vs H Q E→vs.length=ps.length)
    (hbody:∀ (cdv:Value) (A:Around) (outer:List Env) (s:Shared) (H:Hp) (vs:List V) (Q:VK) (E:XK),Room k (A.deeper (envOfC qual (zau st) s.heap.objs.size f cdv))→sp vs H Q E →
      ∃ t,PSs (cxOf CX0 P w K mg base N qual (zau st) f cdv A outer s H E).nox (zc9 st) t∧t { nx:=fun _ H'=>Q .non H',rt:=Q } (start N vs) H):FnOk P w K mg base CX0 (k + 1) f fd ps sp:=by
  obtain ⟨oc,od,kV,doc,pm,an,cdv,ct,osl,rfl,lk,hcd⟩:=F.ex
  refine zq2 lk hcd S len fun A outer s H vs Q E hr hsp=>?_
  obtain ⟨t,h,q⟩:=hbody cdv A outer s H vs Q E hr hsp
  exact ⟨t,h.nox,q⟩
theorem Fun.binds {x qual:Str} {st:Stmt} {f:Addr} {fd:FuncData} {ps:List Str} (F:Fun K x qual st f fd)
    (h:∀ (kV doc pm:Value) (an:Option Addr) (cdv ct:Value) (us:List Value),us.length=ps.length→bindArgs (PySem.W.fnOf x qual (zdK st) (zc9 st) (zau st) .none kV doc pm an cdv ct) ⟨us,[]⟩=pure (ps.zip us)):Binds K fd ps []:=by
  obtain ⟨oc,od,kV,doc,pm,an,cdv,ct,osl,rfl,lk,hcd⟩:=F.ex
  exact .all (h kV doc pm an cdv ct)
theorem zmG {x qual:Str} {st:Stmt} {f:Addr} {oc:Value} {od an:Option Addr} {osl:Array (Option Value)} {kV doc pm cdv ct:Value} (l:K.lookup f=some ⟨oc,od,.func (PySem.W.fnOf x qual (zdK st) (zc9 st) (zau st) .none kV doc pm an cdv ct),osl⟩)
    (c:PySem.W.codeIn K cdv qual=true) (k:PySem.W.keepIn K (.ref f)=true):Fun K x qual st f (PySem.W.fnOf x qual (zdK st) (zc9 st) (zau st) .none kV doc pm an cdv ct):=⟨⟨oc,od,kV,doc,pm,an,cdv,ct,osl,rfl,l,c⟩,k⟩
end
theorem zb5 {A:Around} {k:Nat} (hr:Room k A):A.units + 1 < cLine:=Nat.lt_of_le_of_lt (Nat.add_le_add_left (by decide:1 ≤ 64) _) hr.units
section
variable {X:Cx}
theorem pv (i:Nat) {x:Str} {pos:Pos} (hN:X.N[i]?=some x:=by rfl) (hv:Vis X.env.scope x:=by first | exact Or.inl rfl | exact Or.inr (Or.inl rfl) | exact Or.inr (Or.inr rfl)) (hd:(x == ("__debug__" : Str))=false:=by decide)
    (hcd:(x == ("__classdict__" : Str))=false:=by decide):PE X (.Name x pos) (tVar i):=zqU hN hv hd hcd
end
def Same (H H':Hp):Prop:=∀ b o,H b=some o→H' b=some o
theorem Same.refl (H:Hp):Same H H:=fun _ _ h=>h
theorem Same.trans {H H1 H2:Hp} (a:Same H H1) (b:Same H1 H2):Same H H2:=fun c o h=>b c o (a c o h)
theorem Same.free {H H':Hp} (e:Same H H') {l:Addr} (h:H' l=Option.none):H l=Option.none:=by
  cases q:H l with
  | none=>rfl
  | some o =>
    rw [e l o q] at h
    cases h
theorem Same.seq {K:PySem.W.Frag} {H H':Hp} {a:Addr} {xs:List V} (e:Same H H') (h:SqL K H a xs):SqL K H' a xs:=by
  rcases h with (h | ⟨o,h⟩) | h
  · exact .inl (.inl (e _ _ h))
  · exact .inl (.inr ⟨o,e _ _ h⟩)
  · exact .inr h
section
variable {κ:Type} [DecidableEq κ]
end
end L2
namespace L2
open PySem PySem.Spec PyProof.Rows
def Fit (i:Int):Prop:=i.natAbs < 2 ^ 8000
theorem log2_lt {n k:Nat} (hk:0 < k) (h:n < 2 ^ k):n.log2 < k:=by
  by_cases h0:n=0
  · subst h0; simpa using hk
  · exact (Nat.log2_lt h0).mpr h
theorem Fit.log {i:Int} (h:Fit i):i.natAbs.log2 < 8000:=log2_lt (by decide) h
theorem Fit.bits {i:Int} (h:Fit i):Builtin.Int.intBits i ≤ 2 ^ 20:=by
  have h1:=h.log
  have h2:(8000:Nat) ≤ 2 ^ 20:=by decide
  unfold Builtin.Int.intBits
  split <;> omega
section
variable {X:Cx}
theorem zcE:OpR X (binaryOp .Mult) (rI (fun i j=>Fit i∧Fit j) fun i j=>.int (i * j)):=opI fun _ _ _ _ _ _ _ hc q=>mul_int q (.of_bits hc.1.bits hc.2.bits)
theorem zep:OpR X (binaryOp .FloorDiv) (rI (fun _ j=>j ≠ 0∧Fit j) fun i j=>.int (i.fdiv j)):=opI fun _ _ _ _ _ _ _ hc q =>
  floordiv_int hc.1 q (.inl (PyProof.noPylong_of_log2 (Nat.lt_trans hc.2.log (by decide))))
end
def clsV:V→Option Value
  | .ty n=>some (.type n)
  | .ref a=>some (.ref a)
  | _=>none
section
variable {X:Cx}
theorem zm5 {c:V} {cv u:Value} (h:clsV c=some cv) (r:RelV c u):u=cv:=by
  cases c with
  | ty n=>cases h; exact r
  | ref a=>cases h; exact r
  | _=>cases h
def rIs (K:PySem.W.Frag):List V→Hp→VK→Prop:=fun xs H Q=>∃ x c cv t b,xs = [x,c]∧clsV c=some cv∧TyOf K H x t∧PySem.W.kitOne K t cv=some b∧Q (.bl b) H
theorem zcJ:zdI X (.builtin "isinstance") (rIs X.K):=by
  intro pins s σ H xs us Q I r h
  obtain ⟨x,c,cv,t,b,rfl,hc,ty,hk,q⟩:=h
  obtain ⟨u,v,rfl,rx,ry⟩:=zll r
  cases zm5 hc ry
  exact zk9 I rx ty hk fun tk=>⟨.bl b,H,I.tok _,rfl,q⟩
end
def Ite (K:PySem.W.Frag) (a:Addr):It :=
  ⟨fun i H=>∃ xs x,SqL K H a xs∧xs[i]?=some x,fun i H x H'=>∃ p y,x = .ref p∧H p=none∧H'=upd H p (.tup [.int i,y])∧∀ xs,SqL K H a xs→xs[i]?=some y,fun i H=>∃ xs,SqL K H a xs∧xs.length ≤ i⟩
theorem zlu {P:Program} {w:World} {K:PySem.W.Frag} {es:List Expr} {k} {pos:Pos} (a e it:Addr) (hne:e ≠ it) :
    Turn P w K (.Tuple es k pos) (Ite K a) [e,it] e (fun i h=>(∃ old,IsEnum h e it i old)∧h.IsListIter it a i) where
  mem:=by simp
  obj:=fun i h st b hb=>by
    obtain ⟨⟨old,h1⟩,o,h2,c,d⟩:=st
    rcases List.mem_cons.mp hb with rfl | hb
    · exact ⟨_,h1,fun v z=>by cases (show Data.fields _=Data.cell v from z)⟩
    · have e':b=it:=by simpa using hb
      subst e'
      exact ⟨o,h2,fun v z=>by rw [d] at z; cases z⟩
  keep:=fun i h h' st k=>by
    obtain ⟨⟨old,h1⟩,h2⟩:=st
    exact ⟨⟨old,k e (by simp) _ h1⟩,h2.at fun o q=>k it (by simp) o q⟩
  item:=by
    intro X hP hw hK hc i pins s σ H E I hf st hg
    subst hP hw hK
    obtain ⟨xs,x,hq,hx⟩:=hg
    obtain ⟨its,rv,p,hz⟩:=I.list hq
    obtain ⟨u,hu,ru⟩:=rv.get hx
    obtain ⟨⟨old,he⟩,hit⟩:=st
    obtain ⟨f0,f1,f2,f3,f4,f5⟩:=hf e (by simp)
    obtain ⟨g0,g1,g2,g3,g4,g5⟩:=hf it (by simp)
    have hT:H s.heap.objs.size=none:=I.hok.fresh (Nat.le_refl _)
    have eT:e ≠ s.heap.objs.size:=Nat.ne_of_lt (Heap.lt_size he)
    have iT:it ≠ s.heap.objs.size:=by obtain ⟨_,z,_⟩:=hit; exact Nat.ne_of_lt (Heap.lt_size z)
    refine wpAny_pyNext_enum_item he hit p.isList (x:=u) (by simpa using hu) hne fun h' ho hit' ht hsz hk=>⟨_,rfl,?_⟩
    refine wpAny_letOwnedTupleGo_enum ho fun h'' he'' hs''=>?_
    have hs2:Heap.SameBut e h' h'':=hs''
    have ht2:h''.get? s.heap.objs.size=some { cls:=.type "tuple",data:=.seq #[.int i s.toks,u] }:=(hs2.2 _ eT.symm).trans ht
    have hk2:∀ b o,b ≠ e→b ≠ it→s.heap.get? b=some o→h''.get? b=some o:=fun b o z1 z2 q=>(hs2.2 b z1).trans (hk b o z1 z2 q)
    have nH:∀ b o,H b=some o→b ≠ e∧b ≠ it:=fun b o q=>⟨(fun z=>by rw [z,f0] at q; cases q),(fun z=>by rw [z,g0] at q; cases q)⟩
    refine ⟨.ref s.heap.objs.size,upd H s.heap.objs.size (.tup [.int i,x]),?_,rfl,⟨_,x,rfl,hT,rfl,fun ys hy=>by rw [I.list_inj hy hq]; exact hx⟩,⟨⟨_,by simpa using he''⟩,hit'.at fun o q=>(hs2.2 it hne.symm).trans q⟩,fun b hb=>?_⟩
    · show Inv X pins σ (upd H s.heap.objs.size (.tup [.int i,x])) { s with heap:=h'',toks:=s.toks + 1 }
      refine I.step (h':=h'') (g':=s.gens) (d':=s.drawn) (t':=s.toks + 1) (ch:=[e,it]) (fun b hb=>?_) (fun b o _ _ hb q _=>?_) (fun b o _ _ hb q _=>⟨o.slots,?_⟩) (fun b o hb q n=>?_) (fun b o hb q=>⟨o,?_⟩) (fun b ys q=>?_) (fun b o ys q=>?_) (fun b ps q=>⟨#[],?_⟩) (fun m hm=>?_) ?_ I.bare
      · rcases List.mem_cons.mp hb with rfl | hb
        · exact ⟨f3,f1,f4,f5⟩
        · have z:b=it:=by simpa using hb
          subst z
          exact ⟨g3,g1,g4,g5⟩
      · exact hk2 b o (fun z=>hb (by simp [z])) (fun z=>hb (by simp [z])) q
      · exact hk2 b o (fun z=>hb (by simp [z])) (fun z=>hb (by simp [z])) q
      · rw [zai (Nat.ne_of_lt (Heap.lt_size q))]; exact n
      · exact hk2 b o (fun z=>hb (by simp [z])) (fun z=>hb (by simp [z])) q
      · rw [zai (zaq q hT)]; exact q
      · rw [zai (zaq q hT)]; exact q
      · rw [zai (zaq q hT),q]; simp
      · obtain ⟨o,es',ep,ho',r⟩:=hm
        exact ⟨o,es',ep,hk2 _ o (Ne.symm f1) (Ne.symm g1) ho',r⟩
      · intro b o q
        by_cases hb:b=s.heap.objs.size
        · subst hb
          rw [zaj] at q; cases q
          exact ⟨by show 2 ≤ sizeLine; decide,[.int i s.toks,u],.cons ⟨_,rfl⟩ (.cons ru .nil),⟨_,ht2,rfl,_,rfl⟩⟩
        · rw [zai hb] at q
          refine (I.hok b o q).stay (fun c v hc' q'=>?_) (fun c q'=>by rw [zai (zaq q' hT)]; exact q') fun c ys q'=>by rw [zai (zaq q' hT)]; exact q'
          rcases hc' with rfl | hc'
          · exact hk2 _ v (nH _ _ q).1 (nH _ _ q).2 q'
          · exact hk2 _ v (nH _ _ hc').1 (nH _ _ hc').2 q'
    · rcases List.mem_cons.mp hb with rfl | hb
      · rw [zai eT]; exact f0
      · have z:b=it:=by simpa using hb
        subst z
        rw [zai iT]; exact g0
  done:=by
    intro X hP hw hK hc i pins s σ H E I hf st hg
    subst hP hw hK
    obtain ⟨xs,hq,hx⟩:=hg
    obtain ⟨its,rv,p,hz⟩:=I.list hq
    obtain ⟨⟨old,he⟩,hit⟩:=st
    obtain ⟨g0,g1,g2,g3,g4,g5⟩:=hf it (by simp)
    have hl:=rv.length
    exact wpAny_pyNext_enum_end (I.ok.hd hc) he hit p.isList (by simp; omega) fun h' eb=>⟨rfl,I.turned (t':=s.toks) (fun b o hb q=>eb b o hb q) g0 g1 g3 g4 g5⟩
  self:=fun _ _ _ _ _ st h=>by
    obtain ⟨⟨old,he⟩,_⟩:=st
    exact wpAny_pyIter_enum he h
section
variable {X:Cx}
def zqC (K:PySem.W.Frag) (ta:TA):TI:=fun σ H R=>ta σ H fun vs H1=>∃ a,vs = [.ref a]∧(∃ xs,SqL K H1 a xs)∧R (Ite K a) H1
theorem zps {es:List Expr} {k} {tp:Pos} {l:Expr} {ta:TA} {p pos:Pos} (hg:Gl X "enumerate") (hm:X.mg "enumerate"=none) (ha:PA X [l] ta) (hs:starEach [l] X.env = [(false,eval l X.env)]:=by rfl) :
    PI X (.Tuple es k tp) (.Call (.Name "enumerate" p) [l] [] pos) (zqC X.K ta):=by
  intro pins s σ H R I h
  refine Call_ (zer I hg hm boot_enumerate (PyProof.Rows.callWith_type1 (thn (ha pos pins s σ H _ I h) fun us s1 ⟨vs,H1,I1,r1,q1⟩=>?_) hs rfl))
  obtain ⟨a,e,⟨xs,hq⟩,q⟩:=q1
  subst e
  obtain ⟨u,rfl,rx⟩:=zey r1
  cases rx
  obtain ⟨its,rv,pl,hz⟩:=I1.list hq
  refine call_enumerate_list pl.isList fun h' he hit hsz hk=>?_
  have I2:Inv X pins σ H1 { s1 with heap:=h' }:=I1.kept (t':=s1.toks) hk
  have hne:s1.heap.objs.size + 1 ≠ s1.heap.objs.size:=by omega
  refine wpAny_pyIter_enum he ⟨s1.heap.objs.size + 1,[s1.heap.objs.size + 1,s1.heap.objs.size],_,_,H1,rfl,I2,zlu a _ _ hne,⟨⟨_,he⟩,hit⟩,fun b hb=>?_,q⟩
  have hb':s1.heap.objs.size ≤ b:=by
    rcases List.mem_cons.mp hb with rfl | hb
    · omega
    · have z:b=s1.heap.objs.size:=by simpa using hb
      exact Nat.le_of_eq z.symm
  exact I1.fpOk hb' (I1.hok.fresh hb')
end
end L2
namespace L2
open PySem PySem.Spec PyProof.Rows
theorem ze0 {env:Env}:∀ (names:List (Str × NameKind)) (acc:List (Str × Addr)),(∀ y ∈ names,y.2 = .free→∃ c,env.cells.lookup y.1=some c) →
    ∃ cl,(forIn (m:=Sem) names acc fun (x:Str × NameKind) (cs:List (Str × Addr))=>if (x.2 == NameKind.free)=true then do let c ← cellOf env x.1; pure (ForInStep.yield ((x.1,c) :: cs)) else pure (ForInStep.yield cs))=pure cl ∧
      (∀ p ∈ cl,p ∈ acc∨env.cells.lookup p.1=some p.2)∧(∀ p ∈ acc,p ∈ cl)∧∀ y ∈ names,y.2 = .free→∃ c,(y.1,c) ∈ cl
  | [],acc,_=>⟨acc,by simp,fun p hp=>.inl hp,fun p hp=>hp,fun y hy=>by cases hy⟩
  | (n,k) :: r,acc,h=>by
    by_cases hk:k = .free
    · subst hk
      obtain ⟨c,hc⟩:=h (n,.free) List.mem_cons_self rfl
      obtain ⟨cl,e,h1,h2,h3⟩:=ze0 r ((n,c) :: acc) fun y hy=>h y (List.mem_cons_of_mem _ hy)
      refine ⟨cl,?_,fun p hp=>?_,fun p hp=>h2 p (List.mem_cons_of_mem _ hp),fun y hy hf=>?_⟩
      · have hco:cellOf env n=pure c:=by unfold cellOf; rw [hc]
        rw [List.forIn_cons]
        simp only [beq_self_eq_true,if_true,hco,pure_bind]
        exact e
      · rcases h1 p hp with z | z
        · rcases List.mem_cons.mp z with rfl | z
          · exact .inr hc
          · exact .inl z
        · exact .inr z
      · rcases List.mem_cons.mp hy with rfl | hy
        · exact ⟨c,h2 _ List.mem_cons_self⟩
        · exact h3 y hy hf
    · obtain ⟨cl,e,h1,h2,h3⟩:=ze0 r acc fun y hy=>h y (List.mem_cons_of_mem _ hy)
      refine ⟨cl,?_,h1,h2,fun y hy hf=>?_⟩
      · have hb:(k == NameKind.free)=false:=by simpa using hk
        rw [List.forIn_cons]
        simp only [hb,Bool.false_eq_true,if_false,pure_bind]
        exact e
      · rcases List.mem_cons.mp hy with rfl | hy
        · exact absurd hf hk
        · exact h3 y hy hf
theorem zeH {f:Str→Option Addr}:∀ {cl:List (Str × Addr)} {x:Str} {c:Addr},(∀ p ∈ cl,f p.1=some p.2)→(x,c) ∈ cl→cl.lookup x=some c
  | [],_,_,_,h=>by cases h
  | (n,d) :: r,x,c,h,hm=>by
    rw [List.lookup_cons]
    cases e:x == n with
    | true =>
      have e':x=n:=by simpa using e
      subst e'
      have z1:=h (x,d) List.mem_cons_self
      have z2:=h (x,c) hm
      rw [z1] at z2
      simpa using z2
    | false =>
      rcases List.mem_cons.mp hm with z | z
      · cases z; simp at e
      · exact zeH (fun p hp=>h p (List.mem_cons_of_mem _ hp)) z
theorem zet {scope:Scope} {env:Env} (h:∀ y ∈ scope.names,y.2 = .free→∃ c,env.cells.lookup y.1=some c) :
    ∃ cl,closureFor scope env=pure cl∧(∀ x c,cl.lookup x=some c→env.cells.lookup x=some c)∧∀ y ∈ scope.names,y.2 = .free→cl.lookup y.1=env.cells.lookup y.1:=by
  obtain ⟨cl,e,h1,_,h3⟩:=ze0 scope.names [] h
  have all:∀ p ∈ cl,env.cells.lookup p.1=some p.2:=fun p hp=>(h1 p hp).elim (fun z=>by cases z) id
  refine ⟨cl,?_,fun x c z=>all (x,c) (PySem.mem_of_lookup z),fun y hy hf=>?_⟩
  · simp only [closureFor]
    rw [e]
    rfl
  · obtain ⟨c,hc⟩:=h3 y hy hf
    rw [all _ hc]
    exact zeH (f:=fun x=>env.cells.lookup x) all hc
end L2
namespace L2
open PySem PySem.Spec PyProof.Rows
section
variable {prog:Program} {w:World} {A:Around} {R:Result→Shared→Prop} {s:Shared}
theorem zhP {elt target iter:Expr} {ifs:List Expr} {scope:Scope} {pos:Pos} {it acc:Value} {env:Env} (I:Nat→Shared→Prop)
    (turn:∀ n s,I n s→wpAny (model prog w) A (pyNext it) (fun r s₁=>match r with
      | none=>R (.ok .next) s₁
      | some v=>wpAny (model prog w) A (letOwnedTupleGo target it v) (fun _ s₁'=>wpAny (model prog w) A (assign target env v) (fun _ s₂ =>
          wpAny (model prog w) A (forIn ifs true fun c r=>if r=true then do let ok ← isTrue c env (eval c env); pure (ForInStep.yield ok) else pure (ForInStep.yield r)) (fun ok s₃ =>
            if ok=true then wpAny (model prog w) A (eval elt env) (fun x s₄ =>
              wpAny (model prog w) A (call (.builtin "list.append") [acc,x]) (fun _ s₅=>∃ m,m < n∧I m s₅) (fun _ _=>False) s₄) (fun _ _=>False) s₃
            else ∃ m,m < n∧I m s₃) (fun _ _=>False) s₂) (fun _ _=>False) s₁') (fun _ _=>False) s₁) (fun _ _=>False) s)
    (n:Nat) (h:I n s) :
    codeAny (model prog w) A (.compLoop (.ListComp elt [⟨target,iter,ifs,0⟩] scope pos) 0 it acc env) R s:=by
  refine codeAny_loop rfl I (fun n s hI=>?_) n h
  show wpAny _ A ((compTurn (.ListComp elt [⟨target,iter,ifs,0⟩] scope pos) 0 it acc env).onRaise (fun x=>do noteFrame x env; theTreesLotGoes x)) _ _ s
  refine wpAny_noted ?_
  rw [compTurn_list]
  refine wpAny_bind (wpAny_standAt (wpAny_bind (wpAny_mono (turn n s hI) (fun r s₁ h₁=>?_) fun _ _ h'=>h'.elim)))
  cases r with
  | none=>exact wpAny_pure h₁
  | some v =>
    refine wpAny_bind (wpAny_mono h₁ (fun _ s₁' h₁'=>?_) fun _ _ h'=>h'.elim)
    refine wpAny_bind (wpAny_mono h₁' (fun _ s₂ h₂=>wpAny_bind (wpAny_mono h₂ (fun ok s₃ h₃=>?_) fun _ _ h'=>h'.elim)) fun _ _ h'=>h'.elim)
    cases ok with
    | false=>exact wpAny_pure ⟨rfl,h₃⟩
    | true =>
      exact wpAny_bind (wpAny_bind (wpAny_mono h₃ (fun x s₄ h₄=>wpAny_bind (wpAny_mono h₄ (fun _ s₅ h₅=>wpAny_pure (wpAny_pure ⟨rfl,h₅⟩)) fun _ _ h'=>h'.elim)) fun _ _ h'=>h'.elim))
end
def Cx.comp (X:Cx) (scope:Scope) (cl:List (Str × Addr)) (C:Addr) (N':List Str) (s:Shared) (H:Hp) (fp:List Addr) (pins:List (Addr × Obj)):Cx :=
  { X with N:=N',s₀:=s,H₀:=H,env:=compEnvC scope cl C X.env,outer:=X.stack,stack:=X.stack,ex:=fp,fn:=fun x=>scope.names.lookup x == some .cell,pn:=X.pn ++ pins,xe:=fun _ _=>False }
def zcz (σ:St) (ix:List Nat) (n:Nat):St:=ix.map (fun i=>(σ[i]?).getD none) ++ List.replicate n none
def zjY:Option TT→TT
  | none=>fun _ H Q=>Q true H
  | some t=>t
def zqT (D:Addr) (J:It) (g:TG) (tc:Option TT) (te:TE) (Q:VK) (σ0:St) (H0:Hp):Prop :=
  ∃ W:Nat→Nat→List V→St→Hp→Prop,(∃ m,W 0 m [] σ0 H0)∧∀ i m ys σ2 H2,W i m ys σ2 H2→H2 D=some (.lst ys) ∧
    ((J.stop i H2∧Q (.ref D) H2)∨(J.go i H2∧∃ N:List V→St→Hp→Prop,(∀ ys' σ' H',N ys' σ' H'→∃ m',m' < m∧W (i + 1) m' ys' σ' H') ∧
      ∀ x H',J.yld i H2 x H'→g x σ2 H' fun σ3 H3=>zjY tc σ3 H3 fun b H4=>if b=true then te σ3 H4 fun y H5=>H5 D=some (.lst ys)∧ys.length < sizeLine∧N (ys ++ [y]) σ3 (upd H5 D (.lst (ys ++ [y]))) else N ys σ3 H4))
def zjx (wi:TI) (ix:List Nat) (n:Nat) (g:TG) (tc:Option TT) (te:TE):TE:=fun σ H Q=>wi σ H fun J H1=>∀ D,H1 D=none→zqT D J g tc te Q (zcz σ ix n) (upd H1 D (.lst []))
structure CompOk (X:Cx) (scope:Scope) (N':List Str) (ix:List Nat) (n:Nat) (tg elt:Expr) (ifs:List Expr) (g:TG) (tc:Option TT) (te:TE):Prop where
  kind:scope.kind = .function
  nocell:∀ y ∈ scope.names,y.2 = .free→(y.1,NameKind.cell) ∉ scope.names
  names:∀ y ∈ scope.names,y.2 = .local→scope.names.lookup y.1=some .local
  free:∀ y ∈ scope.names,y.2 = .free→X.env.kindOf y.1=some .cell∨X.env.kindOf y.1=some .free
  len:ix.length + n=N'.length
  take:∀ (j i:Nat),ix[j]?=some i→∃ x,N'[j]?=some x∧X.N[i]?=some x∧scope.names.lookup x=some .free
  tgt:∀ (cl:List (Str × Addr)) (C:Addr) (s:Shared) (H:Hp) (fp:List Addr) (pins:List (Addr × Obj)),PG (X.comp scope cl C N' s H fp pins) tg g
  elt:∀ (cl:List (Str × Addr)) (C:Addr) (s:Shared) (H:Hp) (fp:List Addr) (pins:List (Addr × Obj)),PE (X.comp scope cl C N' s H fp pins) elt te
  test:(ifs = []∧tc=none)∨∃ c t,ifs = [c]∧tc=some t∧∀ (cl:List (Str × Addr)) (C:Addr) (s:Shared) (H:Hp) (fp:List Addr) (pins:List (Addr × Obj)),PT (X.comp scope cl C N' s H fp pins) c t
theorem zcD {env:Env}:∀ {names:List (Str × NameKind)} {x:Str},names.lookup x=some .free →
    (names.map fun (n,k)=>if (k == NameKind.free && env.scope.kind == .function && env.kindOf n == some .cell) then (n,NameKind.cell) else (n,k)).lookup x=some .cell ∨
    (names.map fun (n,k)=>if (k == NameKind.free && env.scope.kind == .function && env.kindOf n == some .cell) then (n,NameKind.cell) else (n,k)).lookup x=some .free
  | [],_,h=>by simp at h
  | (n,k) :: r,x,h=>by
    have ih:=@zcD env r x
    show List.lookup x ((if (k == NameKind.free && env.scope.kind == .function && env.kindOf n == some .cell)=true then (n,NameKind.cell) else (n,k)) :: _)=_∨List.lookup x ((if (k == NameKind.free && env.scope.kind == .function && env.kindOf n == some .cell)=true then (n,NameKind.cell) else (n,k)) :: _)=_
    cases hx:x == n with
    | true =>
      simp only [List.lookup_cons,hx] at h
      cases h
      by_cases hc:(NameKind.free == NameKind.free && env.scope.kind == .function && env.kindOf n == some .cell)=true
      · rw [if_pos hc]; left; simp only [List.lookup_cons,hx]
      · rw [if_neg hc]; right; simp only [List.lookup_cons,hx]
    | false =>
      simp only [List.lookup_cons,hx] at h
      by_cases hc:(k == NameKind.free && env.scope.kind == .function && env.kindOf n == some .cell)=true
      · rw [if_pos hc]; simp only [List.lookup_cons,hx]; exact ih h
      · rw [if_neg hc]; simp only [List.lookup_cons,hx]; exact ih h
theorem zfj {env:Env}:∀ {names:List (Str × NameKind)} {x:Str},
    ((names.map fun (n,k)=>if (k == NameKind.free && env.scope.kind == .function && env.kindOf n == some .cell) then (n,NameKind.cell) else (n,k)).lookup x=some .cell ∨
    (names.map fun (n,k)=>if (k == NameKind.free && env.scope.kind == .function && env.kindOf n == some .cell) then (n,NameKind.cell) else (n,k)).lookup x=some .free)→(x,NameKind.free) ∈ names∨(names.lookup x=some .cell∧(x,NameKind.cell) ∈ names)
  | [],_,h=>by simp at h
  | (n,k) :: r,x,h=>by
    have ih:=@zfj env r x
    cases hx:x == n with
    | true =>
      have e:x=n:=by simpa using hx
      subst e
      by_cases hc:(k == NameKind.free && env.scope.kind == .function && env.kindOf x == some .cell)=true
      · have hk:k = .free:=by
          have:(k == NameKind.free)=true:=by
            simp only [Bool.and_eq_true] at hc
            exact hc.1.1
          simpa using this
        subst hk
        exact .inl List.mem_cons_self
      · rw [List.map_cons] at h
        have e2:(match (x,k) with | (n,k)=>if (k == NameKind.free && env.scope.kind == .function && env.kindOf n == some .cell)=true then (n,NameKind.cell) else (n,k))=(x,k):=if_neg hc
        rw [e2] at h
        simp only [List.lookup_cons,beq_self_eq_true] at h
        rcases h with h | h
        · cases h; exact .inr ⟨by simp only [List.lookup_cons,beq_self_eq_true],List.mem_cons_self⟩
        · cases h; exact .inl List.mem_cons_self
    | false =>
      refine (ih ?_).imp (List.mem_cons_of_mem _) fun z=>⟨by simp only [List.lookup_cons,hx]; exact z.1,List.mem_cons_of_mem _ z.2⟩
      rw [List.map_cons] at h
      by_cases hc:(k == NameKind.free && env.scope.kind == .function && env.kindOf n == some .cell)=true
      · have e2:(match (n,k) with | (n,k)=>if (k == NameKind.free && env.scope.kind == .function && env.kindOf n == some .cell)=true then (n,NameKind.cell) else (n,k))=(n,NameKind.cell):=if_pos hc
        rw [e2] at h
        simpa only [List.lookup_cons,hx] using h
      · have e2:(match (n,k) with | (n,k)=>if (k == NameKind.free && env.scope.kind == .function && env.kindOf n == some .cell)=true then (n,NameKind.cell) else (n,k))=(n,k):=if_neg hc
        rw [e2] at h
        simpa only [List.lookup_cons,hx] using h
theorem zdc {x:Str} {c:Addr}:∀ (names:List (Str × NameKind)) (n:Nat) (acc:List (Str × Addr)),(x,NameKind.cell) ∈ names→(cellsFrom n names acc).lookup x=some c→(∀ y,acc.lookup x=some y→n ≤ y∨True)→n ≤ c
  | [],_,_,h,_,_=>by cases h
  | (y,k) :: r,n,acc,h,e,_=>by
    unfold cellsFrom at e
    by_cases hr:(x,NameKind.cell) ∈ r
    · split at e
      · exact Nat.le_of_succ_le (zdc r (n + 1) _ hr e fun _ _=>.inr trivial)
      · exact zdc r n _ hr e fun _ _=>.inr trivial
    · rcases List.mem_cons.mp h with z | z
      · cases z
        rw [if_pos (by rfl)] at e
        have key:∀ (r:List (Str × NameKind)) (n':Nat) (acc:List (Str × Addr)),(x,NameKind.cell) ∉ r→(cellsFrom n' r acc).lookup x=acc.lookup x:=by
          intro r
          induction r with
          | nil=>intro _ _ _; rfl
          | cons p r ih =>
            intro n' acc hp
            obtain ⟨y',k'⟩:=p
            unfold cellsFrom
            split
            · rename_i hk
              have hk':k' = .cell:=by simpa using hk
              subst hk'
              have ne:¬ x=y':=fun z=>hp (by rw [z]; exact List.mem_cons_self)
              rw [ih _ _ fun z=>hp (List.mem_cons_of_mem _ z),List.lookup_cons,show (x == y')=false by simpa using ne]
            · exact ih _ _ fun z=>hp (List.mem_cons_of_mem _ z)
        rw [key r _ _ hr] at e
        simp only [List.lookup_cons,beq_self_eq_true] at e
        cases e; exact Nat.le_refl _
      · exact absurd z hr
theorem zcs {x:Str}:∀ (names:List (Str × NameKind)) (n:Nat) (acc:List (Str × Addr)),(x,NameKind.cell) ∉ names→(cellsFrom n names acc).lookup x=acc.lookup x
  | [],_,_,_=>rfl
  | (y,k) :: r,n,acc,h=>by
    unfold cellsFrom
    split
    · rename_i hk
      have hk':k = .cell:=by simpa using hk
      subst hk'
      have ne:¬ x=y:=fun z=>h (by rw [z]; exact List.mem_cons_self)
      rw [zcs r _ _ fun z=>h (List.mem_cons_of_mem _ z),List.lookup_cons,show (x == y)=false by simpa using ne]
    · exact zcs r _ _ fun z=>h (List.mem_cons_of_mem _ z)
theorem zdi:∀ (names:List (Str × NameKind)) (n:Nat) (acc:List (Str × Addr)),(∀ x c,acc.lookup x=some c→c < n)→(∀ x y c,acc.lookup x=some c→acc.lookup y=some c→x=y) →
    ∀ x y c,(cellsFrom n names acc).lookup x=some c→(cellsFrom n names acc).lookup y=some c→x=y
  | [],_,_,_,h=>h
  | (z,k) :: r,n,acc,h1,h2=>by
    unfold cellsFrom
    split
    · have lk:∀ x c,((z,n) :: acc).lookup x=some c→(x=z∧c=n)∨acc.lookup x=some c:=fun x c h=>by
        rw [List.lookup_cons] at h
        cases hb:x == z with
        | true=>rw [hb] at h; cases h; exact .inl ⟨by simpa using hb,rfl⟩
        | false=>rw [hb] at h; exact .inr h
      refine zdi r (n + 1) _ (fun x c h=>?_) fun x y c e1 e2=>?_
      · rcases lk x c h with ⟨_,z⟩ | z
        · rw [z]; exact Nat.lt_succ_self _
        · exact Nat.lt_succ_of_lt (h1 x c z)
      · rcases lk x c e1 with ⟨a1,a2⟩ | a <;> rcases lk y c e2 with ⟨b1,b2⟩ | b
        · rw [a1,b1]
        · have:=h1 y c b; rw [a2] at this; exact absurd this (Nat.lt_irrefl _)
        · have:=h1 x c a; rw [b2] at this; exact absurd this (Nat.lt_irrefl _)
        · exact h2 x y c a b
    · exact zdi r n acc h1 h2
theorem zjq {M:Model} {A:Around} {E:Value→Shared→Prop} {s:Shared} {scope:Scope} {globals:Addr} {cl:List (Str × Addr)} {qual:Str} {env:Env} {Q:Env→Shared→Prop}
    (hQ:Q (newEnv scope s.heap.objs.size globals (cellsFrom (s.heap.objs.size + 1) scope.names cl) qual none .none (some env) builtinsNs) { s with heap:=pushCells (s.heap.push { cls:=.type "dict",data:=.dict #[] }) scope.names }) :
    wpAny M A (newFunctionEnv scope globals cl [] qual none .none (some env)) Q E s:=by
  simp only [newFunctionEnv,Option.isSome_some,if_true]
  refine wpAny_bind (wpAny_alloc ?_)
  refine wpAny_bind (wpAny_layCells _ (fun name kind cells=>by cases hkc:kind == NameKind.cell <;> simp [hkc]) _ _ _ _ ?_)
  rw [show ({ s with heap:=s.heap.push { cls:=.type "dict",data:=.dict #[] } }:Shared).heap.objs.size=s.heap.objs.size + 1 from Heap.size_push ..]
  refine wpAny_bind ?_
  rw [List.forIn_nil]
  exact wpAny_pure (wpAny_pure hQ)
section
variable {X:Cx} {scope:Scope} {N':List Str} {ix:List Nat} {n:Nat} {tg elt iter:Expr} {ifs:List Expr} {g:TG} {tc:Option TT} {te:TE} {pos:Pos}
theorem zkV {pins:List (Addr × Obj)} {σ:St} {H:Hp} {s:Shared} {fp:List Addr} {cl:List (Str × Addr)} {h1:Heap} {tk:Nat} {m:Str→Option Value} (B:CompOk X scope N' ix n tg elt ifs g tc te) (I:Inv X pins σ H s)
    (hf:∀ b ∈ fp,FpOk X pins H b) (hfo:∀ b ∈ fp,∃ o,s.heap.get? b=some o) (hcl:∀ x c,cl.lookup x=some c→X.env.cells.lookup x=some c∨(s.heap.objs.size + 1 < c∧∃ v,h1.IsCell c v)) (hcf:∀ y ∈ scope.names,y.2 = .free→cl.lookup y.1=X.env.cells.lookup y.1)
    (hinj:∀ x y c,cl.lookup x=some c→cl.lookup y=some c→x=y) (hown:∀ x,scope.names.lookup x=some .cell→∃ c,cl.lookup x=some c) (hnew:∀ x c,scope.names.lookup x=some .cell→cl.lookup x=some c→s.heap.objs.size + 1 < c)
    (hk:∀ b o,s.heap.get? b=some o→h1.get? b=some o) (hD:h1.get? s.heap.objs.size=some { cls:=.type "list",data:=.seq #[] 0 }) (hC:h1.Ns (s.heap.objs.size + 1) m) :
    Inv (X.comp scope cl (s.heap.objs.size + 1) N' s H fp pins) [] (zcz σ ix n) (upd H s.heap.objs.size (.lst [])) { s with heap:=h1,toks:=tk }:=by
  have hn:H s.heap.objs.size=none:=I.hok.fresh (Nat.le_refl _)
  have lt:∀ {b:Addr} {o:Obj},s.heap.get? b=some o→b ≠ s.heap.objs.size∧b ≠ s.heap.objs.size + 1:=fun e=>⟨Nat.ne_of_lt (Heap.lt_size e),Nat.ne_of_lt (Nat.lt_succ_of_lt (Heap.lt_size e))⟩
  have cellLt:∀ x c,X.env.cells.lookup x=some c→c < s.heap.objs.size:=fun x c e=>by
    obtain ⟨v,o,ho,_⟩:=I.cell x c e
    exact Heap.lt_size ho
  have fpLt:∀ b ∈ fp,b ≠ s.heap.objs.size + 1:=fun b hb=>by
    obtain ⟨o,e⟩:=hfo b hb
    exact (lt e).2
  · have keep:Un (frs X.stack) fp H (upd H s.heap.objs.size (.lst [])) s.heap h1:=Un.laid hk (Nat.le_refl _) hn
    refine ⟨⟨I.ok.mod, ?_, I.ok.glob, I.ok.blt, Nat.le_succ _, hinj, fun x hx => ?_, fun x c z e => Nat.le_of_lt (Nat.lt_trans (Nat.lt_succ_self _) (hnew x c (by simpa using (show (scope.names.lookup x == some NameKind.cell) = true from z)) e)), I.ok.hd, I.ok.frames, .inl rfl, fun b hb => ⟨fpLt b hb, fun x c e => (hcl x c e).elim (fun z => (hf b hb).2.2.2.2.1 x c z) fun z w => by
          obtain ⟨o,ho⟩:=hfo b hb
          have:=Heap.lt_size ho
          rw [← w] at this; exact Nat.lt_irrefl _ (Nat.lt_trans (Nat.lt_trans (Nat.lt_succ_self _) z.1) this)⟩,
        I.bs,Nat.le_trans I.ok.bsz I.sz,fun b o e hb=>?_,fun b hb z=>?_,I.stack,I.stkFree,I.ok.tb.grown I.base.tbls⟩,
      rfl,I.bare,keep,⟨m,hC,fun i x v e1 e2 e3=>?_⟩,fun x c e=>?_,?_,fun x c e=>?_,fun p hp=>?_,?_,?_⟩
    · show (relabel scope X.env).kind = .function
      exact B.kind
    · show ∃ c,cl.lookup x=some c
      rcases zfj hx with hx' | hx'
      case inr=>exact hown x hx'.1
      have z:=hcf _ hx' rfl
      dsimp only at z
      rw [z]
      exact I.ok.has x (B.free _ hx' rfl)
    · obtain ⟨_,_,_,f3,_⟩:=hf b hb
      rcases f3 with z | z
      · exact I.ok.noex b o e z
      · exact absurd (Nat.lt_of_lt_of_le (Heap.lt_size e) (Nat.le_trans I.ok.bsz z)) (Nat.lt_irrefl _)
    · rcases List.mem_cons.mp (I.stkSub b z) with e | e
      · exact (hf b hb).2.1 e
      · exact (hf b hb).2.2.1 e
    · have hj:i < ix.length:=by
        unfold zcz at e2
        by_cases hj:i < ix.length
        · exact hj
        · rw [List.getElem?_append_right (by simpa using hj),List.getElem?_replicate] at e2
          split at e2 <;> cases e2
      obtain ⟨j,hj2⟩:∃ j,ix[i]?=some j:=⟨ix[i],by simp [hj]⟩
      obtain ⟨y,y1,y2,y3⟩:=B.take i j hj2
      have exy:x=y:=by
        have z:N'[i]?=some x:=e1
        rw [y1] at z
        exact (Option.some.inj z).symm
      subst exy
      have ev:σ[j]?=some (some v):=by
        unfold zcz at e2
        rw [List.getElem?_append_left (by simpa using hj),List.getElem?_map,hj2] at e2
        have z:(σ[j]?).getD none=some v:=Option.some.inj e2
        cases q:σ[j]? with
        | none=>rw [q] at z; cases z
        | some w=>rw [q] at z; exact congrArg some z
      obtain ⟨m0,hn0,hl⟩:=I.loc
      have hm:(x,NameKind.free) ∈ scope.names:=PySem.mem_of_lookup y3
      have kx:=B.free _ hm rfl
      have vis:Vis X.env.scope x:=kx.elim (fun z=>.inr (.inl z)) fun z=>.inr (.inr z)
      obtain ⟨u,ru,lu⟩:=hl j x v y2 ev vis
      refine ⟨u,ru,.inr ⟨?_,?_⟩⟩
      · exact zcD y3
      · rcases lu with ⟨z,_⟩ | ⟨_,c,hc,hcell⟩
        · rcases kx with w | w <;> (rw [w] at z; cases z)
        · refine ⟨c,?_,?_⟩
          · show cl.lookup x=some c
            rw [hcf _ hm rfl]
            exact hc
          · obtain ⟨o,ho,hd⟩:=hcell
            exact ⟨o,hk c o ho,hd⟩
    · rcases hcl x c e with z | ⟨_,z⟩
      · obtain ⟨v,o,ho,hd⟩:=I.cell x c z
        exact ⟨v,o,hk c o ho,hd⟩
      · exact z
    · show upd H s.heap.objs.size (.lst []) (s.heap.objs.size + 1)=none
      rw [zai (Nat.succ_ne_self _)]
      exact I.hok.fresh (Nat.le_succ _)
    · rcases hcl x c e with z | ⟨z,_⟩
      · have:=cellLt x c z
        rw [zai (Nat.ne_of_lt this)]
        exact I.freeC x c z
      · rw [zai (Nat.ne_of_gt (Nat.lt_trans (Nat.lt_succ_self _) z))]
        exact I.hok.fresh (Nat.le_of_lt (Nat.lt_trans (Nat.lt_succ_self _) z))
    · rw [List.append_nil] at hp
      obtain ⟨q1,q2,q3,q4,q5⟩:=I.pin p hp
      refine ⟨hk _ _ q1,by rw [zai (lt q1).1]; exact q2,(lt q1).2,fun z=>?_,q5⟩
      rcases List.mem_cons.mp (I.stkSub _ z) with e | e
      · exact q3 e
      · exact q4 e
    · exact I.hok.laid hk (Nat.le_refl _) ⟨Nat.zero_le _,[],0,.nil,hD⟩
    · show (zcz σ ix n).length=N'.length
      unfold zcz
      rw [List.length_append,List.length_map,List.length_replicate]
      exact B.len
theorem zlZ {pins:List (Addr × Obj)} {σ σ':St} {H H':Hp} {s s':Shared} {fp:List Addr} {cl:List (Str × Addr)} {C:Addr} (I:Inv X pins σ H s) (hf:∀ b ∈ fp,FpOk X pins H b)
    (J:Inv (X.comp scope cl C N' s H fp pins) [] σ' H' s'):Inv X pins σ H' s':=by
  obtain ⟨hh,g,d,t,os'⟩:=s'
  obtain rfl:os'=s.os:=J.os
  exact I.call (h':=hh) (g':=g) (d':=d) (t':=t) (ch:=fp) J.base J.hok J.bare fun b hb=>⟨(hf b hb).2.2.2.1,(hf b hb).2.1,(hf b hb).2.2.2.2.1,(hf b hb).2.2.2.2.2⟩
theorem zjJ {pins:List (Addr × Obj)} {σ:St} {H:Hp} {s:Shared} {Q:VK} {it:Addr} {fp:List Addr} {tn:Nat→Heap→Prop} {J:It} {cl:List (Str × Addr)} {RR:Value→Addr→Result→Shared→Prop} {E:Value→Shared→Prop}
    (B:CompOk X scope N' ix n tg elt ifs g tc te) (hc:X.calm=true) (I:Inv X pins σ H s) (T:Turn X.prog X.w X.K tg J fp it tn) (st:tn 0 s.heap) (hf:∀ b ∈ fp,FpOk X pins H b)
    (hcl:∀ x c,cl.lookup x=some c→X.env.cells.lookup x=some c) (hcf:∀ y ∈ scope.names,y.2 = .free→cl.lookup y.1=X.env.cells.lookup y.1)
    (body:∀ D,H D=none→zqT D J g tc te Q (zcz σ ix n) (upd H D (.lst [])))
    (hRR:∀ D C H' s' m,Inv X pins σ H' s'→s'.heap.Ns C m→FpOk X pins H' C→Q (.ref D) H'→RR (.ref D) C (.ok .next) s') :
    wpAny (model X.prog X.w) X.A (newList []) (fun acc s₃=>wpAny (model X.prog X.w) X.A (newFunctionEnv scope X.env.globals cl [] X.env.qual none .none (some X.env)) (fun cenv s₄ =>
      codeAny (model X.prog X.w) X.A (.compStart (.ListComp elt [⟨tg,iter,ifs,0⟩] scope pos) 0 (.ref it) acc { cenv with scope:=relabel scope X.env }) (RR acc cenv.locals) s₄) E s₃) E s:=by
  refine wpAny_newObj_type (zjq ?_)
  dsimp only
  generalize hH2:s.heap.push { cls:=.type "list",dict:=none,data:=.seq ([]:List Value).toArray }=H2
  have hC:H2.objs.size=s.heap.objs.size + 1:=by rw [← hH2,Heap.size_push]
  obtain ⟨cs,ecs⟩:∃ cs,cs=cellsFrom (H2.objs.size + 1) scope.names cl:=⟨_,rfl⟩
  rw [← ecs]
  obtain ⟨h₁,eh⟩:∃ h₁,h₁=pushCells (H2.push { cls:=.type "dict",data:=.dict #[] }) scope.names:=⟨_,rfl⟩
  rw [← eh]
  have kp:∀ b o,H2.get? b=some o→h₁.get? b=some o:=fun b o e=>by rw [eh]; exact pushCells_keeps _ _ b o (Heap.get?_push_of_some _ e)
  have hns₁:h₁.Ns H2.objs.size fun _=>none:=by rw [eh]; exact (Heap.Ns.new H2 (.type "dict")).keeps (pushCells_keeps _ _)
  have below:∀ b,b < s.heap.objs.size→b ≠ H2.objs.size:=fun b hb=>by rw [hC]; exact Nat.ne_of_lt (Nat.lt_succ_of_lt hb)
  have old:∀ b o,s.heap.get? b=some o→h₁.get? b=some o:=fun b o e=>kp b o (hH2 ▸ Heap.get?_push_of_some _ e)
  have hacc:h₁.get? s.heap.objs.size=some { cls:=.type "list",data:=.seq #[] 0 }:=kp _ _ (hH2 ▸ Heap.get?_push_size _ rfl)
  have clt:∀ x c,cl.lookup x=some c→c < s.heap.objs.size:=fun x c e=>by
    obtain ⟨v,o,ho,_⟩:=I.cell x c (hcl x c e)
    exact Heap.lt_size ho
  have own:∀ x c,(x,NameKind.cell) ∈ scope.names→cs.lookup x=some c→s.heap.objs.size + 1 < c:=fun x c h e=>by
    rw [ecs] at e
    have:=zdc scope.names _ cl h e fun _ _=>.inr trivial
    omega
  have hcl2:∀ x c,cs.lookup x=some c→X.env.cells.lookup x=some c∨(s.heap.objs.size + 1 < c∧∃ v,h₁.IsCell c v):=fun x c e=>by
    by_cases hx:(x,NameKind.cell) ∈ scope.names
    · refine .inr ⟨own x c hx e,none,?_⟩
      have okc:=cellsFrom_ok scope.names (H2.push { cls:=.type "dict",data:=.dict #[] }) 0 [] ⟨fun _ _ hm=>(nomatch hm),List.Pairwise.nil⟩ (Nat.zero_le _)
      have e2:(cellsFrom (H2.objs.size + 1) scope.names []).lookup x=some c:=by
        have gen:∀ (names:List (Str × NameKind)) (n:Nat) (acc:List (Str × Addr)),(x,NameKind.cell) ∈ names→(cellsFrom n names acc).lookup x=(cellsFrom n names []).lookup x:=by
          have gen2:∀ (names:List (Str × NameKind)) (n:Nat) (acc acc':List (Str × Addr)),(x,NameKind.cell) ∈ names∨acc.lookup x=acc'.lookup x→(cellsFrom n names acc).lookup x=(cellsFrom n names acc').lookup x:=by
            intro names
            induction names with
            | nil=>intro n acc acc' h; exact h.elim (fun z=>by cases z) id
            | cons p r ih =>
              intro n acc acc' h
              obtain ⟨y,k⟩:=p
              unfold cellsFrom
              split
              · rename_i hk
                have hk':k = .cell:=by simpa using hk
                subst hk'
                refine ih _ _ _ ?_
                by_cases exy:x=y
                · subst exy; exact .inr (by simp only [List.lookup_cons,beq_self_eq_true])
                · rcases h with z | z
                  · rcases List.mem_cons.mp z with w | w
                    · cases w; exact absurd rfl exy
                    · exact .inl w
                  · exact .inr (by simp only [List.lookup_cons,show (x == y)=false by simpa using exy]; exact z)
              · rename_i hk
                refine ih _ _ _ ?_
                rcases h with z | z
                · rcases List.mem_cons.mp z with w | w
                  · cases w; exact absurd rfl hk
                  · exact .inl w
                · exact .inr z
          exact fun names n acc h=>gen2 names n acc [] (.inl h)
        rw [← gen scope.names _ cl hx,← ecs]; exact e
      rw [Heap.size_push] at okc
      rw [eh]
      exact (okc.empty x c (PySem.mem_of_lookup e2)).1
    · rw [ecs,zcs _ _ _ hx] at e
      exact .inl (hcl x c e)
  have hcf2:∀ y ∈ scope.names,y.2 = .free→cs.lookup y.1=X.env.cells.lookup y.1:=fun y hy hf=>by
    rw [ecs,zcs _ _ _ (B.nocell y hy hf)]
    exact hcf y hy hf
  have hinj:∀ x y c,cs.lookup x=some c→cs.lookup y=some c→x=y:=by
    rw [ecs]
    exact zdi scope.names _ cl (fun x c e=>Nat.lt_of_lt_of_le (clt x c e) (by rw [hC]; omega)) fun x y c e1 e2=>I.ok.inj x y c (hcl x c e1) (hcl y c e2)
  have hown:∀ x,scope.names.lookup x=some .cell→∃ c,cs.lookup x=some c:=fun x h=>by
    rw [ecs]
    exact Option.isSome_iff_exists.mp (PySem.W.cellsFrom_some scope.names _ cl (.inl h))
  have hnew:∀ x c,scope.names.lookup x=some .cell→cs.lookup x=some c→s.heap.objs.size + 1 < c:=fun x c h e=>own x c (PySem.mem_of_lookup h) e
  have cne:∀ b,b < s.heap.objs.size→(∀ x c,X.env.cells.lookup x=some c→c ≠ b)→∀ x c,cs.lookup x=some c→c ≠ b:=fun b hb hold x c e z=>by
    rcases hcl2 x c e with w | ⟨w,_⟩
    · exact hold x c w z
    · rw [z] at w; exact Nat.lt_irrefl _ (Nat.lt_trans (Nat.lt_trans (Nat.lt_succ_self _) w) hb)
  have hfo:∀ b ∈ fp,∃ o,s.heap.get? b=some o:=fun b hb=>let ⟨o,e,_⟩:=T.obj 0 _ st b hb; ⟨o,e⟩
  have st1:tn 0 h₁:=T.keep 0 _ _ st fun b _ o e=>old b o e
  have hD0:H s.heap.objs.size=none:=I.hok.fresh (Nat.le_refl _)
  obtain ⟨W,⟨m0,w0⟩,turn⟩:=body _ hD0
  have J0:Inv (X.comp scope cs H2.objs.size N' s H fp pins) [] (zcz σ ix n) (upd H s.heap.objs.size (.lst [])) { s with heap:=h₁ }:=by
    rw [hC] at hns₁ ⊢
    exact zkV (tk:=s.toks) B I hf hfo hcl2 hcf2 hinj hown hnew old hacc hns₁
  have fpOk:∀ {H':Hp},(∀ b ∈ fp,H' b=none)→∀ b ∈ fp,FpOk (X.comp scope cs H2.objs.size N' s H fp pins) [] H' b:=fun hn b hb=>by
    obtain ⟨f0,f1,f2,f3,f4,f5⟩:=hf b hb
    obtain ⟨o,e⟩:=hfo b hb
    refine ⟨hn b hb,below b (Heap.lt_size e),fun z=>?_,.inl hb,cne b (Heap.lt_size e) f4,fun p hp=>f5 p ?_⟩
    · rcases List.mem_cons.mp (I.stkSub b z) with q | q
      · exact f1 q
      · exact f2 q
    · rw [List.append_nil] at hp
      exact hp
  have fp0:∀ b ∈ fp,upd H s.heap.objs.size (.lst []) b=none:=fun b hb=>by
    obtain ⟨o,e⟩:=hfo b hb
    rw [zai (Nat.ne_of_lt (Heap.lt_size e))]
    exact (hf b hb).1
  have loop:∀ s₃:Shared,s₃ = { s with heap:=h₁ } →
      codeAny (model X.prog X.w) X.A (.compLoop (.ListComp elt [⟨tg,iter,ifs,0⟩] scope pos) 0 (.ref it) (.ref s.heap.objs.size) (compEnvC scope cs H2.objs.size X.env)) (RR (.ref s.heap.objs.size) H2.objs.size) s₃:=by
    rintro s₃ rfl
    refine zhP (fun k s'=>∃ i ys σ2 H3,Inv (X.comp scope cs H2.objs.size N' s H fp pins) [] σ2 H3 s'∧tn i s'.heap∧(∀ b ∈ fp,H3 b=none)∧W i k ys σ2 H3) ?_ m0 ⟨0,[],_,_,J0,st1,fp0,w0⟩
    rintro k s3 ⟨i,ys,σ3,H3,I3,st3,fr3,w3⟩
    obtain ⟨hD3,alt⟩:=turn i k ys σ3 H3 w3
    rcases alt with ⟨stop,q⟩ | ⟨go,N,hN,step⟩
    · refine thn (T.done (X.comp scope cs H2.objs.size N' s H fp pins) rfl rfl rfl hc i [] s3 σ3 H3 _ I3 (fpOk fr3) st3 stop) fun r s4 ⟨hr,I4⟩=>?_
      subst hr
      obtain ⟨m4,hn4,_⟩:=I4.loc
      refine hRR _ _ H3 s4 m4 (zlZ I hf I4) hn4 ⟨I4.free,fun z=>?_,fun z=>?_,.inr (Nat.le_trans I.sz (by omega)),fun x c e z=>?_,fun p hp z=>?_⟩ q
      · have lt:=I.lt
        rw [← z,hC] at lt
        exact absurd lt (Nat.not_lt.mpr (Nat.le_succ _))
      · exact I.nofs (show s.heap.objs.size ≤ H2.objs.size by omega) z
      · obtain ⟨v,o,ho,_⟩:=I.cell x c e
        have lt:=Heap.lt_size ho
        rw [z,hC] at lt
        exact absurd lt (Nat.not_lt.mpr (Nat.le_succ _))
      · have lt:=Heap.lt_size (I.pin p hp).1
        rw [z,hC] at lt
        exact absurd lt (Nat.not_lt.mpr (Nat.le_succ _))
    · refine thn (T.item (X.comp scope cs H2.objs.size N' s H fp pins) rfl rfl rfl hc i [] s3 σ3 H3 _ I3 (fpOk fr3) st3 go) fun r s4 ⟨u,hr,h4⟩=>?_
      subst hr
      refine thn h4 fun _ s5 ⟨x,H5,I5,r5,y5,st5,fr5⟩=>?_
      have I5':=I5.pinned (fpOk fr5) (T.obj _ _ st5)
      have back:∀ {σ7:St} {H7:Hp} {s7:Shared} {ys':List V},Inv (X.comp scope cs H2.objs.size N' s H fp pins) ([] ++ zgW fp s5.heap) σ7 H7 s7→N ys' σ7 H7 →
          ∃ m,m < k∧∃ i ys σ2 H3,Inv (X.comp scope cs H2.objs.size N' s H fp pins) [] σ2 H3 s7∧tn i s7.heap∧(∀ b ∈ fp,H3 b=none)∧W i m ys σ2 H3:=fun {σ7 H7 s7 ys'} I7 n7=>by
        obtain ⟨m',hm,w7⟩:=hN ys' σ7 H7 n7
        refine ⟨m',hm,i + 1,ys',σ7,H7,I7.unpinned,T.keep _ _ _ st5 fun b hb o e=>(I7.pin (b,o) (List.mem_append_right _ (List.mem_append_right _ (zc8 hb e)))).1,fun b hb=>?_,w7⟩
        obtain ⟨o,e,d⟩:=T.obj _ _ st5 b hb
        exact (I7.pin (b,o) (List.mem_append_right _ (List.mem_append_right _ (zc8 hb e)))).2.1
      refine thn (B.tgt cs H2.objs.size s H fp pins _ s5 σ3 H5 x u _ I5' r5 (step x H5 y5)) fun _ s6 ⟨σ6,H6,I6,q6⟩=>?_
      have fin:∀ (b:Bool) (s7:Shared),TP (X.comp scope cs H2.objs.size N' s H fp pins) ([] ++ zgW fp s5.heap) σ6
          (fun b H4=>if b=true then te σ6 H4 fun y H5=>H5 s.heap.objs.size=some (.lst ys)∧ys.length < sizeLine∧N (ys ++ [y]) σ6 (upd H5 s.heap.objs.size (.lst (ys ++ [y]))) else N ys σ6 H4) b s7 →
          if b=true then wpAny (model X.prog X.w) X.A (eval elt (compEnvC scope cs H2.objs.size X.env)) (fun x s₄ =>
              wpAny (model X.prog X.w) X.A (call (.builtin "list.append") [.ref s.heap.objs.size,x]) (fun _ s₅=>∃ m,m < k∧∃ i ys σ2 H3,Inv (X.comp scope cs H2.objs.size N' s H fp pins) [] σ2 H3 s₅∧tn i s₅.heap∧(∀ b ∈ fp,H3 b=none)∧W i m ys σ2 H3) (fun _ _=>False) s₄) (fun _ _=>False) s7
            else ∃ m,m < k∧∃ i ys σ2 H3,Inv (X.comp scope cs H2.objs.size N' s H fp pins) [] σ2 H3 s7∧tn i s7.heap∧(∀ b ∈ fp,H3 b=none)∧W i m ys σ2 H3:=by
        rintro b s7 ⟨H7,I7,q7⟩
        cases b with
        | false =>
          rw [if_neg Bool.false_ne_true] at q7 ⊢
          exact back I7 q7
        | true =>
          rw [if_pos rfl] at q7 ⊢
          refine thn (B.elt cs H2.objs.size s H fp pins _ s7 σ6 H7 _ I7 q7) fun y s8 ⟨yv,H8,I8,r8,hD8,hz,n8⟩=>?_
          refine thn (zbC _ s8 σ6 H8 (.ref s.heap.objs.size) [yv] (.ref s.heap.objs.size) [y] (fun _ H9=>N (ys ++ [yv]) σ6 H9) I8 rfl (.cons r8 .nil) ⟨_,ys,yv,rfl,rfl,hD8,hz,n8⟩) fun _ s9 ⟨_,H9,I9,_,n9⟩=>?_
          exact back I9 n9
      rcases B.test with ⟨e1,e2⟩ | ⟨c,t,e1,e2,ht⟩
      · subst e1; subst e2
        exact wpAny_tests_nil (fin true s6 ⟨H6,I6,q6⟩)
      · subst e1; subst e2
        exact wpAny_tests_one (thn (ht cs H2.objs.size s H fp pins _ s6 σ6 H6 _ I6 q6) fun b s7 z=>fin b s7 z)
  exact codeAny_compStart_list (loop _ rfl) (T.self X.A 0 _ _ _ st1 (loop _ rfl))
theorem zeh {wi:TI} (hc:X.calm=true) (hi:PI X tg iter wi) (B:CompOk X scope N' ix n tg elt ifs g tc te) (hs:∀ x,foldedSetIterable iter X.env x=pure x:=by intro _; rfl) :
    PE X (.ListComp elt [⟨tg,iter,ifs,0⟩] scope pos) (zjx wi ix n g tc te):=by
  intro pins s σ H Q I h
  rw [eval_ListComp]
  obtain ⟨cl,hclos,hcl,hcf⟩:=zet (scope:=scope) (env:=X.env) fun y hy hf=>I.ok.has _ (B.free y hy hf)
  refine wpAny_comprehension_free (use:=none) rfl hs hclos B.kind B.names (thn (hi pins s σ H _ I h) fun v s1 h1=>thn h1 fun itv s2 h2=>?_)
  obtain ⟨it,fp,tn,J,H2,rfl,I2,T,st2,f2,body⟩:=h2
  refine zjJ (RR:=fun acc C=>compPost (model X.prog X.w) X.A X.xe none (EP X pins σ Q) acc C) B hc I2 T st2 f2 hcl hcf body fun D C H' s' m I' hn hC q=>⟨m,hn,fun h' hs'=>?_⟩
  obtain ⟨f0,f1,f2',f3,f4,f5⟩:=hC
  exact ⟨.ref D,H',I'.turned (t':=s'.toks) (fun b o hb e=>(hs'.2 b hb).trans e) f0 f1 f3 f4 f5,rfl,q⟩
theorem zf9 {wi:TI} {i:Nat} {y:Str} {py spos:Pos} (hN:X.N.Nodup) (hiN:X.N[i]?=some y) (hy:Loc X.env.scope y) (hc:X.calm=true) (hi:PI X tg iter wi) (B:CompOk X scope N' ix n tg elt ifs g tc te)
    (hsw:swapsWith (.ListComp elt [⟨tg,iter,ifs,0⟩] scope pos) (some (.Name y py)) spos.line X.env=pure true) (hf:X.fn y=true∨X.env.scope.names.lookup y=some .local:=by first | exact .inl rfl | exact .inr rfl | assumption)
    (hs:∀ x,foldedSetIterable iter X.env x=pure x:=by intro _; rfl) :
    PS X (.Assign [.Name y py] (.ListComp elt [⟨tg,iter,ifs,0⟩] scope pos) spos) (tAsg (zjx wi ix n g tc te) (zeS i)):=by
  intro pins s σ H D I h
  rw [exec_Assign_Name_used _ _ _ _ hsw]
  refine wpAny_bind (wpAny_standAt (wpAny_bind ?_))
  show wpAny _ X.A (do let _ ← comprehension (.ListComp elt [⟨tg,iter,ifs,0⟩] scope pos) scope X.env _ (newList []) false (eval iter X.env) (some (assign (.Name y py) X.env))) _ _ s
  obtain ⟨cl,hclos,hcl,hcf⟩:=zet (scope:=scope) (env:=X.env) fun y hy hf=>I.ok.has _ (B.free y hy hf)
  refine wpAny_bind (wpAny_mono (wpAny_comprehension_free (use:=some (assign (.Name y py) X.env)) (Q:=fun _ s'=>SP X pins D .next s') rfl hs hclos B.kind B.names
    (thn (hi pins s σ H _ I h) fun v s1 h1=>thn h1 fun itv s2 h2=>?_)) (fun _ s' hq=>wpAny_pure (wpAny_pure hq)) fun _ _ e=>e)
  obtain ⟨it,fp,tn,J,H2,rfl,I2,T,st2,f2,body⟩:=h2
  refine zjJ (Q:=fun x H1=>zeS i x σ H1 D.nx) (RR:=fun acc C=>compPost (model X.prog X.w) X.A X.xe (some (assign (.Name y py) X.env)) (fun _ s'=>SP X pins D .next s') acc C) B hc I2 T st2 f2 hcl hcf body fun D' C H' s' m I' hn hC q=>?_
  obtain ⟨f0,f1,f2',f3,f4,f5⟩:=hC
  have Ip := I'.pinned (fp := [C]) (fun b hb => by have e : b = C := by simpa using hb
                                                   subst e; exact ⟨f0,f1,f2',f3,f4,f5⟩) (fun b hb=>by
    have e:b=C:=by simpa using hb
    subst e
    obtain ⟨o,es,ep,ho,hd,_⟩:=hn
    exact ⟨o,ho,fun v z=>by rw [hd] at z; cases z⟩)
  refine wpAny_assign_Name (zhv Ip hN hiN hy (v:=.ref D') rfl (fun s'' I''=>?_) hf)
  obtain ⟨o,es,ep,ho,hd,hr⟩:=hn
  have pinC:=I''.pin (C,o) (List.mem_append_right _ (List.mem_append_right _ (zc8 (by simp) ho)))
  refine ⟨m,⟨o,es,ep,pinC.1,hd,hr⟩,fun h' hs'=>?_⟩
  exact ⟨_,H',(I''.unpinned).turned (t':=s''.toks) (fun b o hb e=>(hs'.2 b hb).trans e) pinC.2.1 f1 f3 f4 f5,q⟩
end
end L2
namespace L2
open PySem PySem.Spec PyProof.Rows
section
variable {X:Cx} {scope:Scope} {tg elt:Expr} {ifs:List Expr} {g:TG} {tc:Option TT} {te:TE}
theorem zdk (osc:Scope) (oN N':List Str) (ix:List Nat) (n:Nat) (hosc:X.env.scope=osc) (hoN:X.N=oN) (kind:scope.kind = .function) (nocell:(scope.names.all fun y=>y.2 != .free || scope.names.all fun z=>!(z.1 == y.1) || z.2 != .cell)=true) (names:∀ y ∈ scope.names,y.2 = .local→scope.names.lookup y.1=some .local)
    (free:(scope.names.all fun y=>y.2 != .free || (osc.names.lookup y.1 == some .cell || osc.names.lookup y.1 == some .free))=true) (len:ix.length + n=N'.length)
    (take:((List.range ix.length).all fun j=>match N'[j]?,oN[ix.getD j 0]? with | some x,some y=>x == y && scope.names.lookup x == some .free | _,_=>false)=true)
    (tgt:∀ (cl:List (Str × Addr)) (C:Addr) (s:Shared) (H:Hp) (fp:List Addr) (pins:List (Addr × Obj)),PG (X.comp scope cl C N' s H fp pins) tg g)
    (elt':∀ (cl:List (Str × Addr)) (C:Addr) (s:Shared) (H:Hp) (fp:List Addr) (pins:List (Addr × Obj)),PE (X.comp scope cl C N' s H fp pins) elt te)
    (test:(ifs = []∧tc=none)∨∃ c t,ifs = [c]∧tc=some t∧∀ (cl:List (Str × Addr)) (C:Addr) (s:Shared) (H:Hp) (fp:List Addr) (pins:List (Addr × Obj)),PT (X.comp scope cl C N' s H fp pins) c t) :
    CompOk X scope N' ix n tg elt ifs g tc te :=
  ⟨kind,fun y hy e hc=>by
    have z:=List.all_eq_true.mp nocell y hy
    rw [e] at z
    have z2:(scope.names.all fun w=>!(w.1 == y.1) || w.2 != .cell)=true:=by simpa using z
    have z3:=List.all_eq_true.mp z2 _ hc
    simp at z3,names,fun y hy e=>by
    have z:=List.all_eq_true.mp free y hy
    rw [e] at z
    have z':(osc.names.lookup y.1 == some .cell || osc.names.lookup y.1 == some .free)=true:=by simpa using z
    show X.env.scope.names.lookup y.1=_∨X.env.scope.names.lookup y.1=_
    rw [hosc]
    simpa using z',len,fun j i e=>by
    obtain ⟨hj,_⟩:=List.getElem?_eq_some_iff.mp e
    have e2:ix.getD j 0=i:=by
      rw [List.getD_eq_getElem?_getD,e]
      rfl
    have z:=List.all_eq_true.mp take j (List.mem_range.mpr hj)
    rw [e2] at z
    cases h1:N'[j]? with
    | none=>rw [h1] at z; cases z
    | some x =>
      cases h2:oN[i]? with
      | none=>rw [h1,h2] at z; cases z
      | some y =>
        rw [h1,h2] at z
        have z':x=y∧scope.names.lookup x=some .free:=by simpa using z
        obtain ⟨rfl,z2⟩:=z'
        exact ⟨x,rfl,by rw [hoN]; exact h2,z2⟩,tgt,elt',test⟩
end
structure Has (P:Program) (w:World) (K:PySem.W.Frag) (mg:Str→Option Value) (base:Heap) (CX:CXT) (k:Nat) (x:Str) (ps:List Str) (sp:Sp):Prop where
  ex:∃ (f:Addr) (fd:FuncData),FnOk P w K mg base CX k f fd ps sp∧mg x=some (.ref f)∧PySem.W.keepIn K (.ref f)=true∧Binds K fd ps []
section
variable {X:Cx} {CX:CXT} {k:Nat} {x:Str} {ps:List Str} {sp:Sp} {E:XK} {p pos:Pos} {e:Expr} {es:List Expr} {t:TA}
theorem zaN (G:Has X.prog X.w X.K X.mg X.base CX k x ps sp) (hr:Room k X.A) (hg:Gl X x) (hx:zes CX X E)
    (ha:PA X (e :: es) t) (hdb:(x == ("__debug__" : Str))=false:=by decide) (he:starEach (e :: es) X.env=(false,eval e X.env) :: starEach es X.env:=by rfl) (hpl:(backTo pos (starEach es X.env)).any (·.1)=false:=by rfl) :
    PE X (.Call (.Name x p) (e :: es) [] pos) (zj9 sp [] E t):=by
  obtain ⟨f,fd,F,hm,hk,hb⟩:=G.ex
  exact zpA F hr hg hm hk hb .nil hx ha hdb he hpl
end
structure DefAt (K:PySem.W.Frag) (x:Str) (st:Stmt) (f:Addr) (fd:FuncData):Prop where
  ns:PySem.W.nsIn K mainGlobals x=some (some (.ref f))
  fn:Fun K x x st f fd
theorem defAt_mk {K:PySem.W.Frag} {x:Str} {st:Stmt} {f:Addr} {oc:Value} {od an:Option Addr} {osl:Array (Option Value)} {kV doc pm cdv ct:Value} (a:PySem.W.nsIn K mainGlobals x=some (some (.ref f)))
    (l:K.lookup f=some ⟨oc,od,.func (PySem.W.fnOf x x (zdK st) (zc9 st) (zau st) .none kV doc pm an cdv ct),osl⟩) (c:PySem.W.codeIn K cdv x=true) (k:PySem.W.keepIn K (.ref f)=true):∃ f fd,DefAt K x st f fd :=
  ⟨f,_,a,zmG l c k⟩
theorem DefAt.has {P:Program} {w:World} {K:PySem.W.Frag} {mg:Str→Option Value} {base h:Heap} {CX:CXT} {k:Nat} {x:Str} {st:Stmt} {f:Addr} {fd:FuncData} {ps:List Str} {sp:Sp} (D:DefAt K x st f fd) (X:K.In h) (G:h.Ns mainGlobals mg)
    (ok:FnOk P w K mg base CX k f fd ps sp) (b:Binds K fd ps []):Has P w K mg base CX k x ps sp:=⟨f,fd,ok,PySem.W.mg_of X G D.ns,D.fn.kp,b⟩
theorem zp9 {H:Hp} {a b:Addr} {o u:HO} (hn:H b=none) (h:H a=some o):upd H b u a=some o:=(zai (zaq h hn)).trans h
theorem Same.upd {H:Hp} {b:Addr} {u:HO} (hn:H b=none):Same H (upd H b u):=fun _ _ h=>zp9 hn h
end L2
namespace L2
open PySem PySem.Spec PyProof.Rows
section
variable {X:Cx} {pos:Pos}
end
end L2
namespace L2
open PySem PySem.Spec PyProof.Rows
theorem kit_self {K:PySem.W.Frag} {T:String}:PySem.W.kitOne K (.type T) (.type T)=some true:=by
  unfold PySem.W.kitOne
  rw [if_pos (by simp)]
theorem kit_no {K:PySem.W.Frag} {S T:String} (h1:((Value.type S) == (Value.type T))=false) (h2:PySem.W.kitMeta T=true) (h3:(PySem.fastBuiltinMro S).map (·.contains (.type T))=some false):PySem.W.kitOne K (.type S) (.type T)=some false:=by
  unfold PySem.W.kitOne
  rw [h1,if_neg Bool.false_ne_true]
  show (if PySem.W.kitMeta T=true then PySem.W.subIn K (.type S) (.type T) else none)=some false
  rw [if_pos h2]
  exact h3
theorem kit_int_bool {K:PySem.W.Frag}:PySem.W.kitOne K (.type "int") (.type "bool")=some false:=kit_no (by decide +kernel) (by decide +kernel) (by decide +kernel)
end L2
namespace L2
open PySem PySem.Spec PyProof.Rows
structure Tr (h:Heap) (e T:Addr) (cls:Value) (dct:Option Addr) (fl:Value):Prop where
  ex:∃ (oe:Obj) (vs:Array Value) (oT:Obj) (ts:Array Value),h.get? e=some oe∧oe.cls=cls∧oe.dict=dct∧oe.data = .fields vs∧vs[1]?=some (.ref T)∧h.get? T=some oT∧oT.data = .fields ts∧ts[3]?=some fl
  ne:T ≠ e
section
variable {M:Model} {A:Around} {E:Value→Shared→Prop} {s:Shared} {B:Heap} {env:Env} {outer l:List Env} {L e:Addr} {cls:Value} {dct:Option Addr} {Q:Unit→Shared→Prop}
end
end L2
namespace L2
open PySem PySem.Spec PyProof.Rows
section
variable {P:Program} {w:World} {K:PySem.W.Frag} {mg:Str→Option Value} {base:Heap} {N:List Str} {qual:Str} {scope:Scope} {f:Addr} {cd:Value} {A:Around} {outer:List Env} {s0:Shared} {H0:Hp} {E:XK}
end
section
variable {X:Cx} {x:Str} {np cpos pos:Pos} {e₀:Expr} {rest:List Expr} {C:Addr} {bmB bmN:List Value} {newId Bn B nid inN initId:String} {E:St→XK} {t:TA}
end
section
variable {X:Cx} {CX:CXT} {k:Nat} {x:Str} {ps:List Str} {sp:Sp} {E:St→XK} {p pos:Pos} {e:Expr} {es:List Expr} {t:TA}
end
def excO (C:Addr) (dct:Option Addr) (ea:Addr):HO:=.ext fun h=>∃ ob,h.get? ea=some ob∧ob.cls = .ref C∧ob.dict=dct∧∃ vs,ob.data = .fields vs
section
variable {P:Program} {w:World} {X:Cx} {x n:Str} {np hpos pos:Pos} {body:List Stmt} {b₀:Stmt} {suite:List Stmt} {D':Addr} {tb:(St→XK)→TS} {th:TS} {i:Nat}
end
end L2
namespace L2
open PySem PySem.Spec PyProof.Rows
section
variable {X:Cx}
end
section
variable {P:Program} {w:World} {K:PySem.W.Frag} {mg:Str→Option Value} {base:Heap} {N:List Str} {qual:Str} {scope:Scope} {f:Addr} {cd:Value} {A:Around} {outer:List Env} {s0:Shared} {H0:Hp} {E:XK}
end
end L2
namespace PM
open PySem L2
inductive D where
  | non | bl (b:Bool) | int (i:Int) | str (x:Str) | tup (l:List D) | lst (l:List D) | dct (ks:List Key) (l:List D) | scr (l:List Int) | exc (c:Nat) | fd (ks:List Key) (l:List D) | obj (c:Nat) (ks:List Str) (l:List D)
structure Kx where
  f:W.Frag
  ca:Nat→Addr
  an:Nat→Str
def XA (K:Kx) (F:Hp) (c:Nat) (dct:Option Addr):Prop:=if c < 16 then dct=none else ∃ dx,dct=some dx∧F dx=some (.xd [(K.an c,.int (((c / 16:Nat):Int) - 1))])
section
variable (K:Kx)
mutual
def Rep (F:Hp):D→V→Prop
  | .non,v=>v = .non
  | .bl b,v=>v = .bl b
  | .int i,v=>v = .int i
  | .str x,v=>v = .str x
  | .scr l,v=>∃ a,v = .ref a∧SqL K.f F a (l.map V.int)
  | .exc c,v=>∃ a dct,v = .ref a∧F a=some (excO (K.ca c) dct a)∧XA K F c dct
  | .tup l,v=>∃ a vs,v = .ref a∧F a=some (.tup vs)∧RepL F l vs
  | .fd ks l,v=>∃ a o kvs,v = .ref a∧F a=some (.frz o (.dK kvs))∧kvs.map (·.1)=ks∧RepL F l (kvs.map (·.2))
  | .obj c ks l,v=>∃ a dx fs,v = .ref a∧F a=some (.ins (K.ca c) dx fs)∧fs.map (·.1)=ks∧RepL F l (fs.map (·.2))
  | .lst l,v=>∃ a vs,v = .ref a∧Rd F a (.lst vs)∧RepL F l vs
  | .dct ks l,v=>∃ a kvs,v = .ref a∧F a=some (.dK kvs)∧kvs.map (·.1)=ks∧RepL F l (kvs.map (·.2))
def RepL (F:Hp):List D→List V→Prop
  | [],vs=>vs = []
  | d :: l,vs=>∃ v r,vs=v :: r∧Rep F d v∧RepL F l r
end
end
def ifC {α:Type} (p:Prop) (a b:α):α:=@ite α p (Classical.propDecidable p) a b
@[simp] theorem zaX {α:Type} {p:Prop} {a b:α} (h:p):ifC p a b=a:=if_pos h
theorem zo5 {α:Type} {p:Prop} {a b:α} (h:¬ p):ifC p a b=b:=if_neg h
structure Xc where
  c:Nat
inductive R (α:Type) where
  | no | ok (a:α) | ex (x:Xc)
namespace R
def bind {α β:Type}:R α→(α→R β)→R β
  | .no,_=>.no
  | .ok a,f=>f a
  | .ex x,_=>.ex x
@[simp] theorem bind_ok {α β:Type} (a:α) (f:α→R β):(R.ok a).bind f=f a:=rfl
@[simp] theorem zq7 {α β:Type} (f:α→R β):(R.no:R α).bind f = .no:=rfl
@[simp] theorem zq6 {α β:Type} (x:Xc) (f:α→R β):(R.ex x:R α).bind f = .ex x:=rfl
end R
inductive Tr where
  | d (x:D) | l (ts:List Tr) | t (ts:List Tr)
mutual
def trD:Tr→D
  | .d x=>x
  | .l ts=>.lst (trDL ts)
  | .t ts=>.tup (trDL ts)
def trDL:List Tr→List D
  | []=>[]
  | t :: ts=>trD t :: trDL ts
end
inductive Sl where
  | no | v (d:D) | o (d:D) | l (d:D) | p (T:Tr)
abbrev En:=List Sl
inductive O where
  | no | nx (δ:En) | rt (d:D) | ro (d:D) | bk (δ:En) | ct (δ:En) | ex (δ:En) (x:Xc)
structure Ext (F H F' H':Hp):Prop where
  ff:Same F F'
  hh:Same H H'
  fh:Same F' H'
  nw:∀ p o,F p=none→H p=some o→F' p=none
theorem Ext.refl {F H:Hp} (s:Same F H):Ext F H F H:=⟨.refl _,.refl _,s,fun _ _ h _=>h⟩
theorem Ext.trans {F H F1 H1 F2 H2:Hp} (a:Ext F H F1 H1) (b:Ext F1 H1 F2 H2):Ext F H F2 H2 :=
  ⟨a.ff.trans b.ff,a.hh.trans b.hh,b.fh,fun p o h1 h2=>b.nw p o (a.nw p o h1 h2) (a.hh p o h2)⟩
theorem Ext.new {F H:Hp} {p:Addr} {o:HO} (s:Same F H) (h:H p=none):Ext F H (upd F p o) (upd H p o):=by
  have hf:=s.free h
  refine ⟨Same.upd hf,Same.upd h,fun b u q=>?_,fun q u h1 h2=>?_⟩
  · by_cases e:b=p
    · subst e; rw [zaj] at q ⊢; exact q
    · rw [zai e] at q ⊢; exact s _ _ q
  · rw [zai (zaq h2 h)]; exact h1
theorem Ext.newO {F H:Hp} {p:Addr} {o:HO} (s:Same F H) (h:H p=none):Ext F H F (upd H p o):=by
  refine ⟨.refl _,Same.upd h,s.trans (Same.upd h),fun q u h1 h2=>h1⟩
theorem Same.rd {H H':Hp} {a:Addr} {u:HO} (e:Same H H') (h:Rd H a u):Rd H' a u:=h.elim (fun h=>.inl (e _ _ h)) fun ⟨o,h⟩=>.inr ⟨o,e _ _ h⟩
section
variable {K:Kx} {F F' H H':Hp}
theorem XA.mono {c:Nat} {dct:Option Addr} (h:XA K F c dct) (e:Same F F'):XA K F' c dct:=by
  unfold XA at h ⊢
  split
  · rename_i hc; rw [if_pos hc] at h; exact h
  · rename_i hc
    rw [if_neg hc] at h
    obtain ⟨dx,h1,h2⟩:=h
    exact ⟨dx,h1,e _ _ h2⟩
mutual
theorem Rep.mono (e:Same F F'):∀ (d:D) {v:V},Rep K F d v→Rep K F' d v
  | .non,v,h=>by simpa only [Rep] using h
  | .bl b,v,h=>by simpa only [Rep] using h
  | .int b,v,h=>by simpa only [Rep] using h
  | .str b,v,h=>by simpa only [Rep] using h
  | .exc c,v,h=>by
    simp only [Rep] at h ⊢
    obtain ⟨a,dct,h1,h2,h3⟩:=h
    exact ⟨a,dct,h1,e _ _ h2,h3.mono e⟩
  | .fd ks l,v,h=>by
    simp only [Rep] at h ⊢
    obtain ⟨a,o,vs,h1,h2,h0,h3⟩:=h
    exact ⟨a,o,vs,h1,e _ _ h2,h0,RepL.mono e l h3⟩
  | .obj c ks l,v,h=>by
    simp only [Rep] at h ⊢
    obtain ⟨a,o,vs,h1,h2,h0,h3⟩:=h
    exact ⟨a,o,vs,h1,e _ _ h2,h0,RepL.mono e l h3⟩
  | .scr l,v,h=>by
    simp only [Rep] at h ⊢
    obtain ⟨a,h1,h2⟩:=h
    exact ⟨a,h1,e.seq h2⟩
  | .tup l,v,h=>by
    simp only [Rep] at h ⊢
    obtain ⟨a,vs,h1,h2,h3⟩:=h
    exact ⟨a,vs,h1,e _ _ h2,RepL.mono e l h3⟩
  | .lst l,v,h=>by
    simp only [Rep] at h ⊢
    obtain ⟨a,vs,h1,h2,h3⟩:=h
    exact ⟨a,vs,h1,PM.Same.rd e h2,RepL.mono e l h3⟩
  | .dct ks l,v,h=>by
    simp only [Rep] at h ⊢
    obtain ⟨a,vs,h1,h2,h0,h3⟩:=h
    exact ⟨a,vs,h1,e _ _ h2,h0,RepL.mono e l h3⟩
theorem RepL.mono (e:Same F F'):∀ (l:List D) {vs:List V},RepL K F l vs→RepL K F' l vs
  | [],vs,h=>by simpa only [RepL] using h
  | d :: l,vs,h=>by
    simp only [RepL] at h ⊢
    obtain ⟨v,r,h1,h2,h3⟩:=h
    exact ⟨v,r,h1,Rep.mono e d h2,RepL.mono e l h3⟩
end
theorem RepL.length:∀ {l:List D} {vs:List V},RepL K F l vs→vs.length=l.length
  | [],vs,h=>by simp only [RepL] at h; subst h; rfl
  | d :: l,vs,h=>by
    simp only [RepL] at h
    obtain ⟨v,r,rfl,_,h3⟩:=h
    simp [RepL.length h3]
theorem RepL.get:∀ {l:List D} {vs:List V} {i:Nat} {d:D},RepL K F l vs→l[i]?=some d→∃ v,vs[i]?=some v∧Rep K F d v
  | [],vs,i,d,h,e=>by simp at e
  | x :: l,vs,0,d,h,e=>by
    simp only [RepL] at h
    obtain ⟨v,r,rfl,h2,h3⟩:=h
    simp at e; subst e
    exact ⟨v,rfl,h2⟩
  | x :: l,vs,i + 1,d,h,e=>by
    simp only [RepL] at h
    obtain ⟨v,r,rfl,h2,h3⟩:=h
    obtain ⟨u,h4,h5⟩:=RepL.get h3 (i:=i) (d:=d) (by simpa using e)
    exact ⟨u,by simpa using h4,h5⟩
theorem RepL.nil:RepL K F [] []:=by simp only [RepL]
theorem RepL.cons {d:D} {l:List D} {v:V} {vs:List V} (h1:Rep K F d v) (h2:RepL K F l vs):RepL K F (d :: l) (v :: vs):=by
  simp only [RepL]; exact ⟨v,vs,rfl,h1,h2⟩
theorem RepL.append:∀ {l:List D} {vs:List V} {l':List D} {vs':List V},RepL K F l vs→RepL K F l' vs'→RepL K F (l ++ l') (vs ++ vs')
  | [],vs,l',vs',h,h'=>by simp only [RepL] at h; subst h; exact h'
  | d :: l,vs,l',vs',h,h'=>by
    simp only [RepL] at h
    obtain ⟨v,r,rfl,h2,h3⟩:=h
    exact .cons h2 (RepL.append h3 h')
theorem RepL.drop:∀ {l:List D} {vs:List V} (n:Nat),RepL K F l vs→RepL K F (l.drop n) (vs.drop n)
  | l,vs,0,h=>h
  | [],vs,n + 1,h=>by simp only [RepL] at h; subst h; exact .nil
  | d :: l,vs,n + 1,h=>by
    simp only [RepL] at h
    obtain ⟨v,r,rfl,h2,h3⟩:=h
    exact RepL.drop n h3
theorem RepL.take:∀ {l:List D} {vs:List V} (n:Nat),RepL K F l vs→RepL K F (l.take n) (vs.take n)
  | l,vs,0,h=>by simpa using RepL.nil
  | [],vs,n + 1,h=>by simp only [RepL] at h; subst h; exact .nil
  | d :: l,vs,n + 1,h=>by
    simp only [RepL] at h
    obtain ⟨v,r,rfl,h2,h3⟩:=h
    exact .cons h2 (RepL.take n h3)
theorem RepL.ints {ns:List Int}:RepL K F (ns.map .int) (ns.map .int):=by
  induction ns with
  | nil=>exact .nil
  | cons a l ih=>exact .cons rfl ih
end
section
variable (K:Kx)
def Top (F H:Hp):D→V→Prop
  | .lst l,v=>∃ a vs,v = .ref a∧Rd H a (.lst vs)∧RepL K F l vs
  | .dct ks l,v=>∃ a kvs,v = .ref a∧H a=some (.dK kvs)∧kvs.map (·.1)=ks∧RepL K F l (kvs.map (·.2))
  | .obj c ks l,v=>∃ a dx fs,v = .ref a∧H a=some (.ins (K.ca c) dx fs)∧fs.map (·.1)=ks∧RepL K F l (fs.map (·.2))
  | d,v=>Rep K F d v
def Own (F H:Hp):D→Addr→Prop
  | .lst l,a=>∃ vs,H a=some (.lst vs)∧RepL K F l vs
  | .dct ks l,a=>∃ kvs,H a=some (.dK kvs)∧kvs.map (·.1)=ks∧RepL K F l (kvs.map (·.2))
  | .obj c ks l,a=>∃ dx fs,H a=some (.ins (K.ca c) dx fs)∧fs.map (·.1)=ks∧RepL K F l (fs.map (·.2))
  | _,_=>False
mutual
def TrOk (F H:Hp):Tr→V→List Addr→Prop
  | .d x,v,fp=>fp = []∧Rep K F x v
  | .l ts,v,fp=>∃ a vs fs,v = .ref a∧fp=a :: fs∧H a=some (.lst vs)∧TrOkL F H ts vs fs
  | .t ts,v,fp=>∃ a vs,v = .ref a∧F a=some (.tup vs)∧TrOkL F H ts vs fp
def TrOkL (F H:Hp):List Tr→List V→List Addr→Prop
  | [],vs,fp=>vs = []∧fp = []
  | t :: ts,vs,fp=>∃ v r f1 f2,vs=v :: r∧fp=f1 ++ f2∧TrOk F H t v f1∧TrOkL F H ts r f2
end
structure Tab (F H:Hp) (a:Addr) (bs:List Addr) (T:Tr):Prop where
  ok:TrOk K F H T (.ref a) (a :: bs)
  nd:(a :: bs).Nodup
def SlOk (H0 F H:Hp):Option Sl→Option (Option V)→Prop
  | some (.v d),s=>∃ u,s=some (some u)∧Rep K F d u
  | some (.o d),s=>∃ a,s=some (some (.ref a))∧H0 a=none∧F a=none∧Own K F H d a
  | some (.l d),s=>∃ a,s=some (some (.ref a))∧H0 a=none∧F a=none∧Own K F H d a
  | some (.p T),s=>∃ a bs,s=some (some (.ref a))∧Tab K F H a bs T∧∀ b ∈ a :: bs,H0 b=none∧F b=none
  | _,_=>True
end
def Sl.own:Option Sl→Bool
  | some (.o _)=>true
  | some (.l _)=>true
  | some (.p _)=>true
  | _=>false
structure EnvOk (K:Kx) (Λ:List (Nat × Addr × HO)) (F0 H0 F H:Hp) (σ:St) (δ:En):Prop where
  ext:Ext F0 H0 F H
  len:σ.length=δ.length
  slot:∀ i:Nat,SlOk K H0 F H δ[i]? σ[i]?
  dist:∀ (i j:Nat) (a:Addr),i ≠ j→Sl.own δ[i]?=true→Sl.own δ[j]?=true→σ[i]?=some (some (.ref a))→σ[j]?=some (some (.ref a))→False
  lent:∀ x ∈ Λ,(∃ d,δ[x.1]?=some (.l d))∧σ[x.1]?=some (some (.ref x.2.1))∧H x.2.1=some x.2.2
  tabs:∀ (i:Nat) (T:Tr),δ[i]?=some (.p T)→∃ a bs,σ[i]?=some (some (.ref a))∧Tab K F H a bs T∧(∀ b ∈ a :: bs,H0 b=none∧F b=none)∧(∀ (j:Nat) (b:Addr),j ≠ i→Sl.own δ[j]?=true→σ[j]?=some (some (.ref b))→b ∉ a :: bs)∧∀ (j:Nat) (T':Tr),δ[j]?=some (.p T')→j=i
section
variable {K:Kx} {Λ:List (Nat × Addr × HO)} {F0 H0 F H F' H' F1 H1:Hp} {σ:St} {δ:En}
theorem Own.mono (e1:Same F F') (e2:Same H H'):∀ {d:D} {a:Addr},Own K F H d a→Own K F' H' d a
  | .lst l,a,h=>let ⟨vs,h1,h2⟩:=h; ⟨vs,e2 _ _ h1,h2.mono e1⟩
  | .dct ks l,a,h=>let ⟨vs,h1,h0,h2⟩:=h; ⟨vs,e2 _ _ h1,h0,h2.mono e1⟩
  | .non,_,h=>h.elim
  | .bl _,_,h=>h.elim
  | .int _,_,h=>h.elim
  | .str _,_,h=>h.elim
  | .tup _,_,h=>h.elim
  | .scr _,_,h=>h.elim
  | .exc _,_,h=>h.elim
  | .fd _ _,_,h=>h.elim
  | .obj c ks l,a,h=>let ⟨dx,vs,h1,h0,h2⟩:=h; ⟨dx,vs,e2 _ _ h1,h0,h2.mono e1⟩
theorem Own.obj:∀ {d:D} {a:Addr},Own K F H d a→∃ o,H a=some o
  | .lst l,a,h=>let ⟨vs,h1,h2⟩:=h; ⟨_,h1⟩
  | .dct ks l,a,h=>let ⟨vs,h1,h2⟩:=h; ⟨_,h1⟩
  | .non,_,h=>h.elim
  | .bl _,_,h=>h.elim
  | .int _,_,h=>h.elim
  | .str _,_,h=>h.elim
  | .tup _,_,h=>h.elim
  | .scr _,_,h=>h.elim
  | .exc _,_,h=>h.elim
  | .fd _ _,_,h=>h.elim
  | .obj c ks l,a,h=>let ⟨dx,vs,h1,h2⟩:=h; ⟨_,h1⟩
theorem Own.at (e:H' a=H a):∀ {d:D},Own K F H d a→Own K F H' d a
  | .lst l,h=>let ⟨vs,h1,h2⟩:=h; ⟨vs,e.trans h1,h2⟩
  | .dct ks l,h=>let ⟨vs,h1,h0,h2⟩:=h; ⟨vs,e.trans h1,h0,h2⟩
  | .non,h=>h.elim
  | .bl _,h=>h.elim
  | .int _,h=>h.elim
  | .str _,h=>h.elim
  | .tup _,h=>h.elim
  | .scr _,h=>h.elim
  | .exc _,h=>h.elim
  | .fd _ _,h=>h.elim
  | .obj c ks l,h=>let ⟨dx,vs,h1,h0,h2⟩:=h; ⟨dx,vs,e.trans h1,h0,h2⟩
theorem Rep.top (s:Same F H):∀ {d:D} {v:V},Rep K F d v→Top K F H d v
  | .lst l,v,h=>by
    simp only [Rep] at h
    obtain ⟨a,vs,h1,h2,h3⟩:=h
    exact ⟨a,vs,h1,PM.Same.rd s h2,h3⟩
  | .dct ks l,v,h=>by
    simp only [Rep] at h
    obtain ⟨a,vs,h1,h2,h3⟩:=h
    exact ⟨a,vs,h1,s _ _ h2,h3⟩
  | .non,_,h=>h
  | .bl _,_,h=>h
  | .int _,_,h=>h
  | .str _,_,h=>h
  | .tup _,_,h=>h
  | .scr _,_,h=>h
  | .exc _,_,h=>h
  | .fd _ _,_,h=>h
  | .obj c ks l,v,h=>by
    simp only [Rep] at h
    obtain ⟨a,dx,vs,h1,h2,h3⟩:=h
    exact ⟨a,dx,vs,h1,s _ _ h2,h3⟩
theorem Own.top:∀ {d:D} {a:Addr},Own K F H d a→Top K F H d (.ref a)
  | .lst l,a,h=>let ⟨vs,h1,h2⟩:=h; ⟨a,vs,rfl,.inl h1,h2⟩
  | .dct ks l,a,h=>let ⟨vs,h1,h2⟩:=h; ⟨a,vs,rfl,h1,h2⟩
  | .non,_,h=>h.elim
  | .bl _,_,h=>h.elim
  | .int _,_,h=>h.elim
  | .str _,_,h=>h.elim
  | .tup _,_,h=>h.elim
  | .scr _,_,h=>h.elim
  | .exc _,_,h=>h.elim
  | .fd _ _,_,h=>h.elim
  | .obj c ks l,a,h=>let ⟨dx,vs,h1,h2⟩:=h; ⟨a,dx,vs,rfl,h1,h2⟩
theorem Top.mono (e1:Same F F') (e2:Same H H'):∀ {d:D} {v:V},Top K F H d v→Top K F' H' d v
  | .lst l,v,h=>let ⟨a,vs,h1,h2,h3⟩:=h; ⟨a,vs,h1,PM.Same.rd e2 h2,h3.mono e1⟩
  | .dct ks l,v,h=>let ⟨a,vs,h1,h2,h0,h3⟩:=h; ⟨a,vs,h1,e2 _ _ h2,h0,h3.mono e1⟩
  | .non,_,h=>h
  | .bl _,_,h=>h
  | .int _,_,h=>h
  | .str _,_,h=>h
  | .tup l,v,h=>Rep.mono e1 (.tup l) h
  | .scr l,v,h=>Rep.mono e1 (.scr l) h
  | .exc l,v,h=>Rep.mono e1 (.exc l) h
  | .fd ks l,v,h=>Rep.mono e1 (.fd ks l) h
  | .obj c ks l,v,h=>let ⟨a,dx,vs,h1,h2,h0,h3⟩:=h; ⟨a,dx,vs,h1,e2 _ _ h2,h0,h3.mono e1⟩
theorem Own.freeze {p:Addr} {d:D} (x:Ext F H F' H') (h0:F' p=none) (h1:H p=none) (o:Own K F' H' d p):∃ F'',Ext F H F'' H'∧Same F' F''∧Rep K F'' d (.ref p):=by
  obtain ⟨u,hu⟩:=o.obj
  have hs:Same F' (upd F' p u):=Same.upd h0
  refine ⟨upd F' p u,⟨x.ff.trans hs,x.hh,fun b w q=>?_,fun q w h2 h3=>?_⟩,hs,?_⟩
  · by_cases e:b=p
    · subst e; rw [zaj] at q; cases q; exact hu
    · rw [zai e] at q; exact x.fh _ _ q
  · rw [zai (zaq h3 h1)]; exact x.nw q w h2 h3
  · cases d with
    | lst l =>
      obtain ⟨vs,h2,h3⟩:=o
      rw [hu] at h2; cases h2
      simp only [Rep]
      exact ⟨p,vs,rfl,.inl zaj,h3.mono hs⟩
    | dct ks l =>
      obtain ⟨vs,h2,h3,h4⟩:=o
      rw [hu] at h2; cases h2
      simp only [Rep]
      exact ⟨p,vs,rfl,zaj,h3,h4.mono hs⟩
    | obj c ks l =>
      obtain ⟨dx,vs,h2,h3,h4⟩:=o
      rw [hu] at h2; cases h2
      simp only [Rep]
      exact ⟨p,dx,vs,rfl,zaj,h3,h4.mono hs⟩
    | _=>exact o.elim
mutual
theorem TrOk.mono (e:Same F F') (e2:Same H H'):∀ (T:Tr) {v:V} {fp:List Addr},TrOk K F H T v fp→TrOk K F' H' T v fp
  | .d x,v,fp,h=>by
    simp only [TrOk] at h ⊢
    exact ⟨h.1,Rep.mono e x h.2⟩
  | .l ts,v,fp,h=>by
    simp only [TrOk] at h ⊢
    obtain ⟨a,vs,fs,h1,h2,h3,h4⟩:=h
    exact ⟨a,vs,fs,h1,h2,e2 _ _ h3,TrOkL.mono e e2 ts h4⟩
  | .t ts,v,fp,h=>by
    simp only [TrOk] at h ⊢
    obtain ⟨a,vs,h1,h3,h4⟩:=h
    exact ⟨a,vs,h1,e _ _ h3,TrOkL.mono e e2 ts h4⟩
theorem TrOkL.mono (e:Same F F') (e2:Same H H'):∀ (ts:List Tr) {vs:List V} {fp:List Addr},TrOkL K F H ts vs fp→TrOkL K F' H' ts vs fp
  | [],vs,fp,h=>by simpa only [TrOkL] using h
  | t :: ts,vs,fp,h=>by
    simp only [TrOkL] at h ⊢
    obtain ⟨v,r,f1,f2,h1,h2,h3,h4⟩:=h
    exact ⟨v,r,f1,f2,h1,h2,TrOk.mono e e2 t h3,TrOkL.mono e e2 ts h4⟩
end
mutual
theorem TrOk.obj:∀ (T:Tr) {v:V} {fp:List Addr},TrOk K F H T v fp→∀ b ∈ fp,∃ o,H b=some o
  | .d x,v,fp,h,b,hb=>by
    simp only [TrOk] at h
    rw [h.1] at hb; cases hb
  | .l ts,v,fp,h,b,hb=>by
    simp only [TrOk] at h
    obtain ⟨a,vs,fs,h1,h2,h3,h4⟩:=h
    rw [h2] at hb
    rcases List.mem_cons.mp hb with e | hb
    · subst e; exact ⟨_,h3⟩
    · exact TrOkL.obj ts h4 b hb
  | .t ts,v,fp,h,b,hb=>by
    simp only [TrOk] at h
    obtain ⟨a,vs,h1,h3,h4⟩:=h
    exact TrOkL.obj ts h4 b hb
theorem TrOkL.obj:∀ (ts:List Tr) {vs:List V} {fp:List Addr},TrOkL K F H ts vs fp→∀ b ∈ fp,∃ o,H b=some o
  | [],vs,fp,h,b,hb=>by
    simp only [TrOkL] at h
    rw [h.2] at hb; cases hb
  | t :: ts,vs,fp,h,b,hb=>by
    simp only [TrOkL] at h
    obtain ⟨v,r,f1,f2,h1,h2,h3,h4⟩:=h
    rw [h2] at hb
    rcases List.mem_append.mp hb with hb | hb
    · exact TrOk.obj t h3 b hb
    · exact TrOkL.obj ts h4 b hb
end
mutual
theorem TrOk.at':∀ (T:Tr) {v:V} {fp:List Addr},TrOk K F H T v fp→(∀ b ∈ fp,H' b=H b)→TrOk K F H' T v fp
  | .d x,v,fp,h,_=>by simpa only [TrOk] using h
  | .l ts,v,fp,h,e=>by
    simp only [TrOk] at h ⊢
    obtain ⟨a,vs,fs,h1,h2,h3,h4⟩:=h
    subst h2
    exact ⟨a,vs,fs,h1,rfl,(e a (by simp)).trans h3,TrOkL.at' ts h4 fun b hb=>e b (List.mem_cons_of_mem _ hb)⟩
  | .t ts,v,fp,h,e=>by
    simp only [TrOk] at h ⊢
    obtain ⟨a,vs,h1,h3,h4⟩:=h
    exact ⟨a,vs,h1,h3,TrOkL.at' ts h4 e⟩
theorem TrOkL.at':∀ (ts:List Tr) {vs:List V} {fp:List Addr},TrOkL K F H ts vs fp→(∀ b ∈ fp,H' b=H b)→TrOkL K F H' ts vs fp
  | [],vs,fp,h,_=>by simpa only [TrOkL] using h
  | t :: ts,vs,fp,h,e=>by
    simp only [TrOkL] at h ⊢
    obtain ⟨v,r,f1,f2,h1,h2,h3,h4⟩:=h
    subst h2
    exact ⟨v,r,f1,f2,h1,rfl,TrOk.at' t h3 fun b hb=>e b (List.mem_append_left _ hb),TrOkL.at' ts h4 fun b hb=>e b (List.mem_append_right _ hb)⟩
end
theorem Tab.mono {a:Addr} {bs:List Addr} {T:Tr} (e1:Same F F') (e:Same H H') (t:Tab K F H a bs T):Tab K F' H' a bs T:=⟨TrOk.mono e1 e T t.ok,t.nd⟩
theorem Tab.obj {a:Addr} {bs:List Addr} {T:Tr} (t:Tab K F H a bs T):∀ b ∈ a :: bs,∃ o,H b=some o:=TrOk.obj T t.ok
theorem Tab.at' {a:Addr} {bs:List Addr} {T:Tr} (t:Tab K F H a bs T) (e:∀ b ∈ a :: bs,H' b=H b):Tab K F H' a bs T:=⟨TrOk.at' T t.ok e,t.nd⟩
theorem SlOk.mono (e:Ext F H F' H'):∀ {x:Option Sl} {s:Option (Option V)},SlOk K H0 F H x s→SlOk K H0 F' H' x s
  | some (.v d),s,h=>let ⟨u,h1,h2⟩:=h; ⟨u,h1,Rep.mono e.ff d h2⟩
  | some (.o d),s,h=>let ⟨a,h1,h2,h3,h4⟩:=h; let ⟨o,ho⟩:=h4.obj; ⟨a,h1,h2,e.nw a o h3 ho,h4.mono e.ff e.hh⟩
  | some (.l d),s,h=>let ⟨a,h1,h2,h3,h4⟩:=h; let ⟨o,ho⟩:=h4.obj; ⟨a,h1,h2,e.nw a o h3 ho,h4.mono e.ff e.hh⟩
  | some (.p T),s,h=>let ⟨a,bs,h1,h2,h3⟩:=h; ⟨a,bs,h1,h2.mono e.ff e.hh,fun b hb=>let ⟨o,ho⟩:=h2.obj b hb; ⟨(h3 b hb).1,e.nw b o (h3 b hb).2 ho⟩⟩
  | some .no,_,_=>trivial
  | none,_,_=>trivial
theorem EnvOk.tab (I:EnvOk K Λ F0 H0 F H σ δ) {i:Nat} {T:Tr} (hx:δ[i]?=some (.p T)):∃ a bs,σ[i]?=some (some (.ref a))∧Tab K F H a bs T∧(∀ b ∈ a :: bs,H0 b=none∧F b=none)∧(∀ (j:Nat) (b:Addr),j ≠ i→Sl.own δ[j]?=true→σ[j]?=some (some (.ref b))→b ∉ a :: bs)∧∀ (j:Nat) (T':Tr),δ[j]?=some (.p T')→j=i:=I.tabs i T hx
theorem EnvOk.tabsOf {δ':En} {σ':St} (I:EnvOk K Λ F0 H0 F H σ δ) (h1:∀ (i:Nat) (T:Tr),δ'[i]?=some (.p T)→δ[i]?=some (.p T)∧σ'[i]?=σ[i]?)
    (h2:∀ (i:Nat) (a:Addr) (bs:List Addr) (T:Tr),δ[i]?=some (.p T)→σ[i]?=some (some (.ref a))→Tab K F H a bs T→(∀ b ∈ a :: bs,H0 b=none∧F b=none)→(∀ (j:Nat) (b:Addr),j ≠ i→Sl.own δ[j]?=true→σ[j]?=some (some (.ref b))→b ∉ a :: bs)→Tab K F' H' a bs T∧∀ b ∈ a :: bs,F' b=none)
    (h3:∀ (i j:Nat) (T:Tr) (a b:Addr) (bs:List Addr),δ[i]?=some (.p T)→σ[i]?=some (some (.ref a))→Tab K F H a bs T→j ≠ i→Sl.own δ'[j]?=true→σ'[j]?=some (some (.ref b))→(Sl.own δ[j]?=true∧σ[j]?=some (some (.ref b)))∨b ∉ a :: bs) :
    ∀ (i:Nat) (T:Tr),δ'[i]?=some (.p T)→∃ a bs,σ'[i]?=some (some (.ref a))∧Tab K F' H' a bs T∧(∀ b ∈ a :: bs,H0 b=none∧F' b=none)∧(∀ (j:Nat) (b:Addr),j ≠ i→Sl.own δ'[j]?=true→σ'[j]?=some (some (.ref b))→b ∉ a :: bs)∧∀ (j:Nat) (T':Tr),δ'[j]?=some (.p T')→j=i:=by
  intro i T g1
  obtain ⟨d1,d2⟩:=h1 i T g1
  obtain ⟨a,bs,t1,t2,t3,t4,t5⟩:=I.tab d1
  obtain ⟨u1,u2⟩:=h2 i a bs T d1 t1 t2 t3 t4
  refine ⟨a,bs,d2.trans t1,u1,fun b hb=>⟨(t3 b hb).1,u2 b hb⟩,fun j b hj ho hs hb=>?_,fun j T' hj=>t5 j T' (h1 j T' hj).1⟩
  rcases h3 i j T a b bs d1 t1 t2 hj ho hs with ⟨o1,o2⟩ | o
  · exact t4 j b hj o1 o2 hb
  · exact o hb
theorem zjK (e:Ext F H F' H') {a:Addr} {bs:List Addr} {T:Tr} (t:Tab K F H a bs T) (f:∀ b ∈ a :: bs,H0 b=none∧F b=none):Tab K F' H' a bs T∧∀ b ∈ a :: bs,F' b=none :=
  ⟨t.mono e.ff e.hh,fun b hb=>let ⟨o,ho⟩:=t.obj b hb; e.nw b o (f b hb).2 ho⟩
theorem EnvOk.grow (I:EnvOk K Λ F0 H0 F H σ δ) (e:Ext F H F' H'):EnvOk K Λ F0 H0 F' H' σ δ :=
  ⟨I.ext.trans e,I.len,fun i=>(I.slot i).mono e,I.dist,fun x hx=>let ⟨h1,h2,h3⟩:=I.lent x hx; ⟨h1,h2,e.hh _ _ h3⟩,I.tabsOf (fun i T h=>⟨h,rfl⟩) (fun i a bs T _ _ t f _=>zjK e t f) fun i j T a b bs _ _ _ _ ho hs=>.inl ⟨ho,hs⟩⟩
theorem EnvOk.same (I:EnvOk K Λ F0 H0 F H σ δ):Same F H:=I.ext.fh
theorem Ext.base (a:Ext F0 H0 F1 H1) (b:Ext F1 H0 F' H'):Ext F0 H0 F' H' :=
  ⟨a.ff.trans b.ff,b.hh,b.fh,fun p o h1 h2=>b.nw p o (a.nw p o h1 h2) h2⟩
theorem EnvOk.up (I:EnvOk K Λ F0 H0 F H σ δ):EnvOk K Λ F H0 F H σ δ :=
  ⟨⟨.refl _,I.ext.hh,I.ext.fh,fun p o h1 h2=>h1⟩,I.len,I.slot,I.dist,I.lent,I.tabs⟩
theorem EnvOk.down (a:Ext F0 H0 F1 H1) (I:EnvOk K Λ F1 H0 F H σ δ):EnvOk K Λ F0 H0 F H σ δ :=
  ⟨a.base I.ext,I.len,I.slot,I.dist,I.lent,I.tabs⟩
theorem EnvOk.put {i:Nat} {d:D} {v:V} (I:EnvOk K Λ F0 H0 F H σ δ) (hl:∃ x,δ[i]?=some x∧∀ d,x ≠ .l d) (r:Rep K F d v):EnvOk K Λ F0 H0 F H (σ.set i (some v)) (δ.set i (.v d)):=by
  obtain ⟨x,hx,hn⟩:=hl
  have hi:i < δ.length:=(List.getElem?_eq_some_iff.mp hx).1
  have hi':i < σ.length:=by rw [I.len]; exact hi
  refine ⟨I.ext,by simp [I.len],fun j=>?_,fun j k a hjk h1 h2 h3 h4=>?_,fun y hy=>?_,I.tabsOf (fun k ll h=>by
      by_cases e:i=k
      · subst e; rw [List.getElem?_set_self hi] at h; cases h
      · rw [List.getElem?_set_ne e] at h; exact ⟨h,List.getElem?_set_ne e⟩) (fun _ _ _ _ _ _ t f _=>⟨t,fun b hb=>(f b hb).2⟩) fun k j ll a b bs _ _ _ _ ho hs=>.inl (by
      by_cases e:i=j
      · subst e; rw [List.getElem?_set_self hi] at ho; cases ho
      · rw [List.getElem?_set_ne e] at ho hs; exact ⟨ho,hs⟩)⟩
  · by_cases e:i=j
    · subst e
      rw [List.getElem?_set_self hi,List.getElem?_set_self hi']
      exact ⟨v,rfl,r⟩
    · rw [List.getElem?_set_ne e,List.getElem?_set_ne e]
      exact I.slot j
  · have ne:∀ k:Nat,Sl.own (δ.set i (.v d))[k]?=true→i ≠ k:=by
      rintro k h rfl
      rw [List.getElem?_set_self hi] at h
      cases h
    have n1:=ne j h1
    have n2:=ne k h2
    rw [List.getElem?_set_ne n1] at h1 h3
    rw [List.getElem?_set_ne n2] at h2 h4
    exact I.dist j k a hjk h1 h2 h3 h4
  · obtain ⟨⟨d',h1⟩,h2,h3⟩:=I.lent y hy
    have n:i ≠ y.1:=by
      intro e
      rw [← e,hx] at h1
      exact hn d' (Option.some.inj h1)
    exact ⟨⟨d',by rw [List.getElem?_set_ne n]; exact h1⟩,by rw [List.getElem?_set_ne n]; exact h2,h3⟩
theorem EnvOk.putO {i:Nat} {d:D} {p:Addr} (I:EnvOk K Λ F0 H0 F H σ δ) (hl:∃ x,δ[i]?=some x∧∀ d,x ≠ .l d) (e:Ext F H F' H') (h0:F' p=none) (h1:H p=none) (o:Own K F' H' d p) :
    EnvOk K Λ F0 H0 F' H' (σ.set i (some (.ref p))) (δ.set i (.o d)):=by
  obtain ⟨x,hx,hn⟩:=hl
  have hi:i < δ.length:=(List.getElem?_eq_some_iff.mp hx).1
  have hi':i < σ.length:=by rw [I.len]; exact hi
  have fresh:∀ k:Nat,Sl.own δ[k]?=true→σ[k]? ≠ some (some (V.ref p)):=fun k hk e=>by
    have z:=I.slot k
    cases q:δ[k]? with
    | none=>rw [q] at hk; cases hk
    | some y =>
      rw [q] at hk z
      cases y with
      | no=>cases hk
      | v d=>cases hk
      | o d =>
        obtain ⟨a,z1,_,_,z4⟩:=z
        rw [e] at z1; cases z1
        obtain ⟨u,hu⟩:=z4.obj
        rw [h1] at hu; cases hu
      | l d =>
        obtain ⟨a,z1,_,_,z4⟩:=z
        rw [e] at z1; cases z1
        obtain ⟨u,hu⟩:=z4.obj
        rw [h1] at hu; cases hu
      | p ll =>
        obtain ⟨a,bs,z1,z2,_⟩:=z
        rw [e] at z1; cases z1
        obtain ⟨u,hu⟩:=z2.obj p (by simp)
        rw [h1] at hu; cases hu
  have J:=I.grow e
  refine ⟨J.ext,by simp [I.len],fun j=>?_,fun j k a hjk g1 g2 g3 g4=>?_,fun y hy=>?_,I.tabsOf (fun k ll h=>by
      by_cases e:i=k
      · subst e; rw [List.getElem?_set_self hi] at h; cases h
      · rw [List.getElem?_set_ne e] at h; exact ⟨h,List.getElem?_set_ne e⟩) (fun k a bs T _ _ t f _=>zjK e t f) fun k j ll a b bs _ _ t _ ho hs=>by
      by_cases e:i=j
      · subst e
        rw [List.getElem?_set_self hi'] at hs
        cases hs
        refine .inr fun hb=>?_
        obtain ⟨u,hu⟩:=t.obj p hb
        rw [h1] at hu; cases hu
      · rw [List.getElem?_set_ne e] at ho hs; exact .inl ⟨ho,hs⟩⟩
  · by_cases e:i=j
    · subst e
      rw [List.getElem?_set_self hi,List.getElem?_set_self hi']
      exact ⟨p,rfl,I.ext.hh.free h1,h0,o⟩
    · rw [List.getElem?_set_ne e,List.getElem?_set_ne e]
      exact J.slot j
  · by_cases e1:i=j
    · subst e1
      rw [List.getElem?_set_self hi'] at g3
      cases g3
      rw [List.getElem?_set_ne hjk] at g2 g4
      exact fresh k g2 g4
    · by_cases e2:i=k
      · subst e2
        rw [List.getElem?_set_self hi'] at g4
        cases g4
        rw [List.getElem?_set_ne e1] at g1 g3
        exact fresh j g1 g3
      · rw [List.getElem?_set_ne e1] at g1 g3
        rw [List.getElem?_set_ne e2] at g2 g4
        exact I.dist j k a hjk g1 g2 g3 g4
  · obtain ⟨⟨d',g1⟩,g2,g3⟩:=J.lent y hy
    have n:i ≠ y.1:=by
      intro e
      rw [← e,hx] at g1
      exact hn d' (Option.some.inj g1)
    exact ⟨⟨d',by rw [List.getElem?_set_ne n]; exact g1⟩,by rw [List.getElem?_set_ne n]; exact g2,g3⟩
theorem EnvOk.chg {i:Nat} {d d':D} {a:Addr} {u:HO} (I:EnvOk K Λ F0 H0 F H σ δ) (hx:δ[i]?=some (.o d)) (ha:σ[i]?=some (some (.ref a))) (o:Own K F (upd H a u) d' a) :
    EnvOk K Λ F0 H0 F (upd H a u) σ (δ.set i (.o d')):=by
  have hi:i < δ.length:=(List.getElem?_eq_some_iff.mp hx).1
  have z:=I.slot i
  rw [hx] at z
  obtain ⟨a',z1,z2,z3,z4⟩:=z
  rw [ha] at z1; cases z1
  have oth:∀ (k:Nat) (b:Addr),i ≠ k→Sl.own δ[k]?=true→σ[k]?=some (some (.ref b))→b ≠ a:=fun k b hk h1 h2 e=>by
    subst e
    exact I.dist i k b hk (by rw [hx]; rfl) h1 ha h2
  refine ⟨⟨I.ext.ff,fun b w q=>?_,fun b w q=>?_,I.ext.nw⟩,by simp [I.len],fun j=>?_,fun j k b hjk g1 g2 g3 g4=>?_,fun y hy=>?_,I.tabsOf (fun k ll h=>by
      by_cases e:i=k
      · subst e; rw [List.getElem?_set_self hi] at h; cases h
      · rw [List.getElem?_set_ne e] at h; exact ⟨h,rfl⟩) (fun k r bs T g1 g2 t f dj=>by
      have e:i ≠ k:=fun e=>by subst e; rw [hx] at g1; cases g1
      exact ⟨t.at' fun b hb=>zai fun e'=>dj i a e (by rw [hx]; rfl) ha (e' ▸ hb),fun b hb=>(f b hb).2⟩) fun k j ll r b bs _ _ _ _ ho hs=>.inl (by
      by_cases e:i=j
      · subst e; exact ⟨by rw [hx]; rfl,hs⟩
      · rw [List.getElem?_set_ne e] at ho; exact ⟨ho,hs⟩)⟩
  · rw [zai (zaq q z2)]; exact I.ext.hh b w q
  · rw [zai (zaq q z3)]; exact I.ext.fh b w q
  · by_cases e:i=j
    · subst e
      rw [List.getElem?_set_self hi]
      exact ⟨a,ha,z2,z3,o⟩
    · rw [List.getElem?_set_ne e]
      have w:=I.slot j
      cases q:δ[j]? with
      | none=>trivial
      | some y =>
        rw [q] at w
        cases y with
        | no=>trivial
        | v d=>exact w
        | o d =>
          obtain ⟨b,w1,w2,w3,w4⟩:=w
          exact ⟨b,w1,w2,w3,w4.at (zai (oth j b e (by rw [q]; rfl) w1))⟩
        | l d =>
          obtain ⟨b,w1,w2,w3,w4⟩:=w
          exact ⟨b,w1,w2,w3,w4.at (zai (oth j b e (by rw [q]; rfl) w1))⟩
        | p ll =>
          obtain ⟨r,bs,t1,t2,t3,t4,t5⟩:=I.tab q
          exact ⟨r,bs,t1,t2.at' fun b hb=>zai fun e'=>t4 i a e (by rw [hx]; rfl) ha (e' ▸ hb),t3⟩
  · have ow:∀ k:Nat,Sl.own (δ.set i (.o d'))[k]?=true→Sl.own δ[k]?=true:=by
      intro k h
      by_cases e:i=k
      · subst e; rw [hx]; rfl
      · rw [List.getElem?_set_ne e] at h; exact h
    exact I.dist j k b hjk (ow j g1) (ow k g2) g3 g4
  · obtain ⟨⟨d2,g1⟩,g2,g3⟩:=I.lent y hy
    have n:i ≠ y.1:=by
      intro e
      rw [← e,hx] at g1
      cases g1
    exact ⟨⟨d2,by rw [List.getElem?_set_ne n]; exact g1⟩,g2,by rw [zai (oth y.1 y.2.1 n (by rw [g1]; rfl) g2)]; exact g3⟩
end
end PM
namespace PM
open PySem L2
abbrev XOT:=Xc→Hp→Hp→Value→Option Addr→Prop
def Aft {α:Type} (E:St→XK) (XO:XOT) (σ:St) (F H:Hp) (P:α→Hp→Hp→Prop):R α→Prop
  | .no=>False
  | .ok a=>∀ F' H',Ext F H F' H'→P a F' H'
  | .ex x=>∀ C dct F' H',Ext F H F' H'→XO x F' H' C dct→E σ C dct H'
section
variable {E:St→XK} {XO:XOT} {σ:St} {F H F1 H1:Hp} {α β:Type} {P P':α→Hp→Hp→Prop}
theorem Aft.mono (e:Ext F H F1 H1):∀ {r:R α},Aft E XO σ F H P r→Aft E XO σ F1 H1 P r
  | .no,h=>h
  | .ok _,h=>fun F' H' e'=>h F' H' (e.trans e')
  | .ex _,h=>fun C dct F' H' e' x=>h C dct F' H' (e.trans e') x
theorem Aft.imp (i:∀ a F1 H1,Ext F H F1 H1→P a F1 H1→P' a F1 H1):∀ {r:R α},Aft E XO σ F H P r→Aft E XO σ F H P' r
  | .no,h=>h
  | .ok _,h=>fun F' H' e'=>i _ F' H' e' (h F' H' e')
  | .ex _,h=>h
theorem Aft.bind {P:β→Hp→Hp→Prop} {f:α→R β}:∀ {r:R α},Aft E XO σ F H P (r.bind f)→Aft E XO σ F H (fun a F1 H1=>Aft E XO σ F1 H1 P (f a)) r
  | .no,h=>h
  | .ok _,h=>fun F' H' e'=>Aft.mono e' h
  | .ex _,h=>h
end
inductive Prd (T:D→V→Prop):List D→List V→Prop where
  | nil:Prd T [] []
  | cons {d:D} {v:V} {ds:List D} {vs:List V}:T d v→Prd T ds vs→Prd T (d :: ds) (v :: vs)
section
variable (K:Kx) (XO:XOT) (E:St→XK)
def SE (t:TE) (m:En→R D):Prop:=∀ Λ F0 H0 F H σ δ Q,EnvOk K Λ F0 H0 F H σ δ→Aft E XO σ F H (fun d F' H'=>∀ v,Rep K F' d v→Q v H') (m δ)→t σ H Q
def SEr (t:TE) (m:En→R D):Prop:=∀ Λ F0 H0 F H σ δ Q,EnvOk K Λ F0 H0 F H σ δ→Aft E XO σ F H (fun d F' H'=>∀ v,Top K F' H' d v→Q v H') (m δ)→t σ H Q
def SEo (t:TE) (m:En→R D):Prop:=∀ Λ F0 H0 F H σ δ Q,EnvOk K Λ F0 H0 F H σ δ→Aft E XO σ F H (fun d F' H'=>∀ p,F' p=none→H p=none→Own K F' H' d p→Q (.ref p) H') (m δ)→t σ H Q
def ST (t:TT) (m:En→R Bool):Prop:=∀ Λ F0 H0 F H σ δ Q,EnvOk K Λ F0 H0 F H σ δ→Aft E XO σ F H (fun b _ H'=>Q b H') (m δ)→t σ H Q
def SA (t:TA) (m:En→R (List D)):Prop:=∀ Λ F0 H0 F H σ δ Q,EnvOk K Λ F0 H0 F H σ δ→Aft E XO σ F H (fun ds F' H'=>∀ vs,RepL K F' ds vs→Q vs H') (m δ)→t σ H Q
def SAr (t:TA) (m:En→R (List D)):Prop:=∀ Λ F0 H0 F H σ δ Q,EnvOk K Λ F0 H0 F H σ δ→Aft E XO σ F H (fun ds F' H'=>∀ vs,Prd (Top K F' H') ds vs→Q vs H') (m δ)→t σ H Q
end
section
variable {K:Kx} {XO:XOT} {E:St→XK} {t ta tb te:TE} {m ma mb me:En→R D}
theorem SE.r (h:SE K XO E t m):SEr K XO E t m:=fun Λ F0 H0 F H σ δ Q I a=>h Λ F0 H0 F H σ δ Q I (a.imp fun d F1 H1 e p v r=>p v (r.top e.fh))
theorem SEo.e (h:SEo K XO E t m):SE K XO E t m:=fun Λ F0 H0 F H σ δ Q I a=>h Λ F0 H0 F H σ δ Q I (by
  cases q:m δ with
  | no=>rw [q] at a; exact a
  | ex x=>rw [q] at a; exact a
  | ok d =>
    rw [q] at a
    intro F1 H1 e p h0 h1 o
    obtain ⟨F2,e2,s2,r⟩:=o.freeze e h0 h1
    exact a F2 H1 e2 _ r)
def mVar (i:Nat) (δ:En):R D:=match δ[i]? with | some (.v d)=>.ok d | _=>.no
def mRd (i:Nat) (δ:En):R D:=match δ[i]? with | some (.v d)=>.ok d | some (.o d)=>.ok d | some (.l d)=>.ok d | _=>.no
theorem zam {i:Nat}:SE K XO E (tVar i) (mVar i):=by
  intro Λ F0 H0 F H σ δ Q I a
  unfold mVar at a
  have z:=I.slot i
  split at a
  · rename_i d q
    rw [q] at z
    obtain ⟨u,h1,h2⟩:=z
    exact ⟨u,h1,a F H (.refl I.same) u h2⟩
  · exact a.elim
theorem zac {i:Nat}:SEr K XO E (tVar i) (mRd i):=by
  intro Λ F0 H0 F H σ δ Q I a
  unfold mRd at a
  have z:=I.slot i
  split at a
  · rename_i d q
    rw [q] at z
    obtain ⟨u,h1,h2⟩:=z
    exact ⟨u,h1,a F H (.refl I.same) u (h2.top I.same)⟩
  · rename_i d q
    rw [q] at z
    obtain ⟨u,h1,_,_,h2⟩:=z
    exact ⟨_,h1,a F H (.refl I.same) _ h2.top⟩
  · rename_i d q
    rw [q] at z
    obtain ⟨u,h1,_,_,h2⟩:=z
    exact ⟨_,h1,a F H (.refl I.same) _ h2.top⟩
  · exact a.elim
def mC (d:D) (_:En):R D:=.ok d
theorem se_int {i:Int}:SE K XO E (tC (.int i)) (mC (.int i)):=fun Λ F0 H0 F H σ δ Q I a=>a F H (.refl I.same) _ (by simp only [Rep])
theorem zfV {i:Bool}:SE K XO E (tC (.bl i)) (mC (.bl i)):=fun Λ F0 H0 F H σ δ Q I a=>a F H (.refl I.same) _ (by simp only [Rep])
theorem zoy:SE K XO E (tC .non) (mC .non):=fun Λ F0 H0 F H σ δ Q I a=>a F H (.refl I.same) _ (by simp only [Rep])
def R.of {α:Type}:Option α→R α
  | some a=>.ok a
  | none=>.no
@[simp] theorem R.of_some {α:Type} (a:α):R.of (some a) = .ok a:=rfl
@[simp] theorem R.of_none {α:Type}:R.of (none:Option α) = .no:=rfl
def m2 (f:D→D→Option D) (ma mb:En→R D) (δ:En):R D:=(ma δ).bind fun x=>(mb δ).bind fun y=>R.of (f x y)
def m1 (f:D→Option D) (ma:En→R D) (δ:En):R D:=(ma δ).bind fun x=>R.of (f x)
@[simp] theorem zb6 {f:D→D→Option D} {ma mb:En→R D} {δ:En}:m2 f ma mb δ=(ma δ).bind fun x=>(mb δ).bind fun y=>R.of (f x y):=rfl
@[simp] theorem zp6 {f:D→Option D} {ma:En→R D} {δ:En}:m1 f ma δ=(ma δ).bind fun x=>R.of (f x):=rfl
variable (K) in
def SR (r:R2) (f:D→D→Option D):Prop:=∀ F H x y dx dy d Q,Same F H→Top K F H dx x→Top K F H dy y→f dx dy=some d→(∀ v F' H',Ext F H F' H'→Rep K F' d v→Q v H')→r x y H Q
variable (K) in
def SRo (r:R2) (f:D→D→Option D):Prop:=∀ F H x y dx dy d Q,Same F H→Top K F H dx x→Top K F H dy y→f dx dy=some d→(∀ p F' H',Ext F H F' H'→F' p=none→H p=none→Own K F' H' d p→Q (.ref p) H')→r x y H Q
theorem zal {r:R2} {f:D→D→Option D} (hr:SR K r f) (ha:SEr K XO E ta ma) (hb:SEr K XO E tb mb):SE K XO E (tOp r ta tb) (m2 f ma mb):=by
  intro Λ F0 H0 F H σ δ Q I a
  refine ha Λ F0 H0 F H σ δ _ I (a.bind.imp fun dx F1 H1 e1 a1 x rx=>?_)
  refine hb Λ F0 H0 F1 H1 σ δ _ (I.grow e1) (a1.bind.imp fun dy F2 H2 e2 a2 y ry=>?_)
  cases q:f dx dy with
  | none=>rw [q] at a2; exact a2.elim
  | some d =>
    rw [q] at a2
    exact hr F2 H2 x y dx dy d Q e2.fh (rx.mono e2.ff e2.hh) ry q fun v F' H' e r=>a2 F' H' e v r
theorem zlg {r:R2} {f:D→D→Option D} (hr:SRo K r f) (ha:SEr K XO E ta ma) (hb:SEr K XO E tb mb):SEo K XO E (tOp r ta tb) (m2 f ma mb):=by
  intro Λ F0 H0 F H σ δ Q I a
  refine ha Λ F0 H0 F H σ δ _ I (a.bind.imp fun dx F1 H1 e1 a1 x rx=>?_)
  refine hb Λ F0 H0 F1 H1 σ δ _ (I.grow e1) (a1.bind.imp fun dy F2 H2 e2 a2 y ry=>?_)
  cases q:f dx dy with
  | none=>rw [q] at a2; exact a2.elim
  | some d =>
    rw [q] at a2
    exact hr F2 H2 x y dx dy d Q e2.fh (rx.mono e2.ff e2.hh) ry q fun p F' H' e h0 h1 o=>a2 F' H' e p h0 (e1.hh.free (e2.hh.free h1)) o
variable (K) in
def SU (r:V→Hp→VK→Prop) (f:D→Option D):Prop:=∀ F H x dx d Q,Same F H→Top K F H dx x→f dx=some d→(∀ v F' H',Ext F H F' H'→Rep K F' d v→Q v H')→r x H Q
theorem zkk {r:V→Hp→VK→Prop} {f:D→Option D} (hr:SU K r f) (ha:SEr K XO E ta ma):SE K XO E (tUn r ta) (m1 f ma):=by
  intro Λ F0 H0 F H σ δ Q I a
  refine ha Λ F0 H0 F H σ δ _ I (a.bind.imp fun dx F1 H1 e1 a1 x rx=>?_)
  cases q:f dx with
  | none=>rw [q] at a1; exact a1.elim
  | some d =>
    rw [q] at a1
    exact hr F1 H1 x dx d Q e1.fh rx q fun v F' H' e r=>a1 F' H' e v r
def mNil (_:En):R (List D):=.ok []
def zaa (ma:En→R D) (mr:En→R (List D)) (δ:En):R (List D):=(ma δ).bind fun x=>(mr δ).bind fun l=>.ok (x :: l)
theorem zao:SA K XO E tNil mNil:=fun Λ F0 H0 F H σ δ Q I a=>a F H (.refl I.same) _ .nil
theorem zad {tr:TA} {mr:En→R (List D)} (ha:SE K XO E ta ma) (hr:SA K XO E tr mr):SA K XO E (zby ta tr) (zaa ma mr):=by
  intro Λ F0 H0 F H σ δ Q I a
  refine ha Λ F0 H0 F H σ δ _ I (a.bind.imp fun dx F1 H1 e1 a1 x rx=>?_)
  refine hr Λ F0 H0 F1 H1 σ δ _ (I.grow e1) (a1.bind.imp fun dy F2 H2 e2 a2 y ry=>?_)
  exact a2 F2 H2 (.refl e2.fh) _ (.cons (Rep.mono e2.ff _ rx) ry)
theorem zaK:SAr K XO E tNil mNil:=fun Λ F0 H0 F H σ δ Q I a=>a F H (.refl I.same) _ .nil
theorem zaz {tr:TA} {mr:En→R (List D)} (ha:SEr K XO E ta ma) (hr:SAr K XO E tr mr):SAr K XO E (zby ta tr) (zaa ma mr):=by
  intro Λ F0 H0 F H σ δ Q I a
  refine ha Λ F0 H0 F H σ δ _ I (a.bind.imp fun dx F1 H1 e1 a1 x rx=>?_)
  refine hr Λ F0 H0 F1 H1 σ δ _ (I.grow e1) (a1.bind.imp fun dy F2 H2 e2 a2 y ry=>?_)
  exact a2 F2 H2 (.refl e2.fh) _ (.cons (rx.mono e2.ff e2.hh) ry)
def mTup (ml:En→R (List D)) (δ:En):R D:=(ml δ).bind fun l=>ifC (l.length ≤ sizeLine) (.ok (.tup l)) .no
def mLst (ml:En→R (List D)) (δ:En):R D:=(ml δ).bind fun l=>ifC (l.length ≤ sizeLine) (.ok (.lst l)) .no
theorem zgr {tl:TA} {ml:En→R (List D)} (h:SA K XO E tl ml):SE K XO E (tTup tl) (mTup ml):=by
  intro Λ F0 H0 F H σ δ Q I a
  refine h Λ F0 H0 F H σ δ _ I (a.bind.imp fun ds F1 H1 e1 a1 vs r=>?_)
  unfold ifC at a1
  split at a1
  · rename_i hl
    refine ⟨by rw [r.length]; exact hl,fun p hp=>a1 _ _ (.new e1.fh hp) _ ?_⟩
    simp only [Rep]
    exact ⟨p,vs,rfl,zaj,r.mono (Same.upd (e1.fh.free hp))⟩
  · exact a1.elim
theorem zaR {tl:TA} {ml:En→R (List D)} (h:SA K XO E tl ml):SEo K XO E (tLst tl) (mLst ml):=by
  intro Λ F0 H0 F H σ δ Q I a
  refine h Λ F0 H0 F H σ δ _ I (a.bind.imp fun ds F1 H1 e1 a1 vs r=>?_)
  unfold ifC at a1
  split at a1
  · rename_i hl
    refine ⟨by rw [r.length]; exact hl,fun p hp=>a1 _ _ (.newO e1.fh hp) _ (e1.fh.free hp) (e1.hh.free hp) ⟨vs,zaj,r⟩⟩
  · exact a1.elim
theorem zj7:SEo K XO E zof (mC (.dct [] [])):=fun Λ F0 H0 F H σ δ Q I a p hp=>a F _ (.newO I.same hp) p (I.same.free hp) hp ⟨[],zaj,rfl,.nil⟩
def asB:D→Option Bool
  | .bl b=>some b
  | _=>none
def zar (me:En→R D) (δ:En):R Bool:=(me δ).bind fun d=>R.of (asB d)
theorem zaI (h:SE K XO E te me):ST K XO E (zqv te) (zar me):=by
  intro Λ F0 H0 F H σ δ Q I a
  refine h Λ F0 H0 F H σ δ _ I (a.bind.imp fun d F1 H1 e1 a1 v r=>?_)
  cases d with
  | bl b=>simp only [Rep] at r; exact ⟨b,r,a1 F1 H1 (.refl e1.fh)⟩
  | _=>exact a1.elim
theorem st_b (h:SE K XO E te me):ST K XO E (tB te) (zar me):=zaI h
variable {tA tB':TT} {nA nB:En→R Bool}
def mAnd (nA nB:En→R Bool) (δ:En):R Bool:=(nA δ).bind fun b=>if b=true then nB δ else .ok false
def mOr (nA nB:En→R Bool) (δ:En):R Bool:=(nA δ).bind fun b=>if b=true then .ok true else nB δ
def mNot (nA:En→R Bool) (δ:En):R Bool:=(nA δ).bind fun b=>.ok (!b)
theorem zqz (h:ST K XO E tA nA) (h':ST K XO E tB' nB):ST K XO E (tAnd tA tB') (mAnd nA nB):=by
  intro Λ F0 H0 F H σ δ Q I a
  refine h Λ F0 H0 F H σ δ _ I (a.bind.imp fun b F1 H1 e1 a1=>?_)
  cases b with
  | true=>exact h' Λ F0 H0 F1 H1 σ δ _ (I.grow e1) a1
  | false=>exact a1 F1 H1 (.refl e1.fh)
theorem zfn (h:ST K XO E tA nA) (h':ST K XO E tB' nB):ST K XO E (tOr tA tB') (mOr nA nB):=by
  intro Λ F0 H0 F H σ δ Q I a
  refine h Λ F0 H0 F H σ δ _ I (a.bind.imp fun b F1 H1 e1 a1=>?_)
  cases b with
  | false=>exact h' Λ F0 H0 F1 H1 σ δ _ (I.grow e1) a1
  | true=>exact a1 F1 H1 (.refl e1.fh)
theorem zgh (h:ST K XO E tA nA):ST K XO E (tNot tA) (mNot nA):=by
  intro Λ F0 H0 F H σ δ Q I a
  exact h Λ F0 H0 F H σ δ _ I (a.bind.imp fun b F1 H1 e1 a1=>a1 F1 H1 (.refl e1.fh))
def zks (ma mb:En→R D) (δ:En):R D:=(ma δ).bind fun d=>(R.of (asB d)).bind fun b=>if b=true then mb δ else .ok (.bl false)
def zkQ (ma:En→R D) (δ:En):R D:=(ma δ).bind fun d=>(R.of (asB d)).bind fun b=>.ok (.bl (!b))
theorem zl2 (h:SE K XO E ta ma) (h':SE K XO E tb mb):SE K XO E (zp7 ta tb) (zks ma mb):=by
  intro Λ F0 H0 F H σ δ Q I a
  refine h Λ F0 H0 F H σ δ _ I (a.bind.imp fun d F1 H1 e1 a1 v r=>?_)
  cases d with
  | bl b =>
    simp only [Rep] at r
    refine ⟨b,r,?_⟩
    cases b with
    | true=>exact h' Λ F0 H0 F1 H1 σ δ _ (I.grow e1) a1
    | false=>exact a1 F1 H1 (.refl e1.fh) _ (by simp only [Rep])
  | _=>exact a1.elim
theorem zqg (h:SE K XO E ta ma):SE K XO E (zp1 ta) (zkQ ma):=by
  intro Λ F0 H0 F H σ δ Q I a
  refine h Λ F0 H0 F H σ δ _ I (a.bind.imp fun d F1 H1 e1 a1 v r=>?_)
  cases d with
  | bl b =>
    simp only [Rep] at r
    exact ⟨b,r,a1 F1 H1 (.refl e1.fh) _ (by simp only [Rep])⟩
  | _=>exact a1.elim
def mIf (n:En→R Bool) (ma mb:En→R D) (δ:En):R D:=(n δ).bind fun b=>if b=true then ma δ else mb δ
theorem zrh (h:ST K XO E tA nA) (ha:SE K XO E ta ma) (hb:SE K XO E tb mb):SE K XO E (tIf tA ta tb) (mIf nA ma mb):=by
  intro Λ F0 H0 F H σ δ Q I a
  refine h Λ F0 H0 F H σ δ _ I (a.bind.imp fun b F1 H1 e1 a1=>?_)
  cases b with
  | true=>exact ha Λ F0 H0 F1 H1 σ δ _ (I.grow e1) a1
  | false=>exact hb Λ F0 H0 F1 H1 σ δ _ (I.grow e1) a1
def spM (K:Kx) (XO:XOT) (f:List D→R D):Sp:=fun vs H Q E=>∃ F ds,Same F H∧RepL K F ds vs∧Aft (fun _=>E) XO [] F H (fun d F' H'=>∀ v,Rep K F' d v→Q v H') (f ds)
def R.nev {α:Type}:R α→R α
  | .ex _=>.no
  | r=>r
@[simp] theorem R.nev_ok {α:Type} (a:α):(R.ok a).nev = .ok a:=rfl
def zag (f:List D→R D) (ml:En→R (List D)) (δ:En):R D:=(ml δ).bind fun l=>(f l).nev
theorem Aft.any {α:Type} {E E':St→XK} {σ σ':St} {F H:Hp} {P:α→Hp→Hp→Prop} {r:R α} (h:Aft E XO σ F H P r.nev):Aft E' XO σ' F H P r:=by
  cases r with
  | no=>exact h
  | ok a=>exact h
  | ex x=>exact h.elim
theorem za6 {f:List D→R D} {tl:TA} {ml:En→R (List D)} {E':XK} (h:SA K XO E tl ml):SE K XO E (zj9 (spM K XO f) [] E' tl) (zag f ml):=by
  intro Λ F0 H0 F H σ δ Q I a
  refine h Λ F0 H0 F H σ δ _ I (a.bind.imp fun ds F1 H1 e1 a1 vs r=>⟨F1,ds,e1.fh,by rw [List.append_nil]; exact r,a1.any⟩)
variable (K) in
def SG (g:TG) (b:D→En→Option En):Prop:=∀ Λ F0 H0 F H σ δ d v δ' Q,EnvOk K Λ F0 H0 F H σ δ→Rep K F d v→b d δ=some δ'→(∀ σ',EnvOk K Λ F0 H0 F H σ' δ'→Q σ' H)→g v σ H Q
variable (K) in
def SGs (g:TGs) (b:List D→En→Option En):Prop:=∀ Λ F0 H0 F H σ δ d v δ' Q,EnvOk K Λ F0 H0 F H σ δ→RepL K F d v→b d δ=some δ'→(∀ σ',EnvOk K Λ F0 H0 F H σ' δ'→Q σ' H)→g v σ H Q
def zap (i:Nat) (d:D) (δ:En):Option En:=match δ[i]? with | none=>none | some (.l _)=>none | some _=>some (δ.set i (.v d))
def zbi (i:Nat) (d:D) (δ:En):Option En:=match δ[i]? with | some .no=>some (δ.set i (.v d)) | _=>none
def bNil (l:List D) (δ:En):Option En:=match l with | []=>some δ | _=>none
def zbF (b:D→En→Option En) (c:List D→En→Option En) (l:List D) (δ:En):Option En:=match l with | d :: r=>(b d δ).bind (c r) | []=>none
def bTup (n:Nat) (c:List D→En→Option En) (d:D) (δ:En):Option En:=match d with | .tup l=>if l.length=n then c l δ else none | _=>none
theorem zat {i:Nat}:SG K (zeS i) (zap i):=by
  intro Λ F0 H0 F H σ δ d v δ' Q I r e q
  unfold zap at e
  split at e
  · cases e
  · cases e
  · rename_i x h2 h1
    cases e
    exact q _ (I.put ⟨x,h1,fun d' z=>h2 d' (by rw [z])⟩ r)
theorem zbM {i:Nat}:SG K (zeS i) (zbi i):=by
  intro Λ F0 H0 F H σ δ d v δ' Q I r e q
  unfold zbi at e
  split at e
  · rename_i h1
    cases e
    exact q _ (I.put ⟨_,h1,fun d' z=>by cases z⟩ r)
  · cases e
theorem zgl:SGs K gNil bNil:=by
  intro Λ F0 H0 F H σ δ d v δ' Q I r e q
  cases d with
  | nil=>simp only [RepL] at r; cases e; exact ⟨r,q _ I⟩
  | cons x l=>cases e
theorem zb9 {g:TG} {h:TGs} {b:D→En→Option En} {c:List D→En→Option En} (hg:SG K g b) (hh:SGs K h c):SGs K (zqn g h) (zbF b c):=by
  intro Λ F0 H0 F H σ δ d v δ' Q I r e q
  cases d with
  | nil=>cases e
  | cons x l =>
    simp only [RepL] at r
    obtain ⟨u,w,rfl,r1,r2⟩:=r
    change (b x δ).bind (c l)=some δ' at e
    cases z:b x δ with
    | none=>rw [z] at e; cases e
    | some δ1 =>
      rw [z] at e
      exact ⟨u,w,rfl,hg Λ F0 H0 F H σ δ x u δ1 _ I r1 z fun σ1 I1=>hh Λ F0 H0 F H σ1 δ1 l w δ' Q I1 r2 e q⟩
theorem zhU {n:Nat} {h:TGs} {c:List D→En→Option En} (hh:SGs K h c):SG K (gTup K.f n h) (bTup n c):=by
  intro Λ F0 H0 F H σ δ d v δ' Q I r e q
  cases d with
  | tup l =>
    simp only [Rep] at r
    obtain ⟨a,vs,rfl,h1,h2⟩:=r
    simp only [bTup] at e
    split at e
    · rename_i hn
      exact ⟨a,vs,rfl,.inl (.inl (I.same _ _ h1)),by rw [h2.length]; exact hn,hh Λ F0 H0 F H σ δ l vs δ' Q I h2 e q⟩
    · cases e
  | _=>cases e
def Weak (δ δ':En):Prop:=δ.length=δ'.length∧∀ i:Nat,δ[i]?=some .no∨δ[i]?=δ'[i]?
theorem Weak.refl (δ:En):Weak δ δ:=⟨rfl,fun _=>.inr rfl⟩
theorem Weak.trans {a b c:En} (h:Weak a b) (h':Weak b c):Weak a c:=⟨h.1.trans h'.1,fun i=>by
  rcases h.2 i with z | z
  · exact .inl z
  · rcases h'.2 i with y | y
    · exact .inl (z.trans y)
    · exact .inr (z.trans y)⟩
def BW (b:D→En→Option En):Prop:=∀ d δ δ',b d δ=some δ'→Weak δ δ'
def BWs (b:List D→En→Option En):Prop:=∀ d δ δ',b d δ=some δ'→Weak δ δ'
theorem zcm {i:Nat}:BW (zbi i):=by
  intro d δ δ' e
  unfold zbi at e
  split at e
  · rename_i h1
    cases e
    refine ⟨by simp,fun j=>?_⟩
    by_cases h:i=j
    · subst h; exact .inl h1
    · exact .inr (by rw [List.getElem?_set_ne h])
  · cases e
theorem zpp:BWs bNil:=by
  intro d δ δ' e
  cases d with
  | nil=>cases e; exact .refl _
  | cons x l=>cases e
theorem zjD {b:D→En→Option En} {c:List D→En→Option En} (h:BW b) (h':BWs c):BWs (zbF b c):=by
  intro d δ δ' e
  cases d with
  | nil=>cases e
  | cons x l =>
    change (b x δ).bind (c l)=some δ' at e
    cases z:b x δ with
    | none=>rw [z] at e; cases e
    | some δ1=>rw [z] at e; exact (h _ _ _ z).trans (h' _ _ _ e)
theorem zqw {n:Nat} {c:List D→En→Option En} (h:BWs c):BW (bTup n c):=by
  intro d δ δ' e
  cases d with
  | tup l =>
    simp only [bTup] at e
    split at e
    · exact h _ _ _ e
    · cases e
  | _=>cases e
variable (K) in
def IsIt (J:It) (P:Hp→Hp→Prop) (ds:List D):Prop:=∀ F2 H2,P F2 H2→∀ i:Nat,(∀ d,ds[i]?=some d→J.go i H2∧∀ x H',J.yld i H2 x H'→∃ F3,Ext F2 H2 F3 H'∧Rep K F3 d x)∧(ds[i]?=none→J.stop i H2)
variable (K XO E) in
def SI (wi:TI) (m:En→R (List D)):Prop:=∀ Λ F0 H0 F H σ δ R,EnvOk K Λ F0 H0 F H σ δ→Aft E XO σ F H (fun ds F1 H1=>∀ J,IsIt K J (fun F2 H2=>Same F1 F2∧Same F2 H2) ds→R J H1) (m δ)→wi σ H R
variable (K XO E) in
def SIc (wi:TI) (m:En→R (List D)):Prop:=∀ Λ F0 H0 F H σ δ R,EnvOk K Λ F0 H0 F H σ δ→Aft E XO σ F H (fun ds F1 H1=>∀ J,IsIt K J (fun F2 H2=>Ext F1 H1 F2 H2) ds→R J H1) (m δ)→wi σ H R
theorem SI.c {wi:TI} {m:En→R (List D)} (h:SI K XO E wi m):SIc K XO E wi m:=fun Λ F0 H0 F H σ δ R I a=>h Λ F0 H0 F H σ δ R I (a.imp fun ds F1 H1 e p J hJ=>p J fun F2 H2 x=>hJ F2 H2 ⟨x.ff,x.fh⟩)
def asL:D→Option (List D)
  | .lst l=>some l
  | .scr l=>some (l.map .int)
  | _=>none
def asT:D→Option (List D)
  | .tup l=>some l
  | _=>none
def mItL (ml:En→R D) (δ:En):R (List D):=(ml δ).bind fun d=>R.of (asL d)
def mItT (ml:En→R D) (δ:En):R (List D):=(ml δ).bind fun d=>R.of (asT d)
theorem zeu {a:Addr} {ds:List D} {vs:List V} {F1:Hp} {P:Hp→Hp→Prop} (r:RepL K F1 ds vs) (h:∀ F2 H2,P F2 H2→Same F1 F2∧Same F2 H2∧SqL K.f H2 a vs):IsIt K (Itl K.f a) P ds:=by
  intro F2 H2 p i
  obtain ⟨s1,s2,q⟩:=h F2 H2 p
  refine ⟨fun d hd=>?_,fun hn=>?_⟩
  · obtain ⟨v,hv,rv⟩:=r.get hd
    refine ⟨⟨vs,v,q,hv⟩,fun x H' y=>?_⟩
    obtain ⟨rfl,y⟩:=y
    have z:=y vs q
    rw [hv] at z; cases z
    exact ⟨F2,.refl s2,Rep.mono s1 _ rv⟩
  · exact ⟨vs,q,by rw [r.length]; exact List.getElem?_eq_none_iff.mp hn⟩
theorem zeX (h:SE K XO E te me):SI K XO E (zo7 K.f te) (mItL me):=by
  intro Λ F0 H0 F H σ δ R I a
  refine h Λ F0 H0 F H σ δ _ I (a.bind.imp fun d F1 H1 e1 a1 v r=>?_)
  cases d with
  | lst l =>
    simp only [Rep] at r
    obtain ⟨a,vs,rfl,h1,h2⟩:=r
    exact ⟨a,rfl,⟨vs,.inl (PM.Same.rd e1.fh h1)⟩,a1 F1 H1 (.refl e1.fh) _ (zeu h2 fun F2 H2 x=>⟨x.1,x.2,.inl (PM.Same.rd x.2 (PM.Same.rd x.1 h1))⟩)⟩
  | scr l =>
    simp only [Rep] at r
    obtain ⟨a,rfl,h1⟩:=r
    exact ⟨a,rfl,⟨_,e1.fh.seq h1⟩,a1 F1 H1 (.refl e1.fh) _ (zeu .ints fun F2 H2 x=>⟨x.1,x.2,x.2.seq (x.1.seq h1)⟩)⟩
  | _=>exact a1.elim
theorem zeA (h:SEr K XO E te me):SIc K XO E (zo7 K.f te) (mItL me):=by
  intro Λ F0 H0 F H σ δ R I a
  refine h Λ F0 H0 F H σ δ _ I (a.bind.imp fun d F1 H1 e1 a1 v r=>?_)
  cases d with
  | lst l =>
    obtain ⟨a,vs,rfl,h1,h2⟩:=r
    exact ⟨a,rfl,⟨vs,.inl h1⟩,a1 F1 H1 (.refl e1.fh) _ (zeu h2 fun F2 H2 x=>⟨x.ff,x.fh,.inl (PM.Same.rd x.hh h1)⟩)⟩
  | scr l =>
    simp only [Top,Rep] at r
    obtain ⟨a,rfl,h1⟩:=r
    exact ⟨a,rfl,⟨_,e1.fh.seq h1⟩,a1 F1 H1 (.refl e1.fh) _ (zeu .ints fun F2 H2 x=>⟨x.ff,x.fh,x.fh.seq (x.ff.seq h1)⟩)⟩
  | _=>exact a1.elim
theorem zqM (h:SE K XO E te me):SI K XO E (iTup K.f te) (mItT me):=by
  intro Λ F0 H0 F H σ δ R I a
  refine h Λ F0 H0 F H σ δ _ I (a.bind.imp fun d F1 H1 e1 a1 v r=>?_)
  cases d with
  | tup l =>
    simp only [Rep] at r
    obtain ⟨a,vs,rfl,h1,h2⟩:=r
    refine ⟨a,rfl,⟨vs,.inl (.inl (e1.fh _ _ h1))⟩,a1 F1 H1 (.refl e1.fh) _ fun F2 H2 x i=>?_⟩
    have q:SqT K.f H2 a vs:=.inl (.inl (x.2 _ _ (x.1 _ _ h1)))
    refine ⟨fun d hd=>?_,fun hn=>?_⟩
    · obtain ⟨v,hv,rv⟩:=h2.get hd
      refine ⟨⟨vs,v,q,hv⟩,fun x' H' y=>?_⟩
      obtain ⟨rfl,y⟩:=y
      have z:=y vs q
      rw [hv] at z; cases z
      exact ⟨F2,.refl x.2,Rep.mono x.1 _ rv⟩
    · exact ⟨vs,q,by rw [h2.length]; exact List.getElem?_eq_none_iff.mp hn⟩
  | _=>exact a1.elim
def zf6 (lo:Int) (n:Nat):List D:=(List.range n).map fun (k:Nat)=>D.int (lo + (k:Int))
theorem zkF {lo:Int} {n:Nat} {P:Hp→Hp→Prop} (h:∀ F2 H2,P F2 H2→Same F2 H2):IsIt K (Itr lo n) P (zf6 lo n):=by
  intro F2 H2 p i
  unfold zf6
  rw [List.getElem?_map]
  have er:(List.range n)[i]?=if i < n then some i else none:=by
    by_cases hi:i < n
    · rw [if_pos hi,List.getElem?_range hi]
    · rw [if_neg hi,List.getElem?_eq_none_iff]; simpa using hi
  rw [er]
  refine ⟨fun d hd=>?_,fun hn=>?_⟩
  · by_cases hi:i < n
    · rw [if_pos hi] at hd
      cases hd
      refine ⟨hi,fun x H' y=>?_⟩
      obtain ⟨rfl,rfl⟩:=y
      exact ⟨F2,.refl (h F2 _ p),by simp only [Rep]⟩
    · rw [if_neg hi] at hd; cases hd
  · by_cases hi:i < n
    · rw [if_pos hi] at hn; cases hn
    · exact Nat.le_of_not_lt hi
def rng (l:List D):Option (List D):=match l with
  | [.int j]=>ifC (-(2 ^ 62) ≤ j∧j < 2 ^ 62) (some (zf6 0 j.toNat)) none
  | [.int i,.int j]=>ifC (-(2 ^ 62) ≤ i∧i < 2 ^ 62∧-(2 ^ 62) ≤ j∧j < 2 ^ 62) (some (zf6 i (j - i).toNat)) none
  | _=>none
def mRng (ml:En→R (List D)) (δ:En):R (List D):=(ml δ).bind fun l=>R.of (rng l)
theorem RepL.one {F:Hp} {d:D} {vs:List V} (r:RepL K F [d] vs):∃ v,vs = [v]∧Rep K F d v:=by
  simp only [RepL] at r
  obtain ⟨v,r',rfl,h,rfl⟩:=r
  exact ⟨v,rfl,h⟩
theorem RepL.two {F:Hp} {d e:D} {vs:List V} (r:RepL K F [d,e] vs):∃ v u,vs = [v,u]∧Rep K F d v∧Rep K F e u:=by
  simp only [RepL] at r
  obtain ⟨v,r',rfl,h,v2,r2,rfl,h2,rfl⟩:=r
  exact ⟨v,v2,rfl,h,h2⟩
theorem za3 {tl:TA} {ml:En→R (List D)} (hn:∀ δ l,ml δ = .ok l→l.length=1) (h:SA K XO E tl ml):SI K XO E (zqD tl) (mRng ml):=by
  intro Λ F0 H0 F H σ δ R I a
  unfold mRng at a
  cases hm:ml δ with
  | no=>rw [hm] at a; exact a.elim
  | ex x=>refine h Λ F0 H0 F H σ δ _ I ?_; rw [hm] at a ⊢; exact a
  | ok l =>
    refine h Λ F0 H0 F H σ δ _ I ?_
    rw [hm] at a ⊢
    intro F1 H1 e1 vs r
    have h1:=hn δ l hm
    match l,h1 with
    | [d],_ =>
      obtain ⟨v,rfl,rv⟩:=r.one
      have a1:=Aft.mono e1 a
      cases d with
      | int j =>
        simp only [Rep] at rv
        subst rv
        change Aft E XO σ F1 H1 _ (PM.R.of (ifC (-(2 ^ 62) ≤ j∧j < 2 ^ 62) _ _)) at a1
        by_cases hj : -(2 ^ 62) ≤ j∧j < 2 ^ 62
        · rw [zaX hj] at a1
          exact ⟨j,rfl,hj.1,hj.2,a1 F1 H1 (.refl e1.fh) _ (zkF fun F2 H2 x=>x.2)⟩
        · rw [zo5 hj] at a1; exact a1.elim
      | _=>exact a1.elim
theorem len1 {ma:En→R D}:∀ δ l,zaa ma mNil δ = .ok l→l.length=1:=by
  intro δ l h
  unfold zaa mNil at h
  cases e:ma δ with
  | ok d=>rw [e] at h; cases h; rfl
  | no=>rw [e] at h; cases h
  | ex x=>rw [e] at h; cases h
def zhS (l:List D):List D:=l.mapIdx fun i d=>.tup [.int i,d]
theorem zlU {a:Addr} {ds:List D} {vs:List V} {F1:Hp} {P:Hp→Hp→Prop} (r:RepL K F1 ds vs) (h:∀ F2 H2,P F2 H2→Same F1 F2∧Same F2 H2∧SqL K.f H2 a vs):IsIt K (Ite K.f a) P (zhS ds):=by
  intro F2 H2 p i
  obtain ⟨s1,s2,q⟩:=h F2 H2 p
  unfold zhS
  rw [List.getElem?_mapIdx]
  refine ⟨fun d hd=>?_,fun hn=>?_⟩
  · cases e:ds[i]? with
    | none=>rw [e] at hd; cases hd
    | some x =>
      rw [e] at hd
      cases hd
      obtain ⟨v,hv,rv⟩:=r.get e
      refine ⟨⟨vs,v,q,hv⟩,fun x' H' y=>?_⟩
      obtain ⟨p',y',rfl,hp,rfl,y⟩:=y
      have z:=y vs q
      rw [hv] at z; cases z
      refine ⟨_,.new s2 hp,?_⟩
      simp only [Rep]
      exact ⟨p',_,rfl,zaj,.cons (by simp only [Rep]) (.cons (Rep.mono (s1.trans (Same.upd (s2.free hp))) _ rv) .nil)⟩
  · cases e:ds[i]? with
    | none=>exact ⟨vs,q,by rw [r.length]; exact List.getElem?_eq_none_iff.mp e⟩
    | some x=>rw [e] at hn; cases hn
def asL':D→Option (List D)
  | .lst l=>some l
  | _=>none
def zoB:List D→Option (List D)
  | [d]=>(asL' d).map zhS
  | _=>none
def zpd (ml:En→R (List D)) (δ:En):R (List D):=(ml δ).bind fun l=>R.of (zoB l)
theorem zkx {l r:List D} (h:zoB l=some r):∃ x,l = [.lst x]∧r=zhS x:=by
  cases l with
  | nil=>cases h
  | cons d t =>
    cases t with
    | cons _ _=>cases h
    | nil =>
      cases d with
      | lst x=>cases h; exact ⟨x,rfl,rfl⟩
      | _=>cases h
theorem zpb {tl:TA} {ml:En→R (List D)} (h:SA K XO E tl ml):SI K XO E (zqC K.f tl) (zpd ml):=by
  intro Λ F0 H0 F H σ δ R I a
  refine h Λ F0 H0 F H σ δ _ I (a.bind.imp fun ds F1 H1 e1 a1 vs r=>?_)
  cases q:zoB ds with
  | none=>rw [q] at a1; exact a1.elim
  | some z =>
    rw [q] at a1
    obtain ⟨l,rfl,rfl⟩:=zkx q
    obtain ⟨v,rfl,r'⟩:=RepL.one r
    simp only [Rep] at r'
    obtain ⟨a,vs,rfl,h1,h2⟩:=r'
    exact ⟨a,rfl,⟨vs,.inl (PM.Same.rd e1.fh h1)⟩,a1 F1 H1 (.refl e1.fh) _ (zlU h2 fun F2 H2 x=>⟨x.1,x.2,.inl (PM.Same.rd x.2 (PM.Same.rd x.1 h1))⟩)⟩
end
end PM
namespace PM
open PySem L2
section
variable (K:Kx) (XO:XOT) (E:St→XK)
def AftS (Λ:List (Nat × Addr × HO)) (F0 H0:Hp) (Dn:Ends):O→Prop
  | .no=>False
  | .nx δ=>∀ σ F H,EnvOk K Λ F0 H0 F H σ δ→Dn.nx σ H
  | .bk δ=>∀ σ F H,EnvOk K Λ F0 H0 F H σ δ→Dn.bk σ H
  | .ct δ=>∀ σ F H,EnvOk K Λ F0 H0 F H σ δ→Dn.ct σ H
  | .rt d=>∀ v F H,Ext F0 H0 F H→Rep K F d v→Dn.rt v H
  | .ro d=>∀ p F H,Ext F0 H0 F H→F p=none→H0 p=none→Own K F H d p→Dn.rt (.ref p) H
  | .ex δ x=>∀ σ F H C dct,EnvOk K Λ F0 H0 F H σ δ→XO x F H C dct→E σ C dct H
def SS (t:TS) (m:En→O):Prop:=∀ Λ F0 H0 F H σ δ Dn,EnvOk K Λ F0 H0 F H σ δ→AftS K XO E Λ F0 H0 Dn (m δ)→t Dn σ H
end
def R.toO {α:Type} (r:R α) (δ:En) (f:α→O):O:=match r with | .no=>.no | .ok a=>f a | .ex x=>.ex δ x
@[simp] theorem R.toO_ok {α:Type} (a:α) (δ:En) (f:α→O):(R.ok a).toO δ f=f a:=rfl
@[simp] theorem R.toO_no {α:Type} (δ:En) (f:α→O):(R.no:R α).toO δ f = .no:=rfl
@[simp] theorem R.toO_ex {α:Type} (x:Xc) (δ:En) (f:α→O):(R.ex x:R α).toO δ f = .ex δ x:=rfl
section
variable {K:Kx} {XO:XOT} {E:St→XK} {ta tb te:TE} {ma mb me:En→R D} {t u:TS} {m n:En→O} {Λ:List (Nat × Addr × HO)} {F0 H0 F H F1 H1:Hp} {σ:St} {δ:En} {Dn:Ends}
theorem AftS.of {α:Type} {r:R α} {f:α→O} (I:EnvOk K Λ F0 H0 F H σ δ) (a:AftS K XO E Λ F0 H0 Dn (r.toO δ f)):Aft E XO σ F H (fun a _ _=>AftS K XO E Λ F0 H0 Dn (f a)) r:=by
  cases r with
  | no=>exact a
  | ok b=>exact fun _ _ _=>a
  | ex x=>exact fun C dct F' H' e h=>a σ F' H' C dct (I.grow e) h
theorem AftS.up (e:Ext F0 H0 F1 H1):∀ {o:O},AftS K XO E Λ F0 H0 Dn o→AftS K XO E Λ F1 H0 Dn o
  | .no,h=>h
  | .nx _,h=>fun σ F H I=>h σ F H (I.down e)
  | .bk _,h=>fun σ F H I=>h σ F H (I.down e)
  | .ct _,h=>fun σ F H I=>h σ F H (I.down e)
  | .rt _,h=>fun v F H x=>h v F H (e.base x)
  | .ro _,h=>fun p F H x=>h p F H (e.base x)
  | .ex _ _,h=>fun σ F H C d I=>h σ F H C d (I.down e)
def zbv (δ:En):O:=.nx δ
def mSeq (m n:En→O) (δ:En):O:=match m δ with | .nx δ'=>n δ' | r=>r
theorem zbs:SS K XO E znM zbv:=fun Λ F0 H0 F H σ δ Dn I a=>a σ F H I
theorem zas (h:SS K XO E t m) (h':SS K XO E u n):SS K XO E (tSeq t u) (mSeq m n):=by
  intro Λ F0 H0 F H σ δ Dn I a
  refine h Λ F0 H0 F H σ δ _ I ?_
  unfold mSeq at a
  cases q:m δ with
  | no=>rw [q] at a; exact a
  | nx δ'=>rw [q] at a; exact fun σ' F' H' I'=>h' Λ F0 H0 F' H' σ' δ' Dn I' a
  | rt d=>rw [q] at a; exact a
  | ro d=>rw [q] at a; exact a
  | bk δ'=>rw [q] at a; exact a
  | ct δ'=>rw [q] at a; exact a
  | ex δ' x=>rw [q] at a; exact a
theorem zhh:SS K XO E zj3 (fun _=>.no):=fun Λ F0 H0 F H σ δ Dn I a=>a
def mRet (me:En→R D) (δ:En):O:=(me δ).toO δ .rt
theorem zbH (h:SE K XO E te me):SS K XO E (tRet te) (mRet me):=by
  intro Λ F0 H0 F H σ δ Dn I a
  exact h Λ F0 H0 F H σ δ _ I ((AftS.of I a).imp fun d F1 H1 e p v r=>p v F1 H1 (I.ext.trans e) r)
def zeT (me:En→R D) (δ:En):O:=(me δ).toO δ .ro
theorem zf7 (h:SEo K XO E te me):SS K XO E (tRet te) (zeT me):=by
  intro Λ F0 H0 F H σ δ Dn I a
  exact h Λ F0 H0 F H σ δ _ I ((AftS.of I a).imp fun d F1 H1 e p v h0 h1 o=>p v F1 H1 (I.ext.trans e) h0 (I.ext.hh.free h1) o)
def zhe (i:Nat) (δ:En):O:=match δ[i]? with | some (.o d)=>.ro d | _=>.no
theorem zeY {i:Nat}:SS K XO E (tRet (tVar i)) (zhe i):=by
  intro Λ F0 H0 F H σ δ Dn I a
  unfold zhe at a
  split at a
  · rename_i d q
    have z:=I.slot i
    rw [q] at z
    obtain ⟨p,z1,z2,z3,z4⟩:=z
    exact ⟨_,z1,a p F H I.ext z3 z2 z4⟩
  · exact a.elim
def mDo (me:En→R D) (δ:En):O:=(me δ).toO δ fun _=>.nx δ
theorem zli (h:SE K XO E te me):SS K XO E (zkS te) (mDo me):=by
  intro Λ F0 H0 F H σ δ Dn I a
  exact h Λ F0 H0 F H σ δ _ I ((AftS.of I a).imp fun d F1 H1 e p v r=>p σ F1 H1 (I.grow e))
def mIfS (n:En→R Bool) (m m':En→O) (δ:En):O:=(n δ).toO δ fun b=>if b=true then m δ else m' δ
theorem zcU {tc:TT} {nc:En→R Bool} (h:ST K XO E tc nc) (ha:SS K XO E t m) (hb:SS K XO E u n):SS K XO E (tIfS tc t u) (mIfS nc m n):=by
  intro Λ F0 H0 F H σ δ Dn I a
  refine h Λ F0 H0 F H σ δ _ I ((AftS.of I a).imp fun b F1 H1 e p=>?_)
  cases b with
  | true=>exact ha Λ F0 H0 F1 H1 σ δ Dn (I.grow e) p
  | false=>exact hb Λ F0 H0 F1 H1 σ δ Dn (I.grow e) p
def O.of:Option En→O
  | some δ=>.nx δ
  | none=>.no
@[simp] theorem O.of_some (δ:En):O.of (some δ) = .nx δ:=rfl
@[simp] theorem O.of_none:O.of none = .no:=rfl
def mAsg (me:En→R D) (b:D→En→Option En) (δ:En):O:=(me δ).toO δ fun d=>O.of (b d δ)
theorem za1 {g:TG} {b:D→En→Option En} (h:SE K XO E te me) (hg:SG K g b):SS K XO E (tAsg te g) (mAsg me b):=by
  intro Λ F0 H0 F H σ δ Dn I a
  refine h Λ F0 H0 F H σ δ _ I ((AftS.of I a).imp fun d F1 H1 e p v r=>?_)
  cases q:b d δ with
  | none=>rw [q] at p; exact p.elim
  | some δ'=>rw [q] at p; exact hg Λ F0 H0 F1 H1 σ δ d v δ' _ (I.grow e) r q fun σ' I'=>p σ' F1 H1 I'
def bNew (i:Nat) (d:D) (δ:En):Option En:=match δ[i]? with | none=>none | some (.l _)=>none | some _=>some (δ.set i (.o d))
theorem zcj {i:Nat} (h:SEo K XO E te me):SS K XO E (tAsg te (zeS i)) (mAsg me (bNew i)):=by
  intro Λ F0 H0 F H σ δ Dn I a
  refine h Λ F0 H0 F H σ δ _ I ((AftS.of I a).imp fun d F1 H1 e p v h0 h1 o=>?_)
  unfold bNew at p
  split at p
  · exact p.elim
  · exact p.elim
  · rename_i x h3 h2
    exact p _ F1 H1 (I.putO ⟨x,h2,fun d' z=>h3 d' (by rw [z])⟩ e h0 h1 o)
def zde (b:D→En→Option En) (m:En→O):List D→En→O
  | [],δ=>.nx δ
  | d :: l,δ=>match b d δ with
    | none=>.no
    | some δ1=>match m δ1 with
      | .nx δ2=>zde b m l δ2
      | .ct δ2=>zde b m l δ2
      | .bk δ2=>.nx δ2
      | r=>r
def mFor (mi:En→R (List D)) (b:D→En→Option En) (m:En→O) (δ:En):O:=(mi δ).toO δ fun l=>zde b m l δ
theorem zpr {J:It} {P:Hp→Hp→Prop} {g:TG} {b:D→En→Option En} {ds:List D} (hJ:IsIt K J P ds) (hP:∀ σ δ F H,EnvOk K Λ F0 H0 F H σ δ→P F H) (hg:SG K g b) (hb:SS K XO E t m) (I:EnvOk K Λ F0 H0 F H σ δ)
    (a:AftS K XO E Λ F0 H0 Dn (zde b m ds δ)):∃ W:Nat→Nat→St→Hp→Prop,(∃ k,W 0 k σ H)∧∀ i k σ H,W i k σ H →
      (J.stop i H∧Dn.nx σ H)∨(J.go i H∧∃ N:St→Hp→Prop,(∀ σ' H',N σ' H'→∃ k',k' < k∧W (i + 1) k' σ' H')∧∀ x H',J.yld i H x H'→g x σ H' fun σ2 H2=>t { Dn with nx:=N,ct:=N,bk:=Dn.nx } σ2 H2):=by
  let W:Nat→Nat→St→Hp→Prop:=fun i k σ H=>∃ F δ,EnvOk K Λ F0 H0 F H σ δ∧k=ds.length - i∧i ≤ ds.length∧AftS K XO E Λ F0 H0 Dn (zde b m (ds.drop i) δ)
  refine ⟨W,⟨ds.length,F,δ,I,rfl,Nat.zero_le _,a⟩,?_⟩
  rintro i k σ H ⟨F,δ,I,rfl,hi,a⟩
  have hP':=hP σ δ F H I
  by_cases hlt:i < ds.length
  · have e:ds.drop i=ds[i] :: ds.drop (i + 1):=List.drop_eq_getElem_cons hlt
    obtain ⟨h1,h2⟩:=(hJ F H hP' i).1 ds[i] (by simp [hlt])
    refine .inr ⟨h1,W (i + 1) (ds.length - (i + 1)),fun σ' H' w=>⟨_,by omega,w⟩,fun x H' y=>?_⟩
    obtain ⟨F3,e3,r⟩:=h2 x H' y
    rw [e] at a
    unfold zde at a
    cases q:b ds[i] δ with
    | none=>rw [q] at a; exact a.elim
    | some δ1 =>
      rw [q] at a
      refine hg Λ F0 H0 F3 H' σ δ _ x δ1 _ (I.grow e3) r q fun σ1 I1=>hb Λ F0 H0 F3 H' σ1 δ1 _ I1 ?_
      cases q2:m δ1 with
      | no=>simp only [q2] at a; exact a
      | nx δ2=>simp only [q2] at a; exact fun σ' F' H' I'=>⟨F',δ2,I',rfl,hlt,a⟩
      | ct δ2=>simp only [q2] at a; exact fun σ' F' H' I'=>⟨F',δ2,I',rfl,hlt,a⟩
      | bk δ2=>simp only [q2] at a; exact a
      | rt d=>simp only [q2] at a; exact a
      | ro d=>simp only [q2] at a; exact a
      | ex δ' x=>simp only [q2] at a; exact a
  · have e:i=ds.length:=by omega
    subst e
    rw [List.drop_length] at a
    exact .inl ⟨(hJ F H hP' _).2 (by simp),a σ F H I⟩
theorem zbI {wi:TI} {mi:En→R (List D)} {g:TG} {b:D→En→Option En} (hi:SI K XO E wi mi) (hg:SG K g b) (hb:SS K XO E t m):SS K XO E (tFor wi g t) (mFor mi b m):=by
  intro Λ F0 H0 F H σ δ Dn I a
  refine hi Λ F0 H0 F H σ δ _ I ((AftS.of I a).imp fun ds F1 H1 e p J hJ=>?_)
  have I1:=I.grow e
  exact zpr (F0:=F1) hJ (fun σ δ F H I=>⟨I.ext.ff,I.ext.fh⟩) hg hb I1.up (p.up I1.ext)
def zbS (c:En→R Bool) (m:En→O):Nat→En→O
  | 0,_=>.no
  | n + 1,δ=>(c δ).toO δ fun b=>if b=true then (match m δ with | .nx δ2=>zbS c m n δ2 | .ct δ2=>zbS c m n δ2 | .bk δ2=>.nx δ2 | r=>r) else .nx δ
open Classical in
def zfd (c:En→R Bool) (m:En→O) (δ:En):O:=if h:∃ n,zbS c m n δ ≠ .no then zbS c m (choose h) δ else .no
theorem zfD {tc:TT} {nc:En→R Bool} (hc:ST K XO E tc nc) (hb:SS K XO E t m):SS K XO E (zod tc t) (zfd nc m):=by
  intro Λ F0 H0 F H σ δ Dn I a
  unfold zfd at a
  split at a
  · rename_i h
    refine ⟨fun k σ H=>∃ F δ,EnvOk K Λ F0 H0 F H σ δ∧AftS K XO E Λ F0 H0 Dn (zbS nc m k δ),⟨_,F,δ,I,a⟩,?_⟩
    rintro k σ H ⟨F,δ,I,a⟩
    cases k with
    | zero=>exact a.elim
    | succ k =>
      unfold zbS at a
      refine hc Λ F0 H0 F H σ δ _ I ((AftS.of I a).imp fun b F1 H1 e p=>?_)
      cases b with
      | false=>exact p σ F1 H1 (I.grow e)
      | true =>
        refine ⟨fun σ H=>∃ F δ,EnvOk K Λ F0 H0 F H σ δ∧AftS K XO E Λ F0 H0 Dn (zbS nc m k δ),fun σ' H' w=>⟨k,Nat.lt_succ_self _,w⟩,hb Λ F0 H0 F1 H1 σ δ _ (I.grow e) ?_⟩
        rw [if_pos rfl] at p
        cases q2:m δ with
        | no=>simp only [q2] at p; exact p
        | nx δ2=>simp only [q2] at p; exact fun σ' F' H' I'=>⟨F',δ2,I',p⟩
        | ct δ2=>simp only [q2] at p; exact fun σ' F' H' I'=>⟨F',δ2,I',p⟩
        | bk δ2=>simp only [q2] at p; exact p
        | rt d=>simp only [q2] at p; exact p
        | ro d=>simp only [q2] at p; exact p
        | ex δ' x=>simp only [q2] at p; exact p
  · exact a.elim
end
end PM
namespace PM
open PySem L2
def asK:D→Option Key
  | .int i=>some (.inl i)
  | .str x=>some (.inr x)
  | _=>none
def getK (ks:List Key) (l:List D) (k:Key):Option D:=match ks,l with
  | a :: r,d :: t=>if a=k then some d else getK r t k
  | _,_=>none
def putL (ks:List Key) (l:List D) (k:Key) (x:D):List D:=match ks,l with
  | a :: r,d :: t=>(if a=k then x else d) :: putL r t k x
  | _,t=>t
def putD (ks:List Key) (l:List D) (k:Key) (x:D):D:=if ks.any (fun a=>decide (a=k))=true then .dct ks (putL ks l k x) else .dct (ks ++ [k]) (l ++ [x])
section
variable {K:Kx} {F H:Hp}
theorem zi0 {d:D} {v:V} {k:Key} (h:asK d=some k) (r:Rep K F d v):v=kV k:=by
  cases d with
  | int i=>cases h; simp only [Rep] at r; exact r
  | str i=>cases h; simp only [Rep] at r; exact r
  | _=>cases h
theorem zk8 {k:Key}:∀ {kvs:List (Key × V)} {ks:List Key} {l:List D},kvs.map (·.1)=ks→RepL K F l (kvs.map (·.2)) →
    (∀ d,getK ks l k=some d→∃ v,valV kvs k=some v∧Rep K F d v)∧(getK ks l k=none→valV kvs k=none)
  | [],ks,l,h1,h2=>by
    subst h1
    refine ⟨fun d h=>?_,fun _=>rfl⟩
    simp [getK] at h
  | (a,v) :: kvs,ks,l,h1,h2=>by
    subst h1
    cases l with
    | nil=>simp [RepL] at h2
    | cons d t =>
      simp only [List.map_cons,RepL] at h2
      obtain ⟨v',r,e,h3,h4⟩:=h2
      cases e
      have ih:=zk8 (k:=k) (kvs:=kvs) rfl h4
      simp only [List.map_cons,getK]
      by_cases hk:a=k
      · rw [if_pos hk]
        refine ⟨fun d' e=>?_,fun e=>by cases e⟩
        cases e
        exact ⟨v,by simp [valV,hk],h3⟩
      · rw [if_neg hk]
        have e:valV ((a,v) :: kvs) k=valV kvs k:=by simp [valV,hk]
        rw [e]
        exact ih
theorem zrg {kvs:List (Key × V)} {ks:List Key} (h:kvs.map (·.1)=ks):kvs.length=ks.length:=by rw [← h,List.length_map]
theorem zlB {k:Key} {x:D} {u:V} (hu:Rep K F x u):∀ {kvs:List (Key × V)} {ks:List Key} {l:List D},kvs.map (·.1)=ks→RepL K F l (kvs.map (·.2)) →
    RepL K F (putL ks l k x) ((kvs.map (fun kv=>if kv.1=k then (kv.1,u) else kv)).map (·.2))
  | [],ks,l,h1,h2=>by
    subst h1
    cases l with
    | nil=>exact .nil
    | cons d t=>simp [RepL] at h2
  | (a,v) :: kvs,ks,l,h1,h2=>by
    subst h1
    cases l with
    | nil=>simp [RepL] at h2
    | cons d t =>
      simp only [List.map_cons,RepL] at h2
      obtain ⟨v',r,e,h3,h4⟩:=h2
      cases e
      have ih:=zlB (k:=k) hu (kvs:=kvs) rfl h4
      simp only [List.map_cons,putL]
      refine .cons ?_ ih
      by_cases hk:a=k
      · rw [if_pos hk,if_pos hk]; exact hu
      · rw [if_neg hk,if_neg hk]; exact h3
theorem zqh {k:Key} {x:D} {u:V} {a:Addr} (hu:Rep K F x u) {kvs:List (Key × V)} {ks:List Key} {l:List D} (h1:kvs.map (·.1)=ks) (h2:RepL K F l (kvs.map (·.2))):Own K F (upd H a (.dK (putK kvs k u))) (putD ks l k x) a:=by
  have e:ks.any (fun a=>decide (a=k))=kvs.any (fun kv=>decide (kv.1=k)):=by rw [← h1,List.any_map]; rfl
  unfold putD putK
  rw [e]
  split
  · refine ⟨_,zaj,?_,zlB hu h1 h2⟩
    rw [← h1,List.map_map]
    refine List.map_congr_left fun kv _=>?_
    simp only [Function.comp]
    split <;> rfl
  · exact ⟨_,zaj,by rw [List.map_append,h1]; rfl,by rw [List.map_append]; exact h2.append (.cons hu .nil)⟩
end
section
variable {K:Kx} {XO:XOT} {E:St→XK} {ta tb te ty td:TE} {ma mb me my md:En→R D} {t u:TS} {m n:En→O} {Λ:List (Nat × Addr × HO)} {F0 H0 F H F1 H1:Hp} {σ:St} {δ:En} {Dn:Ends}
theorem EnvOk.own {i:Nat} {d:D} (I:EnvOk K Λ F0 H0 F H σ δ) (hx:δ[i]?=some (.o d)):∃ a,σ[i]?=some (some (.ref a))∧Own K F H d a:=by
  have z:=I.slot i
  rw [hx] at z
  obtain ⟨a,z1,z2,z3,z4⟩:=z
  exact ⟨a,z1,z4⟩
def zbo (i:Nat) (me:En→R D) (δ:En):O:=match δ[i]? with
  | some (.o (.lst l))=>(me δ).toO δ fun d=>ifC (l.length < sizeLine) (.nx (δ.set i (.o (.lst (l ++ [d]))))) .no
  | _=>.no
theorem zbR {i:Nat} (h:SE K XO E te me):SS K XO E (zkS (tBM K.f "list" ziY (tVar i) (zby te tNil))) (zbo i me):=by
  intro Λ F0 H0 F H σ δ Dn I a
  unfold zbo at a
  split at a
  · rename_i l q
    obtain ⟨p,s1,vs,s2,s3⟩:=I.own q
    refine ⟨_,s1,.inl ⟨rfl,vs,.inl (.inl s2)⟩,?_⟩
    refine h Λ F0 H0 F H σ δ _ I ((AftS.of I a).imp fun d F1 H1 e c v r=>?_)
    unfold ifC at c
    split at c
    · rename_i hl
      refine ⟨p,vs,v,rfl,rfl,e.hh _ _ s2,by rw [s3.length]; exact hl,?_⟩
      exact c σ F1 _ ((I.grow e).chg q s1 ⟨_,zaj,(s3.mono e.ff).append (.cons r .nil)⟩)
    · exact c.elim
  · exact a.elim
def ziV (i:Nat) (mk me:En→R D) (δ:En):O:=match δ[i]? with
  | some (.o (.dct ks l))=>(me δ).toO δ fun d=>(mk δ).toO δ fun k=>match asK k with
    | some k=>ifC (ks.length < sizeLine) (.nx (δ.set i (.o (putD ks l k d)))) .no
    | none=>.no
  | _=>.no
theorem zlI {i:Nat} {tk:TE} {mk:En→R D} (hk:SE K XO E tk mk) (h:SE K XO E te me):SS K XO E (zoA (tVar i) tk te) (ziV i mk me):=by
  intro Λ F0 H0 F H σ δ Dn I a
  unfold ziV at a
  split at a
  · rename_i ks l q
    obtain ⟨p,s1,vs,s2,s0,s3⟩:=I.own q
    refine h Λ F0 H0 F H σ δ _ I ((AftS.of I a).imp fun d F1 H1 e c v r=>⟨_,s1,?_⟩)
    refine hk Λ F0 H0 F1 H1 σ δ _ (I.grow e) ((AftS.of (I.grow e) c).imp fun k F2 H2 e2 c2 v2 r2=>?_)
    cases z:asK k with
    | none=>rw [z] at c2; exact c2.elim
    | some k =>
      rw [z] at c2
      dsimp only at c2
      unfold ifC at c2
      split at c2
      · rename_i hl
        cases zi0 z r2
        refine ⟨p,_,rfl,DPut.k (e2.hh _ _ (e.hh _ _ s2)) (by rw [zrg s0]; exact hl),?_⟩
        exact c2 σ F2 _ (((I.grow e).grow e2).chg q s1 (zqh (Rep.mono e2.ff _ r) s0 ((s3.mono e.ff).mono e2.ff)))
      · exact c2.elim
  · exact a.elim
theorem znj {ks:List Key} {l:List D} {x:V} {k:Key} (h:Top K F H (.dct ks l) x):∃ p o,x = .ref p∧DGet H p (kV k) o∧(∀ d,getK ks l k=some d→∃ v,o=some v∧Rep K F d v)∧(getK ks l k=none→o=none):=by
  obtain ⟨a,kvs,rfl,h1,h2,h3⟩:=h
  exact ⟨a,_,rfl,.k h1,zk8 h2 h3⟩
def i2 (f:Int→Int→D) (x y:D):Option D:=match x,y with | .int i,.int j=>some (f i j) | _,_=>none
def i2c (C:Int→Int→Prop) (f:Int→Int→D) (x y:D):Option D:=match x,y with | .int i,.int j=>ifC (C i j) (some (f i j)) none | _,_=>none
theorem znx {g:Int→Int→V} {f:Int→Int→D} (h:∀ i j F,Rep K F (f i j) (g i j)):SR K (rI0 g) (i2 f):=by
  intro F H x y dx dy d Q s hx hy e q
  cases dx with
  | int i =>
    cases dy with
    | int j =>
      cases e
      simp only [Top,Rep] at hx hy
      exact ⟨i,j,hx,hy,q _ F H (.refl s) (h i j F)⟩
    | _=>cases e
  | _=>cases e
theorem zjO {C:Int→Int→Prop} {g:Int→Int→V} {f:Int→Int→D} (h:∀ i j F,Rep K F (f i j) (g i j)):SR K (rI C g) (i2c C f):=by
  intro F H x y dx dy d Q s hx hy e q
  cases dx with
  | int i =>
    cases dy with
    | int j =>
      simp only [Top,Rep] at hx hy
      simp only [i2c] at e
      unfold ifC at e
      split at e
      · rename_i hc
        cases e
        exact ⟨i,j,hx,hy,hc,q _ F H (.refl s) (h i j F)⟩
      · cases e
    | _=>cases e
  | _=>cases e
def oAdd:D→D→Option D:=i2 fun i j=>.int (i + j)
def oSub:D→D→Option D:=i2 fun i j=>.int (i - j)
def oMul:D→D→Option D:=i2c (fun i j=>Fit i∧Fit j) fun i j=>.int (i * j)
def oDiv:D→D→Option D:=i2c (fun _ j=>j ≠ 0∧Fit j) fun i j=>.int (i.fdiv j)
def oMod:D→D→Option D:=i2c (fun _ j=>0 < j) fun i j=>.int (i % j)
def oPow:D→D→Option D:=i2c CPow fun i j=>.int (i ^ j.toNat)
def oLt:D→D→Option D:=i2 fun i j=>.bl (decide (i < j))
def oGt:D→D→Option D:=i2 fun i j=>.bl (decide (j < i))
theorem zbr:SR K (rI0 fun i j=>.int (i + j)) oAdd:=znx fun _ _ _=>by simp only [Rep]
theorem zis:SR K (rI0 fun i j=>.int (i - j)) oSub:=znx fun _ _ _=>by simp only [Rep]
theorem zdS:SR K (rI (fun i j=>Fit i∧Fit j) fun i j=>.int (i * j)) oMul:=zjO fun _ _ _=>by simp only [Rep]
theorem zil:SR K (rI (fun _ j=>j ≠ 0∧Fit j) fun i j=>.int (i.fdiv j)) oDiv:=zjO fun _ _ _=>by simp only [Rep]
theorem zex:SR K (rI (fun _ j=>0 < j) fun i j=>.int (i % j)) oMod:=zjO fun _ _ _=>by simp only [Rep]
theorem zn5:SR K (rI CPow fun i j=>.int (i ^ j.toNat)) oPow:=zjO fun _ _ _=>by simp only [Rep]
theorem zqE:SR K (rI0 fun i j=>.bl (decide (i < j))) oLt:=znx fun _ _ _=>by simp only [Rep]
theorem zm0:SR K (rI0 fun i j=>.bl (decide (j < i))) oGt:=znx fun _ _ _=>by simp only [Rep]
def oNeg:D→Option D
  | .int i=>some (.int (-i))
  | _=>none
theorem zg2:SU K (rU fun i=>.int (-i)) oNeg:=by
  intro F H x dx d Q s hx e q
  cases dx with
  | int i=>cases e; simp only [Top,Rep] at hx; exact ⟨i,hx,q _ F H (.refl s) (by simp only [Rep])⟩
  | _=>cases e
def fl:D→Option V
  | .non=>some .non
  | .bl b=>some (.bl b)
  | .int i=>some (.int i)
  | .str x=>some (.str x)
  | _=>none
theorem zjL {d:D} {v x:V} (h:fl d=some v) (r:Top K F H d x):x=v:=by
  cases d with
  | non=>cases h; simpa only [Top,Rep] using r
  | bl _=>cases h; simpa only [Top,Rep] using r
  | int _=>cases h; simpa only [Top,Rep] using r
  | str _=>cases h; simpa only [Top,Rep] using r
  | _=>cases h
def oEq (x y:D):Option D:=match fl x,fl y with | some a,some b=>if scal a b=true then some (.bl (decide (a=b))) else none | _,_=>none
def oNe (x y:D):Option D:=match fl x,fl y with | some a,some b=>if scal a b=true then some (.bl (!decide (a=b))) else none | _,_=>none
theorem zhD:SR K rEq oEq:=by
  intro F H x y dx dy d Q s hx hy e q
  unfold oEq at e
  split at e
  · rename_i a b h1 h2
    split at e
    · rename_i hs
      cases e
      cases zjL h1 hx; cases zjL h2 hy
      exact ⟨hs,q _ F H (.refl s) (by simp only [Rep])⟩
    · cases e
  · cases e
theorem zma:SR K rNe oNe:=by
  intro F H x y dx dy d Q s hx hy e q
  unfold oNe at e
  split at e
  · rename_i a b h1 h2
    split at e
    · rename_i hs
      cases e
      cases zjL h1 hx; cases zjL h2 hy
      exact ⟨hs,q _ F H (.refl s) (by simp only [Rep])⟩
    · cases e
  · cases e
def isN:D→Bool
  | .non=>true
  | _=>false
theorem zpH {d:D} {x:V} (r:Top K F H d x):decide (x = .non)=isN d:=by
  cases d with
  | non=>simp only [Top,Rep] at r; subst r; rfl
  | bl _=>simp only [Top,Rep] at r; subst r; rfl
  | int _=>simp only [Top,Rep] at r; subst r; rfl
  | str _=>simp only [Top,Rep] at r; subst r; rfl
  | tup _=>simp only [Top,Rep] at r; obtain ⟨a,_,rfl,_⟩:=r; rfl
  | lst _=>obtain ⟨a,_,rfl,_⟩:=r; rfl
  | dct _ _=>obtain ⟨a,_,rfl,_⟩:=r; rfl
  | scr _=>simp only [Top,Rep] at r; obtain ⟨a,rfl,_⟩:=r; rfl
  | exc _=>simp only [Top,Rep] at r; obtain ⟨a,_,rfl,_⟩:=r; rfl
  | fd _ _=>simp only [Top,Rep] at r; obtain ⟨a,_,_,rfl,_⟩:=r; rfl
  | obj _ _ _=>simp only [Top,Rep] at r; obtain ⟨a,_,_,rfl,_⟩:=r; rfl
def oIs (x y:D):Option D:=match y with | .non=>some (.bl (isN x)) | _=>none
theorem zq8:SR K (fun x y H Q=>y = .non∧Q (.bl (decide (x = .non))) H) oIs:=by
  intro F H x y dx dy d Q s hx hy e q
  cases dy with
  | non=>cases e; simp only [Top,Rep] at hy; exact ⟨hy,q _ F H (.refl s) (by simp only [Rep]; rw [zpH hx])⟩
  | _=>cases e
def oIxL (x y:D):Option D:=match x,y with | .lst l,.int i=>atI l i | .scr l,.int i=>(atI l i).map .int | _,_=>none
def oIxT (x y:D):Option D:=match x,y with | .tup l,.int i=>atI l i | _,_=>none
theorem zjk {l:List D} {vs:List V} {i:Int} {d:D} (r:RepL K F l vs) (h:atI l i=some d):∃ v,atI vs i=some v∧Rep K F d v:=by
  unfold atI at h ⊢
  rw [r.length]
  cases q:ixN l.length i with
  | none=>rw [q] at h; cases h
  | some j=>rw [q] at h; exact r.get h
theorem zaL:SR K (rIxL K.f) oIxL:=by
  intro F H x y dx dy d Q s hx hy e q
  cases dx with
  | lst l =>
    cases dy with
    | int i =>
      obtain ⟨a,vs,rfl,h1,h2⟩:=hx
      simp only [Top,Rep] at hy
      obtain ⟨v,g1,g2⟩:=zjk h2 e
      exact ⟨a,vs,i,v,rfl,hy,.inl h1,g1,q _ F H (.refl s) g2⟩
    | _=>cases e
  | scr l =>
    cases dy with
    | int i =>
      simp only [Top,Rep] at hx hy
      obtain ⟨a,rfl,h1⟩:=hx
      simp only [oIxL] at e
      cases z:atI l i with
      | none=>rw [z] at e; cases e
      | some n =>
        rw [z] at e; cases e
        obtain ⟨v,g1,g2⟩:=zjk (F:=F) (K:=K) (l:=l.map .int) (vs:=l.map V.int) (i:=i) (d:=.int n) .ints (by
          unfold atI at z ⊢
          rw [List.length_map]
          cases q:ixN l.length i with
          | none=>rw [q] at z; cases z
          | some j =>
            rw [q] at z
            change l[j]?=some n at z
            show (l.map D.int)[j]?=_
            rw [List.getElem?_map,z]; rfl)
        exact ⟨a,_,i,v,rfl,hy,s.seq h1,g1,q _ F H (.refl s) g2⟩
    | _=>cases e
  | _=>cases e
theorem zcp:SR K (rIxT K.f) oIxT:=by
  intro F H x y dx dy d Q s hx hy e q
  cases dx with
  | tup l =>
    cases dy with
    | int i =>
      simp only [Top,Rep] at hx hy
      obtain ⟨a,vs,rfl,h1,h2⟩:=hx
      obtain ⟨v,g1,g2⟩:=zjk h2 e
      exact ⟨a,vs,i,v,rfl,hy,.inl (.inl (s _ _ h1)),g1,q _ F H (.refl s) g2⟩
    | _=>cases e
  | _=>cases e
end
end PM
namespace PM
open PySem L2
section
variable {K:Kx} {XO:XOT} {E:St→XK} {ta tb te ty td:TE} {ma mb me my md:En→R D} {t u:TS} {m n:En→O} {Λ:List (Nat × Addr × HO)} {F0 H0 F H F1 H1:Hp} {σ:St} {δ:En} {Dn:Ends}
abbrev EN:St→XK:=fun _ _ _ _=>False
def zkq:Sl→Sl
  | .o d=>.l d
  | .p _=>.no
  | s=>s
def zaO (δ:En) (ix:List Nat) (n:Nat):En:=ix.map (fun i=>zkq (δ[i]?.getD .no)) ++ List.replicate n .no
def zcK (f:D→R (Option D)):List D→R (List D)
  | []=>.ok []
  | d :: l=>(f d).bind fun o=>(zcK f l).bind fun r=>.ok (o.toList ++ r)
def zdZ (b:D→En→Option En) (nc:Option (En→R Bool)) (me:En→R D) (δ:En) (d:D):R (Option D):=match b d δ with
  | none=>.no
  | some δ1=>(match nc with
    | none=>(me δ1).nev.bind fun x=>.ok (some x)
    | some c=>(c δ1).nev.bind fun k=>if k=true then (me δ1).nev.bind fun x=>.ok (some x) else .ok none)
def ze6 (mi:En→R (List D)) (ix:List Nat) (n:Nat) (b:D→En→Option En) (nc:Option (En→R Bool)) (me:En→R D) (δ:En):R D :=
  (mi δ).bind fun ds=>ifC (ds.length ≤ sizeLine) ((zcK (zdZ b nc me (zaO δ ix n)) ds).nev.bind fun l=>.ok (.lst l)) .no
theorem ziE {ix:List Nat} {n:Nat} (I:EnvOk K Λ F0 H0 F H σ δ) (hix:ix.Nodup) :
    ∃ Λc,EnvOk K Λc F0 H0 F H (zcz σ ix n) (zaO δ ix n)∧(∀ i:Nat,Sl.own (zaO δ ix n)[i]?=true→∃ x ∈ Λc,x.1=i)∧∀ x ∈ Λc,∃ o,H x.2.1=some o:=by
  have gd:∀ j:Nat,j < ix.length→(zaO δ ix n)[j]?=some (zkq (δ[ix.getD j 0]?.getD .no)):=fun j hj=>by
    unfold zaO
    rw [List.getElem?_append_left (by simpa using hj),List.getElem?_map,List.getElem?_eq_getElem hj]
    simp [List.getD_eq_getElem?_getD,List.getElem?_eq_getElem hj]
  have gs:∀ j:Nat,j < ix.length→(zcz σ ix n)[j]?=some ((σ[ix.getD j 0]?).getD none):=fun j hj=>by
    unfold zcz
    rw [List.getElem?_append_left (by simpa using hj),List.getElem?_map,List.getElem?_eq_getElem hj]
    simp [List.getD_eq_getElem?_getD,List.getElem?_eq_getElem hj]
  have gn:∀ j:Nat,¬ j < ix.length→(zaO δ ix n)[j]?=some .no∨(zaO δ ix n)[j]?=none:=fun j hj=>by
    unfold zaO
    rw [List.getElem?_append_right (by simpa using hj),List.getElem?_replicate]
    split
    · exact .inl rfl
    · exact .inr rfl
  have own:∀ j:Nat,Sl.own (zaO δ ix n)[j]?=true→j < ix.length∧∃ d a o,δ[ix.getD j 0]?=some d∧Sl.own (some d)=true∧(zaO δ ix n)[j]?=some (zkq d)∧(∃ e,zkq d = .l e)∧σ[ix.getD j 0]?=some (some (.ref a))∧(zcz σ ix n)[j]?=some (some (.ref a))∧H a=some o∧H0 a=none∧F a=none:=fun j h=>by
    by_cases hj:j < ix.length
    · refine ⟨hj,?_⟩
      rw [gd j hj] at h
      have z:=I.slot (ix.getD j 0)
      cases q:δ[ix.getD j 0]? with
      | none=>rw [q] at h; cases h
      | some s =>
        rw [q] at h z
        cases s with
        | no=>cases h
        | v d=>cases h
        | o d =>
          obtain ⟨a,z1,z2,z3,z4⟩:=z
          obtain ⟨o,ho⟩:=z4.obj
          exact ⟨_,a,o,rfl,rfl,by rw [gd j hj,q]; rfl,⟨d,rfl⟩,z1,by rw [gs j hj,z1]; rfl,ho,z2,z3⟩
        | l d =>
          obtain ⟨a,z1,z2,z3,z4⟩:=z
          obtain ⟨o,ho⟩:=z4.obj
          exact ⟨_,a,o,rfl,rfl,by rw [gd j hj,q]; rfl,⟨d,rfl⟩,z1,by rw [gs j hj,z1]; rfl,ho,z2,z3⟩
        | p ll=>cases h
    · rcases gn j hj with z | z <;> (rw [z] at h; cases h)
  let Λc:List (Nat × Addr × HO):=(List.range ix.length).filterMap fun (j:Nat)=>match (zcz σ ix n)[j]? with
    | some (some (V.ref a))=>if Sl.own (zaO δ ix n)[j]?=true then (H a).map fun o=>(j,a,o) else none
    | _=>none
  have mem:∀ x ∈ Λc,(zcz σ ix n)[x.1]?=some (some (.ref x.2.1))∧Sl.own (zaO δ ix n)[x.1]?=true∧H x.2.1=some x.2.2:=fun x hx=>by
    obtain ⟨j,_,h⟩:=List.mem_filterMap.mp hx
    split at h
    · rename_i a q
      split at h
      · rename_i ow
        cases q2:H a with
        | none=>rw [q2] at h; cases h
        | some o=>rw [q2] at h; cases h; exact ⟨q,ow,q2⟩
      · cases h
    · cases h
  have ziS:∀ (j:Nat) (ll:Tr),(zaO δ ix n)[j]? ≠ some (.p ll):=fun j ll h=>by
    by_cases hj:j < ix.length
    · rw [gd j hj] at h
      cases q:δ[ix.getD j 0]? with
      | none=>rw [q] at h; cases h
      | some s=>rw [q] at h; cases s <;> cases h
    · rcases gn j hj with z | z <;> (rw [z] at h; cases h)
  refine ⟨Λc,⟨I.ext,?_,fun j=>?_,fun i j a hij h1 h2 h3 h4=>?_,fun x hx=>?_,fun j ll h=>absurd h (ziS j ll)⟩,fun j h=>?_,fun x hx=>⟨_,(mem x hx).2.2⟩⟩
  · unfold zcz zaO
    simp
  · by_cases hj:j < ix.length
    · rw [gd j hj,gs j hj]
      have z:=I.slot (ix.getD j 0)
      cases q:δ[ix.getD j 0]? with
      | none=>trivial
      | some s =>
        rw [q] at z
        cases s with
        | no=>trivial
        | v d=>obtain ⟨u,z1,z2⟩:=z; exact ⟨u,by rw [z1]; rfl,z2⟩
        | o d=>obtain ⟨a,z1,z2⟩:=z; exact ⟨a,by rw [z1]; rfl,z2⟩
        | l d=>obtain ⟨a,z1,z2⟩:=z; exact ⟨a,by rw [z1]; rfl,z2⟩
        | p ll=>trivial
    · rcases gn j hj with z | z <;> (rw [z]; trivial)
  · obtain ⟨i1,d1,a1,o1,i2,i3,i4,i5,i6,i7,i8⟩:=own i h1
    obtain ⟨j1,d2,a2,o2,j2,j3,j4,j5,j6,j7,j8⟩:=own j h2
    rw [i7] at h3; cases h3
    rw [j7] at h4; cases h4
    refine I.dist (ix.getD i 0) (ix.getD j 0) a (fun e=>hij ?_) (by rw [i2]; exact i3) (by rw [j2]; exact j3) i6 j6
    rw [List.getD_eq_getElem?_getD,List.getD_eq_getElem?_getD,List.getElem?_eq_getElem i1,List.getElem?_eq_getElem j1] at e
    exact ((List.getElem?_inj i1 hix).mp (by rw [List.getElem?_eq_getElem i1,List.getElem?_eq_getElem j1]; exact congrArg some e))
  · obtain ⟨m1,m2,m3⟩:=mem x hx
    obtain ⟨_,d,_,_,_,_,h4,⟨e,h5⟩,_⟩:=own x.1 m2
    exact ⟨⟨e,by rw [h4,h5]⟩,m1,m3⟩
  · obtain ⟨i1,d1,a1,o1,i2,i3,i4,i5,i6,i7,i8,_⟩:=own j h
    refine ⟨(j,a1,o1),List.mem_filterMap.mpr ⟨j,List.mem_range.mpr i1,?_⟩,rfl⟩
    rw [i7]
    show (if Sl.own (zaO δ ix n)[j]?=true then (H a1).map fun o=>(j,a1,o) else none)=_
    rw [if_pos h,i8]
    rfl
theorem EnvOk.side {p:Addr} {w:HO} (I:EnvOk K Λ F0 H0 F H σ δ) (ho:∀ i:Nat,Sl.own δ[i]?=true→∃ x ∈ Λ,x.1=i) (hp:∀ x ∈ Λ,x.2.1 ≠ p) (h0:H0 p=none) (h1:F p=none):EnvOk K Λ F0 H0 F (upd H p w) σ δ:=by
  have ne:∀ (i:Nat) (a:Addr),Sl.own δ[i]?=true→σ[i]?=some (some (.ref a))→a ≠ p:=fun i a h h'=>by
    obtain ⟨x,hx,e⟩:=ho i h
    have z:=(I.lent x hx).2.1
    rw [e,h'] at z
    cases z
    exact hp x hx
  have ziS:∀ (j:Nat) (ll:Tr),δ[j]? ≠ some (.p ll):=fun j ll h=>by
    obtain ⟨x,hx,e⟩:=ho j (by rw [h]; rfl)
    obtain ⟨d,hd⟩:=(I.lent x hx).1
    rw [e,h] at hd; cases hd
  refine ⟨⟨I.ext.ff,fun b o q=>?_,fun b o q=>?_,I.ext.nw⟩,I.len,fun i=>?_,I.dist,fun x hx=>?_,fun j ll h=>absurd h (ziS j ll)⟩
  · rw [zai (zaq q h0)]; exact I.ext.hh b o q
  · rw [zai (zaq q h1)]; exact I.ext.fh b o q
  · have z:=I.slot i
    cases q:δ[i]? with
    | none=>trivial
    | some s =>
      rw [q] at z
      cases s with
      | no=>trivial
      | v d=>exact z
      | o d=>obtain ⟨a,z1,z2,z3,z4⟩:=z; exact ⟨a,z1,z2,z3,z4.at (zai (ne i a (by rw [q]; rfl) z1))⟩
      | l d=>obtain ⟨a,z1,z2,z3,z4⟩:=z; exact ⟨a,z1,z2,z3,z4.at (zai (ne i a (by rw [q]; rfl) z1))⟩
      | p ll=>exact absurd q (ziS i ll)
  · obtain ⟨z1,z2,z3⟩:=I.lent x hx
    exact ⟨z1,z2,by rw [zai (hp x hx)]; exact z3⟩
theorem EnvOk.weakL {δ':En} (w:Weak δ δ') (hl:∀ x ∈ Λ,∃ d,δ[x.1]?=some (.l d)) (I:EnvOk K Λ F0 H0 F H σ δ'):EnvOk K Λ F0 H0 F H σ δ:=by
  refine ⟨I.ext,I.len.trans w.1.symm,fun i=>?_,fun i j a hij h1 h2 h3 h4=>?_,fun x hx=>⟨hl x hx,(I.lent x hx).2⟩,I.tabsOf (fun k ll h=>⟨(w.2 k).elim (fun z=>by rw [z] at h; cases h) fun z=>by rw [← z]; exact h,rfl⟩) (fun _ _ _ _ _ _ t f _=>⟨t,fun b hb=>(f b hb).2⟩) fun k j ll r b bs _ _ _ _ ho hs=>.inl ⟨(w.2 j).elim (fun z=>by rw [z] at ho; cases ho) fun z=>by rw [← z]; exact ho,hs⟩⟩
  · rcases w.2 i with z | z
    · rw [z]; trivial
    · rw [z]; exact I.slot i
  · have ow:∀ k:Nat,Sl.own δ[k]?=true→Sl.own δ'[k]?=true:=fun k h=>by
      rcases w.2 k with z | z
      · rw [z] at h; cases h
      · rw [← z]; exact h
    exact I.dist i j a hij (ow i h1) (ow j h2) h3 h4
theorem zjb {f:D→R (Option D)} {d:D} {l r:List D} (h:(zcK f (d :: l)).nev = .ok r):∃ o r',f d = .ok o∧(zcK f l).nev = .ok r'∧r=o.toList ++ r':=by
  unfold zcK at h
  cases q:f d with
  | no=>rw [q] at h; cases h
  | ex x=>rw [q] at h; cases h
  | ok o =>
    rw [q] at h
    cases q2:zcK f l with
    | no=>rw [R.bind_ok,q2] at h; cases h
    | ex x=>rw [R.bind_ok,q2] at h; cases h
    | ok r'=>rw [R.bind_ok,q2] at h; cases h; exact ⟨o,r',rfl,rfl,rfl⟩
theorem nev_ok {α:Type} {r:R α} {a:α} (h:r.nev = .ok a):r = .ok a:=by
  cases r with
  | no=>cases h
  | ok b=>cases h; rfl
  | ex x=>cases h
theorem zcb {wi:TI} {mi:En→R (List D)} {ix:List Nat} {n:Nat} {g:TG} {b:D→En→Option En} {tc:Option TT} {nc:Option (En→R Bool)}
    (hi:SIc K XO E wi mi) (hix:ix.Nodup) (hg:SG K g b) (hw:BW b) (hc:(tc=none∧nc=none)∨∃ c k,tc=some c∧nc=some k∧ST K XO EN c k) (he:SE K XO EN te me):SEo K XO E (zjx wi ix n g tc te) (ze6 mi ix n b nc me):=by
  intro Λ F0 H0 F H σ δ Q I a
  refine hi Λ F0 H0 F H σ δ _ I (a.bind.imp fun ds F1 H1 e1 a1 J hJ p hp=>?_)
  unfold ifC at a1
  split at a1
  case isFalse=>exact a1.elim
  rename_i hsz
  have I1:=I.grow e1
  obtain ⟨Λc,Ic,hown,hall⟩:=ziE (n:=n) I1 hix
  cases qg:(zcK (zdZ b nc me (zaO δ ix n)) ds).nev with
  | no=>rw [qg] at a1; exact a1.elim
  | ex x=>cases q2:zcK (zdZ b nc me (zaO δ ix n)) ds <;> (rw [q2] at qg; cases qg)
  | ok l =>
  rw [qg] at a1
  have hlent:∀ x ∈ Λc,∃ d,(zaO δ ix n)[x.1]?=some (.l d):=fun x hx=>(Ic.lent x hx).1
  have hpn:∀ x ∈ Λc,x.2.1 ≠ p:=fun x hx e=>by
    obtain ⟨o,ho⟩:=hall x hx
    rw [e,hp] at ho; cases ho
  have p0:H0 p=none:=I1.ext.hh.free hp
  have f1:F1 p=none:=e1.fh.free hp
  refine ⟨fun i k ys σ2 H2=>∃ F2 l1 l2,EnvOk K Λc F0 H0 F2 H2 σ2 (zaO δ ix n)∧Ext F1 H1 F2 H2∧H2 p=some (.lst ys)∧F2 p=none∧RepL K F2 l1 ys∧(zcK (zdZ b nc me (zaO δ ix n)) (ds.drop i)).nev = .ok l2∧l=l1 ++ l2∧k=ds.length - i∧i ≤ ds.length∧ys.length ≤ i,
    ⟨_,F1,[],l,?_,.newO e1.fh hp,zaj,f1,.nil,qg,rfl,rfl,Nat.zero_le _,Nat.le_refl _⟩,?_⟩
  · exact Ic.grow (.newO e1.fh hp)
  rintro i k ys σ2 H2 ⟨F2,l1,l2,I2,x2,hD,hF,r,qd,rfl,rfl,hil,hys⟩
  refine ⟨hD,?_⟩
  by_cases hlt:i < ds.length
  · have e:ds.drop i=ds[i] :: ds.drop (i + 1):=List.drop_eq_getElem_cons hlt
    rw [e] at qd
    obtain ⟨o,l3,q1,q3,rfl⟩:=zjb qd
    obtain ⟨h1,h2⟩:=(hJ F2 H2 x2 i).1 ds[i] (by simp [hlt])
    refine .inr ⟨h1,fun ys' σ' H'=>∃ F' l1',EnvOk K Λc F0 H0 F' H' σ' (zaO δ ix n)∧Ext F1 H1 F' H'∧H' p=some (.lst ys')∧F' p=none∧RepL K F' l1' ys'∧l1 ++ (o.toList ++ l3)=l1' ++ l3∧ys'.length ≤ i + 1,
      fun ys' σ' H' ⟨F',l1',w1,w2,w3,w4,w5,w6,w7⟩=>⟨_,by omega,F',l1',l3,w1,w2,w3,w4,w5,q3,w6,rfl,hlt,w7⟩,fun x H' y=>?_⟩
    obtain ⟨F3,e3,rx⟩:=h2 x H' y
    have hp2:∀ {F5 H5:Hp},Ext F2 H2 F5 H5→H5 p=some (.lst ys)∧F5 p=none:=fun z=>⟨z.hh _ _ hD,z.nw p _ hF hD⟩
    unfold zdZ at q1
    cases qb:b ds[i] (zaO δ ix n) with
    | none=>rw [qb] at q1; cases q1
    | some δ1 =>
      rw [qb] at q1
      have hwk:=hw _ _ _ qb
      refine hg Λc F0 H0 F3 H' σ2 _ _ x δ1 _ (I2.grow e3) rx qb fun σ3 I3=>?_
      have fin:∀ F4 H4,Ext F3 H' F4 H4→(me δ1).nev.bind (fun x=>R.ok (some x)) = .ok o→te σ3 H4 fun y H5=>H5 p=some (.lst ys)∧ys.length < sizeLine ∧
          ∃ F' l1',EnvOk K Λc F0 H0 F' (upd H5 p (.lst (ys ++ [y]))) σ3 (zaO δ ix n)∧Ext F1 H1 F' (upd H5 p (.lst (ys ++ [y])))∧upd H5 p (.lst (ys ++ [y])) p=some (.lst (ys ++ [y]))∧F' p=none∧RepL K F' l1' (ys ++ [y])∧l1 ++ (o.toList ++ l3)=l1' ++ l3∧(ys ++ [y]).length ≤ i + 1:=by
        intro F4 H4 e4 qe
        cases qm:me δ1 with
        | no=>rw [qm] at qe; cases qe
        | ex x=>rw [qm] at qe; cases qe
        | ok d =>
          rw [qm] at qe
          cases qe
          refine he Λc F0 H0 F4 H4 σ3 δ1 _ (I3.grow e4) ?_
          rw [qm]
          intro F5 H5 e5 v rv
          have z:=e3.trans (e4.trans e5)
          obtain ⟨z1,z2⟩:=hp2 z
          refine ⟨z1,by omega,F5,l1 ++ [d],(((I3.grow e4).grow e5).weakL hwk hlent).side hown hpn p0 z2,?_,zaj,z2,(r.mono z.ff).append (.cons rv .nil),by simp,by simpa using hys⟩
          have w:=x2.trans z
          exact ⟨w.ff,fun c o q=>by rw [zai (zaq q hp)]; exact w.hh c o q,fun c o q=>by rw [zai (zaq q z2)]; exact w.fh c o q,w.nw⟩
      rcases hc with ⟨rfl,rfl⟩ | ⟨c,kc,rfl,rfl,hcc⟩
      · have z:=fin F3 H' (.refl e3.fh) q1
        unfold zjY
        simp only [if_true]
        exact z
      · simp only at q1
        refine hcc Λc F0 H0 F3 H' σ3 δ1 _ I3 ?_
        cases qk:kc δ1 with
        | no=>rw [qk] at q1; cases q1
        | ex x=>rw [qk] at q1; cases q1
        | ok bb =>
          rw [qk] at q1
          intro F4 H4 e4
          cases bb with
          | true=>rw [if_pos rfl]; exact fin F4 H4 e4 q1
          | false =>
            rw [if_neg Bool.false_ne_true]
            have eo:o=none:=by
              rw [R.nev_ok,R.bind_ok,if_neg Bool.false_ne_true] at q1
              cases q1; rfl
            subst eo
            have z:=e3.trans e4
            obtain ⟨z1,z2⟩:=hp2 z
            exact ⟨F4,l1,(I3.grow e4).weakL hwk hlent,x2.trans z,z1,z2,r.mono z.ff,rfl,by omega⟩
  · have e:i=ds.length:=by omega
    subst e
    rw [List.drop_length] at qd
    cases qd
    refine .inl ⟨(hJ F2 H2 x2 _).2 (by simp),a1 F2 H2 x2 p hF (e1.hh.free hp) ⟨ys,hD,?_⟩⟩
    rw [List.append_nil]
    exact r
def zdt (n:Nat) (ds:List D):En:=ds.map .v ++ List.replicate n .no
def runF (np nv:Nat) (m:En→O) (ds:List D):R D:=if ds.length=np then (match m (zdt nv ds) with | .rt d=>.ok d | .nx _=>.ok .non | .ex _ x=>.ex x | _=>.no) else .no
theorem zjM {np nv:Nat} {N:List Str} {ds:List D} {vs:List V} (s:Same F H) (r:RepL K F ds vs) (hn:N.length=np + nv) (hl:ds.length=np):EnvOk K [] F H F H (L2.start N vs) (zdt nv ds):=by
  have hv:=r.length
  unfold L2.start zdt
  have en:N.length - vs.length=nv:=by omega
  rw [en]
  refine ⟨.refl s,by simp [hv],fun i=>?_,fun i j a _ h1 _ _ _=>?_,fun x hx=>(by cases hx),fun i ll h1=>(by
    by_cases hi:i < ds.length
    · rw [List.getElem?_append_left (by simpa using hi),List.getElem?_map,List.getElem?_eq_getElem hi] at h1
      cases h1
    · rw [List.getElem?_append_right (by simpa using hi),List.getElem?_replicate] at h1
      split at h1 <;> cases h1)⟩
  · by_cases hi:i < ds.length
    · rw [List.getElem?_append_left (by simpa using hi),List.getElem?_append_left (by simp; omega),List.getElem?_map,List.getElem?_map,List.getElem?_eq_getElem hi]
      obtain ⟨v,h1,h2⟩:=r.get (List.getElem?_eq_getElem hi)
      rw [h1]
      exact ⟨v,rfl,h2⟩
    · rw [List.getElem?_append_right (by simpa using hi),List.getElem?_replicate]
      split <;> trivial
  · by_cases hi:i < ds.length
    · rw [List.getElem?_append_left (by simpa using hi),List.getElem?_map,List.getElem?_eq_getElem hi] at h1
      cases h1
    · rw [List.getElem?_append_right (by simpa using hi),List.getElem?_replicate] at h1
      split at h1 <;> cases h1
theorem zft {np nv:Nat} {N:List Str} {vs:List V} {Q:VK} {E:XK} (h:SS K XO (fun _=>E) t m) (hn:N.length=np + nv) (sp:spM K XO (runF np nv m) vs H Q E):t { nx:=fun _ H'=>Q .non H',rt:=Q } (L2.start N vs) H:=by
  obtain ⟨F,ds,s,r,a⟩:=sp
  unfold runF at a
  split at a
  · rename_i hl
    refine h [] F H F H _ _ _ (zjM s r hn hl) ?_
    cases q:m (zdt nv ds) with
    | no=>rw [q] at a; exact a
    | nx δ=>rw [q] at a; exact fun σ F' H' I=>a F' H' I.ext _ (by simp only [Rep])
    | rt d=>rw [q] at a; exact fun v F' H' e r=>a F' H' e v r
    | ro d=>rw [q] at a; exact a.elim
    | bk δ=>rw [q] at a; exact a.elim
    | ct δ=>rw [q] at a; exact a.elim
    | ex δ x=>rw [q] at a; exact fun σ F' H' C dct I w=>a C dct F' H' I.ext w
  · exact a.elim
def runO (np nv:Nat) (m:En→O) (ds:List D):R D:=if ds.length=np then (match m (zdt nv ds) with | .ro d=>.ok d | .ex _ x=>.ex x | _=>.no) else .no
def spO (K:Kx) (XO:XOT) (f:List D→R D):Sp:=fun vs H Q E=>∃ F ds,Same F H∧RepL K F ds vs∧Aft (fun _=>E) XO [] F H (fun d F' H'=>∀ p,F' p=none→H p=none→Own K F' H' d p→Q (.ref p) H') (f ds)
theorem zdw {np nv:Nat} {N:List Str} {vs:List V} {Q:VK} {E:XK} (h:SS K XO (fun _=>E) t m) (hn:N.length=np + nv) (sp:spO K XO (runO np nv m) vs H Q E):t { nx:=fun _ H'=>Q .non H',rt:=Q } (L2.start N vs) H:=by
  obtain ⟨F,ds,s,r,a⟩:=sp
  unfold runO at a
  split at a
  · rename_i hl
    refine h [] F H F H _ _ _ (zjM s r hn hl) ?_
    cases q:m (zdt nv ds) with
    | no=>rw [q] at a; exact a
    | nx δ=>rw [q] at a; exact a.elim
    | rt d=>rw [q] at a; exact a.elim
    | ro d=>rw [q] at a; exact fun p F' H' e h0 h1 o=>a F' H' e p h0 h1 o
    | bk δ=>rw [q] at a; exact a.elim
    | ct δ=>rw [q] at a; exact a.elim
    | ex δ x=>rw [q] at a; exact fun σ F' H' C dct I w=>a C dct F' H' I.ext w
  · exact a.elim
theorem zcw {np nv:Nat} {vs:List V} {Q:VK} {E:XK} (sp:spO K XO (runO np nv m) vs H Q E):vs.length=np:=by
  obtain ⟨F,ds,s,r,a⟩:=sp
  unfold runO at a
  split at a
  · rename_i hl; rw [r.length]; exact hl
  · exact a.elim
theorem zcH {np nv:Nat} {vs:List V} {Q:VK} {E:XK} (sp:spM K XO (runF np nv m) vs H Q E):vs.length=np:=by
  obtain ⟨F,ds,s,r,a⟩:=sp
  unfold runF at a
  split at a
  · rename_i hl; rw [r.length]; exact hl
  · exact a.elim
theorem zpT {f:List D→R D} {ns:List Int} {a:Addr} {Q:VK} {E:XK} (hf:f [.scr ns] = .ok (.bl true)) (h:SqL K.f H a (ns.map V.int)) (q:∀ H',Q (.bl true) H'):spM K XO f [.ref a] H Q E:=by
  refine ⟨fun b=>if b=a then H b else none,[.scr ns],fun b o e=>?_,.cons ?_ .nil,?_⟩
  · dsimp only at e
    split at e
    · exact e
    · cases e
  · simp only [Rep]
    refine ⟨a,rfl,?_⟩
    rcases h with (h | ⟨o,h⟩) | h
    · exact .inl (.inl (by dsimp only; rw [if_pos rfl]; exact h))
    · exact .inl (.inr ⟨o,by dsimp only; rw [if_pos rfl]; exact h⟩)
    · exact .inr h
  · rw [hf]
    intro F' H' _ v r
    simp only [Rep] at r
    subst r
    exact q H'
theorem zaQ {f:List D→R D} {tl:TA} {ml:En→R (List D)} {E':XK} (h:SA K XO E tl ml):SEo K XO E (zj9 (spO K XO f) [] E' tl) (zag f ml):=by
  intro Λ F0 H0 F H σ δ Q I a
  refine h Λ F0 H0 F H σ δ _ I (a.bind.imp fun ds F1 H1 e1 a1 vs r=>⟨F1,ds,e1.fh,by rw [List.append_nil]; exact r,?_⟩)
  exact Aft.imp (fun d F2 H2 e2 p q h0 h1 o=>p q h0 (e1.hh.free h1) o) (Aft.any a1)
mutual
def zdG:D→Bool
  | .tup l=>ziF l
  | .lst _=>false
  | .dct _ _=>false
  | .scr _=>false
  | .exc _=>false
  | .fd _ _=>false
  | .obj _ _ _=>false
  | _=>true
def ziF:List D→Bool
  | []=>true
  | d :: l=>zdG d && ziF l
end
variable (K) in
def Bor (F H:Hp) (d:D) (v:V):Prop:=Rep K F d v∨(∃ a,v = .ref a∧Own K F H d a)∨∃ T fp,d=trD T∧TrOk K F H T v fp
variable (K XO E) in
def SAb (t:TA) (m:En→R (List D)):Prop:=∀ Λ F0 H0 F H σ δ Q,EnvOk K Λ F0 H0 F H σ δ→Aft E XO σ F H (fun ds F' H'=>∀ vs,Prd (Bor K F' H') ds vs→Q vs H') (m δ)→t σ H Q
theorem Bor.mono {F H F' H':Hp} (e:Ext F H F' H') {d:D} {v:V}:Bor K F H d v→Bor K F' H' d v
  | .inl h=>.inl (Rep.mono e.ff _ h)
  | .inr (.inl ⟨a,h1,h2⟩)=>.inr (.inl ⟨a,h1,h2.mono e.ff e.hh⟩)
  | .inr (.inr ⟨T,fp,h1,h2⟩)=>.inr (.inr ⟨T,fp,h1,TrOk.mono e.ff e.hh T h2⟩)
theorem zk6:SAb K XO E tNil mNil:=fun Λ F0 H0 F H σ δ Q I a=>a F H (.refl I.same) _ .nil
theorem zjF {tr:TA} {mr:En→R (List D)} (ha:SE K XO E ta ma) (hr:SAb K XO E tr mr):SAb K XO E (zby ta tr) (zaa ma mr):=by
  intro Λ F0 H0 F H σ δ Q I a
  refine ha Λ F0 H0 F H σ δ _ I (a.bind.imp fun dx F1 H1 e1 a1 x rx=>?_)
  refine hr Λ F0 H0 F1 H1 σ δ _ (I.grow e1) (a1.bind.imp fun dy F2 H2 e2 a2 y ry=>?_)
  exact a2 F2 H2 (.refl e2.fh) _ (.cons (.inl (Rep.mono e2.ff _ rx)) ry)
theorem zi1 {i:Nat} {tr:TA} {mr:En→R (List D)} (hr:SAb K XO E tr mr):SAb K XO E (zby (tVar i) tr) (zaa (mRd i) mr):=by
  intro Λ F0 H0 F H σ δ Q I a
  have key:∀ d v,mRd i δ = .ok d→σ[i]?=some (some v)→Bor K F H d v→zby (tVar i) tr σ H Q:=fun d v hm hs b=>by
    unfold zaa at a
    rw [hm] at a
    refine ⟨v,hs,hr Λ F0 H0 F H σ δ _ I (Aft.imp (fun dy F2 H2 e2 a2 y ry=>?_) (Aft.bind a))⟩
    exact a2 F2 H2 (.refl e2.fh) _ (.cons (b.mono e2) ry)
  have z:=I.slot i
  unfold zaa at a
  cases q:δ[i]? with
  | none =>
    have e:mRd i δ = .no:=by unfold mRd; rw [q]
    rw [e] at a; exact a.elim
  | some s =>
    rw [q] at z
    cases s with
    | no =>
      have e:mRd i δ = .no:=by unfold mRd; rw [q]
      rw [e] at a; exact a.elim
    | v d=>obtain ⟨u,z1,z2⟩:=z; exact key d u (by unfold mRd; rw [q]) z1 (.inl z2)
    | o d=>obtain ⟨u,z1,_,_,z2⟩:=z; exact key d _ (by unfold mRd; rw [q]) z1 (.inr (.inl ⟨u,rfl,z2⟩))
    | l d=>obtain ⟨u,z1,_,_,z2⟩:=z; exact key d _ (by unfold mRd; rw [q]) z1 (.inr (.inl ⟨u,rfl,z2⟩))
    | p ll =>
      have e:mRd i δ = .no:=by unfold mRd; rw [q]
      rw [e] at a; exact a.elim
def zcg (F H:Hp):Hp:=fun b=>match F b with
  | some o=>some o
  | none=>match H b with
    | some (.lst vs)=>some (.lst vs)
    | some (.dK kvs)=>some (.dK kvs)
    | some (.frz o u)=>some (.frz o u)
    | some (.ins C dx fs)=>some (.ins C dx fs)
    | _=>none
theorem zcR {F H:Hp}:Same F (zcg F H):=fun b o h=>by unfold zcg; rw [h]
theorem ziN {F H:Hp} (s:Same F H):Same (zcg F H) H:=fun b o h=>by
  unfold zcg at h
  cases q:F b with
  | some u=>rw [q] at h; cases h; exact s _ _ q
  | none =>
    simp only [q] at h
    cases q2:H b with
    | none=>rw [q2] at h; cases h
    | some u=>cases u <;> simp only [q2] at h <;> cases h <;> rfl
theorem zoZ {a:Addr} {vs:List V} (s:Same F H) (h:H a=some (.lst vs)):zcg F H a=some (.lst vs):=by
  unfold zcg
  cases q:F a with
  | some u=>rw [s _ _ q] at h; exact h
  | none=>simp only [h]
mutual
theorem zhi (s:Same F H):∀ (T:Tr) {v:V} {fp:List Addr},TrOk K F H T v fp→Rep K (zcg F H) (trD T) v
  | .d x,v,fp,h=>by
    simp only [TrOk] at h
    simp only [trD]
    exact Rep.mono zcR x h.2
  | .l ts,v,fp,h=>by
    simp only [TrOk] at h
    obtain ⟨a,vs,fs,rfl,h2,h3,h4⟩:=h
    simp only [trD,Rep]
    exact ⟨a,vs,rfl,.inl (zoZ s h3),zgn s ts h4⟩
  | .t ts,v,fp,h=>by
    simp only [TrOk] at h
    obtain ⟨a,vs,rfl,h3,h4⟩:=h
    simp only [trD,Rep]
    exact ⟨a,vs,rfl,zcR _ _ h3,zgn s ts h4⟩
theorem zgn (s:Same F H):∀ (ts:List Tr) {vs:List V} {fp:List Addr},TrOkL K F H ts vs fp→RepL K (zcg F H) (trDL ts) vs
  | [],vs,fp,h=>by
    simp only [TrOkL] at h
    rw [h.1]
    simp only [trDL]
    exact .nil
  | t :: ts,vs,fp,h=>by
    simp only [TrOkL] at h
    obtain ⟨v,r,f1,f2,rfl,h2,h3,h4⟩:=h
    simp only [trDL]
    exact .cons (zhi s t h3) (zgn s ts h4)
end
theorem zht {F H:Hp} (s:Same F H):∀ {d:D} {v:V},Bor K F H d v→Rep K (zcg F H) d v:=by
  intro d v h
  rcases h with h | ⟨a,rfl,h⟩ | ⟨T,fp,rfl,h⟩
  · exact Rep.mono zcR _ h
  · cases d with
    | lst l =>
      obtain ⟨vs,h1,h2⟩:=h
      simp only [Rep]
      refine ⟨a,vs,rfl,.inl ?_,h2.mono zcR⟩
      unfold zcg
      cases q:F a with
      | some u=>rw [s _ _ q] at h1; exact h1
      | none=>simp only [h1]
    | dct ks l =>
      obtain ⟨vs,h1,h0,h2⟩:=h
      simp only [Rep]
      refine ⟨a,vs,rfl,?_,h0,h2.mono zcR⟩
      unfold zcg
      cases q:F a with
      | some u=>rw [s _ _ q] at h1; exact h1
      | none=>simp only [h1]
    | obj c ks l =>
      obtain ⟨dx,vs,h1,h0,h2⟩:=h
      simp only [Rep]
      refine ⟨a,dx,vs,rfl,?_,h0,h2.mono zcR⟩
      unfold zcg
      cases q:F a with
      | some u=>rw [s _ _ q] at h1; exact h1
      | none=>simp only [h1]
    | _=>exact h.elim
  · exact zhi s T h
theorem zjN {F H:Hp} (s:Same F H):∀ {ds:List D} {vs:List V},Prd (Bor K F H) ds vs→RepL K (zcg F H) ds vs
  | _,_,.nil=>.nil
  | _,_,.cons h t=>.cons (zht s h) (zjN s t)
open Classical in
def minH (F H F':Hp):Hp:=fun b=>if F b=none∧H b ≠ none then none else F' b
theorem zqi {F H F' H':Hp} (e:Ext (zcg F H) H F' H') {a:Addr} {o:HO} (h:F' a=some o) (h1:∀ vs,o ≠ .lst vs) (h2:∀ kvs,o ≠ .dK kvs) (h3:∀ q u,o ≠ .frz q u) (h4:∀ C dx fs,o ≠ .ins C dx fs):minH F H F' a=some o:=by
  unfold minH
  split
  · rename_i hc
    exfalso
    cases qh:H a with
    | none=>exact hc.2 qh
    | some u =>
      have np:zcg F H a=match H a with | some (.lst vs)=>some (.lst vs) | some (.dK kvs)=>some (.dK kvs) | some (.frz o u)=>some (.frz o u) | some (.ins C dx fs)=>some (.ins C dx fs) | _=>none:=by
        unfold zcg; rw [hc.1]
      cases u with
      | lst vs=>rw [qh] at np; have z:=e.ff a _ np; rw [h] at z; cases z; exact h1 vs rfl
      | dK vs=>rw [qh] at np; have z:=e.ff a _ np; rw [h] at z; cases z; exact h2 vs rfl
      | frz q w=>rw [qh] at np; have z:=e.ff a _ np; rw [h] at z; cases z; exact h3 q w rfl
      | ins C dx fs=>rw [qh] at np; have z:=e.ff a _ np; rw [h] at z; cases z; exact h4 C dx fs rfl
      | _=>rw [qh] at np; have z:=e.nw a _ np qh; rw [h] at z; cases z
  · exact h
mutual
theorem zjj {F H F' H':Hp} (e:Ext (zcg F H) H F' H'):∀ (d:D) {v:V},zdG d=true→Rep K F' d v→Rep K (minH F H F') d v
  | .non,v,_,h=>by simp only [Rep] at h ⊢; exact h
  | .bl _,v,_,h=>by simp only [Rep] at h ⊢; exact h
  | .int _,v,_,h=>by simp only [Rep] at h ⊢; exact h
  | .str _,v,_,h=>by simp only [Rep] at h ⊢; exact h
  | .lst _,v,c,h=>by simp only [zdG] at c; cases c
  | .dct _ _,v,c,h=>by simp only [zdG] at c; cases c
  | .scr _,v,c,h=>by simp only [zdG] at c; cases c
  | .exc _,v,c,h=>by simp only [zdG] at c; cases c
  | .fd _ _,v,c,h=>by simp only [zdG] at c; cases c
  | .obj _ _ _,v,c,h=>by simp only [zdG] at c; cases c
  | .tup l,v,c,h=>by
    simp only [zdG] at c
    simp only [Rep] at h ⊢
    obtain ⟨a,vs,h1,h2,h3⟩:=h
    exact ⟨a,vs,h1,zqi e h2 (fun _ z=>by cases z) (fun _ z=>by cases z) (fun _ _ z=>by cases z) (fun _ _ _ z=>by cases z),zjT e l c h3⟩
theorem zjT {F H F' H':Hp} (e:Ext (zcg F H) H F' H'):∀ (l:List D) {vs:List V},ziF l=true→RepL K F' l vs→RepL K (minH F H F') l vs
  | [],vs,_,h=>by simp only [RepL] at h ⊢; exact h
  | d :: l,vs,c,h=>by
    simp only [ziF,Bool.and_eq_true] at c
    simp only [RepL] at h ⊢
    obtain ⟨v,r,h1,h2,h3⟩:=h
    exact ⟨v,r,h1,zjj e d c.1 h2,zjT e l c.2 h3⟩
end
theorem zmb {F H F' H':Hp} (e:Ext (zcg F H) H F' H'):Ext F H (minH F H F') H':=by
  refine ⟨fun b o h=>?_,e.hh,fun b o h=>?_,fun p o h1 h2=>?_⟩
  · unfold minH
    rw [if_neg (fun hc=>by rw [h] at hc; cases hc.1)]
    exact e.ff b o (zcR b o h)
  · unfold minH at h
    split at h
    · cases h
    · exact e.fh b o h
  · unfold minH
    rw [if_pos ⟨h1,by rw [h2]; intro z; cases z⟩]
def zeN (f:List D→R D) (ml:En→R (List D)) (δ:En):R D:=(ml δ).bind fun l=>(f l).nev.bind fun d=>if zdG d=true then .ok d else .no
theorem zjz {f:List D→R D} {tl:TA} {ml:En→R (List D)} {E':XK} (h:SAb K XO E tl ml):SE K XO E (zj9 (spM K XO f) [] E' tl) (zeN f ml):=by
  intro Λ F0 H0 F H σ δ Q I a
  refine h Λ F0 H0 F H σ δ _ I (a.bind.imp fun ds F1 H1 e1 a1 vs r=>⟨zcg F1 H1,ds,ziN e1.fh,by rw [List.append_nil]; exact zjN e1.fh r,?_⟩)
  cases q:f ds with
  | no=>rw [q] at a1; exact a1.elim
  | ex x=>rw [q] at a1; exact a1.elim
  | ok d =>
    rw [q] at a1
    intro F2 H2 e2 v rv
    simp only [R.nev_ok,R.bind_ok] at a1
    split at a1
    · rename_i hc
      exact a1 _ H2 (zmb e2) v (zjj e2 d hc rv)
    · exact a1.elim
variable (K) in
def SC (r:List V→Hp→VK→Prop) (f:List D→Option D):Prop:=∀ F H vs ds d Q,Same F H→Prd (Top K F H) ds vs→f ds=some d→(∀ v F' H',Ext F H F' H'→Rep K F' d v→Q v H')→r vs H Q
variable (K) in
def SCo (r:List V→Hp→VK→Prop) (f:List D→Option D):Prop:=∀ F H vs ds d Q,Same F H→Prd (Top K F H) ds vs→f ds=some d→(∀ p F' H',Ext F H F' H'→F' p=none→H p=none→Own K F' H' d p→Q (.ref p) H')→r vs H Q
def mCB (f:List D→Option D) (ml:En→R (List D)) (δ:En):R D:=(ml δ).bind fun l=>R.of (f l)
theorem zb4 {r:List V→Hp→VK→Prop} {f:List D→Option D} {tl:TA} {ml:En→R (List D)} (hr:SC K r f) (h:SAr K XO E tl ml):SE K XO E (tCB r tl) (mCB f ml):=by
  intro Λ F0 H0 F H σ δ Q I a
  refine h Λ F0 H0 F H σ δ _ I (a.bind.imp fun ds F1 H1 e1 a1 vs rv=>?_)
  cases q:f ds with
  | none=>rw [q] at a1; exact a1.elim
  | some d=>rw [q] at a1; exact hr F1 H1 vs ds d Q e1.fh rv q fun v F' H' e r=>a1 F' H' e v r
theorem zgs {r:List V→Hp→VK→Prop} {f:List D→Option D} {tl:TA} {ml:En→R (List D)} (hr:SCo K r f) (h:SAr K XO E tl ml):SEo K XO E (tCB r tl) (mCB f ml):=by
  intro Λ F0 H0 F H σ δ Q I a
  refine h Λ F0 H0 F H σ δ _ I (a.bind.imp fun ds F1 H1 e1 a1 vs rv=>?_)
  cases q:f ds with
  | none=>rw [q] at a1; exact a1.elim
  | some d=>rw [q] at a1; exact hr F1 H1 vs ds d Q e1.fh rv q fun p F' H' e h0 h1 o=>a1 F' H' e p h0 (e1.hh.free h1) o
def fLen:List D→Option D
  | [.lst l]=>some (.int l.length)
  | [.scr l]=>some (.int l.length)
  | [.tup l]=>some (.int l.length)
  | _=>none
theorem zb0:SC K (fun xs H Q=>∃ p ys,xs = [.ref p]∧(SqL K.f H p ys∨SqT K.f H p ys)∧Q (.int ys.length) H) fLen:=by
  intro F H vs ds d Q s r e q
  unfold fLen at e
  split at e
  · cases e
    cases r with
    | cons r r' =>
      cases r'
      obtain ⟨a,xs,rfl,h1,h2⟩:=r
      exact ⟨a,xs,rfl,.inl (.inl h1),q _ F H (.refl s) (by simp only [Rep]; rw [h2.length])⟩
  · cases e
    cases r with
    | cons r r' =>
      cases r'
      simp only [Top,Rep] at r
      obtain ⟨a,rfl,h1⟩:=r
      exact ⟨a,_,rfl,.inl (s.seq h1),q _ F H (.refl s) (by simp only [Rep]; rw [List.length_map])⟩
  · cases e
    cases r with
    | cons r r' =>
      cases r'
      simp only [Top,Rep] at r
      obtain ⟨a,xs,rfl,h1,h2⟩:=r
      exact ⟨a,xs,rfl,.inr (.inl (.inl (s _ _ h1))),q _ F H (.refl s) (by simp only [Rep]; rw [h2.length])⟩
  · cases e
def fAbs:List D→Option D
  | [.int i]=>some (.int (if i < 0 then -i else i))
  | _=>none
theorem zoz:SC K (fun xs H Q=>∃ i,xs = [.int i]∧Q (.int (if i < 0 then -i else i)) H) fAbs:=by
  intro F H vs ds d Q s r e q
  unfold fAbs at e
  split at e
  · rename_i i
    cases e
    cases r with
    | cons r r' =>
      cases r'
      simp only [Top,Rep] at r
      subst r
      exact ⟨i,rfl,q _ F H (.refl s) (by simp only [Rep])⟩
  · cases e
def zc6:List D→Option D
  | [.lst l]=>some (.lst l)
  | [.tup l]=>some (.lst l)
  | _=>none
theorem zeW:SCo K (fun xs H Q=>∃ p ys,xs = [.ref p]∧(SqL K.f H p ys∨SqT K.f H p ys)∧∀ l,H l=none→Q (.ref l) (upd H l (.lst ys))) zc6:=by
  intro F H vs ds d Q s r e q
  unfold zc6 at e
  split at e
  · cases e
    cases r with
    | cons r r' =>
      cases r'
      obtain ⟨a,xs,rfl,h1,h2⟩:=r
      exact ⟨a,xs,rfl,.inl (.inl h1),fun p hp=>q _ F _ (.newO s hp) (s.free hp) hp ⟨xs,zaj,h2⟩⟩
  · cases e
    cases r with
    | cons r r' =>
      cases r'
      simp only [Top,Rep] at r
      obtain ⟨a,xs,rfl,h1,h2⟩:=r
      exact ⟨a,xs,rfl,.inr (.inl (.inl (s _ _ h1))),fun p hp=>q _ F _ (.newO s hp) (s.free hp) hp ⟨xs,zaj,h2⟩⟩
  · cases e
def asI:D→Option Int
  | .int i=>some i
  | _=>none
def mNoP (_:En):R (Option Int):=.ok none
def zec (me:En→R D) (δ:En):R (Option Int):=(me δ).bind fun d=>(R.of (asI d)).bind fun i=>.ok (some i)
variable (K XO E) in
def SO (t:TO) (m:En→R (Option Int)):Prop:=∀ Λ F0 H0 F H σ δ Q,EnvOk K Λ F0 H0 F H σ δ→Aft E XO σ F H (fun o _ H'=>Q o H') (m δ)→t σ H Q
theorem zpo:SO K XO E zjs mNoP:=fun Λ F0 H0 F H σ δ Q I a=>a F H (.refl I.same)
theorem zgp (h:SE K XO E te me):SO K XO E (zmK te) (zec me):=by
  intro Λ F0 H0 F H σ δ Q I a
  refine h Λ F0 H0 F H σ δ _ I (a.bind.imp fun d F1 H1 e1 a1 v r=>?_)
  cases d with
  | int i=>simp only [Rep] at r; exact ⟨i,r,a1 F1 H1 (.refl e1.fh)⟩
  | _=>exact a1.elim
def cutD (xs:List D) (lo hi:Option Int):List D:=(xs.drop (HT.sIx xs.length 0 lo)).take (HT.sIx xs.length xs.length hi - HT.sIx xs.length 0 lo)
def mSl (me:En→R D) (ml mh:En→R (Option Int)) (δ:En):R D:=(me δ).bind fun d=>(ml δ).bind fun lo=>(mh δ).bind fun hi=>(R.of (asL d)).bind fun l=>.ok (.lst (cutD l lo hi))
theorem ziy {tl th:TO} {ml mh:En→R (Option Int)} (h:SEr K XO E te me) (hl:SO K XO E tl ml) (hh:SO K XO E th mh):SEo K XO E (tSl (rSlL K.f) te tl th) (mSl me ml mh):=by
  intro Λ F0 H0 F H σ δ Q I a
  refine h Λ F0 H0 F H σ δ _ I (a.bind.imp fun d F1 H1 e1 a1 v r=>?_)
  refine hl Λ F0 H0 F1 H1 σ δ _ (I.grow e1) (a1.bind.imp fun lo F2 H2 e2 a2=>?_)
  refine hh Λ F0 H0 F2 H2 σ δ _ ((I.grow e1).grow e2) (a2.bind.imp fun hi F3 H3 e3 a3=>?_)
  cases d with
  | lst l =>
    obtain ⟨p,vs,rfl,h1,h2⟩:=r
    refine ⟨p,vs,rfl,.inl (PM.Same.rd e3.hh (PM.Same.rd e2.hh h1)),fun q hq=>a3 F3 _ (.newO e3.fh hq) q (e3.fh.free hq) (e1.hh.free (e2.hh.free (e3.hh.free hq))) ⟨_,zaj,?_⟩⟩
    unfold cutD cutV
    rw [← h2.length]
    exact (((h2.mono e2.ff).mono e3.ff).drop _).take _
  | scr l =>
    simp only [Top,Rep] at r
    obtain ⟨p,rfl,h1⟩:=r
    refine ⟨p,_,rfl,e3.hh.seq (e2.hh.seq (e1.fh.seq h1)),fun q hq=>a3 F3 _ (.newO e3.fh hq) q (e3.fh.free hq) (e1.hh.free (e2.hh.free (e3.hh.free hq))) ⟨_,zaj,?_⟩⟩
    unfold cutD cutV
    rw [List.length_map,List.length_map]
    exact (RepL.ints.drop _).take _
  | _=>exact a3.elim
end
end PM
namespace PM
open PySem L2
def oCat (x y:D):Option D:=match x,y with | .lst l,.lst r=>ifC (l.length + r.length ≤ sizeLine) (some (.lst (l ++ r))) none | _,_=>none
def zaG:Nat→D→Bool
  | _,.non=>true
  | _,.int _=>true
  | n + 1,.tup l=>l.all (zaG n)
  | n + 1,.lst l=>l.all (zaG n)
  | _,_=>false
open Classical in
def oEqD (x y:D):Option D:=ifC (zaG 8 x=true∧zaG 8 y=true) (some (.bl (decide (x=y)))) none
open Classical in
def oNeD (x y:D):Option D:=ifC (zaG 8 x=true∧zaG 8 y=true) (some (.bl (!decide (x=y)))) none
def isiB:String→D→Bool
  | "int",.int _=>true
  | "int",.bl _=>true
  | "bool",.bl _=>true
  | "list",.lst _=>true
  | "tuple",.tup _=>true
  | "str",.str _=>true
  | _,_=>false
def okI:D→Bool
  | .scr _=>false
  | .exc _=>false
  | .fd _ _=>false
  | .obj _ _ _=>false
  | _=>true
def oIsi (c:String) (d:D):Option D:=match d with | .scr _=>none | .exc _=>none | .fd _ _=>none | .obj _ _ _=>none | d=>some (.bl (isiB c d))
def asIs:List D→Option (List Int)
  | []=>some []
  | .int i :: l=>(asIs l).map (i :: ·)
  | _=>none
theorem zcO (ns:List Int):asIs (ns.map .int)=some ns:=by
  induction ns with
  | nil=>rfl
  | cons a l ih=>simp [asIs,ih]
theorem zbB {l:List D} {ns:List Int} (h:asIs l=some ns):l=ns.map .int:=by
  induction l generalizing ns with
  | nil=>cases h; rfl
  | cons d l ih =>
    cases d with
    | int i =>
      simp only [asIs] at h
      cases q:asIs l with
      | none=>rw [q] at h; cases h
      | some m=>rw [q] at h; cases h; rw [ih q]; rfl
    | _=>cases h
def fSum:List D→Option D
  | [.lst l]=>(asIs l).map fun ns=>.int ns.sum
  | _=>none
def maxI:List Int→Int→Int
  | [],m=>m
  | a :: l,m=>maxI l (if a > m then a else m)
def rev1:List D→Option (List D)
  | [.lst l]=>some l.reverse
  | _=>none
def mRev (ml:En→R (List D)) (δ:En):R (List D):=(ml δ).bind fun l=>R.of (rev1 l)
theorem zeM {c:En→R Bool} {m:En→O} {δ:En} {n:Nat} {o:O} (h:zbS c m n δ=o) (ho:o ≠ .no):zfd c m δ=o:=by
  have mono:∀ k n δ,zbS c m n δ ≠ .no→zbS c m (n + k) δ=zbS c m n δ:=by
    intro k n
    induction n with
    | zero=>intro δ h; exact absurd rfl h
    | succ n ih =>
      intro δ h
      have e:n + 1 + k=(n + k) + 1:=by omega
      rw [e]
      unfold zbS at h ⊢
      cases q:c δ with
      | no=>rfl
      | ex x=>rfl
      | ok b =>
        rw [q] at h
        cases b with
        | false=>rfl
        | true =>
          simp only [R.toO_ok,if_true] at h ⊢
          cases q2:m δ <;> simp only [q2] at h ⊢ <;> exact ih _ h
  have hex:∃ n,zbS c m n δ ≠ .no:=⟨n,by rw [h]; exact ho⟩
  unfold zfd
  rw [dif_pos hex]
  have h1:=mono n (Classical.choose hex) δ (Classical.choose_spec hex)
  have h2:=mono (Classical.choose hex) n δ (by rw [h]; exact ho)
  rw [← h1,Nat.add_comm,h2,h]
theorem zdW {β:Type} {f:D→R (Option D)} (enc:β→D) (g:β→Option D):∀ (l:List β),(∀ x ∈ l,f (enc x) = .ok (g x))→zcK f (l.map enc) = .ok (l.filterMap g)
  | [],_=>rfl
  | x :: l,h=>by
    rw [List.map_cons]
    unfold zcK
    rw [h x List.mem_cons_self,R.bind_ok,zdW enc g l fun y hy=>h y (List.mem_cons_of_mem _ hy)]
    cases q:g x with
    | none=>rw [List.filterMap_cons_none q]; rfl
    | some d=>rw [List.filterMap_cons_some q]; rfl
theorem zp4 {n:Nat} (h:n ≤ 100000):n ≤ sizeLine:=Nat.le_trans h (by decide)
theorem zmo {n:Nat} (h:n ≤ 100000):n < sizeLine:=Nat.lt_of_le_of_lt h (by decide)
end PM
namespace PM
open PySem L2
theorem fitN {i:Int} (n:Nat) (h:i.natAbs ≤ n) (h2:n < 2 ^ 8000:=by decide +kernel):Fit i:=Nat.lt_of_le_of_lt h h2
@[simp] theorem zik (i j:Int):oAdd (.int i) (.int j)=some (.int (i + j)):=rfl
@[simp] theorem zqd (i j:Int):oSub (.int i) (.int j)=some (.int (i - j)):=rfl
theorem zd2 {i j:Int} (h:Fit i) (h':Fit j):oMul (.int i) (.int j)=some (.int (i * j)):=zaX (p:=Fit i∧Fit j) ⟨h,h'⟩
theorem zpX {i j:Int} (h:j ≠ 0) (h':Fit j):oDiv (.int i) (.int j)=some (.int (i.fdiv j)):=zaX (p:=j ≠ 0∧Fit j) ⟨h,h'⟩
theorem zgT {i j:Int} (h:0 < j) (h':Fit j):oDiv (.int i) (.int j)=some (.int (i / j)):=by
  rw [zpX (by omega) h',Int.fdiv_eq_ediv_of_nonneg _ (by omega)]
theorem zd9 {i j:Int} (h:0 < j):oMod (.int i) (.int j)=some (.int (i % j)):=zaX (p:=0 < j) h
theorem zop {i j:Int} (h:CPow i j):oPow (.int i) (.int j)=some (.int (i ^ j.toNat)):=zaX (p:=CPow i j) h
@[simp] theorem zrp (i j:Int):oLt (.int i) (.int j)=some (.bl (decide (i < j))):=rfl
@[simp] theorem zmU (i j:Int):oGt (.int i) (.int j)=some (.bl (decide (j < i))):=rfl
@[simp] theorem zob (i:Int):oNeg (.int i)=some (.int (-i)):=rfl
@[simp] theorem zrs (i j:Int):oEq (.int i) (.int j)=some (.bl (decide (i=j))):=by simp [oEq,fl,scal]
@[simp] theorem zru (i j:Int):oNe (.int i) (.int j)=some (.bl (!decide (i=j))):=by simp [oNe,fl,scal]
@[simp] theorem zrq (d:D):oIs d .non=some (.bl (isN d)):=rfl
@[simp] theorem znz (b:Bool):asB (.bl b)=some b:=rfl
@[simp] theorem zrr (l:List D):asL (.lst l)=some l:=rfl
@[simp] theorem zqI (l:List D):asT (.tup l)=some l:=rfl
@[simp] theorem zqc (i:Int):asI (.int i)=some i:=rfl
@[simp] theorem zrm (l:List D):fLen [.lst l]=some (.int l.length):=rfl
@[simp] theorem zrn (l:List D):fLen [.tup l]=some (.int l.length):=rfl
@[simp] theorem zq5 (l:List D):zc6 [.lst l]=some (.lst l):=rfl
@[simp] theorem zre (a b:D):oIxT (.tup [a,b]) (.int 0)=some a:=rfl
@[simp] theorem zrf (a b:D):oIxT (.tup [a,b]) (.int 1)=some b:=rfl
theorem atI_nat {α:Type} {l:List α} {k:Nat} {d:α} (h:l[k]?=some d):atI l (k:Int)=some d:=by
  have hk:=(List.getElem?_eq_some_iff.mp h).1
  unfold atI ixN
  rw [if_pos (by omega),if_pos (by omega)]
  exact h
theorem zpN {l:List D} {k:Nat} {d:D} (h:l[k]?=some d):oIxL (.lst l) (.int (k:Int))=some d:=atI_nat h
theorem zor {l:List D} {i:Int} {d:D} (h0:0 ≤ i) (h:l[i.toNat]?=some d):oIxL (.lst l) (.int i)=some d:=by
  have e:i=((i.toNat:Nat):Int):=by omega
  rw [e]
  exact zpN h
theorem rng1 {n:Int} (h0:0 ≤ n) (h:n ≤ 100000):rng [.int n]=some (zf6 0 n.toNat):=by
  show ifC _ _ _=_
  rw [zaX (by omega)]
theorem zpc (n:Nat):zf6 0 n=(List.range n).map fun (k:Nat)=>D.int (k:Int):=by
  unfold zf6
  exact List.map_congr_left fun k _=>by simp
theorem znH (l:List D):zhS l=(l.zipIdx).map fun p=>D.tup [.int (p.2:Int),p.1]:=by
  unfold zhS
  rw [List.mapIdx_eq_zipIdx_map]
@[simp] theorem zrt (a b:α):([a,b].length ≤ sizeLine)=True:=by simp [sizeLine]
end PM
namespace PM
open PySem L2
def sv:Option D→Sl
  | none=>.no
  | some d=>.v d
theorem zaT {i:Nat} {d:D} {δ:En} {o:Option D} (h:δ[i]?=some (sv o)):zap i d δ=some (δ.set i (.v d)):=by
  unfold zap
  rw [h]
  cases o <;> rfl
@[simp] theorem zq9:sv none = .no:=rfl
@[simp] theorem zrd (d:D):sv (some d) = .v d:=rfl
def iL (l:List Int):D:=.lst (l.map .int)
theorem zg8 {α:Type} {f:D→R (Option D)} (enc:α→D) (p:α→Bool) (l:List α) (h:∀ x ∈ l,f (enc x) = .ok (if p x=true then some (enc x) else none)):zcK f (l.map enc) = .ok ((l.filter p).map enc):=by
  rw [zdW enc (fun x=>if p x=true then some (enc x) else none) l h]
  congr 1
  induction l with
  | nil=>rfl
  | cons a l ih =>
    have ih':=ih fun x hx=>h x (List.mem_cons_of_mem _ hx)
    by_cases hp:p a=true
    · rw [List.filterMap_cons_some (b:=enc a) (by simp [hp]),ih',List.filter_cons_of_pos hp,List.map_cons]
    · rw [List.filterMap_cons_none (by simp [hp]),ih',List.filter_cons_of_neg hp]
theorem zbQ {α:Type} {f:D→R (Option D)} (enc:α→D) (g:α→D) (l:List α) (h:∀ x ∈ l,f (enc x) = .ok (some (g x))):zcK f (l.map enc) = .ok (l.map g):=by
  rw [zdW enc (fun x=>some (g x)) l h,List.filterMap_eq_map']
end PM
namespace PM
open PySem L2
theorem zcf {mi:En→R (List D)} {ix:List Nat} {n:Nat} {b:D→En→Option En} {nc:Option (En→R Bool)} {me:En→R D} {δ:En} {l r:List D} (h1:mi δ = .ok l) (hl:l.length ≤ 100000)
    (h2:zcK (zdZ b nc me (zaO δ ix n)) l = .ok r):ze6 mi ix n b nc me δ = .ok (.lst r):=by
  unfold ze6
  rw [h1,R.bind_ok,zaX (zp4 hl),h2]
  rfl
theorem zbz {mi:En→R (List D)} {b:D→En→Option En} {m:En→O} {δ:En} {l:List D} (h:mi δ = .ok l):mFor mi b m δ=zde b m l δ:=by
  unfold mFor
  rw [h]
  rfl
theorem zcG {np nv:Nat} {m:En→O} {ds:List D} {d:D} (h:m (zdt nv ds) = .rt d) (hl:ds.length=np:=by rfl):runF np nv m ds = .ok d:=by
  unfold runF
  rw [if_pos hl,h]
theorem zpu {np nv:Nat} {m:En→O} {ds:List D} {δ:En} (h:m (zdt nv ds) = .nx δ) (hl:ds.length=np:=by rfl):runF np nv m ds = .ok .non:=by
  unfold runF
  rw [if_pos hl,h]
theorem zcA {np nv:Nat} {m:En→O} {ds:List D} {d:D} (h:m (zdt nv ds) = .ro d) (hl:ds.length=np:=by rfl):runO np nv m ds = .ok d:=by
  unfold runO
  rw [if_pos hl,h]
theorem zah {m n:En→O} {δ δ':En} (h:m δ = .nx δ'):mSeq m n δ=n δ':=by unfold mSeq; rw [h]
theorem zax {me:En→R D} {b:D→En→Option En} {δ δ':En} {d:D} (h:me δ = .ok d) (h2:b d δ=some δ'):mAsg me b δ = .nx δ':=by unfold mAsg; rw [h,R.toO_ok,h2]; rfl
theorem zew {n:En→R Bool} {m m':En→O} {δ:En} (h:n δ = .ok true):mIfS n m m' δ=m δ:=by unfold mIfS; rw [h]; rfl
theorem zbP {n:En→R Bool} {m m':En→O} {δ:En} (h:n δ = .ok false):mIfS n m m' δ=m' δ:=by unfold mIfS; rw [h]; rfl
theorem za5 {β:Type} {b:D→En→Option En} {m:En→O} (enc:β→D) (P:List β→En→Prop) (all:List β)
    (step:∀ pre x post δ,all=pre ++ x :: post→P pre δ→∃ δ1 δ2,b (enc x) δ=some δ1∧(m δ1 = .nx δ2∨m δ1 = .ct δ2)∧P (pre ++ [x]) δ2) (δ:En) (h:P [] δ):∃ δ2,zde b m (all.map enc) δ = .nx δ2∧P all δ2:=by
  have key:∀ (post pre:List β) (δ:En),all=pre ++ post→P pre δ→∃ δ2,zde b m (post.map enc) δ = .nx δ2∧P all δ2:=by
    intro post
    induction post with
    | nil=>intro pre δ e h; exact ⟨δ,rfl,by rw [e,List.append_nil]; exact h⟩
    | cons x post ih =>
      intro pre δ e h
      obtain ⟨δ1,δ2,h1,h2,h3⟩:=step pre x post δ e h
      obtain ⟨δ3,h4,h5⟩:=ih (pre ++ [x]) δ2 (by rw [e]; simp) h3
      refine ⟨δ3,?_,h5⟩
      rw [List.map_cons]
      unfold zde
      rw [h1]
      rcases h2 with h2 | h2 <;> (simp only [h2]; exact h4)
  exact key all [] δ rfl h
end PM
namespace PM
open PySem L2
@[simp] theorem zdg (l:List Int):fLen [iL l]=some (.int l.length):=by simp [iL]
@[simp] theorem zro (l:List Int):asL (iL l)=some (l.map .int):=rfl
end PM
namespace PM
open PySem L2
theorem zn3 {l:List D} {k:Nat} (h:k ≤ l.length):cutD l (some (k:Int)) none=l.drop k:=by
  unfold cutD
  have e:HT.sIx l.length 0 (some (k:Int))=k:=by
    show (if (k:Int) < 0 then ((k:Int) + (l.length:Int)).toNat else min (k:Int).toNat l.length)=k
    rw [if_neg (by omega)]; omega
  rw [e]
  show (l.drop k).take (l.length - k)=_
  rw [List.take_of_length_le (by simp)]
theorem ziI {x y:D} (hx:zaG 8 x=true) (hy:zaG 8 y=true) (h:x=y):oEqD x y=some (.bl true):=by
  unfold oEqD
  rw [zaX ⟨hx,hy⟩]
  simp [h]
theorem zjv {x y:D} (hx:zaG 8 x=true) (hy:zaG 8 y=true) (h:x=y):oNeD x y=some (.bl false):=by
  unfold oNeD
  rw [zaX ⟨hx,hy⟩]
  simp [h]
end PM
namespace PM
open PySem L2 PyProof.Rows
section
variable {K:Kx} {ca:Nat→Addr} {an:Nat→Str} {XO:XOT} {E:L2.St→XK} {ta tb te:TE} {ma mb me:En→R D} {X:Cx}
def zqs:R2:=fun x y H Q=>∃ l b xs zs,x = .ref l∧y = .ref b∧Rd H l (.lst xs)∧Rd H b (.lst zs)∧xs.length + zs.length ≤ sizeLine∧∀ p,H p=none→Q (.ref p) (upd H p (.lst (xs ++ zs)))
theorem zjg:OpR X (binaryOp .Add) zqs:=by
  intro pins s σ H x y v u Q I rx ry h
  obtain ⟨l,b,xs,zs,rfl,rfl,hH,hB,hz,q⟩:=h
  cases rx
  cases ry
  obtain ⟨z,its,n,r,e⟩:=hH.ok I.hok
  obtain ⟨z2,its2,n2,r2,e2⟩:=hB.ok I.hok
  have hl:=r.length
  have hl2:=r2.length
  refine PySem.P.add_list e e2 ?_ (by rw [List.size_toArray,List.size_toArray]; omega)
  have ea:its.toArray ++ its2.toArray=(its ++ its2).toArray:=by simp
  rw [ea]
  exact ⟨.ref _,_,I.lnew (t':=s.toks) (r.append r2) (by rw [List.length_append]; omega),rfl,q _ I.fresh⟩
theorem zlv:SRo K zqs oCat:=by
  intro F H x y dx dy d Q s hx hy e q
  cases dx with
  | lst l =>
    cases dy with
    | lst r =>
      simp only [oCat] at e
      unfold ifC at e
      split at e
      · rename_i hc
        cases e
        obtain ⟨a,vs,rfl,h1,h2⟩:=hx
        obtain ⟨b,ws,rfl,g1,g2⟩:=hy
        exact ⟨a,b,vs,ws,rfl,rfl,h1,g1,by rw [h2.length,g2.length]; exact hc,fun p hp=>q p F _ (.newO s hp) (s.free hp) hp ⟨_,zaj,h2.append g2⟩⟩
      · cases e
    | _=>cases e
  | _=>cases e
theorem zbp {F:Hp}:∀ {ns:List Int} {xs:List V},RepL K F (ns.map .int) xs→xs=ns.map V.int
  | [],xs,h=>by simpa only [List.map_nil,RepL] using h
  | n :: ns,xs,h=>by
    simp only [List.map_cons,RepL,Rep] at h
    obtain ⟨v,r,rfl,rfl,h3⟩:=h
    rw [zbp h3]; rfl
def rSum:List V→Hp→VK→Prop:=fun xs H Q=>∃ (p:Addr) (ns:List Int),xs = [.ref p]∧Rd H p (.lst (ns.map V.int))∧Q (.int ns.sum) H
theorem zl9 {ds:List D} {d:D} (h:fSum ds=some d):∃ ns:List Int,ds = [.lst (ns.map .int)]∧d = .int ns.sum:=by
  unfold fSum at h
  split at h
  · rename_i l
    cases z:asIs l with
    | none=>rw [z] at h; cases h
    | some ns=>rw [z] at h; cases h; exact ⟨ns,by rw [zbB z],rfl⟩
  · cases h
theorem zqo:SC K rSum fSum:=by
  intro F H vs ds d Q s r e q
  obtain ⟨ns,rfl,rfl⟩:=zl9 e
  cases r with
  | cons r r' =>
    cases r'
    obtain ⟨a,xs,rfl,h1,h2⟩:=r
    have ex:=zbp h2
    subst ex
    exact ⟨a,ns,rfl,h1,q _ F H (.refl s) (by simp only [Rep])⟩
theorem zhr (hc:X.calm=true):zdI X (.builtin "sum") rSum:=by
  intro pins s σ H xs us Q I r h
  obtain ⟨p,ns,rfl,hq,q⟩:=h
  obtain ⟨u,rfl,rx⟩:=zey r
  cases rx
  obtain ⟨z,its,n,rv,e⟩:=hq.ok I.hok
  obtain ⟨ts,rfl,htl⟩:∃ ts:List Tok,its=(ns.zip ts).map (fun p=>Value.int p.1 p.2)∧ts.length=ns.length:=by
    clear e hq q z
    induction ns generalizing its with
    | nil=>cases rv; exact ⟨[],rfl,rfl⟩
    | cons a l ih =>
      cases rv with
      | cons h t =>
        obtain ⟨tk,rfl⟩:=h
        obtain ⟨ts,rfl,hl⟩:=ih _ t
        exact ⟨tk :: ts,rfl,by simp [hl]⟩
  have ei:((ns.zip ts).map (fun p=>Value.int p.1 p.2)).toArray=intItems (ns.zip ts).toArray:=by simp [intItems]
  rw [ei] at e
  refine sum_intListG (I.ok.hd hc) ⟨_,e,rfl,n,rfl⟩ fun h' tk t' hk=>?_
  have es:preSum (numAt (ns.zip ts).toArray) (ns.zip ts).toArray.size=ns.sum:=by
    rw [preSum_eq,List.take_of_length_le (by simp)]
    have:(ns.zip ts).map (·.1)=ns:=List.map_fst_zip (by omega)
    show ((ns.zip ts).map (·.1)).sum=_
    rw [this]
  rw [es]
  exact ⟨.int ns.sum,H,I.kept (t':=tk) hk,⟨_,rfl⟩,q⟩
theorem zo9 {K:W.Frag} {S T:String} (h2:PySem.W.kitMeta T=true) (h3:(PySem.fastBuiltinMro S).map (·.contains (.type T))=some true):PySem.W.kitOne K (.type S) (.type T)=some true:=by
  unfold PySem.W.kitOne
  split
  · rfl
  · show (if PySem.W.kitMeta T=true then PySem.W.subIn K (.type S) (.type T) else none)=some true
    rw [if_pos h2]
    exact h3
def zim:D→String
  | .non=>"NoneType"
  | .bl _=>"bool"
  | .int _=>"int"
  | .str _=>"str"
  | .tup _=>"tuple"
  | .lst _=>"list"
  | .dct _ _=>"dict"
  | .scr _=>"list"
  | .exc _=>"object"
  | .fd _ _=>"object"
  | .obj _ _ _=>"object"
theorem zfr {K:W.Frag}:PySem.W.kitOne K (.type "NoneType") (.type "int")=some false:=L2.kit_no (by decide +kernel) (by decide +kernel) (by decide +kernel)
theorem kit_int_bool {K:W.Frag}:PySem.W.kitOne K (.type "bool") (.type "int")=some true:=zo9 (by decide +kernel) (by decide +kernel)
theorem ziH {K:W.Frag}:PySem.W.kitOne K (.type "int") (.type "int")=some true:=L2.kit_self
theorem zjd {K:W.Frag}:PySem.W.kitOne K (.type "str") (.type "int")=some false:=L2.kit_no (by decide +kernel) (by decide +kernel) (by decide +kernel)
theorem zhx {K:W.Frag}:PySem.W.kitOne K (.type "tuple") (.type "int")=some false:=L2.kit_no (by decide +kernel) (by decide +kernel) (by decide +kernel)
theorem zhT {K:W.Frag}:PySem.W.kitOne K (.type "list") (.type "int")=some false:=L2.kit_no (by decide +kernel) (by decide +kernel) (by decide +kernel)
theorem zh3 {K:W.Frag}:PySem.W.kitOne K (.type "dict") (.type "int")=some false:=L2.kit_no (by decide +kernel) (by decide +kernel) (by decide +kernel)
theorem ze4 {K:W.Frag}:PySem.W.kitOne K (.type "NoneType") (.type "bool")=some false:=L2.kit_no (by decide +kernel) (by decide +kernel) (by decide +kernel)
theorem zhH {K:W.Frag}:PySem.W.kitOne K (.type "bool") (.type "bool")=some true:=L2.kit_self
theorem zio {K:W.Frag}:PySem.W.kitOne K (.type "int") (.type "bool")=some false:=L2.kit_no (by decide +kernel) (by decide +kernel) (by decide +kernel)
theorem zit {K:W.Frag}:PySem.W.kitOne K (.type "str") (.type "bool")=some false:=L2.kit_no (by decide +kernel) (by decide +kernel) (by decide +kernel)
theorem zgA {K:W.Frag}:PySem.W.kitOne K (.type "tuple") (.type "bool")=some false:=L2.kit_no (by decide +kernel) (by decide +kernel) (by decide +kernel)
theorem zhd {K:W.Frag}:PySem.W.kitOne K (.type "list") (.type "bool")=some false:=L2.kit_no (by decide +kernel) (by decide +kernel) (by decide +kernel)
theorem zg4 {K:W.Frag}:PySem.W.kitOne K (.type "dict") (.type "bool")=some false:=L2.kit_no (by decide +kernel) (by decide +kernel) (by decide +kernel)
theorem zeU {K:W.Frag}:PySem.W.kitOne K (.type "NoneType") (.type "list")=some false:=L2.kit_no (by decide +kernel) (by decide +kernel) (by decide +kernel)
theorem zhs {K:W.Frag}:PySem.W.kitOne K (.type "bool") (.type "list")=some false:=L2.kit_no (by decide +kernel) (by decide +kernel) (by decide +kernel)
theorem ziv {K:W.Frag}:PySem.W.kitOne K (.type "int") (.type "list")=some false:=L2.kit_no (by decide +kernel) (by decide +kernel) (by decide +kernel)
theorem zhO {K:W.Frag}:PySem.W.kitOne K (.type "str") (.type "list")=some false:=L2.kit_no (by decide +kernel) (by decide +kernel) (by decide +kernel)
theorem zgE {K:W.Frag}:PySem.W.kitOne K (.type "tuple") (.type "list")=some false:=L2.kit_no (by decide +kernel) (by decide +kernel) (by decide +kernel)
theorem zho {K:W.Frag}:PySem.W.kitOne K (.type "list") (.type "list")=some true:=L2.kit_self
theorem zg7 {K:W.Frag}:PySem.W.kitOne K (.type "dict") (.type "list")=some false:=L2.kit_no (by decide +kernel) (by decide +kernel) (by decide +kernel)
theorem znY {K:W.Frag} (d:D) (h:okI d=true):PySem.W.kitOne K (.type (zim d)) (.type "int")=some (isiB "int" d):=by
  cases d with
  | non=>exact zfr
  | bl b=>exact kit_int_bool
  | int b=>exact ziH
  | str b=>exact zjd
  | tup b=>exact zhx
  | lst b=>exact zhT
  | dct b b'=>exact zh3
  | scr b=>cases h
  | exc b=>cases h
  | fd b b'=>cases h
  | obj b b' b''=>cases h
theorem zme {K:W.Frag} (d:D) (h:okI d=true):PySem.W.kitOne K (.type (zim d)) (.type "bool")=some (isiB "bool" d):=by
  cases d with
  | non=>exact ze4
  | bl b=>exact zhH
  | int b=>exact zio
  | str b=>exact zit
  | tup b=>exact zgA
  | lst b=>exact zhd
  | dct b b'=>exact zg4
  | scr b=>cases h
  | exc b=>cases h
  | fd b b'=>cases h
  | obj b b' b''=>cases h
theorem zlJ {K:W.Frag} (d:D) (h:okI d=true):PySem.W.kitOne K (.type (zim d)) (.type "list")=some (isiB "list" d):=by
  cases d with
  | non=>exact zeU
  | bl b=>exact zhs
  | int b=>exact ziv
  | str b=>exact zhO
  | tup b=>exact zgE
  | lst b=>exact zho
  | dct b b'=>exact zg7
  | scr b=>cases h
  | exc b=>cases h
  | fd b b'=>cases h
  | obj b b' b''=>cases h
theorem zlj {c:String} (hk:∀ d,okI d=true→PySem.W.kitOne K.f (.type (zim d)) (.type c)=some (isiB c d)) (ha:SEr K XO E ta ma):SE K XO E (tCB (rIs K.f) (zby ta (zby (tC (.ty c)) tNil))) (m1 (oIsi c) ma):=by
  intro Λ F0 H0 F H σ δ Q I a
  refine ha Λ F0 H0 F H σ δ _ I (a.bind.imp fun d F1 H1 e1 a1 x rx=>?_)
  by_cases hs':okI d=true
  case neg =>
    cases d with
    | scr _=>exact a1.elim
    | exc _=>exact a1.elim
    | fd _ _=>exact a1.elim
    | obj _ _ _=>exact a1.elim
    | _=>exact absurd rfl hs'
  have a2:Aft E XO σ F1 H1 (fun d F' H'=>∀ v,Rep K F' d v→Q v H') (.ok (.bl (isiB c d))):=by
    cases d with
    | scr l=>cases hs'
    | exc l=>cases hs'
    | fd _ _=>cases hs'
    | obj _ _ _=>cases hs'
    | _=>exact a1
  have fin:=a2 F1 H1 (.refl e1.fh) (.bl (isiB c d)) (by simp only [Rep])
  suffices h:TyOf K.f H1 x (.type (zim d)) from ⟨x,.ty c,.type c,_,_,rfl,rfl,h,hk d hs',fin⟩
  cases d with
  | non=>simp only [Top,Rep] at rx; subst rx; exact .non
  | bl b=>simp only [Top,Rep] at rx; subst rx; exact .bl _
  | int b=>simp only [Top,Rep] at rx; subst rx; exact .int _
  | str b=>simp only [Top,Rep] at rx; subst rx; exact .str _
  | tup l =>
    simp only [Top,Rep] at rx
    obtain ⟨p,vs,rfl,h1,h2⟩:=rx
    exact .tup (e1.fh _ _ h1)
  | lst l =>
    obtain ⟨p,vs,rfl,h1,h2⟩:=rx
    rcases h1 with h | ⟨o,h⟩
    · exact .lst h
    · exact .frz h
  | dct ks l=>obtain ⟨p,kvs,rfl,h1,h2⟩:=rx; exact .dK h1
  | scr l=>cases hs'
  | exc l=>cases hs'
  | fd _ _=>cases hs'
  | obj _ _ _=>cases hs'
def toPy:Nat→D→PyData
  | _,.non=>.none
  | _,.int i=>.int i
  | n + 1,.tup l=>.tuple (l.map (toPy n))
  | n + 1,.lst l=>.list (l.map (toPy n))
  | _,_=>.none
theorem zce:∀ (n:Nat) (d:D),zaG n d=true→(toPy n d).canLay0=true∧(toPy n d).depth ≤ n:=by
  intro n
  induction n with
  | zero =>
    intro d h
    cases d with
    | non=>exact ⟨rfl,Nat.le_refl _⟩
    | int i=>exact ⟨rfl,Nat.le_refl _⟩
    | _=>cases h
  | succ n ih =>
    have all:∀ l:List D,l.all (zaG n)=true→PyData.canLayAll0 (l.map (toPy n))=true∧PyData.depthAll (l.map (toPy n)) ≤ n:=by
      intro l
      induction l with
      | nil=>intro _; exact ⟨rfl,Nat.zero_le _⟩
      | cons a l ih2 =>
        intro h
        rw [List.all_cons,Bool.and_eq_true] at h
        obtain ⟨h1,h2⟩:=ih a h.1
        obtain ⟨h3,h4⟩:=ih2 h.2
        refine ⟨?_,?_⟩
        · simp only [List.map_cons,PyData.canLayAll0,h1,h3,Bool.and_self]
        · simp only [List.map_cons,PyData.depthAll]; omega
    intro d h
    cases d with
    | non=>exact ⟨rfl,Nat.zero_le _⟩
    | int i=>exact ⟨rfl,Nat.zero_le _⟩
    | tup l=>obtain ⟨h1,h2⟩:=all l h; exact ⟨by simpa only [toPy,PyData.canLay0] using h1,by simp only [toPy,PyData.depth]; omega⟩
    | lst l=>obtain ⟨h1,h2⟩:=all l h; exact ⟨by simpa only [toPy,PyData.canLay0] using h1,by simp only [toPy,PyData.depth]; omega⟩
    | _=>cases h
open Classical in
theorem zfR:∀ (n:Nat) (d d':D),zaG n d=true→zaG n d'=true→PyData.eqv (toPy n d) (toPy n d')=decide (d=d'):=by
  intro n
  induction n with
  | zero =>
    intro d d' h h'
    cases d with
    | non=>cases d' <;> first | (simp [toPy,PyData.eqv]; done) | cases h'
    | int i =>
      cases d' with
      | int j=>simp only [toPy,PyData.eqv]; by_cases e:i=j <;> simp [e]
      | _=>first | (simp [toPy,PyData.eqv]; done) | cases h'
    | _=>cases h
  | succ n ih =>
    have all:∀ l l':List D,l.all (zaG n)=true→l'.all (zaG n)=true→PyData.eqvAll (l.map (toPy n)) (l'.map (toPy n))=decide (l=l'):=by
      intro l
      induction l with
      | nil=>intro l' _ _; cases l' <;> simp [PyData.eqvAll]
      | cons a l ih2 =>
        intro l' h h'
        cases l' with
        | nil=>simp [PyData.eqvAll]
        | cons b l' =>
          rw [List.all_cons,Bool.and_eq_true] at h h'
          simp only [List.map_cons,PyData.eqvAll,ih a b h.1 h'.1,ih2 l' h.2 h'.2]
          by_cases e1:a=b <;> by_cases e2:l=l' <;> simp [e1,e2]
    intro d d' h h'
    cases d with
    | non=>cases d' <;> first | (simp [toPy,PyData.eqv]; done) | cases h'
    | int i =>
      cases d' with
      | int j=>simp only [toPy,PyData.eqv]; by_cases e:i=j <;> simp [e]
      | _=>first | (simp [toPy,PyData.eqv]; done) | cases h'
    | tup l =>
      cases d' with
      | tup l'=>simp only [toPy,PyData.eqv,all l l' h h']; simp
      | _=>first | (simp [toPy,PyData.eqv]; done) | cases h'
    | lst l =>
      cases d' with
      | lst l'=>simp only [toPy,PyData.eqv,all l l' h h']; simp
      | _=>first | (simp [toPy,PyData.eqv]; done) | cases h'
    | _=>cases h
theorem zfG {pins:List (Addr × Obj)} {σ:L2.St} {H F:Hp} {s:Shared} (I:Inv X pins σ H s) (sm:Same F H):∀ (n:Nat) (d:D) (v:V) (u:Value),zaG n d=true→Rep ⟨X.K,ca,an⟩ F d v→RelV v u→∃ as,Reads s.heap u (toPy n d) as:=by
  intro n
  induction n with
  | zero =>
    intro d v u h r ru
    cases d with
    | non=>simp only [Rep] at r; subst r; cases ru; exact ⟨_,.none⟩
    | int i=>simp only [Rep] at r; subst r; obtain ⟨t,rfl⟩:=ru; exact ⟨_,.int i t⟩
    | _=>cases h
  | succ n ih =>
    have all:∀ (l:List D) (vs:List V) (us:List Value),l.all (zaG n)=true→RepL ⟨X.K,ca,an⟩ F l vs→Vals vs us→∃ as,ReadsAll s.heap us (l.map (toPy n)) as:=by
      intro l
      induction l with
      | nil=>intro vs us _ r ru; simp only [RepL] at r; subst r; cases ru; exact ⟨_,.nil⟩
      | cons a l ih2 =>
        intro vs us h r ru
        rw [List.all_cons,Bool.and_eq_true] at h
        simp only [RepL] at r
        obtain ⟨v,r',rfl,r1,r2⟩:=r
        cases ru with
        | cons ru ru' =>
          obtain ⟨as,h1⟩:=ih a v _ h.1 r1 ru
          obtain ⟨bs,h2⟩:=ih2 r' _ h.2 r2 ru'
          exact ⟨_,.cons h1 h2⟩
    intro d v u h r ru
    cases d with
    | non=>simp only [Rep] at r; subst r; cases ru; exact ⟨_,.none⟩
    | int i=>simp only [Rep] at r; subst r; obtain ⟨t,rfl⟩:=ru; exact ⟨_,.int i t⟩
    | tup l =>
      simp only [Rep] at r
      obtain ⟨a,vs,rfl,h1,h2⟩:=r
      cases ru
      obtain ⟨its,rv,⟨o,e,c,k,dd⟩,_⟩:=I.tuple (show SqT X.K H a vs from .inl (.inl (sm _ _ h1)))
      obtain ⟨as,h3⟩:=all l vs its h h2 rv
      exact ⟨_,.tuple e c dd (by simpa using h3)⟩
    | lst l =>
      simp only [Rep] at r
      obtain ⟨a,vs,rfl,h1,h2⟩:=r
      cases ru
      obtain ⟨its,rv,⟨o,k,e,c,_,dd⟩,_⟩:=I.list (show SqL X.K H a vs from .inl (PM.Same.rd sm h1))
      obtain ⟨as,h3⟩:=all l vs its h h2 rv
      exact ⟨_,.list e c dd (by simpa using h3)⟩
    | _=>cases h
theorem zc2 {pins:List (Addr × Obj)} {σ:L2.St} {H F:Hp} {s:Shared} (I:Inv X pins σ H s) (sm:Same F H) {n:Nat} {d:D} {v:V} {u:Value} (h:zaG n d=true) (r:Top ⟨X.K,ca,an⟩ F H d v) (ru:RelV v u):∃ as,Reads s.heap u (toPy n d) as:=by
  have r':Rep ⟨X.K,ca,an⟩ (zcg F H) d v:=by
    cases d with
    | lst l =>
      obtain ⟨a,vs,rfl,h1,h2⟩:=r
      rcases h1 with h1 | ⟨o,h1⟩
      · exact zht sm (.inr (.inl ⟨a,rfl,vs,h1,h2⟩))
      · simp only [Rep]
        refine ⟨a,vs,rfl,.inr ⟨o,?_⟩,h2.mono zcR⟩
        unfold zcg
        cases q:F a with
        | some u=>rw [sm _ _ q] at h1; exact h1
        | none=>simp only [h1]
    | dct ks l=>cases n <;> cases h
    | obj c ks l=>cases n <;> cases h
    | _=>exact Rep.mono zcR _ r
  exact zfG I (ziN sm) n d v u h r' ru
open Classical in
def rEqD (K:Kx) (neg:Bool):R2:=fun x y H Q=>∃ (F:Hp) (dx dy:D),Same F H∧Top K F H dx x∧Top K F H dy y∧zaG 8 dx=true∧zaG 8 dy=true∧Q (.bl (if neg=true then !decide (dx=dy) else decide (dx=dy))) H
theorem zmQ (hu:X.A.units + 64 < cLine):OpR X (compareOp .Eq) (rEqD ⟨X.K,ca,an⟩ false):=by
  intro pins s σ H x y v u Q I rx ry h
  obtain ⟨F,dx,dy,sm,tx,ty,px,py,q⟩:=h
  obtain ⟨as,ra⟩:=zc2 I sm px tx rx
  obtain ⟨bs,rb⟩:=zc2 I sm py ty ry
  obtain ⟨l1,l2⟩:=zce 8 dx px
  obtain ⟨m1,m2⟩:=zce 8 dy py
  refine SeqAt.compareEq_reads ra rb l1 m1 (by omega) ?_
  rw [zfR 8 dx dy px py]
  exact ⟨.bl _,H,I,rfl,q⟩
theorem zd1 (hu:X.A.units + 64 < cLine):OpR X (compareOp .NotEq) (rEqD ⟨X.K,ca,an⟩ true):=by
  intro pins s σ H x y v u Q I rx ry h
  obtain ⟨F,dx,dy,sm,tx,ty,px,py,q⟩:=h
  obtain ⟨as,ra⟩:=zc2 I sm px tx rx
  obtain ⟨bs,rb⟩:=zc2 I sm py ty ry
  obtain ⟨l1,l2⟩:=zce 8 dx px
  obtain ⟨m1,m2⟩:=zce 8 dy py
  refine SeqAt.compareNe_reads ra rb l1 m1 (by omega) ?_
  rw [zfR 8 dx dy px py]
  exact ⟨.bl _,H,I,rfl,q⟩
theorem zmt:SR K (rEqD K false) oEqD:=by
  intro F H x y dx dy d Q s hx hy e q
  unfold oEqD ifC at e
  split at e
  · rename_i h
    cases e
    exact ⟨F,dx,dy,s,hx,hy,h.1,h.2,q _ F H (.refl s) (by simp only [Rep]; rfl)⟩
  · cases e
theorem zd3:SR K (rEqD K true) oNeD:=by
  intro F H x y dx dy d Q s hx hy e q
  unfold oNeD ifC at e
  split at e
  · rename_i h
    cases e
    exact ⟨F,dx,dy,s,hx,hy,h.1,h.2,q _ F H (.refl s) (by simp only [Rep]; rfl)⟩
  · cases e
end
end PM
namespace L2
open PySem PySem.Spec PyProof.Rows
def Itv (K:PySem.W.Frag) (a:Addr) (n:Nat):It :=
  ⟨fun i H=>i < n∧∃ xs,SqL K H a xs∧xs.length=n,fun i H x H'=>H'=H∧∀ xs,SqL K H a xs→xs[n - 1 - i]?=some x,fun i _=>n ≤ i⟩
theorem znn {P:Program} {w:World} {K:PySem.W.Frag} {tg:Expr} (a it:Addr) (n:Nat):Turn P w K tg (Itv K a n) [it] it (fun i h=>i ≤ n∧h.IsRevIter it a ((n:Int) - 1 - i)) where
  mem:=by simp
  obj:=fun i h st b hb=>by
    have e:b=it:=by simpa using hb
    subst e
    obtain ⟨_,o,e,c,d⟩:=st
    exact ⟨o,e,fun v z=>by rw [d] at z; cases z⟩
  keep:=fun i h h' st k=>⟨st.1,st.2.at fun o e=>k it (by simp) o e⟩
  item:=by
    intro X hP hw hK hc i pins s σ H E I hf st hg
    subst hP hw hK
    obtain ⟨hi,xs,hq,hn⟩:=hg
    obtain ⟨its,rv,p,hz⟩:=I.list hq
    have hx:xs[n - 1 - i]?=some (xs[n - 1 - i]'(by omega)):=List.getElem?_eq_getElem _
    obtain ⟨u,hu,ru⟩:=rv.get hx
    obtain ⟨f0,f1,f2,f3,f4,f5⟩:=hf it (by simp)
    have e0:(n:Int) - 1 - i=((n - 1 - i:Nat):Int):=by omega
    have st1:=st.2
    rw [e0] at st1
    refine wpAny_pyNext_rev_item st1 p.isList (x:=u) (by simpa using hu) fun h' st' sb=>?_
    have I1:Inv X pins σ H { s with heap:=h' }:=I.turned (t':=s.toks) (fun b o hb e=>(sb.2 b hb).trans e) f0 f1 f3 f4 f5
    have st2:h'.IsRevIter it a ((n:Int) - 1 - ((i + 1:Nat):Int)):=by
      have e1:(n:Int) - 1 - ((i + 1:Nat):Int)=((n - 1 - i:Nat):Int) - 1:=by omega
      rw [e1]; exact st'
    obtain ⟨o,e,c,d⟩:=id st'
    exact ⟨u,rfl,zlr (s:={ s with heap:=h' }) e c d (by decide) ⟨_,H,I1,ru,⟨rfl,fun ys hy=>by rw [I.list_inj hy hq]; exact hx⟩,⟨hi,st2⟩,fun b hb=>(hf b hb).1⟩⟩
  done:=by
    intro X hP hw hK hc i pins s σ H E I hf st hg
    subst hP hw hK
    obtain ⟨f0,f1,f2,f3,f4,f5⟩:=hf it (by simp)
    have st1:=st.2
    have e0:(n:Int) - 1 - i = -1:=by have:=st.1; have:n ≤ i:=hg; omega
    rw [e0] at st1
    exact wpAny_pyNext_rev_end (I.ok.hd hc) st1 fun h' eb=>⟨rfl,I.turned (t':=s.toks) (fun b o hb e=>eb b o hb e) f0 f1 f3 f4 f5⟩
  self:=fun _ _ _ _ _ st h=>wpAny_pyIter_revIter st.2 h
def znE (scope osc:Scope):Scope:={ scope with names:=scope.names.map fun (n,k)=>if (k == .free && osc.kind == .function && osc.names.lookup n == some .cell) then (n,.cell) else (n,k) }
section
variable {X:Cx}
def iRev (K:PySem.W.Frag) (ta:TA):TI:=fun σ H R=>ta σ H fun vs H1=>∃ a xs,vs = [.ref a]∧SqL K H1 a xs∧R (Itv K a xs.length) H1
theorem zpR {tg l:Expr} {ta:TA} {p pos:Pos} (hg:Gl X "reversed") (hm:X.mg "reversed"=none) (ha:PA X [l] ta) (hs:starEach [l] X.env = [(false,eval l X.env)]:=by rfl) :
    PI X tg (.Call (.Name "reversed" p) [l] [] pos) (iRev X.K ta):=by
  intro pins s σ H R I h
  refine Call_ (zer I hg hm boot_reversed (PyProof.Rows.callWith_type1 (thn (ha pos pins s σ H _ I h) fun us s1 ⟨vs,H1,I1,r1,q1⟩=>?_) hs rfl))
  obtain ⟨a,xs,e,hq,q⟩:=q1
  subst e
  obtain ⟨u,rfl,rx⟩:=zey r1
  cases rx
  obtain ⟨its,rv,pl,hz⟩:=I1.list hq
  have hl:=rv.length
  refine call_reversed_list pl.isList ?_
  have st:(s1.heap.push (revObj a ((its.toArray.size:Int) - 1))).IsRevIter s1.heap.objs.size a ((xs.length:Int) - 1 - ((0:Nat):Int)):=⟨_,Heap.get?_push_size _ rfl,rfl,by
    have e:((xs.length:Int) - 1 - ((0:Nat):Int))=(its.toArray.size:Int) - 1:=by simp; omega
    rw [e]; rfl⟩
  refine wpAny_pyIter_revIter (s:={ s1 with heap:=s1.heap.push (revObj a ((its.toArray.size:Int) - 1)) }) st ?_
  refine ⟨s1.heap.objs.size,[s1.heap.objs.size],_,_,H1,rfl,I1.kept (t':=s1.toks) fun b o e=>Heap.get?_push_of_some _ e,znn a _ xs.length,⟨Nat.zero_le _,st⟩,fun b hb=>?_,q⟩
  have e:b=s1.heap.objs.size:=by simpa using hb
  subst e
  exact I1.fpOk (Nat.le_refl _) (I1.hok.fresh (Nat.le_refl _))
end
end L2
namespace PM
open PySem L2
section
variable {K:Kx} {XO:XOT} {E:L2.St→XK}
theorem znQ {a:Addr} {ds:List D} {vs:List V} {F1:Hp} {P:Hp→Hp→Prop} (r:RepL K F1 ds vs) (h:∀ F2 H2,P F2 H2→Same F1 F2∧Same F2 H2∧SqL K.f H2 a vs):IsIt K (Itv K.f a vs.length) P ds.reverse:=by
  intro F2 H2 p i
  obtain ⟨s1,s2,q⟩:=h F2 H2 p
  have hl:=r.length
  refine ⟨fun d hd=>?_,fun hn=>?_⟩
  · have hi:i < ds.length:=by
      have:=(List.getElem?_eq_some_iff.mp hd).1
      simpa using this
    rw [List.getElem?_reverse hi] at hd
    obtain ⟨v,hv,rv⟩:=r.get hd
    refine ⟨⟨by omega,vs,q,rfl⟩,fun x H' y=>?_⟩
    obtain ⟨rfl,y⟩:=y
    have z:=y vs q
    rw [hl] at z
    rw [hv] at z; cases z
    exact ⟨F2,.refl s2,Rep.mono s1 _ rv⟩
  · have:ds.reverse.length ≤ i:=List.getElem?_eq_none_iff.mp hn
    rw [List.length_reverse] at this
    show vs.length ≤ i
    omega
theorem zls {l r:List D} (h:rev1 l=some r):∃ x,l = [.lst x]∧r=x.reverse:=by
  unfold rev1 at h
  split at h
  · cases h; exact ⟨_,rfl,rfl⟩
  · cases h
theorem zqf {tl:TA} {ml:En→R (List D)} (h:SA K XO E tl ml):SI K XO E (iRev K.f tl) (mRev ml):=by
  intro Λ F0 H0 F H σ δ R I a
  refine h Λ F0 H0 F H σ δ _ I (a.bind.imp fun ds F1 H1 e1 a1 vs r=>?_)
  cases q:rev1 ds with
  | none=>rw [q] at a1; exact a1.elim
  | some z =>
    rw [q] at a1
    obtain ⟨l,rfl,rfl⟩:=zls q
    obtain ⟨v,rfl,r'⟩:=RepL.one r
    simp only [Rep] at r'
    obtain ⟨a,vs,rfl,h1,h2⟩:=r'
    exact ⟨a,vs,rfl,.inl (PM.Same.rd e1.fh h1),a1 F1 H1 (.refl e1.fh) _ (znQ h2 fun F2 H2 x=>⟨x.1,x.2,.inl (PM.Same.rd x.2 (PM.Same.rd x.1 h1))⟩)⟩
end
end PM
namespace PM
open PySem L2
section
variable {K:Kx} {E:L2.St→XK} {ta:TE} {ma:En→R D} {t u:TS} {m n:En→O} {Λ:List (Nat × Addr × HO)} {F0 H0 F H:Hp} {σ:L2.St} {δ:En}
end
end PM
namespace L2
open PySem PySem.Spec PyProof.Rows
section
variable {P:Program} {w:World} {B:Around} {Z:Result→Shared→Prop} {J S:Addr} {fp wr:List Addr} {n:Nat} {Pv:Nat→Value→Prop} {Sn:Nat→Heap→Prop}
end
section
variable {P:Program} {w:World} {B:Around} {E:Value→Shared→Prop} {s:Shared} {Q:Value→Shared→Prop} {l:Addr} {xs:Array (Int × Tok)} {df:Value}
end
end L2
namespace L2
open PySem PySem.Spec PyProof.Rows
theorem zl8:∀ (l:List Int) (m:Int),m ≤ PM.maxI l m∧(∀ a ∈ l,a ≤ PM.maxI l m)∧(PM.maxI l m=m∨PM.maxI l m ∈ l)
  | [],m=>⟨Int.le_refl _,fun _ h=>(by cases h),.inl rfl⟩
  | a :: l,m=>by
    obtain ⟨h1,h2,h3⟩:=zl8 l (if a > m then a else m)
    unfold PM.maxI
    have e:(if a > m then a else m)=a∧a > m∨(if a > m then a else m)=m∧¬ a > m:=by split <;> simp_all
    refine ⟨by omega,fun b hb=>?_,?_⟩
    · rcases List.mem_cons.mp hb with rfl | hb
      · omega
      · exact h2 b hb
    · rcases h3 with h3 | h3
      · rcases e with ⟨e,_⟩ | ⟨e,_⟩
        · exact .inr (by rw [h3,e]; exact List.mem_cons_self)
        · exact .inl (by rw [h3,e])
      · exact .inr (List.mem_cons_of_mem _ h3)
section
variable {X:Cx}
end
end L2
namespace PM
open PySem L2
section
variable {K:Kx} {XO:XOT} {E:L2.St→XK} {td te:TE} {md me:En→R D}
end
end PM
namespace L2
open PySem PySem.Spec PyProof.Rows
section
variable {X:Cx}
theorem zri {o:Expr} {m:Str} {apos:Pos} {e f:Expr} {cpos:Pos} (h1:attributeBase o m X.env (eval o X.env)=eval o X.env:=by rfl)
    (h2:((backTo cpos (starEach [e,f] X.env)).all (fun x=>!x.1) && (backToKw cpos (keywordEach [] X.env)).all (fun x=>x.1.isSome) && decide (([e,f]:List Expr).length + ([]:List Keyword).length + (if ([]:List Keyword).isEmpty then 0 else 1) < 30))=true:=by rfl)
    (h3:(apos.endLine == cpos.line)=true:=by rfl) (h4:backTo cpos (starEach [e,f] X.env) = [(false,eval e X.env),(false,eval f X.env)]:=by rfl):M2 X o m apos e f cpos:=⟨h1,h2,h3,h4⟩
end
end L2
namespace PM
open PySem L2
section
variable {K:Kx} {XO:XOT} {E:L2.St→XK} {td ty tx:TE} {md my mx:En→R D}
def oIn (x y:D):Option D:=match x,y with | .int i,.lst l=>(asIs l).map fun ns=>.bl (decide (i ∈ ns)) | .int i,.tup l=>(asIs l).map fun ns=>.bl (decide (i ∈ ns)) | _,_=>none
def zgO (x y:D):Option D:=match x,y with | .int i,.lst l=>(asIs l).map fun ns=>.bl (!decide (i ∈ ns)) | .int i,.tup l=>(asIs l).map fun ns=>.bl (!decide (i ∈ ns)) | _,_=>none
theorem zfz {i:Int} {ns:List Int}:inV (.int i) (ns.map V.int)=decide (i ∈ ns):=by
  rw [Bool.eq_iff_iff]
  unfold inV
  simp only [List.any_map,List.any_eq_true,Function.comp,decide_eq_true_eq]
  constructor
  · rintro ⟨a,h1,h2⟩
    have:a=i:=by simpa [eqV] using h2
    subst this; exact h1
  · intro h
    exact ⟨i,h,by simp [eqV]⟩
theorem zeP {ns:List Int}:(ns.map V.int).all zhE=true:=by
  rw [List.all_map,List.all_eq_true]
  intro x _; rfl
theorem zqZ:SR K (rIn K.f false) oIn:=by
  intro F H x y dx dy d Q s hx hy e q
  cases dx with
  | int i =>
    simp only [Top,Rep] at hx
    subst hx
    cases dy with
    | lst l =>
      obtain ⟨a,vs,rfl,h1,h2⟩:=hy
      simp only [oIn] at e
      cases z:asIs l with
      | none=>rw [z] at e; cases e
      | some ns =>
        rw [z] at e; cases e
        have el:=zbB z; subst el
        have ev:=zbp h2; subst ev
        exact ⟨a,_,rfl,.inl (.inl h1),rfl,zeP,q _ F H (.refl s) (by simp only [Rep]; rw [zfz]; rfl)⟩
    | tup l =>
      simp only [Top,Rep] at hy
      obtain ⟨a,vs,rfl,h1,h2⟩:=hy
      simp only [oIn] at e
      cases z:asIs l with
      | none=>rw [z] at e; cases e
      | some ns =>
        rw [z] at e; cases e
        have el:=zbB z; subst el
        have ev:=zbp h2; subst ev
        exact ⟨a,_,rfl,.inr (.inl (.inl (s _ _ h1))),rfl,zeP,q _ F H (.refl s) (by simp only [Rep]; rw [zfz]; rfl)⟩
    | _=>cases e
  | _=>cases e
theorem zm9:SR K (rIn K.f true) zgO:=by
  intro F H x y dx dy d Q s hx hy e q
  cases dx with
  | int i =>
    simp only [Top,Rep] at hx
    subst hx
    cases dy with
    | lst l =>
      obtain ⟨a,vs,rfl,h1,h2⟩:=hy
      simp only [zgO] at e
      cases z:asIs l with
      | none=>rw [z] at e; cases e
      | some ns =>
        rw [z] at e; cases e
        have el:=zbB z; subst el
        have ev:=zbp h2; subst ev
        exact ⟨a,_,rfl,.inl (.inl h1),rfl,zeP,q _ F H (.refl s) (by simp only [Rep]; rw [zfz]; rfl)⟩
    | tup l =>
      simp only [Top,Rep] at hy
      obtain ⟨a,vs,rfl,h1,h2⟩:=hy
      simp only [zgO] at e
      cases z:asIs l with
      | none=>rw [z] at e; cases e
      | some ns =>
        rw [z] at e; cases e
        have el:=zbB z; subst el
        have ev:=zbp h2; subst ev
        exact ⟨a,_,rfl,.inr (.inl (.inl (s _ _ h1))),rfl,zeP,q _ F H (.refl s) (by simp only [Rep]; rw [zfz]; rfl)⟩
    | _=>cases e
  | _=>cases e
def zoW:D→Option (List Key × List D)
  | .dct ks l=>some (ks,l)
  | _=>none
def zja (md my mx:En→R D) (δ:En):R D:=(md δ).bind fun d=>(R.of (zoW d)).bind fun p=>(my δ).bind fun k=>(mx δ).bind fun x=>R.of ((asK k).map fun k=>(getK p.1 p.2 k).getD x)
theorem zoQ (hd:SEr K XO E td md) (hy:SE K XO E ty my) (hx:SE K XO E tx mx):SE K XO E (zom td ty tx) (zja md my mx):=by
  intro Λ F0 H0 F H σ δ Q I a
  refine hd Λ F0 H0 F H σ δ _ I (a.bind.imp fun d F1 H1 e1 a1 x rx=>?_)
  cases d with
  | dct ks l =>
    have rx':=rx
    obtain ⟨p,kvs,rfl,h1,_⟩:=rx'
    refine ⟨p,rfl,.inl ⟨kvs,.inl h1⟩,?_⟩
    change Aft E XO σ F1 H1 _ ((my δ).bind fun k=>(mx δ).bind fun x=>R.of ((asK k).map fun k=>(getK ks l k).getD x)) at a1
    refine hy Λ F0 H0 F1 H1 σ δ _ (I.grow e1) (a1.bind.imp fun k F2 H2 e2 a2 y ry=>?_)
    refine hx Λ F0 H0 F2 H2 σ δ _ ((I.grow e1).grow e2) (a2.bind.imp fun xd F3 H3 e3 a3 z rz=>?_)
    cases q:asK k with
    | none=>rw [q] at a3; exact a3.elim
    | some key =>
      rw [q] at a3
      obtain ⟨p',o,ep,g,g1,g2⟩:=znj (k:=key) ((rx.mono e2.ff e2.hh).mono e3.ff e3.hh)
      cases ep
      cases zi0 q ry
      refine ⟨o,g,a3 F3 H3 (.refl e3.fh) _ ?_⟩
      cases w:getK ks l key with
      | none=>rw [g2 w]; simpa only [w,Option.getD_none] using rz
      | some dd=>obtain ⟨v,rfl,r⟩:=g1 dd w; simpa only [w,Option.getD_some] using r
  | _=>exact a1.elim
end
end PM
namespace L2
open PySem PySem.Spec PyProof.Rows
section
variable {X:Cx}
end
end L2
namespace PM
open PySem L2
section
variable {K:Kx} {XO:XOT} {E:L2.St→XK}
end
end PM
namespace L2
open PySem PySem.Spec PyProof.Rows
theorem Inv.turnedL {X:Cx} {pins:List (Addr × Obj)} {σ:St} {H:Hp} {s:Shared} {h':Heap} {t':Nat} (ch:List Addr) (I:Inv X pins σ H s) (hf:∀ b ∈ ch,FpOk X pins H b) (k:∀ b o,b ∉ ch→s.heap.get? b=some o→h'.get? b=some o):Inv X pins σ H { s with heap:=h',toks:=t' }:=by
  have nit:∀ b u,H b=some u→b ∉ ch:=fun b u e z=>by
    obtain ⟨f0,_⟩:=hf b z
    rw [f0] at e; cases e
  refine I.step (g':=s.gens) (d':=s.drawn) (ch:=ch) (fun b hb=>?_) (fun b o _ _ hc e _=>k b o hc e) (fun b o _ _ hc e _=>⟨o.slots,k b o hc e⟩) (fun _ _ _ _ n=>n)
    (fun b o hc e=>⟨o,k b o hc e⟩) (fun _ _ e=>e) (fun _ _ _ e=>e) (fun b ps e=>⟨#[],by rw [e]; simp⟩) (fun m hm=>?_) (fun b u e=>?_) I.bare
  · obtain ⟨f0,f1,f2,f3,f4,f5⟩:=hf b hb
    exact ⟨f3,f1,f4,f5⟩
  · obtain ⟨o,es,ep,ho,r⟩:=hm
    refine ⟨o,es,ep,k _ o (fun z=>?_) ho,r⟩
    obtain ⟨_,f1,_⟩:=hf _ z
    exact f1 rfl
  · refine (I.hok b u e).stay (fun c v hc q=>k c v ?_ q) (fun _ q=>q) fun _ _ q=>q
    rcases hc with z | z
    · rw [z]; exact nit b u e
    · exact nit c _ z
theorem Inv.laidT {X:Cx} {pins:List (Addr × Obj)} {σ:St} {H:Hp} {s:Shared} {h':Heap} {t':Nat} (ch:List Addr) {xs:List V} {us:List Value} (I:Inv X pins σ H s) (hf:∀ b ∈ ch,FpOk X pins H b) (k:∀ b o,b ∉ ch→s.heap.get? b=some o→h'.get? b=some o)
    (hl:xs.length ≤ sizeLine) (rv:Vals xs us) (ht:h'.get? s.heap.objs.size=some { cls:=.type "tuple",data:=.seq us.toArray }):Inv X pins σ (upd H s.heap.objs.size (.tup xs)) { s with heap:=h',toks:=t' }:=by
  have hT:H s.heap.objs.size=none:=I.hok.fresh (Nat.le_refl _)
  have nit:∀ b u,H b=some u→b ∉ ch:=fun b u e z=>by
    obtain ⟨f0,_⟩:=hf b z
    rw [f0] at e; cases e
  refine I.step (h':=h') (g':=s.gens) (d':=s.drawn) (t':=t') (ch:=ch) (fun b hb=>?_) (fun b o _ _ hb q _=>k b o hb q) (fun b o _ _ hb q _=>⟨o.slots,k b o hb q⟩) (fun b o hb q n=>?_) (fun b o hb q=>⟨o,k b o hb q⟩) (fun b ys q=>?_) (fun b o ys q=>?_) (fun b ps q=>⟨#[],?_⟩) (fun m hm=>?_) ?_ I.bare
  · obtain ⟨f0,f1,f2,f3,f4,f5⟩:=hf b hb
    exact ⟨f3,f1,f4,f5⟩
  · rw [zai (Nat.ne_of_lt (Heap.lt_size q))]; exact n
  · rw [zai (zaq q hT)]; exact q
  · rw [zai (zaq q hT)]; exact q
  · rw [zai (zaq q hT),q]; simp
  · obtain ⟨o,es',ep,ho',r⟩:=hm
    refine ⟨o,es',ep,k _ o (fun z=>?_) ho',r⟩
    obtain ⟨_,f1,_⟩:=hf _ z
    exact f1 rfl
  · intro b o q
    by_cases hb:b=s.heap.objs.size
    · subst hb
      rw [zaj] at q; cases q
      exact ⟨hl,us,rv,⟨_,ht,rfl,_,rfl⟩⟩
    · rw [zai hb] at q
      refine (I.hok b o q).stay (fun c v hc' q'=>?_) (fun c q'=>by rw [zai (zaq q' hT)]; exact q') fun c ys q'=>by rw [zai (zaq q' hT)]; exact q'
      rcases hc' with rfl | hc'
      · exact k _ v (nit _ _ q) q'
      · exact k _ v (nit _ _ hc') q'
theorem ziD {h:Heap} {z TI TO i1 i2 a b:Addr} {f0 u v:Value} {k1 k2:Nat} {xs ys:Array Value} (hd : [z,TI,TO,i1,i2].Nodup) (h1:IsZip h z TI TO f0) (h3:IsPair h TO u v) (h4:h.IsListIter i1 a k1) (h5:h.IsListIter i2 b k2) (p:PlainL h a xs) (p':PlainL h b ys):ZipApart z TI TO i1 i2 a b:=by
  obtain ⟨o,n,e,c,_⟩:=p
  obtain ⟨o',n',e',c',_⟩:=p'
  obtain ⟨j1,g1,d1,_⟩:=h4
  obtain ⟨j2,g2,d2,_⟩:=h5
  simp only [List.nodup_cons,List.mem_cons,List.not_mem_nil,or_false,not_or,List.nodup_nil,and_true,not_false_eq_true] at hd
  obtain ⟨⟨z1,z2,z3,z4⟩,⟨y1,y2,y3⟩,⟨x1,x2⟩,w1⟩:=hd
  have q1:∀ {o:Obj} {l:Addr},h.get? l=some o→o.cls = .type "list"→l ≠ z:=fun e c r=>by subst r; rw [h1] at e; cases e; simp at c
  have q2:∀ {o:Obj} {l:Addr},h.get? l=some o→o.cls = .type "list"→l ≠ TO:=fun e c r=>by subst r; rw [h3] at e; cases e; simp at c
  have q3:∀ {o:Obj} {l:Addr},h.get? l=some o→o.cls = .type "list"→l ≠ i1:=fun e c r=>by subst r; rw [g1] at e; cases e; rw [d1] at c; simp at c
  have q4:∀ {o:Obj} {l:Addr},h.get? l=some o→o.cls = .type "list"→l ≠ i2:=fun e c r=>by subst r; rw [g2] at e; cases e; rw [d2] at c; simp at c
  exact ⟨Ne.symm z1,Ne.symm z2,Ne.symm z3,Ne.symm z4,y1,y2,y3,x1,x2,w1,q1 e c,q2 e c,q3 e c,q4 e c,q1 e' c',q2 e' c',q3 e' c',q4 e' c'⟩
def Itz (K:PySem.W.Frag) (a b:Addr):It :=
  ⟨fun i H=>∃ xs ys x y,SqL K H a xs∧SqL K H b ys∧xs[i]?=some x∧ys[i]?=some y,
   fun i H v H'=>∃ p x y,v = .ref p∧H p=none∧H'=upd H p (.tup [x,y])∧(∀ xs,SqL K H a xs→xs[i]?=some x)∧∀ ys,SqL K H b ys→ys[i]?=some y,
   fun i H=>∃ xs ys,SqL K H a xs∧SqL K H b ys∧(xs.length ≤ i∨ys.length ≤ i)⟩
theorem znX {P:Program} {w:World} {K:PySem.W.Frag} {es:List Expr} {k} {pos:Pos} (a b z TI TO i1 i2:Addr) (hd : [z,TI,TO,i1,i2].Nodup) :
    Turn P w K (.Tuple es k pos) (Itz K a b) [z,TI,TO,i1,i2] z (fun i h=>IsZip h z TI TO .none∧IsPair h TI (.ref i1) (.ref i2)∧(∃ u v,IsPair h TO u v)∧h.IsListIter i1 a i∧h.IsListIter i2 b i) where
  mem:=by simp
  obj:=fun i h st c hc=>by
    obtain ⟨h1,h2,⟨u,v,h3⟩,⟨o1,h4,c1,d1⟩,o2,h5,c2,d2⟩:=st
    simp only [List.mem_cons,List.not_mem_nil,or_false] at hc
    rcases hc with rfl | rfl | rfl | rfl | rfl
    · exact ⟨_,h1,fun v z=>by cases (show Data.fields _=Data.cell v from z)⟩
    · exact ⟨_,h2,fun v z=>by cases (show Data.seq _=Data.cell v from z)⟩
    · exact ⟨_,h3,fun v z=>by cases (show Data.seq _=Data.cell v from z)⟩
    · exact ⟨o1,h4,fun v z=>by rw [d1] at z; cases z⟩
    · exact ⟨o2,h5,fun v z=>by rw [d2] at z; cases z⟩
  keep:=fun i h h' st q=>by
    obtain ⟨h1,h2,⟨u,v,h3⟩,h4,h5⟩:=st
    exact ⟨q z (by simp) _ h1,q TI (by simp) _ h2,⟨u,v,q TO (by simp) _ h3⟩,h4.at fun o e=>q i1 (by simp) o e,h5.at fun o e=>q i2 (by simp) o e⟩
  item:=by
    intro X hP hw hK hc i pins s σ H E I hf st hg
    subst hP hw hK
    obtain ⟨xs,ys,x,y,q1,q2,hx,hy⟩:=hg
    obtain ⟨its,rv,p,hz⟩:=I.list q1
    obtain ⟨its',rv',p',hz'⟩:=I.list q2
    obtain ⟨u,hu,ru⟩:=rv.get hx
    obtain ⟨u',hu',ru'⟩:=rv'.get hy
    obtain ⟨h1,h2,⟨f,g,h3⟩,h4,h5⟩:=st
    have D:=ziD hd h1 h3 h4 h5 p p'
    have hT:H s.heap.objs.size=none:=I.hok.fresh (Nat.le_refl _)
    have nT:∀ c o,s.heap.get? c=some o→c ≠ s.heap.objs.size:=fun c o e=>Nat.ne_of_lt (Heap.lt_size e)
    refine wpAny_pyNext_zip_item D h1 h2 h3 h4 h5 p.isList p'.isList (x:=u) (y:=u') (by simpa using hu) (by simpa using hu') fun h' a1 a2 a3 a4 a5 a6 hk=>⟨_,rfl,?_⟩
    refine wpAny_letOwnedTupleGo_zip a1 fun h'' b1 hs''=>?_
    have hs2:Heap.SameBut z h' h'':=hs''
    have nzT:=nT z _ h1
    have hk2:∀ c o,c ∉ [z,TI,TO,i1,i2]→s.heap.get? c=some o→h''.get? c=some o:=fun c o hc q=>by
      simp only [List.mem_cons,List.not_mem_nil,or_false,not_or] at hc
      exact (hs2.2 c hc.1).trans (hk c o hc.1 hc.2.2.1 hc.2.2.2.1 hc.2.2.2.2 q)
    refine ⟨.ref s.heap.objs.size,upd H s.heap.objs.size (.tup [x,y]),?_,rfl,⟨_,x,y,rfl,hT,rfl,fun xs' h=>by rw [I.list_inj h q1]; exact hx,fun ys' h=>by rw [I.list_inj h q2]; exact hy⟩,
      ⟨b1,(hs2.2 _ D.TIz).trans (hk _ _ D.TIz D.TITO D.TIi1 D.TIi2 h2),⟨u,u',(hs2.2 _ D.TOz).trans a2⟩,a3.at fun o e=>(hs2.2 _ D.i1z).trans e,a4.at fun o e=>(hs2.2 _ D.i2z).trans e⟩,fun c hc=>?_⟩
    · exact I.laidT (t':=s.toks) [z,TI,TO,i1,i2] hf hk2 (by show 2 ≤ sizeLine; decide) (.cons ru (.cons ru' .nil)) ((hs2.2 _ (Ne.symm nzT)).trans a5)
    · obtain ⟨f0,_⟩:=hf c hc
      rw [zai]
      · exact f0
      · obtain ⟨o1,e4,_⟩:=h4
        obtain ⟨o2,e5,_⟩:=h5
        simp only [List.mem_cons,List.not_mem_nil,or_false] at hc
        rcases hc with rfl | rfl | rfl | rfl | rfl
        · exact nT _ _ h1
        · exact nT _ _ h2
        · exact nT _ _ h3
        · exact nT _ _ e4
        · exact nT _ _ e5
  done:=by
    intro X hP hw hK hc i pins s σ H E I hf st hg
    subst hP hw hK
    obtain ⟨xs,ys,q1,q2,he⟩:=hg
    obtain ⟨its,rv,p,hz⟩:=I.list q1
    obtain ⟨its',rv',p',hz'⟩:=I.list q2
    obtain ⟨h1,h2,⟨f,g,h3⟩,h4,h5⟩:=st
    have D:=ziD hd h1 h3 h4 h5 p p'
    have l1:=rv.length
    have l2:=rv'.length
    refine wpAny_pyNext_zip_end (I.ok.hd hc) D h1 h2 h3 h4 h5 p.isList p'.isList (he.imp (fun z=>by simp; omega) fun z=>by simp; omega) fun h' hk=>⟨rfl,?_⟩
    exact I.turnedL (t':=s.toks) [z,TI,TO,i1,i2] hf fun c o hc q=>by
      simp only [List.mem_cons,List.not_mem_nil,or_false,not_or] at hc
      exact hk c o hc.1 hc.2.2.1 hc.2.2.2.1 hc.2.2.2.2 q
  self:=fun _ _ _ _ _ st h=>wpAny_pyIter_zip st.1 h
section
variable {X:Cx}
def iZip (K:PySem.W.Frag) (ta:TA):TI:=fun σ H R=>ta σ H fun vs H1=>∃ a b,vs = [.ref a,.ref b]∧(∃ xs,SqL K H1 a xs)∧(∃ ys,SqL K H1 b ys)∧R (Itz K a b) H1
theorem zqH {es:List Expr} {k} {tp:Pos} {l l':Expr} {ta:TA} {p pos:Pos} (hg:Gl X "zip") (hm:X.mg "zip"=none) (ha:PA X [l,l'] ta) (hs:starEach [l,l'] X.env=(false,eval l X.env) :: starEach [l'] X.env:=by rfl) (hs2:(backTo pos (starEach [l'] X.env)).any (·.1)=false:=by rfl) :
    PI X (.Tuple es k tp) (.Call (.Name "zip" p) [l,l'] [] pos) (iZip X.K ta):=by
  intro pins s σ H R I h
  refine Call_ (zer I hg hm PyProof.Rows.boot_zip (PyProof.Rows.callWith_type1 (thn (ha pos pins s σ H _ I h) fun us s1 ⟨vs,H1,I1,r1,q1⟩=>?_) hs hs2))
  obtain ⟨a,b,e,⟨xs,hq⟩,⟨ys,hq'⟩,q⟩:=q1
  subst e
  obtain ⟨u,v,rfl,rx,ry⟩:=zll r1
  cases rx
  cases ry
  obtain ⟨its,rv,pl,hz⟩:=I1.list hq
  obtain ⟨its',rv',pl',hz'⟩:=I1.list hq'
  refine call_zip_2 pl.isList pl'.isList fun h' c1 c2 c3 c4 c5 hsz hk=>?_
  have I2:Inv X pins σ H1 { s1 with heap:=h' }:=I1.kept (t':=s1.toks) hk
  obtain ⟨m,em⟩:∃ m,m=s1.heap.objs.size:=⟨_,rfl⟩
  have hnd : [m + 4,m + 2,m + 3,m,m + 1].Nodup:=by simp
  rw [← em] at c1 c2 c3 c4 c5 ⊢
  refine wpAny_pyIter_zip c1 ⟨m + 4,[m + 4,m + 2,m + 3,m,m + 1],_,_,H1,rfl,I2,znX a b _ _ _ _ _ hnd,⟨c1,c2,⟨_,_,c3⟩,c4,c5⟩,fun d hd=>?_,q⟩
  have hd':s1.heap.objs.size ≤ d:=by
    simp only [List.mem_cons,List.not_mem_nil,or_false] at hd
    rcases hd with rfl | rfl | rfl | rfl | rfl <;> omega
  exact I1.fpOk hd' (I1.hok.fresh hd')
end
end L2
namespace PM
open PySem L2
section
variable {K:Kx} {XO:XOT} {E:L2.St→XK}
def zipD (l r:List D):List D:=List.zipWith (fun x y=>.tup [x,y]) l r
def zip1:List D→Option (List D)
  | [x,y]=>(asL' x).bind fun l=>(asL' y).map (zipD l)
  | _=>none
def mZip (ml:En→R (List D)) (δ:En):R (List D):=(ml δ).bind fun l=>R.of (zip1 l)
theorem zmn {l r:List D} (h:zip1 l=some r):∃ x y,l = [.lst x,.lst y]∧r=zipD x y:=by
  match l,h with
  | [x,y],h =>
    cases x with
    | lst x =>
      cases y with
      | lst y=>cases h; exact ⟨x,y,rfl,rfl⟩
      | _=>cases h
    | _=>cases h
theorem zni {a b:Addr} {ds es:List D} {vs ws:List V} {F1:Hp} {P:Hp→Hp→Prop} (r:RepL K F1 ds vs) (r':RepL K F1 es ws) (h:∀ F2 H2,P F2 H2→Same F1 F2∧Same F2 H2∧SqL K.f H2 a vs∧SqL K.f H2 b ws):IsIt K (Itz K.f a b) P (zipD ds es):=by
  intro F2 H2 p i
  obtain ⟨s1,s2,q,q'⟩:=h F2 H2 p
  unfold zipD
  rw [List.getElem?_zipWith]
  refine ⟨fun d hd=>?_,fun hn=>?_⟩
  · cases e:ds[i]? with
    | none=>rw [e] at hd; cases hd
    | some x =>
      cases e':es[i]? with
      | none=>rw [e,e'] at hd; cases hd
      | some y =>
        rw [e,e'] at hd
        cases hd
        obtain ⟨v,hv,rv⟩:=r.get e
        obtain ⟨w,hw,rw'⟩:=r'.get e'
        refine ⟨⟨vs,ws,v,w,q,q',hv,hw⟩,fun x' H' y=>?_⟩
        obtain ⟨p',x1,y1,rfl,hp,rfl,z1,z2⟩:=y
        have z:=z1 vs q
        rw [hv] at z; cases z
        have z:=z2 ws q'
        rw [hw] at z; cases z
        refine ⟨_,.new s2 hp,?_⟩
        simp only [Rep]
        have m:=s1.trans (Same.upd (u:=.tup [v,w]) (s2.free hp))
        exact ⟨p',_,rfl,zaj,.cons (Rep.mono m _ rv) (.cons (Rep.mono m _ rw') .nil)⟩
  · cases e:ds[i]? with
    | none=>exact ⟨vs,ws,q,q',.inl (by rw [r.length]; exact List.getElem?_eq_none_iff.mp e)⟩
    | some x =>
      cases e':es[i]? with
      | none=>exact ⟨vs,ws,q,q',.inr (by rw [r'.length]; exact List.getElem?_eq_none_iff.mp e')⟩
      | some y=>rw [e,e'] at hn; cases hn
theorem zqK {tl:TA} {ml:En→R (List D)} (h:SA K XO E tl ml):SI K XO E (iZip K.f tl) (mZip ml):=by
  intro Λ F0 H0 F H σ δ R I a
  refine h Λ F0 H0 F H σ δ _ I (a.bind.imp fun ds F1 H1 e1 a1 vs r=>?_)
  cases q:zip1 ds with
  | none=>rw [q] at a1; exact a1.elim
  | some z =>
    rw [q] at a1
    obtain ⟨l,l',rfl,rfl⟩:=zmn q
    obtain ⟨v,w,rfl,r1,r2⟩:=RepL.two r
    simp only [Rep] at r1 r2
    obtain ⟨a,vs,rfl,h1,h2⟩:=r1
    obtain ⟨b,ws,rfl,h3,h4⟩:=r2
    exact ⟨a,b,rfl,⟨vs,.inl (PM.Same.rd e1.fh h1)⟩,⟨ws,.inl (PM.Same.rd e1.fh h3)⟩,a1 F1 H1 (.refl e1.fh) _ (zni h2 h4 fun F2 H2 x=>⟨x.1,x.2,.inl (PM.Same.rd x.2 (PM.Same.rd x.1 h1)),.inl (PM.Same.rd x.2 (PM.Same.rd x.1 h3))⟩)⟩
end
end PM
namespace PM
def minI:List Int→Int→Int
  | [],m=>m
  | a :: l,m=>minI l (if a < m then a else m)
end PM
namespace L2
open PySem PySem.Spec PyProof.Rows
theorem zmc:∀ (l:List Int) (m:Int),PM.minI l m ≤ m∧(∀ a ∈ l,PM.minI l m ≤ a)∧(PM.minI l m=m∨PM.minI l m ∈ l)
  | [],m=>⟨Int.le_refl _,fun _ h=>(by cases h),.inl rfl⟩
  | a :: l,m=>by
    obtain ⟨h1,h2,h3⟩:=zmc l (if a < m then a else m)
    unfold PM.minI
    have e:(if a < m then a else m)=a∧a < m∨(if a < m then a else m)=m∧¬ a < m:=by split <;> simp_all
    refine ⟨by omega,fun b hb=>?_,?_⟩
    · rcases List.mem_cons.mp hb with rfl | hb
      · omega
      · exact h2 b hb
    · rcases h3 with h3 | h3
      · rcases e with ⟨e,_⟩ | ⟨e,_⟩
        · exact .inr (by rw [h3,e]; exact List.mem_cons_self)
        · exact .inl (by rw [h3,e])
      · exact .inr (List.mem_cons_of_mem _ h3)
section
variable {X:Cx}
theorem zjV {ns:List Int} {its:List Value} (rv:Vals (ns.map V.int) its):∃ ts:List Tok,its.toArray=intItems (ns.zip ts).toArray∧(ns.zip ts).toArray.size=ns.length∧∀ j,numAt (ns.zip ts).toArray j=ns.getD j 0:=by
  obtain ⟨ts,rfl,htl⟩:∃ ts:List Tok,its=(ns.zip ts).map (fun p=>Value.int p.1 p.2)∧ts.length=ns.length:=by
    induction ns generalizing its with
    | nil=>cases rv; exact ⟨[],rfl,rfl⟩
    | cons a l ih =>
      cases rv with
      | cons h t =>
        obtain ⟨tk,rfl⟩:=h
        obtain ⟨ts,rfl,hl⟩:=ih t
        exact ⟨tk :: ts,rfl,by simp [hl]⟩
  refine ⟨ts,by simp [intItems],by simp; omega,fun j=>?_⟩
  rw [numAt_eq]
  have:(ns.zip ts).map (·.1)=ns:=List.map_fst_zip (by omega)
  show ((ns.zip ts).map (·.1)).getD j 0=_
  rw [this]
theorem znF {m:Int} {l:List Int} {f:Nat→Int} (hf:∀ j,f j=(m :: l).getD j 0):f (argBest (fun i j=>decide (f i > f j)) ((m :: l).length - 1))=PM.maxI l m:=by
  obtain ⟨g1,g2⟩:=argBest_gt f ((m :: l).length - 1)
  obtain ⟨k1,k2,k3⟩:=zl8 l m
  generalize argBest (fun i j=>decide (f i > f j)) ((m :: l).length - 1)=j at *
  have hj:j < (m :: l).length:=by have:(m :: l).length=l.length + 1:=rfl; omega
  have hm:(m :: l).getD j 0 ∈ m :: l:=by rw [List.getD_eq_getElem?_getD,List.getElem?_eq_getElem hj]; exact List.getElem_mem hj
  rw [← hf j] at hm
  refine Int.le_antisymm ?_ ?_
  · rcases List.mem_cons.mp hm with z | z
    · rw [z]; exact k1
    · exact k2 _ z
  · have hx:PM.maxI l m ∈ m :: l:=k3.elim (fun z=>by rw [z]; exact List.mem_cons_self) fun z=>List.mem_cons_of_mem _ z
    obtain ⟨i,hi,ei⟩:=List.getElem_of_mem hx
    have:=g2 i (by have:(m :: l).length=l.length + 1:=rfl; omega)
    rw [hf i,List.getD_eq_getElem?_getD,List.getElem?_eq_getElem hi,ei] at this
    exact this
theorem znL {m:Int} {l:List Int} {f:Nat→Int} (hf:∀ j,f j=(m :: l).getD j 0):f (argBest (fun i j=>decide (f i < f j)) ((m :: l).length - 1))=PM.minI l m:=by
  obtain ⟨g1,g2⟩:=argBest_lt f ((m :: l).length - 1)
  obtain ⟨k1,k2,k3⟩:=zmc l m
  generalize argBest (fun i j=>decide (f i < f j)) ((m :: l).length - 1)=j at *
  have hj:j < (m :: l).length:=by have:(m :: l).length=l.length + 1:=rfl; omega
  have hm:(m :: l).getD j 0 ∈ m :: l:=by rw [List.getD_eq_getElem?_getD,List.getElem?_eq_getElem hj]; exact List.getElem_mem hj
  rw [← hf j] at hm
  refine Int.le_antisymm ?_ ?_
  · have hx:PM.minI l m ∈ m :: l:=k3.elim (fun z=>by rw [z]; exact List.mem_cons_self) fun z=>List.mem_cons_of_mem _ z
    obtain ⟨i,hi,ei⟩:=List.getElem_of_mem hx
    have:=g2 i (by have:(m :: l).length=l.length + 1:=rfl; omega)
    rw [hf i,List.getD_eq_getElem?_getD,List.getElem?_eq_getElem hi,ei] at this
    exact this
  · rcases List.mem_cons.mp hm with z | z
    · rw [z]; exact k1
    · exact k2 _ z
end
end L2
namespace PM
open PySem L2
section
variable {K:Kx}
def zk1:List D→Option D
  | [.int i,.int j]=>some (.int (if j > i then j else i))
  | _=>none
def zhn:List D→Option D
  | [.int i,.int j]=>some (.int (if j < i then j else i))
  | _=>none
theorem zo8:SC K (fun xs H Q=>∃ i j,xs = [.int i,.int j]∧Q (.int (if j > i then j else i)) H) zk1:=by
  intro F H vs ds d Q s r e q
  unfold zk1 at e
  split at e
  · rename_i i j
    cases e
    cases r with
    | cons r r' =>
      cases r' with
      | cons r2 r3 =>
        cases r3
        simp only [Top,Rep] at r r2
        subst r r2
        exact ⟨i,j,rfl,q _ F H (.refl s) (by simp only [Rep])⟩
  · cases e
theorem zlR:SC K (fun xs H Q=>∃ i j,xs = [.int i,.int j]∧Q (.int (if j < i then j else i)) H) zhn:=by
  intro F H vs ds d Q s r e q
  unfold zhn at e
  split at e
  · rename_i i j
    cases e
    cases r with
    | cons r r' =>
      cases r' with
      | cons r2 r3 =>
        cases r3
        simp only [Top,Rep] at r r2
        subst r r2
        exact ⟨i,j,rfl,q _ F H (.refl s) (by simp only [Rep])⟩
  · cases e
end
end PM
namespace L2
open PySem PySem.Spec PyProof.Rows
section
variable {X:Cx}
def zju:List V→Hp→VK→Prop:=fun xs H Q=>∃ (p:Addr) (ns:List Int),xs = [.ref p]∧Rd H p (.lst (ns.map V.int))∧ns.length < 64∧∀ a,H a=none→Q (.ref a) (upd H a (.lst ((ns.mergeSort (fun a b=>decide (a ≤ b))).map V.int)))
theorem znU {ns:List Int} {its:List Value} (rv:Vals (ns.map V.int) its):IntsAre its ns:=by
  induction ns generalizing its with
  | nil=>cases rv; exact .nil
  | cons a l ih =>
    cases rv with
    | cons h t =>
      obtain ⟨tk,rfl⟩:=h
      exact .cons _ _ (ih t)
theorem zm4 {ns:List Int} {its:List Value} (rv:IntsAre its ns):Vals (ns.map V.int) its:=by
  induction rv with
  | nil=>exact .nil
  | cons _ _ _ ih=>exact .cons ⟨_,rfl⟩ ih
theorem zpj {ns ms:List Int} (hp:ms.Perm ns) (hs:ms.Pairwise (· ≤ ·)):ms=ns.mergeSort fun a b=>decide (a ≤ b):=by
  have h1:(ns.mergeSort fun a b=>decide (a ≤ b)).Pairwise (· ≤ ·):=by
    have:=List.pairwise_mergeSort (le:=fun a b:Int=>decide (a ≤ b)) (fun a b c h1 h2=>by simp at *; omega) (fun a b=>by simp; omega) ns
    exact this.imp fun h=>by simpa using h
  have h2:ms.Perm (ns.mergeSort fun a b=>decide (a ≤ b)):=hp.trans (List.mergeSort_perm ..).symm
  exact List.Perm.eq_of_pairwise (fun a b _ _ h3 h4=>Int.le_antisymm h3 h4) hs h1 h2
theorem zfX:zdI X (.builtin "sorted") zju:=by
  intro pins s σ H xs us Q I r h
  obtain ⟨p,ns,rfl,hq,hl,q⟩:=h
  obtain ⟨u,rfl,rx⟩:=zey r
  cases rx
  obtain ⟨z,its,n,rv,e⟩:=hq.ok I.hok
  have len:=rv.length
  rw [List.length_map] at len
  refine sorted_ints ⟨_,e,rfl,n,rfl⟩ (znU rv) (by omega) fun out ms a1 a2 a3=>?_
  obtain ⟨c,hc⟩:=sortedAll_at s.heap its out
  rw [zpj a2 a3] at a1
  refine ⟨.ref (s.heap.objs.size + 1),_,?_,rfl,q _ (I.hok.fresh (Nat.le_succ _))⟩
  refine I.laid (fun b o hb=>sortedAll_old hb) (Nat.le_succ _) ⟨?_,out.toList,c,zm4 a1,by simpa using hc⟩
  rw [List.length_map,List.length_mergeSort]
  exact Nat.le_trans (Nat.le_of_lt hl) (by decide)
end
end L2
namespace PM
open PySem L2
section
variable {K:Kx}
def zef:List D→Option D
  | [.lst l]=>(asIs l).bind fun ns=>ifC (ns.length < 64) (some (.lst ((ns.mergeSort fun a b=>decide (a ≤ b)).map .int))) none
  | _=>none
theorem zh0 {ds:List D} {d:D} (h:zef ds=some d):∃ ns:List Int,ds = [.lst (ns.map .int)]∧ns.length < 64∧d = .lst ((ns.mergeSort fun a b=>decide (a ≤ b)).map .int):=by
  unfold zef at h
  split at h
  · rename_i l
    cases z:asIs l with
    | none=>rw [z] at h; cases h
    | some ns =>
      rw [z] at h
      simp only [Option.bind] at h
      unfold ifC at h
      split at h
      · rename_i hl
        cases h
        exact ⟨ns,by rw [zbB z],hl,rfl⟩
      · cases h
  · cases h
theorem zi4 {F:Hp}:∀ ns:List Int,RepL K F (ns.map .int) (ns.map V.int)
  | []=>.nil
  | n :: ns=>.cons (by simp only [Rep]) (zi4 ns)
theorem zlL:SCo K zju zef:=by
  intro F H vs ds d Q s r e q
  obtain ⟨ns,rfl,hl,rfl⟩:=zh0 e
  cases r with
  | cons r r' =>
    cases r'
    obtain ⟨a,xs,rfl,h1,h2⟩:=r
    have ex:=zbp h2
    subst ex
    exact ⟨a,ns,rfl,h1,hl,fun p hp=>q p F _ (.newO s hp) (s.free hp) hp ⟨_,zaj,zi4 _⟩⟩
end
end PM
namespace PM
open PySem L2
section
variable {K:Kx} {XO:XOT} {E:L2.St→XK} {te:TE} {me:En→R D}
theorem RepL.eraseIdx {F:Hp}:∀ {l:List D} {vs:List V} (k:Nat),RepL K F l vs→RepL K F (l.eraseIdx k) (vs.eraseIdx k)
  | [],vs,k,h=>by
    simp only [RepL] at h
    subst h
    simp only [List.eraseIdx_nil]
    exact .nil
  | d :: l,vs,k,h=>by
    simp only [RepL] at h
    obtain ⟨v,r,rfl,h1,h2⟩:=h
    cases k with
    | zero=>exact h2
    | succ k=>exact .cons h1 (RepL.eraseIdx k h2)
theorem RepL.dropLast {F:Hp} {l:List D} {vs:List V} (h:RepL K F l vs):RepL K F l.dropLast vs.dropLast:=by
  rw [List.dropLast_eq_take,List.dropLast_eq_take,h.length]
  exact h.take _
def ziq (i:Nat) (b:D→En→Option En) (δ:En):O:=match δ[i]? with
  | some (.o (.lst l))=>(match l[l.length - 1]? with | some d=>O.of (b d (δ.set i (.o (.lst l.dropLast)))) | none=>.no)
  | _=>.no
theorem zlk {i:Nat} {g:TG} {b:D→En→Option En} (hg:SG K g b):SS K XO E (tAsg (tBM0 K.f "list" rPop (tVar i)) g) (ziq i b):=by
  intro Λ F0 H0 F H σ δ Dn I a
  unfold ziq at a
  split at a
  · rename_i l q
    obtain ⟨p,s1,vs,s2,s3⟩:=I.own q
    cases e:l[l.length - 1]? with
    | none=>simp only [e] at a; exact a.elim
    | some d =>
      simp only [e] at a
      obtain ⟨v,hv,rv⟩:=s3.get e
      have I2:=I.chg (u:=.lst vs.dropLast) (d':=.lst l.dropLast) q s1 ⟨_,zaj,s3.dropLast⟩
      refine ⟨_,s1,.inl ⟨rfl,vs,.inl (.inl s2)⟩,p,vs,v,rfl,rfl,s2,by rw [s3.length]; exact hv,?_⟩
      cases z:b d (δ.set i (.o (.lst l.dropLast))) with
      | none=>rw [z] at a; exact a.elim
      | some δ'=>rw [z] at a; exact hg Λ F0 H0 F _ σ _ d v δ' _ I2 rv z fun σ' I'=>a σ' F _ I'
  · exact a.elim
def zlN (i:Nat) (me:En→R D) (b:D→En→Option En) (δ:En):O:=match δ[i]? with
  | some (.o (.lst l))=>(me δ).toO δ fun k=>match k with
    | .int (.ofNat k)=>(match l[k]? with | some d=>if k < 2 ^ 63 then O.of (b d (δ.set i (.o (.lst (l.eraseIdx k))))) else .no | none=>.no)
    | _=>.no
  | _=>.no
theorem zrj {k n:Nat} (h:k < n):seqIndex? (k:Int) n=some k:=by
  unfold seqIndex?
  have e:¬ (k:Int) < 0:=by omega
  simp only [e,if_false]
  rw [if_pos (by simp; omega)]
  simp
theorem zo2 {i:Nat} {g:TG} {b:D→En→Option En} (h:SE K XO E te me) (hg:SG K g b):SS K XO E (tAsg (tBM K.f "list" zou (tVar i) (zby te tNil)) g) (zlN i me b):=by
  intro Λ F0 H0 F H σ δ Dn I a
  unfold zlN at a
  split at a
  · rename_i l q
    obtain ⟨p,s1,vs,s2,s3⟩:=I.own q
    refine ⟨_,s1,.inl ⟨rfl,vs,.inl (.inl s2)⟩,?_⟩
    refine h Λ F0 H0 F H σ δ _ I ((AftS.of I a).imp fun d F1 H1 e c v r=>?_)
    split at c
    · rename_i k
      simp only [Rep] at r
      subst r
      cases z:l[k]? with
      | none=>simp only [z] at c; exact c.elim
      | some y =>
        simp only [z] at c
        split at c
        · rename_i hk
          have hlt:k < l.length:=(List.getElem?_eq_some_iff.mp z).1
          obtain ⟨w,hw,rw'⟩:=(s3.mono e.ff).get z
          have I2:=(I.grow e).chg (u:=.lst (vs.eraseIdx k)) (d':=.lst (l.eraseIdx k)) q s1 ⟨_,zaj,(s3.mono e.ff).eraseIdx k⟩
          refine ⟨p,vs,(k:Int),k,w,rfl,rfl,e.hh _ _ s2,by omega,by omega,zrj (by rw [s3.length]; exact hlt),hw,?_⟩
          cases zz:b y (δ.set i (.o (.lst (l.eraseIdx k)))) with
          | none=>rw [zz] at c; exact c.elim
          | some δ'=>rw [zz] at c; exact hg Λ F0 H0 F1 _ σ _ y w δ' _ I2 rw' zz fun σ' I'=>c σ' F1 _ I'
        · exact c.elim
    · exact c.elim
  · exact a.elim
end
end PM
namespace L2
open PySem PySem.Spec PyProof.Rows
section
variable {X:Cx}
theorem zov {ns:List Int} {its:List Value} (rv:Vals (ns.map V.int) its) {m:Nat} (hm:m < its.toArray.size):∃ t,its.toArray[m] = .int (ns.getD m 0) t:=by
  have len:=rv.length
  rw [List.length_map] at len
  have hm':m < ns.length:=by rw [len]; simpa using hm
  obtain ⟨u,h1,t,h2⟩:=rv.get (show (ns.map V.int)[m]?=some (.int (ns.getD m 0)) by rw [List.getElem?_map,List.getD_eq_getElem?_getD,List.getElem?_eq_getElem hm']; rfl)
  refine ⟨t,?_⟩
  rw [← h2]
  have:=(List.getElem?_eq_some_iff.mp h1).2
  simpa using this
def isI (i:Int):Value→Bool
  | .int a _=>a == i
  | _=>false
theorem zqG {ns:List Int} {its:List Value} (rv:Vals (ns.map V.int) its) (i:Int) (t:Tok):∀ y,y ∈ its.toArray→MeetsSeq.EqGives y (.int i t) (isI i y):=fun y hy=>by
  obtain ⟨m,hm,e⟩:=Array.getElem_of_mem hy
  obtain ⟨u,h⟩:=zov rv hm
  rw [← e,h]
  exact MeetsSeq.EqGives.int _ _ _ _
theorem zoh {ns:List Int} {its:List Value} (rv:Vals (ns.map V.int) its) (i:Int) {m:Nat} (hm:m < its.toArray.size):isI i its.toArray[m]=(ns.getD m 0 == i):=by
  obtain ⟨u,h⟩:=zov rv hm
  rw [h]; rfl
theorem zql {ns:List Int} {i:Int} (h:ns.idxOf i < ns.length):ns.getD (ns.idxOf i) 0=i:=by
  rw [List.getD_eq_getElem?_getD,List.getElem?_eq_getElem h]
  exact List.getElem_idxOf h
theorem zqy {ns:List Int} {i:Int} {m:Nat} (h:m < ns.idxOf i) (hl:m < ns.length):ns.getD m 0 ≠ i:=fun e=>by
  rw [List.getD_eq_getElem?_getD,List.getElem?_eq_getElem hl] at e
  induction ns generalizing m with
  | nil=>simp at hl
  | cons a l ih =>
    rw [List.idxOf_cons] at h
    by_cases z:a=i
    · simp [z] at h
    · have z':(a == i)=false:=by simpa using z
      rw [z',cond_false] at h
      cases m with
      | zero=>exact z e
      | succ m=>exact ih (m:=m) (by omega) (by simpa using hl) (by simpa using e)
def zjH:V→List V→Hp→VK→Prop:=fun x vs H Q=>∃ (p:Addr) (ns:List Int) (i:Int),x = .ref p∧vs = [.int i]∧H p=some (.lst (ns.map V.int))∧ns.idxOf i < ns.length∧Q .non (upd H p (.lst ((ns.eraseIdx (ns.idxOf i)).map V.int)))
theorem zkC:MtM X "list.remove" zjH:=by
  intro pins s σ H x vs v us Q I rx rv h
  obtain ⟨p,ns,i,rfl,rfl,hH,hi,q⟩:=h
  cases rx
  obtain ⟨u,rfl,t,rfl⟩:=rv.one
  obtain ⟨z,its,n,rs,hl,e⟩:=I.lstM hH
  have len:=hl
  rw [List.length_map] at len
  have hj:ns.idxOf i < its.toArray.size:=by rw [List.size_toArray,← len]; exact hi
  refine call_meets F.slot_list_remove ⟨_,e,rfl⟩ F.entry_list_remove (F.args_list_remove_2 _ _) (MeetsSeq.list_remove p its.toArray n (.int i t) (isI i) (zqG rs i t) (ns.idxOf i) hj ?_ (fun m hm hlt=>?_) (by rw [List.size_toArray,← hl]; exact z)) ⟨e,?_⟩
  · rw [zoh rs i hj,zql hi]; simp
  · rw [zoh rs i hm]
    simpa using zqy hlt (by rw [len]; simpa using hm)
  · refine ⟨.non,_,I.lset (ys:=(ns.eraseIdx (ns.idxOf i)).map V.int) (its':=its.eraseIdx (ns.idxOf i)) hH e ?_ ?_ ?_,rfl,q⟩
    · rw [List.eraseIdxIfInBounds_toArray]
    · have:=rs.eraseIdx (ns.idxOf i)
      have em:∀ (l:List Int) (k:Nat),(l.map V.int).eraseIdx k=(l.eraseIdx k).map V.int:=fun l=>by
        induction l with
        | nil=>intro k; rfl
        | cons a l ih =>
          intro k
          cases k with
          | zero=>rfl
          | succ k=>simp only [List.map_cons,List.eraseIdx_cons_succ,ih k]
      rw [em] at this
      exact this
    · rw [List.length_map] at z ⊢
      have:=List.length_eraseIdx_le ns (ns.idxOf i)
      omega
end
end L2
namespace PM
open PySem L2
section
variable {K:Kx} {XO:XOT} {E:L2.St→XK} {tl te:TE} {ml me:En→R D}
def ze2 (i:Nat) (me:En→R D) (δ:En):O:=match δ[i]? with
  | some (.o (.lst l))=>(me δ).toO δ fun k=>match k with
    | .int k=>(match asIs l with | some ns=>if ns.idxOf k < ns.length then .nx (δ.set i (.o (.lst ((ns.eraseIdx (ns.idxOf k)).map .int)))) else .no | none=>.no)
    | _=>.no
  | _=>.no
theorem zlD {i:Nat} (h:SE K XO E te me):SS K XO E (zkS (tBM K.f "list" zjH (tVar i) (zby te tNil))) (ze2 i me):=by
  intro Λ F0 H0 F H σ δ Dn I a
  unfold ze2 at a
  split at a
  · rename_i l q
    obtain ⟨p,s1,vs,s2,s3⟩:=I.own q
    refine ⟨_,s1,.inl ⟨rfl,vs,.inl (.inl s2)⟩,?_⟩
    refine h Λ F0 H0 F H σ δ _ I ((AftS.of I a).imp fun d F1 H1 e c v r=>?_)
    split at c
    · rename_i k
      simp only [Rep] at r
      subst r
      cases z:asIs l with
      | none=>simp only [z] at c; exact c.elim
      | some ns =>
        simp only [z] at c
        split at c
        · rename_i hk
          have el:=zbB z
          subst el
          have ex:=zbp s3
          subst ex
          refine ⟨p,ns,k,rfl,rfl,e.hh _ _ s2,hk,?_⟩
          exact c σ F1 _ ((I.grow e).chg q s1 ⟨_,zaj,zi4 _⟩)
        · exact c.elim
    · exact c.elim
  · exact a.elim
end
end PM
namespace L2
open PySem PySem.Spec PyProof.Rows
open Sem (wp)
section
variable {P:Program} {w:World} {B:Around} {Er:Value→Shared→Prop} {hp:Heap} {gs:Array GenState} {dr:Drawn} {tk:Nat} {os:OsState}
variable {nm q:Str} {C N:Addr} {bs bm bmB:List Value} {hdct:Bool} {sn:List Str} {sub:List Value} {ab:Bool} {col:Option Bool} {dd:Option Addr} {k0 k1 k2 k3 k5:Option Value} {B0 Bn newId nid initId inN:String} {bmN:List Value}
end
end L2
namespace L2
open PySem PySem.Spec PyProof.Rows
section
variable {P:Program} {w:World} {B:Around} {Er:Value→Shared→Prop} {s:Shared}
end
end L2
namespace L2
open PySem PySem.Spec PyProof.Rows
section
variable {X:Cx}
end
end L2
namespace PM
open PySem L2
section
variable {K:Kx} {XO:XOT} {E:L2.St→XK}
end
end PM
namespace L2
open PySem PySem.Spec PyProof.Rows
section
variable {X:Cx}
end
end L2
namespace PM
open PySem L2
section
variable {K:Kx} {XO:XOT} {E:L2.St→XK}
end
end PM
namespace L2
open PySem PySem.Spec PyProof.Rows
section
variable {X:Cx}
end
end L2
namespace PM
open PySem L2
section
variable {K:Kx} {XO:XOT} {E:L2.St→XK} {tk te:TE} {mk me:En→R D}
end
end PM
namespace PM
open PySem L2
section
variable {K:Kx} {XO:XOT} {E:St→XK} {ta tb te:TE} {ma mb me:En→R D} {t u:TS} {m n:En→O} {Λ:List (Nat × Addr × HO)} {F0 H0 F H F' H' F1 H1:Hp} {σ:St} {δ:En} {Dn:Ends}
def tabD (ll:List (List Int)):D:=.lst (ll.map iL)
structure TabO (H:Hp) (a:Addr) (bs:List Addr) (ll:List (List Int)):Prop where
  top:H a=some (.lst (bs.map .ref))
  len:bs.length=ll.length
  row:∀ (i:Nat) (b:Addr) (l:List Int),bs[i]?=some b→ll[i]?=some l→H b=some (.lst (l.map .int))
  nd:(a :: bs).Nodup
theorem TabO.mono {a:Addr} {bs:List Addr} {ll:List (List Int)} (e:Same H H') (t:TabO H a bs ll):TabO H' a bs ll:=⟨e _ _ t.top,t.len,fun i b l h1 h2=>e _ _ (t.row i b l h1 h2),t.nd⟩
theorem TabO.obj {a:Addr} {bs:List Addr} {ll:List (List Int)} (t:TabO H a bs ll):∀ b ∈ a :: bs,∃ o,H b=some o:=fun b hb=>by
  rcases List.mem_cons.mp hb with rfl | hb
  · exact ⟨_,t.top⟩
  · obtain ⟨i,hi,e⟩:=List.getElem_of_mem hb
    have hl:i < ll.length:=by rw [← t.len]; exact hi
    exact ⟨_,t.row i b ll[i] (by rw [List.getElem?_eq_getElem hi,e]) (List.getElem?_eq_getElem hl)⟩
def rowT (l:List Int):Tr:=.l (l.map fun i=>.d (.int i))
def tabT (ll:List (List Int)):Tr:=.l (ll.map rowT)
theorem ints_iff:∀ {l:List Int} {vs:List V} {fp:List Addr},TrOkL K F H (l.map fun i=>.d (.int i)) vs fp ↔ vs=l.map .int∧fp = []
  | [],vs,fp=>by simp only [List.map_nil,TrOkL]
  | i :: l,vs,fp=>by
    simp only [List.map_cons,TrOkL,TrOk,Rep]
    constructor
    · rintro ⟨v,r,f1,f2,rfl,rfl,⟨rfl,rfl⟩,h⟩
      obtain ⟨rfl,rfl⟩:=ints_iff.mp h
      exact ⟨rfl,rfl⟩
    · rintro ⟨rfl,rfl⟩
      exact ⟨_,_,[],[],rfl,rfl,⟨rfl,rfl⟩,ints_iff.mpr ⟨rfl,rfl⟩⟩
theorem row_iff {l:List Int} {v:V} {fp:List Addr}:TrOk K F H (rowT l) v fp ↔ ∃ b,v = .ref b∧fp = [b]∧H b=some (.lst (l.map .int)):=by
  unfold rowT
  simp only [TrOk]
  constructor
  · rintro ⟨a,vs,fs,rfl,rfl,h1,h2⟩
    obtain ⟨rfl,rfl⟩:=ints_iff.mp h2
    exact ⟨a,rfl,rfl,h1⟩
  · rintro ⟨b,rfl,rfl,h⟩
    exact ⟨b,_,[],rfl,rfl,h,ints_iff.mpr ⟨rfl,rfl⟩⟩
theorem rows_iff:∀ {ll:List (List Int)} {vs:List V} {bs:List Addr},TrOkL K F H (ll.map rowT) vs bs ↔ vs=bs.map .ref∧bs.length=ll.length∧∀ (i:Nat) (b:Addr) (l:List Int),bs[i]?=some b→ll[i]?=some l→H b=some (.lst (l.map .int))
  | [],vs,bs=>by
    simp only [List.map_nil,TrOkL]
    constructor
    · rintro ⟨rfl,rfl⟩; exact ⟨rfl,rfl,fun i b l h=>by simp at h⟩
    · rintro ⟨rfl,h,_⟩
      cases bs with
      | nil=>exact ⟨rfl,rfl⟩
      | cons _ _=>simp at h
  | l :: ll,vs,bs=>by
    simp only [List.map_cons,TrOkL]
    constructor
    · rintro ⟨v,r,f1,f2,rfl,rfl,h1,h2⟩
      obtain ⟨b,rfl,rfl,h3⟩:=row_iff.mp h1
      obtain ⟨rfl,h4,h5⟩:=rows_iff.mp h2
      refine ⟨rfl,by simp [h4],fun i c r g1 g2=>?_⟩
      cases i with
      | zero=>simp at g1 g2; subst g1 g2; exact h3
      | succ i=>exact h5 i c r (by simpa using g1) (by simpa using g2)
    · rintro ⟨rfl,h,hr⟩
      cases bs with
      | nil=>simp at h
      | cons b bs=>exact ⟨_,_,[b],bs,rfl,rfl,row_iff.mpr ⟨b,rfl,rfl,hr 0 b l rfl rfl⟩,rows_iff.mpr ⟨rfl,by simpa using h,fun i c r g1 g2=>hr (i + 1) c r (by simpa using g1) (by simpa using g2)⟩⟩
theorem tab_iff {a:Addr} {bs:List Addr} {ll:List (List Int)}:Tab K F H a bs (tabT ll) ↔ TabO H a bs ll:=by
  constructor
  · intro t
    have:=t.ok
    unfold tabT at this
    simp only [TrOk] at this
    obtain ⟨a',vs,fs,h1,h2,h3,h4⟩:=this
    cases h1; cases h2
    obtain ⟨rfl,h5,h6⟩:=rows_iff.mp h4
    exact ⟨h3,h5,h6,t.nd⟩
  · intro t
    refine ⟨?_,t.nd⟩
    unfold tabT
    simp only [TrOk]
    exact ⟨a,_,bs,rfl,rfl,t.top,rows_iff.mpr ⟨rfl,t.len,t.row⟩⟩
def zny:Tr→Option Int
  | .d (.int i)=>some i
  | _=>none
def zfi {α:Type} (f:Tr→Option α):List Tr→Option (List α)
  | []=>some []
  | t :: ts=>(f t).bind fun x=>(zfi f ts).bind fun r=>some (x :: r)
def zpD:Tr→Option (List Int)
  | .l ts=>zfi zny ts
  | _=>none
def znD:Tr→Option (List (List Int))
  | .l ts=>zfi zpD ts
  | _=>none
theorem zem {α:Type} {f:Tr→Option α} {g:α→Tr} (h:∀ t x,f t=some x→t=g x):∀ {ts:List Tr} {l:List α},zfi f ts=some l→ts=l.map g
  | [],l,e=>by cases e; rfl
  | t :: ts,l,e=>by
    unfold zfi at e
    cases q:f t with
    | none=>rw [q] at e; cases e
    | some x =>
      rw [q] at e
      cases q2:zfi f ts with
      | none=>simp only [Option.bind] at e; rw [q2] at e; cases e
      | some r =>
        simp only [Option.bind] at e
        rw [q2] at e
        cases e
        rw [h t x q,zem h q2]; rfl
theorem zeZ {α:Type} {f:Tr→Option α} {g:α→Tr} (h:∀ x,f (g x)=some x):∀ (l:List α),zfi f (l.map g)=some l
  | []=>rfl
  | x :: l=>by
    show (f (g x)).bind _=_
    rw [h x]
    show (zfi f (l.map g)).bind _=_
    rw [zeZ h l]; rfl
theorem zkM {t:Tr} {i:Int} (h:zny t=some i):t = .d (.int i):=by
  unfold zny at h
  split at h
  · cases h; rfl
  · cases h
theorem zkD {t:Tr} {l:List Int} (h:zpD t=some l):t=rowT l:=by
  unfold zpD at h
  split at h
  · rw [zem (fun _ _=>zkM) h]; rfl
  · cases h
theorem zka {t:Tr} {ll:List (List Int)} (h:znD t=some ll):t=tabT ll:=by
  unfold znD at h
  split at h
  · rw [zem (fun _ _=>zkD) h]; rfl
  · cases h
@[simp] theorem zkG (ll:List (List Int)):znD (tabT ll)=some ll:=zeZ (fun l=>zeZ (f:=zny) (fun _=>rfl) l) ll
theorem zhF:∀ (ts:List Tr),trDL ts=ts.map trD
  | []=>by simp only [trDL,List.map_nil]
  | t :: ts=>by simp only [trDL,List.map_cons,zhF ts]
@[simp] theorem zfx (ll:List (List Int)):trD (tabT ll)=tabD ll:=by
  unfold tabT tabD
  simp only [trD,zhF,List.map_map]
  congr 1
  apply List.map_congr_left
  intro l _
  show trD (rowT l)=iL l
  unfold rowT iL
  simp only [trD,zhF,List.map_map]
  rfl
def znl:Sl→Sl
  | .o d=>.v d
  | .l d=>.v d
  | .p T=>.v (trD T)
  | s=>s
def peek (δ:En):En:=δ.map znl
theorem zpK (I:EnvOk K Λ F0 H0 F H σ δ):EnvOk K [] (zcg F H) H (zcg F H) H σ (peek δ):=by
  have pk:∀ i:Nat,(peek δ)[i]?=(δ[i]?).map znl:=fun i=>by unfold peek; rw [List.getElem?_map]
  have no:∀ i:Nat,Sl.own (peek δ)[i]?=false:=fun i=>by
    rw [pk]
    cases q:δ[i]? with
    | none=>rfl
    | some s=>cases s <;> rfl
  refine ⟨.refl (ziN I.same),by rw [I.len]; simp [peek],fun i=>?_,fun i j a _ h1=>(by rw [no i] at h1; cases h1),fun x hx=>(by cases hx),fun i T h=>?_⟩
  · have z:=I.slot i
    rw [pk]
    cases q:δ[i]? with
    | none=>trivial
    | some s =>
      rw [q] at z
      cases s with
      | no=>trivial
      | v d=>obtain ⟨u,z1,z2⟩:=z; exact ⟨u,z1,Rep.mono zcR d z2⟩
      | o d=>obtain ⟨a,z1,_,_,z4⟩:=z; exact ⟨_,z1,zht I.same (.inr (.inl ⟨a,rfl,z4⟩))⟩
      | l d=>obtain ⟨a,z1,_,_,z4⟩:=z; exact ⟨_,z1,zht I.same (.inr (.inl ⟨a,rfl,z4⟩))⟩
      | p T=>obtain ⟨a,bs,z1,z2,_⟩:=z; exact ⟨_,z1,zhi I.same T z2.ok⟩
  · have:=no i
    rw [h] at this; cases this
def zed (m:En→R D) (δ:En):R D:=match m (peek δ) with | .ok d=>if zdG d=true then .ok d else .no | _=>.no
theorem zfS (h:SE K XO E te me):SE K XO E te (zed me):=by
  intro Λ F0 H0 F H σ δ Q I a
  refine h [] (zcg F H) H (zcg F H) H σ (peek δ) Q (zpK I) ?_
  unfold zed at a
  cases q:me (peek δ) with
  | no=>rw [q] at a; exact a
  | ex x=>rw [q] at a; exact a.elim
  | ok d =>
    rw [q] at a
    dsimp only at a
    split at a
    · rename_i hc
      intro F2 H2 e2 v rv
      exact a _ H2 (zmb e2) v (zjj e2 d hc rv)
    · exact a.elim
variable (K XO E) in
def SEp (t:TE) (m:En→R (List (List Int))):Prop:=∀ Λ F0 H0 F H σ δ Q,EnvOk K Λ F0 H0 F H σ δ→Aft E XO σ F H (fun ll F' H'=>∀ a bs,TabO H' a bs ll→(∀ b ∈ a :: bs,F' b=none∧H b=none)→Q (.ref a) H') (m δ)→t σ H Q
def asIl:D→Option (List Int)
  | .lst l=>asIs l
  | _=>none
theorem zlV {d:D} {l:List Int} (h:asIl d=some l):d=iL l:=by
  cases d with
  | lst x=>rw [zbB h]; rfl
  | _=>cases h
def ziO (b:D→En→Option En) (me:En→R D) (δ:En) (d:D):R (List Int):=match b d δ with
  | none=>.no
  | some δ1=>(me δ1).nev.bind fun x=>R.of (asIl x)
def zcl (f:D→R (List Int)):List D→R (List (List Int))
  | []=>.ok []
  | d :: l=>(f d).bind fun o=>(zcl f l).bind fun r=>.ok (o :: r)
def zmB (mi:En→R (List D)) (ix:List Nat) (n:Nat) (b:D→En→Option En) (me:En→R D) (δ:En):R (List (List Int)) :=
  (mi δ).bind fun ds=>ifC (ds.length ≤ sizeLine) (zcl (ziO b me (zaO δ ix n)) ds).nev .no
theorem zig {f:D→R (List Int)} {d:D} {l:List D} {r:List (List Int)} (h:zcl f (d :: l) = .ok r):∃ o r',f d = .ok o∧zcl f l = .ok r'∧r=o :: r':=by
  unfold zcl at h
  cases q:f d with
  | no=>rw [q] at h; cases h
  | ex x=>rw [q] at h; cases h
  | ok o =>
    rw [q] at h
    cases q2:zcl f l with
    | no=>rw [R.bind_ok,q2] at h; cases h
    | ex x=>rw [R.bind_ok,q2] at h; cases h
    | ok r'=>rw [R.bind_ok,q2] at h; cases h; exact ⟨o,r',rfl,rfl,rfl⟩
theorem znv {wi:TI} {mi:En→R (List D)} {ix:List Nat} {n:Nat} {g:TG} {b:D→En→Option En}
    (hi:SIc K XO E wi mi) (hix:ix.Nodup) (hg:SG K g b) (hw:BW b) (he:SEo K XO EN te me):SEp K XO E (zjx wi ix n g none te) (zmB mi ix n b me):=by
  intro Λ F0 H0 F H σ δ Q I a
  refine hi Λ F0 H0 F H σ δ _ I (a.bind.imp fun ds F1 H1 e1 a1 J hJ p hp=>?_)
  unfold ifC at a1
  split at a1
  case isFalse=>exact a1.elim
  rename_i hsz
  have I1:=I.grow e1
  obtain ⟨Λc,Ic,hown,hall⟩:=ziE (n:=n) I1 hix
  cases qg':(zcl (ziO b me (zaO δ ix n)) ds).nev with
  | no=>rw [qg'] at a1; exact a1.elim
  | ex x=>cases q2:zcl (ziO b me (zaO δ ix n)) ds <;> (rw [q2] at qg'; cases qg')
  | ok l =>
  rw [qg'] at a1
  have qg:=nev_ok qg'
  have hlent:∀ x ∈ Λc,∃ d,(zaO δ ix n)[x.1]?=some (.l d):=fun x hx=>(Ic.lent x hx).1
  have hpn:∀ x ∈ Λc,x.2.1 ≠ p:=fun x hx e=>by
    obtain ⟨o,ho⟩:=hall x hx
    rw [e,hp] at ho; cases ho
  have p0:H0 p=none:=I1.ext.hh.free hp
  have f1:F1 p=none:=e1.fh.free hp
  refine ⟨fun i k ys σ2 H2=>∃ F2 l1 l2 bs,EnvOk K Λc F0 H0 F2 H2 σ2 (zaO δ ix n)∧Ext F1 H1 F2 H2∧ys=bs.map .ref∧TabO H2 p bs l1∧(∀ c ∈ p :: bs,F2 c=none∧H1 c=none)∧zcl (ziO b me (zaO δ ix n)) (ds.drop i) = .ok l2∧l=l1 ++ l2∧k=ds.length - i∧i ≤ ds.length∧ys.length ≤ i,
    ⟨_,F1,[],l,[],?_,.newO e1.fh hp,rfl,⟨zaj,rfl,fun i c r h=>by simp at h,by simp⟩,fun c hc=>?_,qg,rfl,rfl,Nat.zero_le _,Nat.le_refl _⟩,?_⟩
  · exact Ic.grow (.newO e1.fh hp)
  · rw [List.mem_singleton.mp hc]; exact ⟨f1,hp⟩
  rintro i k ys σ2 H2 ⟨F2,l1,l2,bs,I2,x2,rfl,tb,hfr,qd,rfl,rfl,hil,hys⟩
  refine ⟨tb.top,?_⟩
  by_cases hlt:i < ds.length
  · have e:ds.drop i=ds[i] :: ds.drop (i + 1):=List.drop_eq_getElem_cons hlt
    rw [e] at qd
    obtain ⟨row,l3,q1,q3,rfl⟩:=zig qd
    obtain ⟨h1,h2⟩:=(hJ F2 H2 x2 i).1 ds[i] (by simp [hlt])
    refine .inr ⟨h1,fun ys' σ' H'=>∃ F' bs',EnvOk K Λc F0 H0 F' H' σ' (zaO δ ix n)∧Ext F1 H1 F' H'∧ys'=bs'.map .ref∧TabO H' p bs' (l1 ++ [row])∧(∀ c ∈ p :: bs',F' c=none∧H1 c=none)∧ys'.length ≤ i + 1,
      fun ys' σ' H' ⟨F',bs',w1,w2,w3,w4,w5,w6⟩=>⟨_,by omega,F',l1 ++ [row],l3,bs',w1,w2,w3,w4,w5,q3,by simp,rfl,hlt,w6⟩,fun x H' y=>?_⟩
    obtain ⟨F3,e3,rx⟩:=h2 x H' y
    unfold ziO at q1
    cases qb:b ds[i] (zaO δ ix n) with
    | none=>rw [qb] at q1; cases q1
    | some δ1 =>
      rw [qb] at q1
      dsimp only at q1
      have hwk:=hw _ _ _ qb
      refine hg Λc F0 H0 F3 H' σ2 _ _ x δ1 _ (I2.grow e3) rx qb fun σ3 I3=>?_
      unfold zjY
      simp only [if_true]
      cases qm:me δ1 with
      | no=>rw [qm] at q1; cases q1
      | ex x=>rw [qm] at q1; cases q1
      | ok d =>
        rw [qm] at q1
        simp only [R.nev_ok,R.bind_ok] at q1
        have ed:d=iL row:=by
          cases qa:asIl d with
          | none=>rw [qa] at q1; cases q1
          | some r=>rw [qa] at q1; cases q1; exact zlV qa
        subst ed
        refine he Λc F0 H0 F3 H' σ3 δ1 _ I3 ?_
        rw [qm]
        intro F5 H5 e5 c c0 c1 co
        have z:=e3.trans e5
        obtain ⟨vs,cv,cr⟩:=co
        have ex:=zbp cr
        subst ex
        have tb5:=tb.mono z.hh
        have z2:F5 p=none:=z.nw p _ (hfr p (by simp)).1 tb.top
        have cH2:H2 c=none:=e3.hh.free c1
        have cne:∀ q ∈ p :: bs,q ≠ c:=fun q hq ee=>by
          obtain ⟨o,ho⟩:=tb.obj q hq
          rw [ee,cH2] at ho; cases ho
        refine ⟨tb5.top,?_,F5,bs ++ [c],((I3.grow e5).weakL hwk hlent).side hown hpn p0 z2,?_,by simp,⟨?_,by simp [tb.len],fun j q r g1 g2=>?_,?_⟩,fun q hq=>?_,by simpa using hys⟩
        · simp at hys ⊢; omega
        · have w:=x2.trans z
          exact ⟨w.ff,fun c o q=>by rw [zai (zaq q hp)]; exact w.hh c o q,fun c o q=>by rw [zai (zaq q z2)]; exact w.fh c o q,w.nw⟩
        · rw [zaj]; simp
        · have qp:q ≠ p:=fun ee=>by
            have hm:=List.mem_of_getElem? g1
            rw [ee] at hm
            rcases List.mem_append.mp hm with w | w
            · exact (List.nodup_cons.mp tb.nd).1 w
            · exact cne p (by simp) (List.mem_singleton.mp w)
          rw [zai qp]
          by_cases hj:j < bs.length
          · rw [List.getElem?_append_left hj] at g1
            rw [List.getElem?_append_left (by rw [← tb.len]; exact hj)] at g2
            exact tb5.row j q r g1 g2
          · rw [List.getElem?_append_right (by omega)] at g1
            rw [List.getElem?_append_right (by rw [← tb.len]; omega),← tb.len] at g2
            have j0:j - bs.length=0:=by
              have:=(List.getElem?_eq_some_iff.mp g1).1
              simp at this; omega
            rw [j0] at g1 g2
            simp at g1 g2
            subst g1 g2
            exact cv
        · have nd:=tb.nd
          rw [← List.cons_append,List.nodup_append]
          exact ⟨nd,by simp,fun q hq r hr ee=>cne q hq (by rw [ee]; exact List.mem_singleton.mp hr)⟩
        · rw [← List.cons_append] at hq
          rcases List.mem_append.mp hq with w | w
          · obtain ⟨o,ho⟩:=tb.obj q w
            exact ⟨z.nw q o (hfr q w).1 ho,(hfr q w).2⟩
          · rw [List.mem_singleton.mp w]
            exact ⟨c0,x2.hh.free cH2⟩
  · have e:i=ds.length:=by omega
    subst e
    rw [List.drop_length] at qd
    cases qd
    refine .inl ⟨(hJ F2 H2 x2 _).2 (by simp),a1 F2 H2 x2 p bs (by rw [List.append_nil]; exact tb) fun c hc=>⟨(hfr c hc).1,e1.hh.free (hfr c hc).2⟩⟩
def ziS (i:Nat) (δ:En):Bool:=(List.range δ.length).all fun j=>j == i || match δ[j]? with | some (.p _)=>false | _=>true
theorem zmT {i:Nat} (h:ziS i δ=true) (j:Nat) (T:Tr) (hj:δ[j]?=some (.p T)):j=i:=by
  have:=List.all_eq_true.mp h j (List.mem_range.mpr (List.getElem?_eq_some_iff.mp hj).1)
  rw [hj] at this
  simpa using this
theorem EnvOk.putP {i:Nat} {T:Tr} {a:Addr} {bs:List Addr} (I:EnvOk K Λ F0 H0 F H σ δ) (hl:∃ x,δ[i]?=some x∧∀ d,x ≠ .l d) (hn:∀ (j:Nat) (T':Tr),δ[j]?=some (.p T')→j=i) (e:Ext F H F' H') (t:Tab K F' H' a bs T) (h0:∀ b ∈ a :: bs,F' b=none∧H b=none) :
    EnvOk K Λ F0 H0 F' H' (σ.set i (some (.ref a))) (δ.set i (.p T)):=by
  obtain ⟨x,hx,hnl⟩:=hl
  have hi:i < δ.length:=(List.getElem?_eq_some_iff.mp hx).1
  have hi':i < σ.length:=by rw [I.len]; exact hi
  have fresh:∀ (k:Nat) (b:Addr),k ≠ i→Sl.own δ[k]?=true→σ[k]?=some (some (.ref b))→b ∉ a :: bs:=fun k b hki hk hs hb=>by
    have z:=I.slot k
    have hn':=(h0 b hb).2
    cases q:δ[k]? with
    | none=>rw [q] at hk; cases hk
    | some y =>
      rw [q] at hk z
      cases y with
      | no=>cases hk
      | v d=>cases hk
      | o d=>obtain ⟨c,z1,_,_,z4⟩:=z; rw [hs] at z1; cases z1; obtain ⟨u,hu⟩:=z4.obj; rw [hn'] at hu; cases hu
      | l d=>obtain ⟨c,z1,_,_,z4⟩:=z; rw [hs] at z1; cases z1; obtain ⟨u,hu⟩:=z4.obj; rw [hn'] at hu; cases hu
      | p l2=>exact hki (hn k l2 q)
  have J:=I.grow e
  have f3:∀ b ∈ a :: bs,H0 b=none∧F' b=none:=fun b hb=>⟨I.ext.hh.free (h0 b hb).2,(h0 b hb).1⟩
  refine ⟨J.ext,by simp [I.len],fun j=>?_,fun j k b hjk g1 g2 g3 g4=>?_,fun y hy=>?_,fun j l2 g1=>?_⟩
  · by_cases ee:i=j
    · subst ee
      rw [List.getElem?_set_self hi,List.getElem?_set_self hi']
      exact ⟨a,bs,rfl,t,f3⟩
    · rw [List.getElem?_set_ne ee,List.getElem?_set_ne ee]
      exact J.slot j
  · by_cases e1:i=j
    · subst e1
      rw [List.getElem?_set_self hi'] at g3; cases g3
      rw [List.getElem?_set_ne hjk] at g2 g4
      exact fresh k a (Ne.symm hjk) g2 g4 (by simp)
    · by_cases e2:i=k
      · subst e2
        rw [List.getElem?_set_self hi'] at g4; cases g4
        rw [List.getElem?_set_ne e1] at g1 g3
        exact fresh j a (Ne.symm e1) g1 g3 (by simp)
      · rw [List.getElem?_set_ne e1] at g1 g3
        rw [List.getElem?_set_ne e2] at g2 g4
        exact I.dist j k b hjk g1 g2 g3 g4
  · obtain ⟨⟨d',g1⟩,g2,g3⟩:=J.lent y hy
    have ne:i ≠ y.1:=by
      intro ee
      rw [← ee,hx] at g1
      exact hnl d' (Option.some.inj g1)
    exact ⟨⟨d',by rw [List.getElem?_set_ne ne]; exact g1⟩,by rw [List.getElem?_set_ne ne]; exact g2,g3⟩
  · have ji:j=i:=by
      by_cases ee:i=j
      · exact ee.symm
      · rw [List.getElem?_set_ne ee] at g1; exact hn j l2 g1
    subst ji
    rw [List.getElem?_set_self hi] at g1; cases g1
    refine ⟨a,bs,List.getElem?_set_self hi',t,f3,fun k b hk ho hs hb=>?_,fun k l3 hk=>?_⟩
    · rw [List.getElem?_set_ne (Ne.symm hk)] at ho hs
      exact fresh k b hk ho hs hb
    · by_cases ee:j=k
      · exact ee.symm
      · rw [List.getElem?_set_ne ee] at hk; exact hn k l3 hk
def zne (me:En→R (List (List Int))) (i:Nat) (δ:En):O:=(me δ).toO δ fun ll=>match δ[i]? with
  | none=>.no
  | some (.l _)=>.no
  | some _=>if ziS i δ=true then .nx (δ.set i (.p (tabT ll))) else .no
theorem zpz {i:Nat} {mp:En→R (List (List Int))} (h:SEp K XO E te mp):SS K XO E (tAsg te (zeS i)) (zne mp i):=by
  intro Λ F0 H0 F H σ δ Dn I a
  refine h Λ F0 H0 F H σ δ _ I ((AftS.of I a).imp fun ll F1 H1 e c p bs t h0=>?_)
  cases q:δ[i]? with
  | none=>simp only [q] at c; exact c.elim
  | some x =>
    simp only [q] at c
    cases x with
    | l d=>exact c.elim
    | no | v d | o d | p l2 =>
      dsimp only at c
      split at c
      · rename_i hn
        exact c _ F1 H1 (I.putP ⟨_,q,fun d z=>by cases z⟩ (zmT hn) e (tab_iff.mpr t) h0)
      · exact c.elim
structure TabAt (K:Kx) (H0 F H:Hp) (σ:St) (δ:En) (i:Nat) (a:Addr) (bs:List Addr) (T:Tr):Prop where
  is:δ[i]?=some (.p T)
  at':σ[i]?=some (some (.ref a))
  tab:Tab K F H a bs T
  free:∀ b ∈ a :: bs,H0 b=none∧F b=none
  dist:∀ (j:Nat) (b:Addr),j ≠ i→Sl.own δ[j]?=true→σ[j]?=some (some (.ref b))→b ∉ a :: bs
  one:∀ (j:Nat) (T':Tr),δ[j]?=some (.p T')→j=i
theorem EnvOk.tabAt (I:EnvOk K Λ F0 H0 F H σ δ) {i:Nat} {T:Tr} (hx:δ[i]?=some (.p T)):∃ a bs,TabAt K H0 F H σ δ i a bs T:=by
  obtain ⟨a,bs,s1,s2,s3,s4,s5⟩:=I.tab hx
  exact ⟨a,bs,hx,s1,s2,s3,s4,s5⟩
theorem TabAt.grow {i:Nat} {a:Addr} {bs:List Addr} {T:Tr} (t:TabAt K H0 F H σ δ i a bs T) (e:Ext F H F' H'):TabAt K H0 F' H' σ δ i a bs T :=
  ⟨t.is,t.at',t.tab.mono e.ff e.hh,fun b hb=>let ⟨o,ho⟩:=t.tab.obj b hb; ⟨(t.free b hb).1,e.nw b o (t.free b hb).2 ho⟩,t.dist,t.one⟩
theorem EnvOk.chgT {i:Nat} {T T':Tr} {a b:Addr} {bs bs':List Addr} {u:HO} (I:EnvOk K Λ F0 H0 F H σ δ) (t:TabAt K H0 F H σ δ i a bs T) (hb:b ∈ a :: bs) (t':Tab K F (upd H b u) a bs' T') (sub:∀ c ∈ bs',c ∈ bs) :
    EnvOk K Λ F0 H0 F (upd H b u) σ (δ.set i (.p T')):=by
  have hx:=t.is
  have hi:i < δ.length:=(List.getElem?_eq_some_iff.mp hx).1
  have fb:=t.free b hb
  have sub':∀ c ∈ a :: bs',c ∈ a :: bs:=fun c hc=>by
    rcases List.mem_cons.mp hc with rfl | hc
    · simp
    · exact List.mem_cons_of_mem _ (sub c hc)
  have oth:∀ (j:Nat) (c:Addr),i ≠ j→Sl.own δ[j]?=true→σ[j]?=some (some (.ref c))→c ≠ b:=fun j c hj ho hs ee=>t.dist j c (Ne.symm hj) ho hs (by rw [ee]; exact hb)
  have ow:∀ k2:Nat,Sl.own (δ.set i (.p T'))[k2]?=true→Sl.own δ[k2]?=true:=by
    intro k2 h
    by_cases ee:i=k2
    · subst ee; rw [hx]; rfl
    · rw [List.getElem?_set_ne ee] at h; exact h
  refine ⟨⟨I.ext.ff,fun c w q=>?_,fun c w q=>?_,I.ext.nw⟩,by simp [I.len],fun j=>?_,fun j k2 c hjk g1 g2 g3 g4=>?_,fun y hy=>?_,fun j l2 g1=>?_⟩
  · rw [zai (zaq q fb.1)]; exact I.ext.hh c w q
  · rw [zai (zaq q fb.2)]; exact I.ext.fh c w q
  · by_cases ee:i=j
    · subst ee
      rw [List.getElem?_set_self hi]
      exact ⟨a,bs',t.at',t',fun c hc=>t.free c (sub' c hc)⟩
    · rw [List.getElem?_set_ne ee]
      have w:=I.slot j
      cases q:δ[j]? with
      | none=>trivial
      | some y =>
        rw [q] at w
        cases y with
        | no=>trivial
        | v d=>exact w
        | o d=>obtain ⟨c,w1,w2,w3,w4⟩:=w; exact ⟨c,w1,w2,w3,w4.at (zai (oth j c ee (by rw [q]; rfl) w1))⟩
        | l d=>obtain ⟨c,w1,w2,w3,w4⟩:=w; exact ⟨c,w1,w2,w3,w4.at (zai (oth j c ee (by rw [q]; rfl) w1))⟩
        | p l2=>exact absurd (t.one j l2 q).symm ee
  · exact I.dist j k2 c hjk (ow j g1) (ow k2 g2) g3 g4
  · obtain ⟨⟨d2,g1⟩,g2,g3⟩:=I.lent y hy
    have ne:i ≠ y.1:=by
      intro ee
      rw [← ee,hx] at g1
      cases g1
    exact ⟨⟨d2,by rw [List.getElem?_set_ne ne]; exact g1⟩,g2,by rw [zai (oth y.1 y.2.1 ne (by rw [g1]; rfl) g2)]; exact g3⟩
  · have ji:j=i:=by
      by_cases ee:i=j
      · exact ee.symm
      · rw [List.getElem?_set_ne ee] at g1; exact t.one j l2 g1
    subst ji
    rw [List.getElem?_set_self hi] at g1; cases g1
    refine ⟨a,bs',t.at',t',fun c hc=>t.free c (sub' c hc),fun k2 c hk ho hs hc=>?_,fun k2 l3 hk=>?_⟩
    · exact t.dist k2 c hk (ow k2 ho) hs (sub' c hc)
    · by_cases ee:j=k2
      · exact ee.symm
      · rw [List.getElem?_set_ne ee] at hk; exact t.one k2 l3 hk
theorem EnvOk.chgP {i k:Nat} {ll:List (List Int)} {row:List Int} {a b:Addr} {bs:List Addr} (I:EnvOk K Λ F0 H0 F H σ δ) (t:TabAt K H0 F H σ δ i a bs (tabT ll)) (hb:bs[k]?=some b) :
    EnvOk K Λ F0 H0 F (upd H b (.lst (row.map .int))) σ (δ.set i (.p (tabT (ll.set k row)))):=by
  have tb:=tab_iff.mp t.tab
  have bm:b ∈ bs:=List.mem_of_getElem? hb
  have kl:k < bs.length:=(List.getElem?_eq_some_iff.mp hb).1
  have nd:=List.nodup_cons.mp tb.nd
  refine I.chgT t (List.mem_cons_of_mem _ bm) (tab_iff.mpr ⟨?_,by simp [tb.len],fun j c r h1 h2=>?_,tb.nd⟩) fun c hc=>hc
  · rw [zai (show a ≠ b from fun z=>nd.1 (z ▸ bm))]; exact tb.top
  · by_cases ej:k=j
    · subst ej
      rw [hb] at h1; cases h1
      rw [List.getElem?_set_self (by rw [← tb.len]; exact kl)] at h2; cases h2
      exact zaj
    · rw [List.getElem?_set_ne ej] at h2
      rw [zai (fun z=>ej ((List.getElem?_inj kl nd.2).mp (by rw [hb,h1,z])))]
      exact tb.row j c r h1 h2
def tabOf:Option Sl→Option (List (List Int))
  | some (.p T)=>znD T
  | _=>none
theorem zgS {x:Option Sl} {ll:List (List Int)} (h:tabOf x=some ll):x=some (.p (tabT ll)):=by
  unfold tabOf at h
  split at h
  · rw [zka h]
  · cases h
@[simp] theorem zq0 (ll:List (List Int)):tabOf (some (.p (tabT ll)))=some ll:=zkG ll
def zjr (i:Nat) (mk mj me:En→R D) (δ:En):O:=match tabOf δ[i]? with
  | some ll=>(me δ).toO δ fun v=>(mk δ).toO δ fun k=>match v,k with
    | .int v,.int k=>(match ixN ll.length k with
      | some k'=>(match ll[k']? with
        | some row=>(mj δ).toO δ fun j=>(match j with
          | .int j=>(match ixN row.length j with | some j'=>.nx (δ.set i (.p (tabT (ll.set k' (row.set j' v))))) | none=>.no)
          | _=>.no)
        | none=>.no)
      | none=>.no)
    | _,_=>.no
  | none=>.no
theorem zji {i:Nat} {tk tj:TE} {mk mj:En→R D} (h1:SE K XO E tk mk) (h2:SE K XO E tj mj) (h:SE K XO E te me):SS K XO E (tAsg te (gSub (tOp (rIxL K.f) (tVar i) tk) tj zqm)) (zjr i mk mj me):=by
  intro Λ F0 H0 F H σ δ Dn I a
  unfold zjr at a
  split at a
  · rename_i ll q'
    have q:=zgS q'
    obtain ⟨p,bs,ta⟩:=I.tabAt q
    have s1:=ta.at'
    have s2:=tab_iff.mp ta.tab
    refine h Λ F0 H0 F H σ δ _ I ((AftS.of I a).imp fun v F1 H1 e c x rx=>⟨_,s1,?_⟩)
    refine h1 Λ F0 H0 F1 H1 σ δ _ (I.grow e) ((AftS.of (I.grow e) c).imp fun k F2 H2 e2 c2 y ry=>?_)
    have I2:=(I.grow e).grow e2
    have tt:=(s2.mono e.hh).mono e2.hh
    split at c2
    · rename_i v k
      simp only [Rep] at ry rx
      subst ry rx
      cases z:ixN ll.length k with
      | none=>rw [z] at c2; exact c2.elim
      | some k' =>
        rw [z] at c2
        dsimp only at c2
        cases z2:ll[k']? with
        | none=>rw [z2] at c2; exact c2.elim
        | some row =>
          rw [z2] at c2
          dsimp only at c2
          have kl:k' < bs.length:=by rw [s2.len]; exact (List.getElem?_eq_some_iff.mp z2).1
          have gb:bs[k']?=some bs[k']:=List.getElem?_eq_getElem kl
          refine ⟨p,bs.map .ref,k,.ref bs[k'],rfl,rfl,.inl (.inl tt.top),?_,?_⟩
          · unfold atI
            rw [List.length_map,s2.len,z]
            show (bs.map V.ref)[k']?=_
            rw [List.getElem?_map,gb]; rfl
          · refine h2 Λ F0 H0 F2 H2 σ δ _ I2 ((AftS.of I2 c2).imp fun j F3 H3 e3 c3 u ru=>?_)
            have I3:=I2.grow e3
            have t3:=tt.mono e3.hh
            split at c3
            · rename_i j
              simp only [Rep] at ru
              subst ru
              cases z3:ixN row.length j with
              | none=>rw [z3] at c3; exact c3.elim
              | some j' =>
                rw [z3] at c3
                dsimp only at c3
                refine ⟨bs[k'],row.map .int,j,j',rfl,rfl,t3.row k' _ row gb z2,by rw [List.length_map]; exact z3,?_⟩
                rw [← List.map_set]
                exact c3 σ F3 _ (I3.chgP (((ta.grow e).grow e2).grow e3) gb)
            · exact c3.elim
    · exact c2.elim
  · exact a.elim
def zm8 (i:Nat) (δ:En):O:=match δ[i]? with | some (.p T)=>.ro (trD T) | _=>.no
open Classical in
def zgC (F H:Hp) (bs:List Addr):Hp:=fun b=>if b ∈ bs then H b else F b
mutual
theorem zoH {F1:Hp} (s:Same F F1):∀ (T:Tr) {v:V} {fp:List Addr},TrOk K F H T v fp→(∀ b ∈ fp,F1 b=H b)→Rep K F1 (trD T) v
  | .d x,v,fp,h,_=>by
    simp only [TrOk] at h
    simp only [trD]
    exact Rep.mono s x h.2
  | .l ts,v,fp,h,e=>by
    simp only [TrOk] at h
    obtain ⟨a,vs,fs,rfl,h2,h3,h4⟩:=h
    subst h2
    simp only [trD,Rep]
    exact ⟨a,vs,rfl,.inl ((e a (by simp)).trans h3),zfB s ts h4 fun b hb=>e b (List.mem_cons_of_mem _ hb)⟩
  | .t ts,v,fp,h,e=>by
    simp only [TrOk] at h
    obtain ⟨a,vs,rfl,h3,h4⟩:=h
    simp only [trD,Rep]
    exact ⟨a,vs,rfl,s _ _ h3,zfB s ts h4 e⟩
theorem zfB {F1:Hp} (s:Same F F1):∀ (ts:List Tr) {vs:List V} {fp:List Addr},TrOkL K F H ts vs fp→(∀ b ∈ fp,F1 b=H b)→RepL K F1 (trDL ts) vs
  | [],vs,fp,h,_=>by
    simp only [TrOkL] at h
    rw [h.1]
    simp only [trDL]
    exact .nil
  | t :: ts,vs,fp,h,e=>by
    simp only [TrOkL] at h
    obtain ⟨v,r,f1,f2,rfl,h2,h3,h4⟩:=h
    subst h2
    simp only [trDL]
    exact .cons (zoH s t h3 fun b hb=>e b (List.mem_append_left _ hb)) (zfB s ts h4 fun b hb=>e b (List.mem_append_right _ hb))
end
theorem zmL {i:Nat}:SS K XO E (tRet (tVar i)) (zm8 i):=by
  intro Λ F0 H0 F H σ δ Dn I a
  unfold zm8 at a
  split at a
  · rename_i T q
    obtain ⟨p,bs,s1,s2,s3,_⟩:=I.tab q
    have nd:=List.nodup_cons.mp s2.nd
    have ff:Same F (zgC F H bs):=fun b o h=>by
      unfold zgC
      rw [if_neg fun z=>by rw [(s3 b (List.mem_cons_of_mem _ z)).2] at h; cases h]
      exact h
    have fh:Same (zgC F H bs) H:=fun b o h=>by
      unfold zgC at h
      split at h
      · exact h
      · exact I.same b o h
    have fp:zgC F H bs p=none:=by
      unfold zgC
      rw [if_neg nd.1]
      exact (s3 p (by simp)).2
    refine ⟨_,s1,a p (zgC F H bs) H ⟨I.ext.ff.trans ff,I.ext.hh,fh,fun b o h1 h2=>?_⟩ fp (s3 p (by simp)).1 ?_⟩
    · unfold zgC
      rw [if_neg fun z=>by rw [(s3 b (List.mem_cons_of_mem _ z)).1] at h2; cases h2]
      exact I.ext.nw b o h1 h2
    · have ok:=s2.ok
      have hb:∀ b ∈ bs,zgC F H bs b=H b:=fun b hb=>by unfold zgC; rw [if_pos hb]
      cases T with
      | d x=>simp only [TrOk] at ok; cases ok.1
      | t ts =>
        simp only [TrOk] at ok
        obtain ⟨a',vs,h1,h2,_⟩:=ok
        cases h1
        rw [(s3 p (by simp)).2] at h2; cases h2
      | l ts =>
        simp only [TrOk] at ok
        obtain ⟨a',vs,fs,h1,h2,h3,h4⟩:=ok
        cases h1; cases h2
        simp only [trD]
        exact ⟨vs,h3,zfB ff ts h4 hb⟩
  · exact a.elim
open Classical in
def zeI (H:Hp) (bs:List Addr):Hp:=fun b=>if b ∈ bs then none else H b
theorem zmD {H:Hp} {bs:List Addr}:Same (zeI H bs) H:=fun b o h=>by
  unfold zeI at h
  split at h
  · cases h
  · exact h
def spT (K:Kx) (XO:XOT) (f:List (List Int)→R D):Sp:=fun vs H Q E=>∃ F ll a bs,vs = [.ref a]∧TabO H a bs ll∧Same F (zeI H (a :: bs))∧Aft (fun _=>E) XO [] F (zeI H (a :: bs)) (fun d F' H'=>∀ p,F' p=none→zeI H (a :: bs) p=none→Own K F' H' d p→Q (.ref p) H') (f ll)
def runT (nv:Nat) (m:En→O) (ll:List (List Int)):R D:=match m (.p (tabT ll) :: List.replicate nv .no) with | .ro d=>.ok d | .ex _ x=>.ex x | _=>.no
theorem zo1 {f:List (List Int)→R D} {vs:List V} {Q:VK} {E:XK} (sp:spT K XO f vs H Q E):vs.length=1:=by
  obtain ⟨_,_,_,_,rfl,_⟩:=sp; rfl
theorem zqt {nv:Nat} {N:List Str} {vs:List V} {Q:VK} {E:XK} (h:SS K XO (fun _=>E) t m) (hn:N.length=1 + nv) (sp:spT K XO (runT nv m) vs H Q E):t { nx:=fun _ H'=>Q .non H',rt:=Q } (L2.start N vs) H:=by
  obtain ⟨F,ll,a,bs,rfl,tb,s,aft⟩:=sp
  have fN:∀ b ∈ a :: bs,zeI H (a :: bs) b=none∧F b=none:=fun b hb=>by
    have:zeI H (a :: bs) b=none:=by unfold zeI; rw [if_pos hb]
    exact ⟨this,s.free this⟩
  have I:EnvOk K [] F (zeI H (a :: bs)) F H (L2.start N [.ref a]) (.p (tabT ll) :: List.replicate nv .no):=by
    unfold L2.start
    have en:N.length - [V.ref a].length=nv:=by simp; omega
    rw [en]
    have no:∀ j:Nat,j ≠ 0→Sl.own (Sl.p (tabT ll) :: List.replicate nv Sl.no)[j]?=true→False:=fun j hj h=>by
      cases j with
      | zero=>exact hj rfl
      | succ j =>
        rw [List.getElem?_cons_succ,List.getElem?_replicate] at h
        split at h <;> cases h
    have noP:∀ (j:Nat) (l2:Tr),(Sl.p (tabT ll) :: List.replicate nv Sl.no)[j]?=some (.p l2)→j=0:=fun j l2 h=>by
      by_cases hj:j=0
      · exact hj
      · exact (no j hj (by rw [h]; rfl)).elim
    refine ⟨⟨.refl _,zmD,s.trans zmD,fun p o h1 _=>h1⟩,by simp,fun j=>?_,fun i j c hij h1 h2 _ _=>?_,fun x hx=>(by cases hx),fun j l2 g1=>?_⟩
    · cases j with
      | zero=>exact ⟨a,bs,rfl,tab_iff.mpr tb,fN⟩
      | succ j =>
        rw [List.getElem?_cons_succ,List.getElem?_replicate]
        split <;> trivial
    · by_cases hi:i=0
      · subst hi; exact no j (Ne.symm hij) h2
      · exact no i hi h1
    · have j0:=noP j l2 g1
      subst j0
      cases g1
      exact ⟨a,bs,rfl,tab_iff.mpr tb,fN,fun k b hk ho _ _=>no k hk ho,fun k l3 hk=>noP k l3 hk⟩
  unfold runT at aft
  refine h [] F (zeI H (a :: bs)) F H _ _ _ I ?_
  cases q:m (.p (tabT ll) :: List.replicate nv .no) with
  | ro d=>rw [q] at aft; exact fun p F2 H2 e h0 h1 o=>aft F2 H2 e p h0 h1 o
  | ex δ x=>rw [q] at aft; exact fun σ2 F2 H2 C dct I2 hx=>aft C dct F2 H2 I2.ext hx
  | no=>rw [q] at aft; exact aft.elim
  | nx δ=>rw [q] at aft; exact aft.elim
  | rt d=>rw [q] at aft; exact aft.elim
  | bk δ=>rw [q] at aft; exact aft.elim
  | ct δ=>rw [q] at aft; exact aft.elim
def zie (f:List (List Int)→R D) (i:Nat) (δ:En):O:=match tabOf δ[i]? with
  | some ll=>(match f ll with | .ok d=>.ro d | _=>.no)
  | none=>.no
theorem znb {i:Nat} {f:List (List Int)→R D} {E':XK}:SS K XO E (tRet (zj9 (spT K XO f) [] E' (zby (tVar i) tNil))) (zie f i):=by
  intro Λ F0 H0 F H σ δ Dn I a
  unfold zie at a
  split at a
  · rename_i ll q'
    have q:=zgS q'
    obtain ⟨p,bs,s1,s2',s3,_⟩:=I.tab q
    have s2:=tab_iff.mp s2'
    have sF:Same F (zeI H (p :: bs)):=fun b o h=>by
      unfold zeI
      rw [if_neg fun z=>by rw [(s3 b z).2] at h; cases h]
      exact I.same b o h
    refine ⟨_,s1,F,ll,p,bs,rfl,s2,sF,?_⟩
    cases q2:f ll with
    | no=>rw [q2] at a; exact a
    | ex x=>rw [q2] at a; exact a.elim
    | ok d =>
      rw [q2] at a
      intro F2 H2 e r r0 r1 ro
      have h0:∀ (b:Addr) (o:HO),H0 b=some o→zeI H (p :: bs) b=some o:=fun b o h=>by
        unfold zeI
        rw [if_neg fun z=>by rw [(s3 b z).1] at h; cases h]
        exact I.ext.hh b o h
      refine a r F2 H2 ⟨I.ext.ff.trans e.ff,fun b o h=>e.hh b o (h0 b o h),e.fh,fun b o g1 g2=>e.nw b o (I.ext.nw b o g1 g2) (h0 b o g2)⟩ r0 ?_ ro
      cases z:H0 r with
      | none=>rfl
      | some o=>rw [h0 r o z] at r1; cases r1
  · exact a.elim
end
end PM
namespace L2
open PySem PySem.Spec PyProof.Rows
section
variable {X:Cx} {x:Str} {np hpos pos:Pos} {body:List Stmt} {b₀:Stmt} {suite:List Stmt} {D':Addr} {tb:(St→XK)→TS} {th:TS}
end
end L2
namespace PM
open PySem L2
section
variable {K:Kx} {E:L2.St→XK}
end
end PM
namespace PM
def lexLt:List Int→List Int→Bool
  | [],[]=>false
  | [],_ :: _=>true
  | _ :: _,[]=>false
  | a :: l,b :: m=>if a=b then lexLt l m else decide (a < b)
def minT:List (List Int)→List Int→List Int
  | [],m=>m
  | t :: l,m=>minT l (if lexLt t m=true then t else m)
theorem minT_snoc:∀ (l:List (List Int)) (m x:List Int),minT (l ++ [x]) m=if lexLt x (minT l m)=true then x else minT l m
  | [],_,_=>rfl
  | t :: l,m,x=>by
    show minT (l ++ [x]) _=_
    rw [minT_snoc l]
    rfl
end PM
namespace L2
open PySem PySem.Spec PyProof.Rows
section
variable {prog:Program} {w:World} {A:Around} {E:Value→Shared→Prop} {s:Shared}
def TupI (h:Heap) (ns:List Int) (a:Addr):Prop:=∃ its:List Value,Vals (ns.map V.int) its∧IsTup h a its.toArray
theorem TupI.typeIs {ns:List Int} {a:Addr} (x:TupI s.heap ns a):s.TypeIs (.ref a) "tuple":=by
  obtain ⟨_,_,o,e,c,_⟩:=x
  exact ⟨o,e,c⟩
theorem zfT {i j:Int} {t u:Tok} {Q:Value→Shared→Prop} (h:Q (.bool (decide (i < j))) s):wpAny (model prog w) A (richCompare .Lt (.int i t) (.int j u)) Q E s :=
  richCompare_gives (op:=.Lt) (typeIs_int s _ t) (typeIs_int s _ u) F.slot_int_lt F.entry_int_lt (F.args_int_lt_2 _ _) (gives_int_lt _ _ t u) (fun x=>nomatch x) h
theorem zhK {x y:List Int} {a b:Addr} {P:Fin→Shared→Prop} (hx:TupI s.heap x a) (hy:TupI s.heap y b) (h:P (.done (.ret (.bool (PM.lexLt x y)))) s) :
    wpAny (model prog w) A (Builtin.«tuple.__lt__» ⟨[.ref a,.ref b],[]⟩) P E s:=by
  have hTb:=hy.typeIs
  obtain ⟨xs,hia,oa,hoa,_,na,hda⟩:=hx
  obtain ⟨ys,hib,ob,hob,_,nb,hdb⟩:=hy
  show wpAny _ _ (isInstance (.ref b) (.type "tuple") >>= _) _ _ s
  refine wpAny_bind (wpAny_isInstance hTb isSubtype_tuple_tuple ?_)
  simp only [Bool.not_true,Bool.false_eq_true,if_false]
  refine wpAny_bind (wpAny_tupleItemsOf hoa hda ?_)
  refine wpAny_bind (wpAny_tupleItemsOf hob hdb ?_)
  refine wpAny_bind ?_
  refine wpAny_forIn_list _
    (fun rest r s'=>r.1=none∧s'=s∧∃ x' y' xs' ys',rest=List.zip xs' ys'∧Vals (x'.map V.int) xs'∧Vals (y'.map V.int) ys'∧PM.lexLt x' y'=PM.lexLt x y∧(decide (xs'.length < ys'.length))=decide (xs.length < ys.length))
    _ ?_ ?_ _ _ ⟨rfl,rfl,x,y,xs,ys,rfl,hia,hib,rfl,rfl⟩
  · rintro ⟨u,v⟩ rest r s' ⟨hr,rfl,x',y',xs',ys',hz,hx',hy',hdec,hlen⟩
    cases x' with
    | nil=>cases hx'; simp at hz
    | cons k1 x'' =>
      cases y' with
      | nil=>cases hy'; simp at hz
      | cons k2 y'' =>
        cases hx' with
        | cons h1 hx'' =>
          cases hy' with
          | cons h2 hy'' =>
            obtain ⟨t1,rfl⟩:=h1
            obtain ⟨t2,rfl⟩:=h2
            simp only [List.zip_cons_cons,List.cons.injEq,Prod.mk.injEq] at hz
            obtain ⟨⟨rfl,rfl⟩,rfl⟩:=hz
            refine wpAny_bind (wpAny_eqBool_int ?_)
            by_cases hk:k1=k2
            · subst hk
              rw [show (k1 == k1)=true from beq_self_eq_true _]
              simp only [Bool.not_true,Bool.false_eq_true,if_false]
              refine wpAny_pure ⟨rfl,rfl,x'',y'',_,_,rfl,hx'',hy'',?_,by simpa using hlen⟩
              rw [← hdec]
              simp [PM.lexLt]
            · rw [show (k1 == k2)=false from beq_eq_false_iff_ne.mpr hk]
              simp only [Bool.not_false,if_true]
              have hf:PM.lexLt x y=decide (k1 < k2):=by rw [← hdec]; simp [PM.lexLt,hk]
              rw [hf] at h
              refine wpAny_bind (wpAny_rule ?_)
              refine wpAny_bind (zfT ?_)
              exact wpAny_bind (wpAny_pure (wpAny_pure (wpAny_pure h)))
  · rintro ⟨r1,r2⟩ s' ⟨hr,rfl,x',y',xs',ys',hz,hx',hy',hdec,hlen⟩
    simp only at hr
    subst hr
    refine wpAny_pure ?_
    have hfin:decide (xs.length < ys.length)=PM.lexLt x y:=by
      rw [← hdec,← hlen]
      cases x' with
      | nil =>
        cases hx'
        cases y' with
        | nil=>cases hy'; simp [PM.lexLt]
        | cons _ _=>cases hy'; simp [PM.lexLt]
      | cons _ _ =>
        cases hx' with
        | cons _ _ =>
          cases y' with
          | nil=>cases hy'; simp [PM.lexLt]
          | cons _ _=>cases hy'; simp at hz
    show P (.done (.ret (.bool (decide (xs.toArray.size < ys.toArray.size))))) s'
    rw [List.size_toArray,List.size_toArray,hfin]; exact h
theorem zkX {x y:List Int} {a b:Addr} {Q:Value→Shared→Prop} (hu:A.units < cLine) (hx:TupI s.heap x a) (hy:TupI s.heap y b) (h:Q (.bool (PM.lexLt x y)) s):wpAny (model prog w) A (richCompare .Lt (.ref a) (.ref b)) Q E s :=
  wpAny_richCompare_same_room (op:=.Lt) hx.typeIs hy.typeIs F.slot_tuple_lt (wpAny_call_entry F.slot_tuple_lt hx.typeIs F.entry_tuple_lt (zhK hx hy ⟨_,rfl,(fun e=>nomatch e),h⟩) (F.args_tuple_lt_2 _ _)) hu
end
def zqL (as:List Addr) (h0 h:Heap):Prop:=∀ b ∈ as,∀ o,h0.get? b=some o→h.get? b=some o
theorem zhW {prog:Program} {w:World} {A:Around} {I:Addr} {fp wr:List Addr} {n:Nat} {P:Nat→Value→Prop} {St:Nat→Heap→Prop} (W:Walks prog w A I fp wr n P St) (as:List Addr) (h0:Heap) (hd:∀ b ∈ as,b ∉ wr) :
    Walks prog w A I (fp ++ as) wr n P (fun i h=>St i h∧zqL as h0 h) where
  sub:=fun b hb=>List.mem_append_left _ (W.sub b hb)
  frame:=fun i h h' st k=>⟨W.frame i h h' st.1 fun b hb=>k b (List.mem_append_left _ hb),fun b hb o e=>k b (List.mem_append_right _ hb) o (st.2 b hb o e)⟩
  item:=fun i s Q E hi st hQ=>W.item i s Q E hi st.1 fun v h' tk p st' k=>hQ v h' tk p ⟨st',fun b hb o e=>k b o (hd b hb) (st.2 b hb o e)⟩ k
  done:=fun s Q E st hQ=>W.done s Q E st.1 hQ
  self:=fun i s Q E st q=>W.self i s Q E st.1 q
def CmpS (prog:Program) (w:World) (A:Around) (P:Nat→Value→Prop) (St:Nat→Heap→Prop) (bt:Nat→Nat→Bool):Prop :=
  ∀ k i j vi vj (s:Shared) (Q:Value→Shared→Prop) (E:Value→Shared→Prop),St k s.heap→P i vi→P j vj→Q (.bool (bt i j)) s→wpAny (model prog w) A (richCompare .Lt vi vj) Q E s
section
variable {prog:Program} {w:World} {A:Around} {R:Result→Shared→Prop} {I S:Addr} {fp wr:List Addr} {n:Nat} {P:Nat→Value→Prop} {St:Nat→Heap→Prop} {bt:Nat→Nat→Bool}
def Cup (S:Addr) (items:Array Value) (h:Heap):Prop:=∃ c,h.get? S=some { cls:=.type "list",dict:=none,data:=.seq items c,slots:=#[] }
theorem znp (W:Walks prog w A.in1 I fp wr n P St) (hcmp:CmpS prog w A.in1 P St bt) (hSf:S ∉ fp) (j:Nat) (s:Shared) (vb:Value) (hj:j + 1 ≤ n) (hst:St (j + 1) s.heap) (hPb:P (argBest bt j) vb) (hS:Cup S #[vb,vb] s.heap)
    (hR:∀ v h' tk,P (argBest bt (n - 1)) v→(∀ b o,b ∉ wr→b ≠ S→s.heap.get? b=some o→h'.get? b=some o)→R (.ok (.ret v)) { s with heap:=h',toks:=tk }) :
    codeAny (model prog w) A (.builtin "min.loop" ⟨[.ref I,.none,.ref S],[]⟩) R s:=by
  have hSw:S ∉ wr:=fun h=>hSf (W.sub _ h)
  have hname:(toString "min" ++ toString ".loop" : String) = "min.loop":=by decide
  obtain ⟨k,hk⟩:∃ k,n - (j + 1)=k:=⟨_,rfl⟩
  induction k generalizing j s vb with
  | zero =>
    have hin:j + 1=n:=by omega
    obtain ⟨c,hS⟩:=hS
    refine codeAny_builtin F.entry_min_loop ?_
    rw [Around.under_plainId F.plain_min_loop _]
    show wpAny _ A.in1 (seqItems? (.ref S) >>= _) _ _ s
    refine wpAny_bind (wpAny_seqItems hS rfl ?_)
    show wpAny _ A.in1 (tryCatch (pyNext (.ref I)) _ >>= _) _ _ s
    refine wpAny_bind (wpAny_tryCatch (W.done s _ _ (hin ▸ hst) fun h' tk hk'=>?_))
    have hS':=hk' S _ hSw hS
    show wpAny _ A.in1 (updateSeq S (fun _=>#[]) >>= _) _ _ _
    refine wpAny_bind ?_
    refine wpAny_updateSeq hS' rfl (wpAny_bind (wpAny_letGo (wpAny_pure ?_)))
    exact hR vb _ tk (by rw [← hin]; exact hPb) fun b o hbw hbS e=>(Heap.get?_update_other _ _ (Ne.symm hbS)).trans (hk' b o hbw e)
  | succ k ih =>
    have hlt:j + 1 < n:=by omega
    obtain ⟨c,hS⟩:=hS
    refine codeAny_builtin F.entry_min_loop ?_
    rw [Around.under_plainId F.plain_min_loop _]
    show wpAny _ A.in1 (seqItems? (.ref S) >>= _) _ _ s
    refine wpAny_bind (wpAny_seqItems hS rfl ?_)
    show wpAny _ A.in1 (tryCatch (pyNext (.ref I)) _ >>= _) _ _ s
    refine wpAny_bind (wpAny_tryCatch (W.item (j + 1) s _ _ hlt hst fun v h' tk hP hst' hk'=>?_))
    have hS':=hk' S _ hSw hS
    show wpAny _ A.in1 (tryCatch (holding [v,v] (richCompare .Lt v vb >>= _)) _ >>= _) _ _ _
    refine wpAny_bind (wpAny_tryCatch (wpAny_holding (wpAny_bind (hcmp (j + 1 + 1) (j + 1) (argBest bt j) v vb _ _ _ hst' hP hPb ?_))))
    refine wpAny_bind (wpAny_holding (wpAny_truthy_bool ?_))
    refine wpAny_bind (wpAny_letGo (wpAny_pure ?_))
    cases hb:bt (j + 1) (argBest bt j) with
    | true =>
      simp only [if_true]
      refine wpAny_bind ?_
      refine wpAny_updateSeq hS' rfl (wpAny_bind (wpAny_letGo ?_))
      rw [hname]
      refine wpAny_pure ⟨plainId_quiet F.plain_min_loop _,ih (j + 1) _ v hlt (W.frame _ _ _ hst' fun b hbf o e=>?_) (by simp only [argBest,hb,if_true]; exact hP) ⟨_,Heap.get?_update_self _ hS' rfl⟩ (fun v' h'' tk'' hP' hk''=>?_) (by omega)⟩
      · exact (Heap.get?_update_other _ _ (fun h:S=b=>hSf (by rw [h]; exact hbf))).trans e
      · exact hR v' h'' tk'' hP' fun b o hbw hbS e=>hk'' b o hbw hbS ((Heap.get?_update_other _ _ (Ne.symm hbS)).trans (hk' b o hbw e))
    | false =>
      simp only [Bool.false_eq_true,if_false]
      refine wpAny_bind (wpAny_letGo ?_)
      rw [hname]
      refine wpAny_pure ⟨plainId_quiet F.plain_min_loop _,ih (j + 1) _ vb hlt hst' (by simp only [argBest,hb,Bool.false_eq_true,if_false]; exact hPb) ⟨_,hS'⟩ (fun v' h'' tk'' hP' hk''=>?_) (by omega)⟩
      exact hR v' h'' tk'' hP' fun b o hbw hbS e=>hk'' b o hbw hbS (hk' b o hbw e)
theorem zlQ (W:Walks prog w A.in1 I fp wr n P St) (hcmp:CmpS prog w A.in1 P St bt) (hSf:S ∉ fp) (hn:0 < n) {s:Shared} (hst:St 0 s.heap) (hS:Cup S #[] s.heap)
    (hR:∀ v h' tk,P (argBest bt (n - 1)) v→(∀ b o,b ∉ wr→b ≠ S→s.heap.get? b=some o→h'.get? b=some o)→R (.ok (.ret v)) { s with heap:=h',toks:=tk }) :
    codeAny (model prog w) A (.builtin "min.loop" ⟨[.ref I,.none,.ref S],[]⟩) R s:=by
  have hSw:S ∉ wr:=fun h=>hSf (W.sub _ h)
  have hname:(toString "min" ++ toString ".loop" : String) = "min.loop":=by decide
  obtain ⟨c,hS⟩:=hS
  refine codeAny_builtin F.entry_min_loop ?_
  rw [Around.under_plainId F.plain_min_loop _]
  show wpAny _ A.in1 (seqItems? (.ref S) >>= _) _ _ s
  refine wpAny_bind (wpAny_seqItems hS rfl ?_)
  show wpAny _ A.in1 (tryCatch (pyNext (.ref I)) _ >>= _) _ _ s
  refine wpAny_bind (wpAny_tryCatch (W.item 0 s _ _ hn hst fun v h' tk hP hst' hk'=>?_))
  have hS':=hk' S _ hSw hS
  show wpAny _ A.in1 (updateSeq S (fun _=>#[v,v]) >>= _) _ _ _
  refine wpAny_bind ?_
  refine wpAny_updateSeq hS' rfl ?_
  rw [hname]
  refine wpAny_pure ⟨plainId_quiet F.plain_min_loop _,znp W hcmp hSf 0 _ v hn (W.frame _ _ _ hst' fun b hbf o e=>?_) hP ⟨_,Heap.get?_update_self _ hS' rfl⟩ fun v' h'' tk'' hP' hk''=>?_⟩
  · exact (Heap.get?_update_other _ _ (fun h:S=b=>hSf (by rw [h]; exact hbf))).trans e
  · exact hR v' h'' tk'' hP' fun b o hbw hbS e=>hk'' b o hbw hbS ((Heap.get?_update_other _ _ (Ne.symm hbS)).trans (hk' b o hbw e))
end
section
variable {prog:Program} {w:World} {A:Around} {E:Value→Shared→Prop} {s:Shared}
theorem zh1 {x:Value} {Q:Value→Shared→Prop}
    (h:wpAny (model prog w) A.in1 (pyIter x) (fun it s₂=>∃ I fp wr n P St bt,it = .ref I∧Walks prog w A.in1 I fp wr n P St∧St 0 s₂.heap∧(∀ b ∈ fp,b < s₂.heap.objs.size)∧0 < n∧CmpS prog w A.in1 P St bt ∧
      ∀ v h' tk,P (argBest bt (n - 1)) v→(∀ b o,b ∉ wr→s₂.heap.get? b=some o→h'.get? b=some o)→Q v { s₂ with heap:=h',toks:=tk }) E s) :
    wpAny (model prog w) A (call (.builtin "min") [x]) Q E s:=by
  have hname:(toString "min" ++ toString ".loop" : String) = "min.loop":=by decide
  refine call_function_tree F.kind_min F.plain_min F.entry_min (F.args_min1 _) ?_
  show wpAny _ A.in1 (Builtin.Builtins.bindParams "min" ["key","default"] 0 ⟨[],[]⟩ >>= _) _ _ s
  refine wpAny_bind (wpAny_of_eq (show Builtin.Builtins.bindParams "min" ["key","default"] 0 ⟨[],[]⟩=pure [none,none] from rfl) ?_)
  refine wpAny_bind (wpAny_pure ?_)
  refine wpAny_bind (wpAny_mono h (fun it s₂ h₂=>?_) fun _ _ e=>e)
  obtain ⟨I,fp,wr,n,P,St,bt,rfl,W,hst,hfp,hn,hcmp,hQ⟩:=h₂
  refine wpAny_bind (wpAny_newObj_type ?_)
  rw [hname]
  refine wpAny_pure ⟨plainId_quiet F.plain_min_loop _,zlQ W hcmp (fun hm=>Nat.lt_irrefl _ (hfp _ hm)) hn (W.frame _ _ _ hst fun b _ o e=>Heap.get?_push_of_some _ e) ⟨_,Heap.get?_push_size _ rfl⟩ fun v h' tk hP hk=>?_⟩
  exact hQ v h' tk hP fun b o hbw e=>hk b o hbw (Nat.ne_of_lt (Heap.lt_size e)) (Heap.get?_push_of_some _ e)
end
section
variable {X:Cx}
theorem zfe (t:List Int) (ts:List (List Int)):∀ k,k ≤ ts.length→(t :: ts).getD (argBest (fun i j=>PM.lexLt ((t :: ts).getD i []) ((t :: ts).getD j [])) k) []=PM.minT (ts.take k) t
  | 0,_=>rfl
  | k + 1,h=>by
    have ih:=zfe t ts k (by omega)
    have ex:ts.take (k + 1)=ts.take k ++ [(t :: ts).getD (k + 1) []]:=by
      rw [List.take_succ,List.getD_cons_succ,List.getD_eq_getElem?_getD,List.getElem?_eq_getElem (by omega)]
      rfl
    rw [ex,PM.minT_snoc,← ih]
    show (t :: ts).getD (if PM.lexLt ((t :: ts).getD (k + 1) []) ((t :: ts).getD (argBest (fun i j=>PM.lexLt ((t :: ts).getD i []) ((t :: ts).getD j [])) k) [])=true then k + 1 else argBest (fun i j=>PM.lexLt ((t :: ts).getD i []) ((t :: ts).getD j [])) k) []=_
    split <;> rfl
def zqa:List V→Hp→VK→Prop:=fun xs H Q=>∃ (p:Addr) (as:List Addr) (t:List Int) (ts:List (List Int)),xs = [.ref p]∧Rd H p (.lst (as.map V.ref))∧as.length=ts.length + 1∧(∀ i a,as[i]?=some a→H a=some (.tup (((t :: ts).getD i []).map V.int))) ∧
  ∀ i a,as[i]?=some a→(t :: ts).getD i []=PM.minT ts t→Q (.ref a) H
theorem znr {as:List Addr} {its:List Value} (rv:Vals (as.map V.ref) its):its=as.map Value.ref:=by
  induction as generalizing its with
  | nil=>cases rv; rfl
  | cons a l ih =>
    cases rv with
    | cons h t =>
      have:_=Value.ref a:=h
      rw [this,ih t]; rfl
theorem zlS (hu:X.A.units + 64 < cLine) (hc:X.calm=true):zdI X (.builtin "min") zqa:=by
  intro pins s σ H xs us Q I r h
  obtain ⟨p,as,t,ts,rfl,hq,hl,ht,q⟩:=h
  obtain ⟨u,rfl,rx⟩:=zey r
  cases rx
  obtain ⟨z,its,n,rv,e⟩:=hq.ok I.hok
  have ei:=znr rv
  subst ei
  have tup:∀ i a,as[i]?=some a→TupI s.heap ((t :: ts).getD i []) a:=fun i a h=>by
    obtain ⟨_,its',v',w'⟩:=I.hok a _ (ht i a h)
    exact ⟨its',v',w'⟩
  have lt:∀ a ∈ as,a < s.heap.objs.size:=fun a ha=>by
    obtain ⟨i,hi,ea⟩:=List.getElem_of_mem ha
    obtain ⟨_,_,o,eo,_⟩:=tup i a (by rw [List.getElem?_eq_getElem hi,ea])
    exact Heap.lt_size eo
  have isl:s.heap.IsList p (as.map Value.ref).toArray:=⟨_,e,rfl,n,rfl⟩
  have plt:p < s.heap.objs.size:=Heap.lt_size e
  refine zh1 (wpAny_pyIter_list isl ?_)
  refine ⟨s.heap.objs.size,[s.heap.objs.size,p] ++ as,[s.heap.objs.size],(as.map Value.ref).toArray.size,_,_,(fun i j=>PM.lexLt ((t :: ts).getD i []) ((t :: ts).getD j [])),rfl,zhW (Walks.list (A:=X.A.in1) (I.ok.hd hc) s.heap.objs.size p (Nat.ne_of_lt plt) (as.map Value.ref).toArray) as s.heap ?_,⟨⟨⟨_,Heap.get?_push_size _ rfl,rfl,rfl⟩,isl.push _⟩,fun b _ o eo=>Heap.get?_push_of_some _ eo⟩,?_,?_,?_,?_⟩
  · intro b hb hm
    rw [List.mem_singleton.mp hm] at hb
    exact absurd (lt _ hb) (Nat.lt_irrefl _)
  · intro b hb
    show b < (s.heap.push _).objs.size
    rw [Heap.size_push]
    rcases List.mem_append.mp hb with hb | hb
    · rcases List.mem_cons.mp hb with rfl | hb
      · exact Nat.lt_succ_self _
      · rw [List.mem_singleton.mp hb]; exact Nat.lt_succ_of_lt plt
    · exact Nat.lt_succ_of_lt (lt b hb)
  · rw [List.size_toArray,List.length_map,hl]; exact Nat.succ_pos _
  · intro k i j vi vj s' Q' E' st hi hj hQ
    have gi:∀ (i:Nat) (v:Value),(as.map Value.ref).toArray[i]?=some v→∃ a,as[i]?=some a∧v = .ref a:=fun i v h=>by
      rw [List.getElem?_toArray,List.getElem?_map] at h
      cases z:as[i]? with
      | none=>rw [z] at h; cases h
      | some a=>rw [z] at h; cases h; exact ⟨a,rfl,rfl⟩
    obtain ⟨a,ea,rfl⟩:=gi i vi hi
    obtain ⟨b,eb,rfl⟩:=gi j vj hj
    have tp:∀ i a,as[i]?=some a→TupI s'.heap ((t :: ts).getD i []) a:=fun i a h=>by
      obtain ⟨its',v',o,eo,c1,c2⟩:=tup i a h
      exact ⟨its',v',o,st.2 a (List.mem_of_getElem? h) o eo,c1,c2⟩
    exact zkX (by rw [Around.in1_units]; omega) (tp i a ea) (tp j b eb) hQ
  · intro v h' tk hP hk
    have hP':(as.map Value.ref).toArray[argBest (fun i j=>PM.lexLt ((t :: ts).getD i []) ((t :: ts).getD j [])) ((as.map Value.ref).toArray.size - 1)]?=some v:=hP
    rw [List.getElem?_toArray,List.size_toArray,List.length_map,hl,List.getElem?_map,Nat.add_sub_cancel] at hP'
    have key:=zfe t ts ts.length (Nat.le_refl _)
    rw [List.take_length] at key
    cases z:as[argBest (fun i j=>PM.lexLt ((t :: ts).getD i []) ((t :: ts).getD j [])) ts.length]? with
    | none=>rw [z] at hP'; cases hP'
    | some a =>
      rw [z] at hP'
      cases hP'
      refine ⟨.ref a,H,I.kept (t':=tk) (fun b o eo=>hk b o (fun hm=>?_) (Heap.get?_push_of_some _ eo)),rfl,q _ a z key⟩
      rw [List.mem_singleton.mp hm] at eo
      exact absurd (Heap.lt_size eo) (Nat.lt_irrefl _)
end
end L2
namespace PM
open PySem L2
section
variable {K:Kx}
def asTi:D→Option (List Int)
  | .tup l=>asIs l
  | _=>none
def asTs:List D→Option (List (List Int))
  | []=>some []
  | d :: l=>(asTi d).bind fun t=>(asTs l).map fun ts=>t :: ts
def zlf:List D→Option D
  | [.lst (d :: l)]=>(asTi d).bind fun t=>(asTs l).map fun ts=>.tup ((minT ts t).map .int)
  | _=>none
theorem zjS {d:D} {t:List Int} (h:asTi d=some t):d = .tup (t.map .int):=by
  unfold asTi at h
  split at h
  · rw [zbB h]
  · cases h
theorem zir:∀ {l:List D} {ts:List (List Int)},asTs l=some ts→l=ts.map fun t=>.tup (t.map .int)
  | [],_,h=>by cases h; rfl
  | d :: l,ts,h=>by
    unfold asTs at h
    cases q:asTi d with
    | none=>rw [q] at h; cases h
    | some t =>
      rw [q] at h
      cases q2:asTs l with
      | none=>rw [q2] at h; cases h
      | some r =>
        rw [q2] at h
        cases h
        rw [zjS q,zir q2]; rfl
theorem zh4 {F:Hp}:∀ {ts:List (List Int)} {vs:List V},RepL K F (ts.map fun t=>.tup (t.map .int)) vs→∃ as:List Addr,vs=as.map V.ref∧as.length=ts.length∧∀ i a,as[i]?=some a→F a=some (.tup ((ts.getD i []).map V.int))
  | [],vs,h=>by
    have:vs = []:=h
    subst this
    exact ⟨[],rfl,rfl,fun i a h=>(by simp at h)⟩
  | t :: ts,vs,h=>by
    obtain ⟨v,r,rfl,h1,h2⟩:=h
    obtain ⟨a,xs,rfl,h3,h4⟩:=h1
    have ex:=zbp (ns:=t) h4
    subst ex
    obtain ⟨as,rfl,hl,h5⟩:=zh4 h2
    refine ⟨a :: as,rfl,by simp [hl],fun i b hb=>?_⟩
    cases i with
    | zero=>simp at hb; subst hb; exact h3
    | succ i=>simp at hb; exact h5 i b hb
theorem zoI:SC K zqa zlf:=by
  intro F H vs ds d Q s r e q
  unfold zlf at e
  split at e
  · rename_i d0 l
    cases q1:asTi d0 with
    | none=>rw [q1] at e; cases e
    | some t =>
      rw [q1] at e
      cases q2:asTs l with
      | none=>rw [q2] at e; cases e
      | some ts =>
        rw [q2] at e
        cases e
        cases r with
        | cons r r' =>
          cases r'
          obtain ⟨p,xs,rfl,h1,h2⟩:=r
          rw [zjS q1,zir q2] at h2
          obtain ⟨as,rfl,hl,h5⟩:=zh4 (ts:=t :: ts) h2
          refine ⟨p,as,t,ts,rfl,h1,hl,fun i a ha=>s a _ (h5 i a ha),fun i a ha em=>q _ F H (.refl s) ?_⟩
          have:=h5 i a ha
          rw [em] at this
          simp only [Rep]
          exact ⟨a,_,rfl,this,RepL.ints⟩
  · cases e
end
end PM
namespace L2
open PySem PySem.Spec PyProof.Rows
section
variable {X:Cx}
def zpM (ta:TA):TE:=fun σ H Q=>ta σ H fun vs H1=>∃ i j:Int,vs = [.int i,.int j]∧∀ r,H1 r=none→Q (.ref r) (upd H1 r (.rng i j))
theorem zoG {a b:Expr} {ta:TA} {p pos:Pos} (hg:Gl X "range") (hm:X.mg "range"=none) (ha:PA X [a,b] ta) (hs:starEach [a,b] X.env = [(false,eval a X.env),(false,eval b X.env)]:=by rfl) (hs2:starEach [b] X.env = [(false,eval b X.env)]:=by rfl):PE X (.Call (.Name "range" p) [a,b] [] pos) (zpM ta):=by
  intro pins s σ H Q I h
  refine Call_ (zer I hg hm boot_range (PyProof.Rows.callWith_type1 (thn (ha pos pins s σ H _ I h) fun us s1 ⟨vs,H1,I1,r1,q1⟩=>?_) (by rw [hs,hs2]) (by rw [hs2]; rfl)))
  obtain ⟨i,j,e,q⟩:=q1
  subst e
  obtain ⟨u,w',rfl,⟨t,rfl⟩,⟨t',rfl⟩⟩:=zll r1
  refine call_range_2 ⟨.ref s1.heap.objs.size,_,?_,rfl,q _ (I1.hok.fresh (Nat.le_refl _))⟩
  exact I1.laid (fun b o e=>Heap.get?_push_of_some _ e) (Nat.le_refl _) ⟨_,_,_,Heap.get?_push_size _ rfl⟩
def zms:List V→Hp→VK→Prop:=fun xs H Q=>∃ (r:Addr) (i j:Int),xs = [.ref r]∧H r=some (.rng i j)∧(0 ≤ i∧i ≤ j∧j ≤ 100000)∧∀ l,H l=none→Q (.ref l) (upd H l (.lst ((List.range (j - i).toNat).map fun k:Nat=>.int (i + (k:Int)))))
theorem zi5 (hc:X.calm=true):zdI X (.type "list") zms:=by
  intro pins s σ H xs us Q I r h
  obtain ⟨ra,i,j,rfl,hr,hj,q⟩:=h
  obtain ⟨u,rfl,rx⟩:=zey r
  cases rx
  obtain ⟨t1,t2,t3,e⟩:=I.hok ra _ hr
  have sz:Builtin.Range.rangeSize i j 1=((j - i).toNat:Int):=by rw [rangeSize_one]; split <;> omega
  refine call_list_range (I.ok.hd hc) e (small_one (by omega) (by omega) (by omega) (by omega)) sz (by omega) fun h' tk acc c' kp hl items=>?_
  refine ⟨.ref s.heap.objs.size,_,?_,rfl,q _ (I.hok.fresh (Nat.le_refl _))⟩
  obtain ⟨i1,i2⟩:=items
  refine I.laid kp (Nat.le_refl _) ⟨(by rw [List.length_map,List.length_range]; exact Nat.le_trans (show (j - i).toNat ≤ 100000 by omega) (show 100000 ≤ sizeLine by decide)),acc.toList,c',?_,by simpa using hl⟩
  have key:∀ (n:Nat) (l:List Value) (o:Nat),l.length=n→(∀ k v,l[k]?=some v→∃ t,v=Value.int (i + ((o + k:Nat):Int)) t)→Vals ((List.range' o n).map fun k:Nat=>V.int (i + (k:Int))) l:=by
    intro n
    induction n with
    | zero=>intro l o h1 _; rw [List.length_eq_zero_iff.mp h1]; exact .nil
    | succ n ih =>
      intro l o h1 h2
      cases l with
      | nil=>simp at h1
      | cons v l =>
        obtain ⟨t,rfl⟩:=h2 0 v rfl
        refine .cons ⟨t,rfl⟩ (ih l (o + 1) (by simpa using h1) fun k v hk=>?_)
        obtain ⟨t',e'⟩:=h2 (k + 1) v (by simpa using hk)
        exact ⟨t',by rw [e']; congr 3; try omega⟩
  have:=key (j - i).toNat acc.toList 0 (by simpa using i1) fun k v hk=>by
    obtain ⟨t,e'⟩:=i2 k v (by simpa using hk)
    exact ⟨t,by rw [e']; congr 1; first | done | simp⟩
  rw [List.range_eq_range']
  exact this
end
end L2
namespace PM
open PySem L2
section
variable {K:Kx} {XO:XOT} {E:L2.St→XK}
def zlq (l:List D):Option D:=match l with
  | [.int i,.int j]=>ifC (0 ≤ i∧i ≤ j∧j ≤ 100000) (some (.lst ((List.range (j - i).toNat).map fun k:Nat=>.int (i + (k:Int))))) none
  | _=>none
def zjR (ml:En→R (List D)) (δ:En):R D:=(ml δ).bind fun l=>R.of (zlq l)
theorem zkp {l:List D} {d:D} (h:zlq l=some d):∃ i j:Int,l = [.int i,.int j]∧(0 ≤ i∧i ≤ j∧j ≤ 100000)∧d = .lst ((List.range (j - i).toNat).map fun k:Nat=>.int (i + (k:Int))):=by
  unfold zlq at h
  split at h
  · rename_i i j
    unfold ifC at h
    split at h
    · cases h; exact ⟨i,j,rfl,by assumption,rfl⟩
    · cases h
  · cases h
theorem zkP {tl:TA} {ml:En→R (List D)} (h:SA K XO E tl ml):SEo K XO E (tCB zms (zby (zpM tl) tNil)) (zjR ml):=by
  intro Λ F0 H0 F H σ δ Q I a
  refine h Λ F0 H0 F H σ δ _ I (a.bind.imp fun ds F1 H1 e1 a1 vs r=>?_)
  cases q:zlq ds with
  | none=>rw [q] at a1; exact a1.elim
  | some d =>
    rw [q] at a1
    obtain ⟨i,j,rfl,hj,rfl⟩:=zkp q
    obtain ⟨v,r',rfl,rv,r2⟩:=r
    obtain ⟨v2,rfl,rv2⟩:=RepL.one r2
    simp only [Rep] at rv rv2
    subst rv rv2
    refine ⟨i,j,rfl,fun ra hra=>⟨ra,i,j,rfl,zaj,hj,fun l hl=>?_⟩⟩
    have x1:Ext F1 H1 F1 (upd H1 ra (.rng i j)):=.newO e1.fh hra
    have x2:=x1.trans (.newO (o:=.lst ((List.range (j - i).toNat).map fun k:Nat=>V.int (i + (k:Int)))) x1.fh hl)
    have hl1:H1 l=none:=x1.hh.free hl
    refine a1 F1 _ x2 l (e1.fh.free hl1) (e1.hh.free hl1) ⟨_,zaj,?_⟩
    have:=RepL.ints (K:=K) (F:=F1) (ns:=(List.range (j - i).toNat).map fun k:Nat=>i + (k:Int))
    rw [List.map_map,List.map_map] at this
    exact this
end
end PM
namespace L2
open PySem PySem.Spec PyProof.Rows
section
variable {X:Cx} {a b c:Expr} {ta tb tc:TE} {pos:Pos}
end
end L2
namespace PM
open PySem L2
section
variable {K:Kx} {XO:XOT} {E:L2.St→XK} {ta tb tc:TE} {ma mb mc:En→R D}
end
end PM
namespace L2
open PySem PySem.Spec PyProof.Rows
section
variable {X:Cx} {e st:Expr} {te ts:TE} {p2 pos:Pos}
theorem znN (its:List Value):slicePick its.toArray none none (some (-1))=its.reverse.toArray:=by
  unfold slicePick
  have b:sliceBounds none none (some (-1)) its.toArray.size=((its.length:Int) - 1,-1,-1):=by simp [sliceBounds]
  rw [b]
  congr 1
  have r:sliceRange ((its.length:Int) - 1) (-1) (-1)=(List.range its.length).map fun k=>its.length - 1 - k:=by
    unfold sliceRange
    have c:(if (-1:Int) > 0 then (if (its.length:Int) - 1 < -1 then (-1 - ((its.length:Int) - 1) + -1 - 1) / -1 else 0) else (if (its.length:Int) - 1 > -1 then ((its.length:Int) - 1 - -1 - -1 - 1) / (- -1) else 0))=(its.length:Int):=by
      rw [if_neg (by decide)]
      split
      · rw [show (- -1:Int)=1 from rfl,Int.ediv_one]; omega
      · omega
    show (List.range _).map _=_
    rw [c,Int.toNat_natCast]
    apply List.map_congr_left
    intro k hk
    have:=List.mem_range.mp hk
    omega
  rw [r]
  show List.filterMap _ _=_
  rw [List.filterMap_map]
  apply List.ext_getElem?
  intro i
  have fm:List.filterMap ((fun x=>its.toArray[x]?) ∘ fun k=>its.length - 1 - k) (List.range its.length)=(List.range its.length).map fun k=>its.getD (its.length - 1 - k) .none:=by
    have key:∀ L:List Nat,(∀ k ∈ L,k < its.length)→L.filterMap ((fun x=>its.toArray[x]?) ∘ fun k=>its.length - 1 - k)=L.map fun k=>its.getD (its.length - 1 - k) .none:=by
      intro L
      induction L with
      | nil=>intro _; rfl
      | cons k L ih =>
        intro hL
        have:=hL k (by simp)
        have hlt:its.length - 1 - k < its.length:=by omega
        have e1:((fun x=>its.toArray[x]?) ∘ fun k=>its.length - 1 - k) k=some (its.getD (its.length - 1 - k) .none):=by
          show its.toArray[its.length - 1 - k]?=_
          rw [List.getElem?_toArray,List.getD_eq_getElem?_getD,List.getElem?_eq_getElem hlt]; rfl
        rw [List.filterMap_cons_some e1,ih fun q hq=>hL q (List.mem_cons_of_mem _ hq)]; rfl
    exact key _ fun k hk=>List.mem_range.mp hk
  rw [fm,List.getElem?_map]
  by_cases hi:i < its.length
  · rw [List.getElem?_range hi,List.getElem?_reverse hi]
    have hlt:its.length - 1 - i < its.length:=by omega
    simp [List.getD_eq_getElem?_getD,List.getElem?_eq_getElem hlt]
  · rw [List.getElem?_eq_none_iff.mpr (by simpa using hi),List.getElem?_eq_none_iff.mpr (by simpa using hi)]; rfl
def zqF (K:PySem.W.Frag) (te ts:TE):TE:=fun σ H Q=>te σ H fun x H1=>ts σ H1 fun k H2=>k = .int (-1)∧∃ a xs,x = .ref a∧SqL K H2 a xs∧∀ p,H2 p=none→Q (.ref p) (upd H2 p (.lst xs.reverse))
theorem zoY (he:PE X e te) (hs:PE X st ts):PE X (.Subscript e (.Slice none none (some st) p2) pos) (zqF X.K te ts):=by
  intro pins s σ H Q I h
  refine Subscript_ (thn (he pins s σ H _ I h) fun v s1 ⟨x,H1,I1,r1,q1⟩=>?_)
  refine wpAny_Slice ?_
  rw [evalPart_none]
  refine wpAny_pure (wpAny_pure ?_)
  rw [evalPart_some]
  refine thn (hs pins s1 σ H1 _ I1 q1) fun vs s3 ⟨k,H3,I3,rk,ek,q3⟩=>?_
  subst ek
  obtain ⟨t,rfl⟩:=rk
  obtain ⟨a,xs,rfl,hx,q⟩:=q3
  cases r1
  have I4:Inv X pins σ H3 { s3 with heap:=s3.heap.push { cls:=.type "slice",data:=.fields #[.none,.none,.int (-1) t] } }:=I3.kept (t':=s3.toks) fun b ob q=>Heap.get?_push_of_some _ q
  obtain ⟨its,r,ht,hz⟩:=I4.list hx
  have hlen:=r.length
  refine tail_any (ops:=[.ref a,.ref s3.heap.objs.size]) ht.isList.typeIs slot_list_getitem.lookup ?_ (by with_unfolding_all rfl)
  refine wpAny_getItem_list_slice ht.isList (Heap.IsSliceOf.new ..) .none .none (.int (-1) t) (by simp) ?_ (by rw [List.size_toArray] <;> omega)
  rw [znN]
  refine ⟨.ref _,_,I4.laid (t':=s3.toks) (o:=.lst xs.reverse) (fun b ob q=>Heap.get?_push_of_some _ q) (Nat.le_refl _) ?_,rfl,q _ (I4.hok.fresh (Nat.le_refl _))⟩
  exact ⟨by rw [List.length_reverse]; exact hz,_,0,r.reverse,Heap.get?_push_size _ rfl⟩
end
end L2
namespace PM
open PySem L2
section
variable {K:Kx} {XO:XOT} {E:L2.St→XK} {te ts:TE} {me ms:En→R D}
def zmf:D→Bool
  | .int (.negSucc 0)=>true
  | _=>false
def znw (me ms:En→R D) (δ:En):R D:=(me δ).bind fun d=>(ms δ).bind fun k=>if zmf k=true then (match d with | .lst l=>.ok (.lst l.reverse) | _=>.no) else .no
theorem RepL.append' {F:Hp}:∀ {l m:List D} {vs ws:List V},RepL K F l vs→RepL K F m ws→RepL K F (l ++ m) (vs ++ ws)
  | [],_,vs,_,h,k=>by
    have:vs = []:=h
    subst this
    exact k
  | d :: l,m,vs,ws,h,k=>by
    obtain ⟨v,r,rfl,h1,h2⟩:=h
    exact ⟨v,r ++ ws,rfl,h1,RepL.append' h2 k⟩
theorem RepL.reverse {F:Hp}:∀ {l:List D} {vs:List V},RepL K F l vs→RepL K F l.reverse vs.reverse
  | [],vs,h=>by
    have:vs = []:=h
    subst this
    exact h
  | d :: l,vs,h=>by
    obtain ⟨v,r,rfl,h1,h2⟩:=h
    rw [List.reverse_cons,List.reverse_cons]
    exact RepL.append' (RepL.reverse h2) ⟨v,[],rfl,h1,rfl⟩
theorem znf (h:SEr K XO E te me) (hs:SE K XO E ts ms):SEo K XO E (zqF K.f te ts) (znw me ms):=by
  intro Λ F0 H0 F H σ δ Q I a
  refine h Λ F0 H0 F H σ δ _ I (a.bind.imp fun d F1 H1 e1 a1 v r=>?_)
  refine hs Λ F0 H0 F1 H1 σ δ _ (I.grow e1) (a1.bind.imp fun k F2 H2 e2 a2 w rk=>?_)
  split at a2
  · rename_i hk
    have ek:k = .int (-1):=by
      unfold zmf at hk
      split at hk
      · rfl
      · cases hk
    subst ek
    simp only [Rep] at rk
    cases d with
    | lst l =>
      obtain ⟨p,vs,rfl,h1,h2⟩:=r
      refine ⟨rk,p,vs,rfl,.inl (PM.Same.rd e2.hh h1),fun q hq=>a2 F2 _ (.newO e2.fh hq) q (e2.fh.free hq) (e1.hh.free (e2.hh.free hq)) ⟨_,zaj,?_⟩⟩
      exact RepL.reverse (h2.mono e2.ff)
    | _=>exact a2.elim
  · exact a2.elim
end
end PM
namespace L2
open PySem PySem.Spec PyProof.Rows
section
variable {prog:Program} {w:World} {A:Around} {E:Value→Shared→Prop} {s:Shared}
end
section
variable {prog:Program} {w:World} {A:Around} {E:Value→Shared→Prop} {s:Shared}
end
section
variable {X:Cx} {l:Expr} {tl:TE}
end
end L2
namespace PM
open PySem L2
section
variable {K:Kx} {XO:XOT} {E:L2.St→XK} {te:TE} {me:En→R D}
end
end PM
namespace L2
open PySem PySem.Spec PyProof.Rows Builtin Builtin.ObjectAttr
section
variable {prog:Program} {w:World} {A:Around} {E:Value→Shared→Prop} {s:Shared} {K:PySem.W.Frag} {x C:Addr} {ox:Obj} {od:Option Obj} {name:Str} {tk:Tok} {v:Value} {R:Result→Shared→Prop}
end
section
variable {X:Cx} {o e value:Expr} {f:Str} {pos pos' tpos:Pos} {ta tv:TE}
end
section
variable {M:Model} {A:Around} {E:Value→Shared→Prop} {s:Shared} {B:Heap} {env:Env} {outer l:List Env} {L e:Addr} {Q:Unit→Shared→Prop}
end
section
variable {P:Program} {w:World} {K:PySem.W.Frag} {mg:Str→Option Value} {base:Heap} {N:List Str} {qual:Str} {scope:Scope} {f:Addr} {cd:Value} {A:Around} {outer:List Env} {s0:Shared} {H0:Hp} {E:XK}
end
section
variable {M:Model} {A:Around} {E:Value→Shared→Prop} {env:Env}
variable {nm q:Str} {C N:Addr} {bs bm:List Value} {hdct:Bool} {sn:List Str} {sub:List Value} {ab:Bool} {col:Option Bool} {dd:Option Addr} {k0 k1 k2 k3 k5:Option Value} {newId:String}
end
section
variable {P:Program} {w:World} {K:PySem.W.Frag} {mg:Str→Option Value} {base:Heap} {N:List Str} {qual:Str} {scope:Scope} {f:Addr} {cd:Value} {A:Around} {outer:List Env} {s0:Shared} {H0:Hp} {E:XK}
end
section
variable {X:Cx} {CX:CXT} {k:Nat} {fa:Addr} {fd:FuncData} {ps:List Str} {sp:Sp} {x:Str} {np cpos pos:Pos} {e₀:Expr} {rest:List Expr} {C:Addr} {bmB bmN:List Value} {newId Bn B nid inN initId:String} {E:St→XK} {t:TA}
end
end L2
namespace PM
open PySem L2
section
variable {X:Cx} {fa:Addr} {ps:List Str} {sp:Sp} {x:Str} {np cpos pos:Pos} {e₀:Expr} {rest:List Expr} {C:Addr} {bmB bmN:List Value} {newId Bn B nid inN initId:String} {E:L2.St→XK} {t:TA}
end
section
variable {K:Kx} {XO:XOT} {E:L2.St→XK} {ta:TE} {ma:En→R D} {Λ:List (Nat × Addr × HO)} {F0 H0 F H:Hp} {σ:L2.St} {δ:En}
end
end PM
namespace L2
open PySem PyProof.Rows
section
variable {N:Nat} {p:Array Nat}
end
section
variable {ky:Nat→Int} {N:Nat} {cmp:Nat→Nat→(Bool→Shared→Prop)→Shared→Prop}
end
end L2
namespace L2
open PySem PySem.Spec PyProof.Rows
section
variable {prog:Program} {w:World} {A:Around} {E:Value→Shared→Prop} {s:Shared}
end
section
variable {X:Cx} {pins:List (Addr × Obj)} {σ:St} {H:Hp} {s:Shared} {h':Heap}
end
end L2
namespace PM
open PySem L2
section
variable {K:Kx} {XO:XOT} {E:L2.St→XK}
end
end PM
namespace L2
open PySem PySem.Spec PyProof.Rows
section
variable {P:Program} {w:World} {K:PySem.W.Frag} {mg mb:Str→Option Value} {CX:CXT} {k:Nat} {fa a tP:Addr} {fd:FuncData} {x:Str} {sp:Sp} {s₁:Shared} {vs:List Value} {ns:List Int}
end
end L2
namespace L2
open PySem PySem.Spec PyProof.Rows
section
variable {X:Cx}
end
end L2
namespace PM
open PySem L2
section
variable {K:Kx} {XO:XOT} {E:L2.St→XK}
end
end PM
namespace PM
open PySem L2
section
variable {K:Kx}
end
end PM
namespace L2
open PySem PySem.Spec PyProof.Rows
section
variable {prog:Program} {w:World} {A:Around} {E:Value→Shared→Prop} {s:Shared}
end
end L2
namespace L2
open PySem PySem.Spec PyProof.Rows
section
variable {prog:Program} {w:World} {A:Around} {E:Value→Shared→Prop} {s:Shared}
end
section
variable {X:Cx} {pins:List (Addr × Obj)} {σ:St} {A:Around} {R:Result→Shared→Prop}
abbrev zhc (acc:Array Value) (c:Nat):Obj:={ cls:=.type "list",dict:=none,data:=.seq acc c,slots:=#[] }
end
end L2
namespace PM
open PySem L2
section
variable {K:Kx} {XO:XOT} {E:L2.St→XK}
end
end PM
namespace L2
open PySem PySem.Spec PyProof.Rows
theorem zly {P:Program} {w:World} {k:Key} {u:Value} (h:(zbt P w).is k u=true):RelV (kV k) u:=by
  rcases zbk h with ⟨i,t,rfl,rfl⟩ | ⟨x,t,rfl,rfl⟩
  · exact ⟨t,rfl⟩
  · exact ⟨t,rfl⟩
theorem KV.at:∀ {kvs:List (Key × V)} {vs:List (Key × Value)},KV kvs vs→∀ {i:Nat} {k:Key} {x:V},kvs[i]?=some (k,x)→∃ u,vs[i]?=some (k,u)∧RelV x u:=by
  intro kvs vs r
  unfold KV at r
  induction r with
  | nil=>intro i k x h; simp at h
  | @cons p q ps qs hq t ih =>
    intro i k x h
    cases i with
    | zero =>
      have e:p=(k,x):=by simpa using h
      subst e
      obtain ⟨q1,q2⟩:=q
      exact ⟨q2,by rw [show k=q1 from hq.1]; rfl,hq.2⟩
    | succ i=>exact ih (by simpa using h)
section
variable {X:Cx} {pins:List (Addr × Obj)} {σ:St} {H:Hp} {s:Shared} {a:Addr} {kvs:List (Key × V)}
theorem Inv.frz (I:Inv X pins σ H s) (ha:H a=some (.dK kvs)):∃ o,Inv X pins σ (upd H a (.frz o (.dK kvs))) s:=by
  have ob:=I.hok a _ ha
  obtain ⟨_,_,_,_,o,es,ep,ho,_⟩:=id ob
  exact ⟨o,I.write (t':=s.toks) (x:=a) (e:=a) (o:=.frz o (.dK kvs)) (h':=s.heap) (by rw [ha]; exact True.intro) (.inl rfl) (fun _ _ _ q=>q) ⟨o,ho⟩ ⟨ho,ob⟩⟩
theorem Inv.dat {o:Obj} {es0:Array DictEntry} {ep:Nat} (I:Inv X pins σ H s) (ha:H a=some (.frz o (.dK kvs))) (hd:o.data = .dict es0 ep):∃ vs,KV kvs vs∧s.heap.DictAt (zbt X.prog X.w) a vs ep:=by
  obtain ⟨ho,_,_,vs,rv,o',es,ep',g1,g2,g3,g4⟩:=I.hok a _ ha
  rw [ho] at g1; cases g1
  rw [hd] at g3; cases g3
  exact ⟨vs,rv,o,es0,ho,g2,hd,g4⟩
end
def tFix (t:TE):TE:=fun σ H Q=>t σ H fun v H1=>∃ a kvs,v = .ref a∧H1 a=some (.dK kvs)∧∀ o,Q v (upd H1 a (.frz o (.dK kvs)))
theorem zqJ {X:Cx} {e:Expr} {t:TE} (h:PE X e t):PE X e (tFix t):=by
  intro pins s σ H Q I q
  refine thn (h pins s σ H _ I q) fun u s1 ⟨v,H1,I1,r1,a,kvs,ev,ha,q1⟩=>?_
  obtain ⟨o,I2⟩:=I1.frz ha
  exact ⟨v,_,I2,r1,q1 o⟩
def Itk (a:Addr) (o:Obj) (kvs:List (Key × V)):It :=
  ⟨fun i H=>H a=some (.frz o (.dK kvs))∧i < kvs.length,fun i H v H'=>H'=H∧∃ k x,v=kV k∧kvs[i]?=some (k,x),fun i H=>H a=some (.frz o (.dK kvs))∧kvs.length ≤ i⟩
theorem KV.len {kvs:List (Key × V)} {vs:List (Key × Value)} (r:KV kvs vs):vs.length=kvs.length:=by
  unfold KV at r
  induction r with
  | nil=>rfl
  | cons _ _ ih=>simp [ih]
theorem zmx {P:Program} {w:World} {K:PySem.W.Frag} {tg:Expr} (a it:Addr) (o:Obj) (kvs:List (Key × V)) {es0:Array DictEntry} {ep:Nat} (hd:o.data = .dict es0 ep) :
    Turn P w K tg (Itk a o kvs) [it] it (fun i h=>h.IsKeyIter it a i kvs.length ep) where
  mem:=by simp
  obj:=fun i h st b hb=>by
    obtain ⟨q,h1,c,d⟩:=st
    rw [List.mem_singleton.mp hb]
    exact ⟨q,h1,fun v z=>by rw [d] at z; cases z⟩
  keep:=fun i h h' st k=>st.at fun q e=>k it (by simp) q e
  item:=by
    intro X hP hw hK hc i pins s σ H E I hf st hg
    subst hP hw hK
    obtain ⟨ha,hi⟩:=hg
    obtain ⟨vs,rv,dd⟩:=I.dat ha hd
    obtain ⟨⟨key,x⟩,hx⟩:∃ q,kvs[i]?=some q:=⟨_,List.getElem?_eq_getElem hi⟩
    obtain ⟨u,hu,ru⟩:=rv.at hx
    obtain ⟨f0,f1,f2,f3,f4,f5⟩:=hf it (by simp)
    have st0:=st
    rw [← rv.len] at st0
    refine wpAny_pyNext_dict_item st0 dd hu fun kk h' hk st' sb=>?_
    have I1:Inv X pins σ H { s with heap:=h' }:=I.turned (t':=s.toks) (fun b o hb e=>(sb.2 b hb).trans e) f0 f1 f3 f4 f5
    rw [rv.len] at st'
    obtain ⟨q,e,c,d⟩:=id st'
    exact ⟨kk,rfl,zlr (s:={ s with heap:=h' }) e c d (by decide) ⟨kV key,H,I1,zly hk,⟨rfl,key,x,rfl,hx⟩,st',fun b hb=>(hf b hb).1⟩⟩
  done:=by
    intro X hP hw hK hc i pins s σ H E I hf st hg
    subst hP hw hK
    obtain ⟨ha,hi⟩:=hg
    obtain ⟨vs,rv,dd⟩:=I.dat ha hd
    obtain ⟨f0,f1,f2,f3,f4,f5⟩:=hf it (by simp)
    have st0:=st
    rw [← rv.len] at st0
    exact wpAny_pyNext_dict_end (I.ok.hd hc) st0 dd (List.getElem?_eq_none (by rw [rv.len]; exact hi)) fun h' eb=>⟨rfl,I.turned (t':=s.toks) (fun b o hb e=>eb b o hb e) f0 f1 f3 f4 f5⟩
  self:=fun _ _ _ _ _ st h=>wpAny_pyIter_keyiter st h
section
variable {X:Cx}
def znO (td:TE):TI:=fun σ H R=>td σ H fun x H1=>∃ a o kvs,x = .ref a∧H1 a=some (.frz o (.dK kvs))∧R (Itk a o kvs) H1
theorem zpG {tg l:Expr} {td:TE} (hl:PE X l td):PI X tg l (znO td):=by
  intro pins s σ H R I h
  refine thn (hl pins s σ H _ I h) fun v s1 ⟨x,H1,I1,r1,a,o,kvs,ex,ha,q⟩=>?_
  subst ex
  obtain rfl:v=Value.ref a:=r1
  obtain ⟨t1,t2,t3⟩:=zot I1 (.inl ⟨kvs,.inr ⟨o,ha⟩⟩)
  obtain ⟨ho,z,sm,vs,rv,dd⟩:=I1.hok a _ ha
  obtain ⟨ep,da⟩:=dd.dictAt
  obtain ⟨o',es0,g1,g2,g3,g4⟩:=id da
  rw [ho] at g1; cases g1
  refine wpAny_pyIter_dict t3 da ?_
  refine ⟨_,[s1.heap.objs.size],_,_,H1,rfl,I1.kept (t':=s1.toks) fun b u e=>Heap.get?_push_of_some _ e,zmx a _ o kvs g3,⟨_,Heap.get?_push_size _ rfl,rfl,by rw [← rv.len]; rfl⟩,fun c hc=>?_,q⟩
  rw [List.mem_singleton.mp hc]
  exact I1.fpOk (Nat.le_refl _) (I1.hok.fresh (Nat.le_refl _))
end
end L2
namespace PM
open PySem L2
section
variable {K:Kx} {XO:XOT} {E:L2.St→XK}
def kD:Key→D
  | .inl i=>.int i
  | .inr x=>.str x
theorem zoq {F:Hp} (k:Key):Rep K F (kD k) (kV k):=by
  cases k with
  | inl i=>simp only [kD,Rep]; rfl
  | inr x=>simp only [kD,Rep]; rfl
def asFd:D→Option (List Key × List D)
  | .fd ks l=>some (ks,l)
  | _=>none
def zpS (md:En→R D) (δ:En):R (List D):=(md δ).bind fun d=>(R.of (asFd d)).bind fun p=>.ok (p.1.map kD)
theorem zmP {a:Addr} {o:Obj} {kvs:List (Key × V)} {P:Hp→Hp→Prop} (h:∀ F2 H2,P F2 H2→Same F2 H2∧H2 a=some (.frz o (.dK kvs))):IsIt K (Itk a o kvs) P ((kvs.map (·.1)).map kD):=by
  intro F2 H2 p i
  obtain ⟨s2,q⟩:=h F2 H2 p
  rw [List.getElem?_map,List.getElem?_map]
  refine ⟨fun d hd=>?_,fun hn=>?_⟩
  · cases e:kvs[i]? with
    | none=>rw [e] at hd; cases hd
    | some y =>
      rw [e] at hd
      cases hd
      refine ⟨⟨q,(List.getElem?_eq_some_iff.mp e).1⟩,fun x' H' z=>?_⟩
      obtain ⟨rfl,k,x,rfl,z1⟩:=z
      rw [e] at z1
      cases z1
      exact ⟨F2,.refl s2,zoq _⟩
  · cases e:kvs[i]? with
    | none=>exact ⟨q,List.getElem?_eq_none_iff.mp e⟩
    | some y=>rw [e] at hn; cases hn
theorem zpm {td:TE} {md:En→R D} (h:SE K XO E td md):SI K XO E (znO td) (zpS md):=by
  intro Λ F0 H0 F H σ δ R I a
  refine h Λ F0 H0 F H σ δ _ I (a.bind.imp fun d F1 H1 e1 a1 v r=>?_)
  cases d with
  | fd ks l =>
    simp only [Rep] at r
    obtain ⟨a,o,kvs,rfl,h1,rfl,h2⟩:=r
    exact ⟨a,o,kvs,rfl,e1.fh _ _ h1,a1 F1 H1 (.refl e1.fh) _ (zmP fun F2 H2 x=>⟨x.2,x.2 _ _ (x.1 _ _ h1)⟩)⟩
  | _=>exact a1.elim
def fGet (d k:D):Option D:=match asK k,d with | some k,.fd ks l=>getK ks l k | _,_=>none
theorem zpi {td ty:TE} {md my:En→R D} (hd:SE K XO E td md) (hy:SE K XO E ty my):SE K XO E (znG td ty) (m2 fGet md my):=by
  intro Λ F0 H0 F H σ δ Q I a
  refine hd Λ F0 H0 F H σ δ _ I (a.bind.imp fun dd F1 H1 e1 a1 x rx=>?_)
  refine hy Λ F0 H0 F1 H1 σ δ _ (I.grow e1) (a1.bind.imp fun dk F2 H2 e2 a2 y ry=>?_)
  unfold fGet at a2
  cases z:asK dk with
  | none=>rw [z] at a2; exact a2.elim
  | some k =>
    rw [z] at a2
    cases dd with
    | fd ks l =>
      have rx':=Rep.mono e2.ff _ rx
      simp only [Rep] at rx'
      obtain ⟨p,o,kvs,rfl,h1,h2,h3⟩:=rx'
      obtain ⟨g1,g2⟩:=zk8 (k:=k) h2 h3
      cases zi0 z ry
      dsimp only at a2
      cases q:getK ks l k with
      | none=>rw [q] at a2; exact a2.elim
      | some d =>
        rw [q] at a2
        obtain ⟨v,hv,r⟩:=g1 d q
        exact ⟨p,v,rfl,.inl ⟨kvs,k,.inr ⟨o,e2.fh _ _ h1⟩,rfl,hv.symm⟩,a2 F2 H2 (.refl e2.fh) _ r⟩
    | _=>exact a2.elim
end
end PM
namespace L2
open PySem PySem.Spec PyProof.Rows
section
variable {P:Program} {w:World} {K:PySem.W.Frag} {mg:Str→Option Value} {base:Heap} {CX:CXT} {k:Nat} {x:Str} {ps:List Str} {sp:Sp} {d:V}
end
section
variable {X:Cx} {CX:CXT} {k:Nat} {x:Str} {ps:List Str} {sp:Sp} {E:XK} {p pos:Pos} {a b:Expr} {ta tb:TE} {d:V}
end
section
variable {P:Program} {w:World} {K:PySem.W.Frag} {mg:Str→Option Value} {base:Heap} {d:V}
end
end L2
namespace PM
open PySem L2
section
variable {K:Kx} {F H:Hp}
end
section
variable {K:Kx} {XO:XOT} {E:L2.St→XK} {ta te:TE} {ma me:En→R D}
end
section
variable {K:Kx} {XO:XOT} {E:L2.St→XK} {F0 H0 F H:Hp} {σ:L2.St} {δ:En}
end
end PM
namespace L2
open PySem PySem.Spec PyProof.Rows
section
variable {prog:Program} {w:World} {A:Around} {E:Value→Shared→Prop} {s:Shared}
end
end L2
namespace L2
open PySem PySem.Spec PyProof.Rows
section
variable {X:Cx}
def zna (K:PySem.W.Frag):R2:=fun x y H Q=>∃ a b xs ys,x = .ref a∧y = .ref b∧SqT K H a xs∧SqT K H b ys∧xs.length + ys.length ≤ sizeLine ∧
  (xs = []→Q (.ref b) H)∧(xs ≠ []→ys = []→Q (.ref a) H)∧(xs ≠ []→ys ≠ []→∀ p,H p=none→Q (.ref p) (upd H p (.tup (xs ++ ys))))
theorem zl7:OpR X (binaryOp .Add) (zna X.K):=by
  intro pins s σ H x y v u Q I rx ry h
  obtain ⟨a,b,xs,ys,rfl,rfl,ha,hb,hz,q0,q1,q2⟩:=h
  by_cases hx:xs = []
  · cases rx
    cases ry
    obtain ⟨its,r1,p1,_⟩:=I.tuple ha
    obtain ⟨its2,r2,p2,_⟩:=I.tuple hb
    have e0:its = []:=r1.nil_iff.mpr hx
    obtain ⟨⟨cls,dd,data,sl⟩,ho,hc,n,hd⟩:=id p1
    obtain ⟨⟨cls2,dd2,data2,sl2⟩,ho2,hc2,n2,hd2⟩:=id p2
    simp only at hc hd hc2 hd2
    subst hc hd hc2 hd2
    exact concat_meets ⟨_,ho,rfl⟩ ⟨_,ho2,rfl⟩ noFill_tuple_add seq_tuple_add PySem.F.slot_tuple_add PySem.F.entry_tuple_add (PySem.F.args_tuple_add_2 _ _)
      (tuple_addW0 a b its.toArray its2.toArray n n2 dd dd2 sl sl2 (by simp [e0])) ⟨ho,ho2,⟨.ref b,H,I,rfl,q0 hx⟩⟩
  · exact zoE pins s σ H _ _ v u Q I rx ry ⟨a,b,xs,ys,rfl,rfl,ha,hb,hx,hz,q1 hx,q2 hx⟩
end
end L2
namespace PM
open PySem L2
section
variable {K:Kx} {XO:XOT} {E:L2.St→XK}
def zkr (x y:D):Option D:=match x,y with | .tup l,.tup r=>ifC (l.length + r.length ≤ sizeLine) (some (.tup (l ++ r))) none | _,_=>none
theorem zmH:SR K (zna K.f) zkr:=by
  intro F H x y dx dy d Q s hx hy e q
  unfold zkr at e
  split at e
  · rename_i l r
    unfold ifC at e
    split at e
    · rename_i hl
      cases e
      simp only [Top,Rep] at hx hy
      obtain ⟨a,vs,rfl,h1,h2⟩:=hx
      obtain ⟨b,ws,rfl,h3,h4⟩:=hy
      have lv:=h2.length
      have lw:=h4.length
      refine ⟨a,b,vs,ws,rfl,rfl,.of (s _ _ h1),.of (s _ _ h3),by omega,fun z=>?_,fun z1 z2=>?_,fun z1 z2 p hp=>?_⟩
      · have:l = []:=List.eq_nil_of_length_eq_zero (by rw [← lv,z]; rfl)
        subst this
        refine q _ F H (.refl s) ?_
        simp only [Rep]
        exact ⟨b,ws,rfl,h3,h4⟩
      · have:r = []:=List.eq_nil_of_length_eq_zero (by rw [← lw,z2]; rfl)
        subst this
        refine q _ F H (.refl s) ?_
        simp only [Rep]
        exact ⟨a,vs,rfl,h1,by rw [List.append_nil]; exact h2⟩
      · have x1:Ext F H (upd F p (.tup (vs ++ ws))) (upd H p (.tup (vs ++ ws))):=.new s hp
        refine q _ _ _ x1 ?_
        simp only [Rep]
        exact ⟨p,_,rfl,zaj,(h2.mono x1.ff).append (h4.mono x1.ff)⟩
    · cases e
  · cases e
end
end PM
namespace L2
open PySem PySem.Spec PyProof.Rows
structure HasC (P:Program) (w:World) (K:PySem.W.Frag) (mg:Str→Option Value) (base:Heap) (CX:CXT) (k:Nat) (x:Str) (C:Addr) (ps:List Str) (sp:Sp):Prop where
  ex:∃ (f:Addr) (fd:FuncData),Mk K C f∧FnOk P w K mg base CX k f fd ps sp∧mg x=some (.ref C)∧Binds K fd ps []
structure HasM (P:Program) (w:World) (K:PySem.W.Frag) (mg:Str→Option Value) (base:Heap) (CX:CXT) (k:Nat) (m:Str) (C:Addr) (ps:List Str) (sp:Sp):Prop where
  ex:∃ (f:Addr) (fd:FuncData),Cls K C∧Meth K C m f∧FnOk P w K mg base CX k f fd ps sp∧Binds K fd ps []
section
variable {X:Cx} {CX:CXT} {k:Nat} {x m:Str} {C:Addr} {ps:List Str} {sp:Sp} {E:XK} {p pos apos:Pos} {e o:Expr} {es:List Expr} {t:TA} {ta:TE}
theorem zoN (G:HasC X.prog X.w X.K X.mg X.base CX k x C ps sp) (hr:Room (k + 1) X.A) (hg:Gl X x) (hx:zes CX X E) (ha:PA X (e :: es) t)
    (hdb:(x == ("__debug__" : Str))=false:=by decide) (he:starEach (e :: es) X.env=(false,eval e X.env) :: starEach es X.env:=by rfl) (hpl:(backTo pos (starEach es X.env)).any (·.1)=false:=by rfl) :
    PE X (.Call (.Name x p) (e :: es) [] pos) (zoJ C sp [] E t):=by
  obtain ⟨f,fd,M,F,hm,hb⟩:=G.ex
  exact zpe M F hr hg hm hb .nil hx ha hdb he hpl
theorem zjn {pl:Sem Bool} (G:HasM X.prog X.w X.K X.mg X.base CX k m C ps sp) (hr:Room k X.A) (hx:zes CX X E) (ho:PE X o ta) (ha:PA X (e :: es) t)
    (hst:starEach (e :: es) X.env=(false,eval e X.env) :: starEach es X.env:=by rfl) (hpl:(backTo pos (starEach es X.env)).any (·.1)=false:=by rfl)
    (ht:eval (.Call (.Attribute o m apos) (e :: es) [] pos) X.env=(eval o X.env >>= fun ov=>standAt apos.atName >>= fun _=>holding [ov] (getMethod ov m pl) >>= fun q=>callWith pos q.1 q.2 (backTo pos (starEach (e :: es) X.env)) (backToKw pos (keywordEach [] X.env))):=by rfl) :
    PE X (.Call (.Attribute o m apos) (e :: es) [] pos) (zla C m sp [] E ta t):=by
  obtain ⟨f,fd,c,hm,F,hb⟩:=G.ex
  exact zoD (pl:=pl) ho c hm F hr hb .nil hx ha hst hpl ht
end
end L2
namespace PM
open PySem L2
section
variable {K:Kx} {XO:XOT} {E:L2.St→XK} {F0 H0 F H:Hp} {σ:L2.St} {δ:En}
end
end PM
namespace PM
open PySem L2
section
variable {K:Kx} {XO:XOT} {E:L2.St→XK} {F0 H0 F H F1 H1 F' H':Hp}
end
end PM
namespace L2
open PySem PySem.Spec PyProof.Rows
structure MethAt (K:PySem.W.Frag) (C:Addr) (m qual:Str) (st:Stmt) (f:Addr) (fd:FuncData):Prop where
  at_:PySem.W.findIn K (.ref C) m=some (some (.ref f))
  isf:PySem.W.isFn K (.ref f)=true
  fn:Fun K m qual st f fd
theorem methAt_mk {K:PySem.W.Frag} {C:Addr} {m qual:Str} {st:Stmt} {f:Addr} {oc:Value} {od an:Option Addr} {osl:Array (Option Value)} {kV doc pm cdv ct:Value} (a:PySem.W.findIn K (.ref C) m=some (some (.ref f))) (i:PySem.W.isFn K (.ref f)=true)
    (l:K.lookup f=some ⟨oc,od,.func (PySem.W.fnOf m qual (zdK st) (zc9 st) (zau st) .none kV doc pm an cdv ct),osl⟩) (c:PySem.W.codeIn K cdv qual=true) (k:PySem.W.keepIn K (.ref f)=true):∃ f fd,MethAt K C m qual st f fd :=
  ⟨f,_,a,i,zmG l c k⟩
section
variable {P:Program} {w:World} {K:PySem.W.Frag} {mg:Str→Option Value} {base:Heap} {CX:CXT} {k:Nat} {x m qual:Str} {C:Addr} {st:Stmt} {f:Addr} {fd:FuncData} {ps:List Str} {sp:Sp}
theorem MethAt.hasM (D:MethAt K C m qual st f fd) (c:Cls K C) (ok:FnOk P w K mg base CX k f fd ps sp) (b:Binds K fd ps []):HasM P w K mg base CX k m C ps sp:=⟨f,fd,c,⟨D.at_,D.isf,D.fn.kp⟩,ok,b⟩
theorem MethAt.hasC (D:MethAt K C "__init__" qual st f fd) (mk:PySem.W.makesIn K C=true) (kp:PySem.W.keepIn K (.ref C)=true) (hm:mg x=some (.ref C)) (ok:FnOk P w K mg base CX k f fd ps sp) (b:Binds K fd ps []):HasC P w K mg base CX k x C ps sp:=⟨f,fd,⟨mk,D.at_,D.isf,kp⟩,ok,hm,b⟩
end
end L2
namespace L2
open PySem PySem.Spec PyProof.Rows
section
variable {X:Cx} {CX:CXT} {k:Nat} {x:Str} {C:Addr} {ps:List Str} {sp:Sp} {E:St→XK} {p pos:Pos} {e:Expr} {es:List Expr} {t:TA}
end
end L2
namespace PM
open PySem L2
section
variable {K:Kx} {XO:XOT} {E:L2.St→XK} {F0 H0 F H F1 H1 F' H':Hp}
end
end PM
namespace L2
open PySem PySem.Spec PyProof.Rows
section
variable {prog:Program} {w:World} {A:Around} {E:Value→Shared→Prop} {s:Shared}
end
section
variable {X:Cx}
end
end L2
namespace PM
open PySem L2
section
variable {K:Kx} {XO:XOT} {E:L2.St→XK}
end
end PM
namespace L2
open PySem PySem.Spec PyProof.Rows
section
variable {prog:Program} {w:World} {A:Around} {E:Value→Shared→Prop} {s:Shared}
end
section
variable {X:Cx}
end
end L2
namespace PM
open PySem L2
section
variable {K:Kx} {XO:XOT} {E:L2.St→XK}
end
end PM
namespace L2
open PySem PySem.Spec PyProof.Rows
end L2
namespace L2
open PySem PySem.Spec PyProof.Rows
section
variable {prog:Program} {w:World} {K:Type} [DecidableEq K] {knd:KeyKind prog w K} {A:Around} {E:Value→Shared→Prop} {s:Shared}
end
section
variable {prog:Program} {w:World} {K:Type} [DecidableEq K] {knd:KeyKind prog w K} {A:Around} {E:Value→Shared→Prop} {s:Shared}
end
section
variable {prog:Program} {w:World} {K:Type} [DecidableEq K] {knd:KeyKind prog w K} {A:Around} {E:Value→Shared→Prop} {s:Shared}
end
end L2
namespace L2
open PySem PySem.Spec PyProof.Rows
theorem zk5:∀ {vs:List V} {us:List Value},vs.length=us.length→(∀ (i:Nat) (x:V) (y:Value),vs[i]?=some x→us[i]?=some y→RelV x y)→Vals vs us
  | [],[],_,_=>.nil
  | [],_ :: _,h,_=>by simp at h
  | _ :: _,[],h,_=>by simp at h
  | x :: vs,y :: us,h,r=>.cons (r 0 x y rfl rfl) (zk5 (by simpa using h) fun i a b ha hb=>r (i + 1) a b (by simpa using ha) (by simpa using hb))
section
variable {X:Cx}
end
end L2
namespace PM
open PySem L2
section
variable {K:Kx} {XO:XOT} {E:L2.St→XK}
def zqB:D→Option D
  | .dct ks _=>some (.lst (ks.map kD))
  | _=>none
theorem zlt {F:Hp}:∀ ks:List Key,RepL K F (ks.map kD) (ks.map kV)
  | []=>.nil
  | k :: ks=>.cons (zoq k) (zlt ks)
def zqN (f:D→Option D) (md:En→R D) (δ:En):R D:=(md δ).bind fun d=>R.of (f d)
end
end PM
namespace PM
open PySem L2
section
variable {K:Kx} {XO:XOT} {E:St→XK} {ta tb te:TE} {ma mb me:En→R D} {t u:TS} {m n:En→O} {Λ:List (Nat × Addr × HO)} {F0 H0 F H F' H' F1 H1:Hp} {σ:St} {δ:En} {Dn:Ends}
end
end PM
namespace PM
open PySem L2
section
variable {K:Kx} {XO:XOT} {E:St→XK} {ta tb te:TE} {ma mb me:En→R D} {t u:TS} {m n:En→O} {Λ:List (Nat × Addr × HO)} {F0 H0 F H F' H' F1 H1:Hp} {σ:St} {δ:En} {Dn:Ends}
end
end PM
namespace PM
open PySem L2
section
variable {K:Kx} {XO:XOT} {E:St→XK} {ta tb te to:TE} {ma mb me mo:En→R D} {t u:TS} {m n:En→O} {Λ:List (Nat × Addr × HO)} {F0 H0 F H F' H' F1 H1:Hp} {σ:St} {δ:En} {Dn:Ends}
end
end PM
namespace PM
open PySem L2
section
variable {K:Kx} {XO:XOT} {E:St→XK} {te ti tj:TE} {me mi mj:En→R D} {Λ:List (Nat × Addr × HO)} {F0 H0 F H:Hp} {σ:St} {δ:En} {Dn:Ends}
end
end PM
namespace L2
open PySem PySem.Spec PyProof.Rows
section
variable {X:Cx}
end
end L2
namespace PM
open PySem L2
section
variable {K:Kx}
end
end PM
namespace L2
open PySem PySem.Spec PyProof.Rows
def zol (tk tv:TE):TE:=fun σ H Q=>∀ p,H p=none→zmm [(tk,tv)] σ (upd H p (.dT [])) fun ps H2=>H2 p=some (.dT [])∧∃ (ks:List Key) (b:Addr) (y:V),ps = [(.ref b,y)]∧H2 b=some (.tup (ks.map kV))∧Q (.ref p) (upd H2 p (.dT [(ks,y)]))
theorem zn2 {X:Cx} {pos:Pos} {k v:Expr} {tk tv:TE} (hu:X.A.units < cLine) (hk:PE X k tk) (hv:PE X v tv):PE X (.Dict [some k] [v] pos) (zol tk tv):=by
  intro pins s σ H Q I q
  have hn:=I.hok.fresh (Nat.le_refl s.heap.objs.size)
  have I1:=I.laid (a:=s.heap.objs.size) (o:=.dT []) (h':=s.heap.push { cls:=.type "dict",data:=.dict #[] }) (t':=s.toks) (fun _ _ q=>Heap.get?_push_of_some _ q) (Nat.le_refl _) (zmZ s.heap I.big)
  refine wpAny_Dict_any rfl rfl (by simp) (by show 1 ≤ 15; decide) (thn ((zm6 hk hv zo4) pins _ σ _ _ I1 (q _ hn)) fun ws s2 ⟨ps,H2,I2,rel,e,ks,b,y,ep,eb,q2⟩=>?_)
  subst ep
  cases rel with
  | @cons pa pb as bs h t =>
    cases t
    obtain ⟨u,r⟩:=pb
    obtain ⟨h1,h2⟩:=h
    cases (show u=Value.ref b from h1)
    obtain ⟨z,hd,xs,rel,dd⟩:=zqq I2.hok e
    cases rel
    unfold storeAll
    rw [List.forIn_cons]
    refine wpAny_bind (wpAny_bind (wpAny_dictSet_heap (knd:=tupleKind (zbt X.prog X.w)) (hsz:=Nat.zero_le _) hu (zgY I2.hok eb) dd fun h' dd' hs=>wpAny_pure ?_))
    show wpAny _ _ (forIn [] _ _) _ _ _
    rw [List.forIn_nil]
    refine wpAny_pure ⟨.ref s.heap.objs.size,_,?_,rfl,q2⟩
    obtain ⟨q,es,ep,hq,g2,g3,g4,_,g5⟩:=dd'
    refine ziW I2 (by rw [e]; exact True.intro) hs ⟨q,hq⟩ ⟨by show 1 ≤ sizeLine; decide,hd,_,KT.keeps (H:=H2) (.cons ⟨rfl,eb,h2⟩ .nil) fun c ys ec=>?_,q,es,ep,hq,g2,g3,g4,g5⟩
    rw [zai (zqR ec e (fun z=>nomatch z))]
    exact ec
end L2
namespace PM
def lexB (eq lt:Nat→Bool):Nat→Nat→Bool
  | 0,0=>false
  | 0,_ + 1=>true
  | _ + 1,0=>false
  | n + 1,m + 1=>if eq 0=true then lexB (fun j=>eq (j + 1)) (fun j=>lt (j + 1)) n m else lt 0
end PM
namespace L2
open PySem PySem.Spec PyProof.Rows
def LtAt (A:Around) (s:Shared) (u v:Value) (b:Bool):Prop :=
  ∀ (prog:Program) (w:World) (E:Value→Shared→Prop) (Q:Value→Shared→Prop),Q (.bool b) s→wpAny (model prog w) A (richCompare .Lt u v) Q E s
section
variable {prog:Program} {w:World} {A:Around} {E:Value→Shared→Prop} {s:Shared}
theorem zj4 {i j:Int} {t u:Tok}:LtAt A s (.int i t) (.int j u) (decide (i < j)):=fun _ _ _ _ h=>zfT h
theorem zcN {a:Addr} {xs:Array Value} (x:IsTup s.heap a xs):s.TypeIs (.ref a) "tuple":=by
  obtain ⟨o,e,c,_⟩:=x
  exact ⟨o,e,c⟩
theorem ziA {xs ys:List Value} {a b:Addr} {eq lt:Nat→Bool} {P:Fin→Shared→Prop} (hx:IsTup s.heap a xs.toArray) (hy:IsTup s.heap b ys.toArray) (he:∀ j u v,xs[j]?=some u→ys[j]?=some v→SeqAt.EqAt A s u v (eq j))
    (hl:∀ j u v,xs[j]?=some u→ys[j]?=some v→eq j=false→LtAt A s u v (lt j)) (h:P (.done (.ret (.bool (PM.lexB eq lt xs.length ys.length)))) s):wpAny (model prog w) A (Builtin.«tuple.__lt__» ⟨[.ref a,.ref b],[]⟩) P E s:=by
  have hTb:=zcN hy
  obtain ⟨oa,hoa,_,na,hda⟩:=hx
  obtain ⟨ob,hob,_,nb,hdb⟩:=hy
  show wpAny _ _ (isInstance (.ref b) (.type "tuple") >>= _) _ _ s
  refine wpAny_bind (wpAny_isInstance hTb isSubtype_tuple_tuple ?_)
  simp only [Bool.not_true,Bool.false_eq_true,if_false]
  refine wpAny_bind (wpAny_tupleItemsOf hoa hda ?_)
  refine wpAny_bind (wpAny_tupleItemsOf hob hdb ?_)
  refine wpAny_bind ?_
  refine wpAny_forIn_list _
    (fun rest r s'=>r.1=none∧s'=s∧∃ (xs' ys':List Value) (eq' lt':Nat→Bool),rest=List.zip xs' ys'∧(∀ j u v,xs'[j]?=some u→ys'[j]?=some v→SeqAt.EqAt A s u v (eq' j))∧(∀ j u v,xs'[j]?=some u→ys'[j]?=some v→eq' j=false→LtAt A s u v (lt' j)) ∧
      PM.lexB eq' lt' xs'.length ys'.length=PM.lexB eq lt xs.length ys.length∧(decide (xs'.length < ys'.length))=decide (xs.length < ys.length))
    _ ?_ ?_ _ _ ⟨rfl,rfl,xs,ys,eq,lt,rfl,he,hl,rfl,rfl⟩
  · rintro ⟨u,v⟩ rest r s' ⟨hr,rfl,xs',ys',eq',lt',hz,he',hl',hdec,hlen⟩
    cases xs' with
    | nil=>simp at hz
    | cons x xs'' =>
      cases ys' with
      | nil=>simp at hz
      | cons y ys'' =>
        simp only [List.zip_cons_cons,List.cons.injEq,Prod.mk.injEq] at hz
        obtain ⟨⟨rfl,rfl⟩,rfl⟩:=hz
        refine wpAny_bind (he' 0 u v rfl rfl _ _ _ _ ?_)
        cases hk:eq' 0 with
        | true =>
          simp only [Bool.not_true,Bool.false_eq_true,if_false]
          refine wpAny_pure ⟨rfl,rfl,xs'',ys'',fun j=>eq' (j + 1),fun j=>lt' (j + 1),rfl,fun j u v h1 h2=>he' (j + 1) u v h1 h2,fun j u v h1 h2=>hl' (j + 1) u v h1 h2,?_,by simpa using hlen⟩
          rw [← hdec]
          simp [PM.lexB,hk]
        | false =>
          simp only [Bool.not_false,if_true]
          have hf:PM.lexB eq lt xs.length ys.length=lt' 0:=by rw [← hdec]; simp [PM.lexB,hk]
          rw [hf] at h
          refine wpAny_bind (wpAny_rule ?_)
          refine wpAny_bind (hl' 0 u v rfl rfl hk _ _ _ _ ?_)
          exact wpAny_bind (wpAny_pure (wpAny_pure (wpAny_pure h)))
  · rintro ⟨r1,r2⟩ s' ⟨hr,rfl,xs',ys',eq',lt',hz,he',hl',hdec,hlen⟩
    simp only at hr
    subst hr
    refine wpAny_pure ?_
    have hfin:decide (xs.length < ys.length)=PM.lexB eq lt xs.length ys.length:=by
      rw [← hdec,← hlen]
      cases xs' with
      | nil=>cases ys' with
        | nil=>simp [PM.lexB]
        | cons _ _=>simp [PM.lexB]
      | cons _ _=>cases ys' with
        | nil=>simp [PM.lexB]
        | cons _ _=>simp at hz
    show P (.done (.ret (.bool (decide (xs.toArray.size < ys.toArray.size))))) s'
    rw [List.size_toArray,List.size_toArray,hfin]; exact h
theorem zkH {xs ys:List Value} {a b:Addr} {eq lt:Nat→Bool} (hu:A.units < cLine) (hx:IsTup s.heap a xs.toArray) (hy:IsTup s.heap b ys.toArray) (he:∀ j u v,xs[j]?=some u→ys[j]?=some v→SeqAt.EqAt A.in1 s u v (eq j))
    (hl:∀ j u v,xs[j]?=some u→ys[j]?=some v→eq j=false→LtAt A.in1 s u v (lt j)):LtAt A s (.ref a) (.ref b) (PM.lexB eq lt xs.length ys.length):=fun prog w E Q h =>
  wpAny_richCompare_same_room (op:=.Lt) (zcN hx) (zcN hy) F.slot_tuple_lt (wpAny_call_entry F.slot_tuple_lt (zcN hx) F.entry_tuple_lt (ziA hx hy he hl ⟨_,rfl,(fun e=>nomatch e),h⟩) (F.args_tuple_lt_2 _ _)) hu
end
end L2
namespace L2
open PySem PySem.Spec PyProof.Rows
def ltP:Nat→PyData→PyData→Bool
  | 0,.int i,.int j=>decide (i < j)
  | n + 1,.int i,.int j=>decide (i < j)
  | n + 1,.tuple l,.tuple r=>PM.lexB (fun j=>PyData.eqv (l.getD j .none) (r.getD j .none)) (fun j=>ltP n (l.getD j .none) (r.getD j .none)) l.length r.length
  | _,_,_=>false
def cmpP:Nat→PyData→PyData→Bool
  | 0,.int _,.int _=>true
  | n + 1,.int _,.int _=>true
  | n + 1,.tuple l,.tuple r=>(List.range (min l.length r.length)).all fun j=>cmpP n (l.getD j .none) (r.getD j .none)
  | _,_,_=>false
theorem zc5:∀ {ds:List PyData} {j:Nat} {d:PyData},PyData.canLayAll0 ds=true→ds[j]?=some d→d.canLay0=true
  | [],j,d,_,h=>by simp at h
  | x :: ds,0,d,h,e=>by
    simp at e; subst e
    simp only [PyData.canLayAll0,Bool.and_eq_true] at h
    exact h.1
  | x :: ds,j + 1,d,h,e=>by
    simp only [PyData.canLayAll0,Bool.and_eq_true] at h
    exact zc5 h.2 (by simpa using e)
theorem zdN:∀ {ds:List PyData} {j:Nat} {d:PyData},ds[j]?=some d→d.depth ≤ PyData.depthAll ds
  | [],j,d,h=>by simp at h
  | x :: ds,0,d,e=>by
    simp at e; subst e
    simp only [PyData.depthAll]; omega
  | x :: ds,j + 1,d,e=>by
    have:=zdN (ds:=ds) (j:=j) (d:=d) (by simpa using e)
    simp only [PyData.depthAll]; omega
theorem zdB {h:Heap}:∀ {vs:List Value} {ds:List PyData} {as:List Addr},ReadsAll h vs ds as→vs.length=ds.length∧∀ (j:Nat) (v:Value) (d:PyData),vs[j]?=some v→ds[j]?=some d→∃ bs,Reads h v d bs
  | _,_,_,.nil=>⟨rfl,fun j v d h _=>by simp at h⟩
  | _,_,_,.cons r t=>by
    obtain ⟨h1,h2⟩:=zdB t
    refine ⟨by simp [h1],fun j v d e1 e2=>?_⟩
    cases j with
    | zero=>simp at e1 e2; subst e1 e2; exact ⟨_,r⟩
    | succ j=>exact h2 j v d (by simpa using e1) (by simpa using e2)
theorem zkm:∀ (n:Nat) (da db:PyData) (A:Around) (s:Shared) (a b:Value) (as bs:List Addr),Reads s.heap a da as→Reads s.heap b db bs→cmpP n da db=true→da.canLay0=true→db.canLay0=true→da.depth ≤ 8→db.depth ≤ 8→A.units + 16 + n < cLine →
    LtAt A s a b (ltP n da db):=by
  intro n
  induction n with
  | zero =>
    intro da db A s a b as bs ra rb c _ _ _ _ _
    cases ra with
    | int i t=>cases rb with
      | int j u=>exact zj4
      | _=>cases c
    | _=>cases c
  | succ n ih =>
    intro da db A s a b as bs ra rb c la lb ha hb hu
    cases ra with
    | int i t=>cases rb with
      | int j u=>exact zj4
      | _=>cases c
    | tuple a1 a2 a3 a4=>cases rb with
      | tuple b1 b2 b3 b4 =>
        rename_i a0 o0 vs0 n0 xs b0 o1 vs1 n1 ys
        obtain ⟨l1,g1⟩:=zdB a4
        obtain ⟨l2,g2⟩:=zdB b4
        have c':((List.range (min xs.length ys.length)).all fun j=>cmpP n (xs.getD j .none) (ys.getD j .none))=true:=c
        simp only [PyData.canLay0] at la lb
        simp only [PyData.depth] at ha hb
        have i1:A.in1.units=A.units + 1:=Around.in1_units ..
        have get:∀ (j:Nat) (u v:Value),vs0.toList[j]?=some u→vs1.toList[j]?=some v→∃ x y cs ds,xs[j]?=some x∧ys[j]?=some y∧Reads s.heap u x cs∧Reads s.heap v y ds∧cmpP n x y=true:=fun j u v e1 e2=>by
          have j1:=(List.getElem?_eq_some_iff.mp e1).1
          have j2:=(List.getElem?_eq_some_iff.mp e2).1
          rw [l1] at j1
          rw [l2] at j2
          have x1:xs[j]?=some xs[j]:=List.getElem?_eq_getElem j1
          have x2:ys[j]?=some ys[j]:=List.getElem?_eq_getElem j2
          obtain ⟨cs,r1⟩:=g1 j u _ e1 x1
          obtain ⟨ds,r2⟩:=g2 j v _ e2 x2
          have cj:=List.all_eq_true.mp c' j (List.mem_range.mpr (by omega))
          rw [List.getD_eq_getElem?_getD,List.getD_eq_getElem?_getD,x1,x2] at cj
          exact ⟨_,_,cs,ds,x1,x2,r1,r2,cj⟩
        have key:=zkH (s:=s) (A:=A) (xs:=vs0.toList) (ys:=vs1.toList) (a:=a0) (b:=b0) (eq:=fun j=>PyData.eqv (xs.getD j .none) (ys.getD j .none)) (lt:=fun j=>ltP n (xs.getD j .none) (ys.getD j .none)) (by omega) ⟨_,a1,a2,_,by simpa using a3⟩ ⟨_,b1,b2,_,by simpa using b3⟩
          (fun j u v e1 e2=>by
            obtain ⟨x,y,cs,ds,x1,x2,r1,r2,cj⟩:=get j u v e1 e2
            have:=SeqAt.eqAt_reads x y A.in1 s u v cs ds r1 r2 (zc5 la x1) (zc5 lb x2) (by have:=zdN x1; have:=zdN x2; omega)
            simpa only [List.getD_eq_getElem?_getD,x1,x2,Option.getD_some] using this)
          (fun j u v e1 e2 _=>by
            obtain ⟨x,y,cs,ds,x1,x2,r1,r2,cj⟩:=get j u v e1 e2
            have:=ih x y A.in1 s u v cs ds r1 r2 cj (zc5 la x1) (zc5 lb x2) (by have:=zdN x1; omega) (by have:=zdN x2; omega) (by omega)
            simpa only [List.getD_eq_getElem?_getD,x1,x2,Option.getD_some] using this)
        rw [l1,l2] at key
        exact key
      | _=>cases c
    | _=>cases c
end L2
namespace PM
open PySem L2
def ltD (x y:D):Bool:=ltP 8 (toPy 8 x) (toPy 8 y)
def minD:List D→D→D
  | [],m=>m
  | t :: l,m=>minD l (if ltD t m=true then t else m)
theorem zh6:∀ (l:List D) (m x:D),minD (l ++ [x]) m=if ltD x (minD l m)=true then x else minD l m
  | [],_,_=>rfl
  | t :: l,m,x=>by
    show minD (l ++ [x]) _=_
    rw [zh6 l]
    rfl
def cmpD (l:List D):Bool:=l.all fun x=>zaG 8 x && l.all fun y=>cmpP 8 (toPy 8 x) (toPy 8 y)
theorem zfh (t:D) (ts:List D):∀ k,k ≤ ts.length→(t :: ts).getD (argBest (fun i j=>ltD ((t :: ts).getD i .non) ((t :: ts).getD j .non)) k) .non=minD (ts.take k) t
  | 0,_=>rfl
  | k + 1,h=>by
    have ih:=zfh t ts k (by omega)
    have ex:ts.take (k + 1)=ts.take k ++ [(t :: ts).getD (k + 1) .non]:=by
      rw [List.take_succ,List.getD_cons_succ,List.getD_eq_getElem?_getD,List.getElem?_eq_getElem (by omega)]
      rfl
    rw [ex,zh6,← ih]
    show (t :: ts).getD (if ltD ((t :: ts).getD (k + 1) .non) ((t :: ts).getD (argBest (fun i j=>ltD ((t :: ts).getD i .non) ((t :: ts).getD j .non)) k) .non)=true then k + 1 else argBest (fun i j=>ltD ((t :: ts).getD i .non) ((t :: ts).getD j .non)) k) .non=_
    split <;> rfl
end PM
namespace L2
open PySem PySem.Spec PyProof.Rows PM
section
variable {X:Cx} {ca:Nat→Addr} {an:Nat→Str}
def zqA (K:Kx):List V→Hp→VK→Prop:=fun xs H Q=>∃ (p:Addr) (F:Hp) (vs:List V) (d:D) (l:List D),xs = [.ref p]∧Rd H p (.lst vs)∧Same F H∧RepL K F (d :: l) vs∧cmpD (d :: l)=true ∧
  ∀ (i:Nat) (v:V),vs[i]?=some v→(d :: l).getD i .non=minD l d→Q v H
theorem zlY (hu:X.A.units + 64 < cLine) (hc:X.calm=true):zdI X (.builtin "min") (zqA ⟨X.K,ca,an⟩):=by
  intro pins s σ H xs us Q I r h
  obtain ⟨p,F,vs,t,ts,rfl,hq,sm,hr,hcm,q⟩:=h
  obtain ⟨u,rfl,rx⟩:=zey r
  cases rx
  obtain ⟨z,its,n,rv,e⟩:=hq.ok I.hok
  have hl:=hr.length
  have hl2:=rv.length
  have get:∀ (i:Nat) (w:Value),its[i]?=some w→∃ d,(t :: ts)[i]?=some d∧zaG 8 d=true∧∃ as,Reads s.heap w (toPy 8 d) as:=fun i w hw=>by
    have hi:=(List.getElem?_eq_some_iff.mp hw).1
    have hd:(t :: ts)[i]?=some (t :: ts)[i]:=List.getElem?_eq_getElem (by omega)
    obtain ⟨v,hv,rp⟩:=hr.get hd
    obtain ⟨u',hu',ru⟩:=rv.get hv
    rw [hw] at hu'
    cases hu'
    have pl:=List.all_eq_true.mp hcm _ (List.getElem_mem (by omega:i < (t :: ts).length))
    simp only [Bool.and_eq_true] at pl
    exact ⟨_,hd,pl.1,zfG I sm 8 _ v w pl.1 rp ru⟩
  have isl:s.heap.IsList p its.toArray:=⟨_,e,rfl,n,rfl⟩
  have plt:p < s.heap.objs.size:=Heap.lt_size e
  refine zh1 (wpAny_pyIter_list isl ?_)
  refine ⟨s.heap.objs.size,[s.heap.objs.size,p] ++ List.range s.heap.objs.size,[s.heap.objs.size],its.toArray.size,_,_,(fun i j=>ltD ((t :: ts).getD i .non) ((t :: ts).getD j .non)),rfl,zhW (Walks.list (A:=X.A.in1) (I.ok.hd hc) s.heap.objs.size p (Nat.ne_of_lt plt) its.toArray) (List.range s.heap.objs.size) s.heap ?_,⟨⟨⟨_,Heap.get?_push_size _ rfl,rfl,rfl⟩,isl.push _⟩,fun b _ o eo=>Heap.get?_push_of_some _ eo⟩,?_,?_,?_,?_⟩
  · intro b hb hm
    rw [List.mem_singleton.mp hm] at hb
    exact absurd (List.mem_range.mp hb) (Nat.lt_irrefl _)
  · intro b hb
    show b < (s.heap.push _).objs.size
    rw [Heap.size_push]
    rcases List.mem_append.mp hb with hb | hb
    · rcases List.mem_cons.mp hb with rfl | hb
      · exact Nat.lt_succ_self _
      · rw [List.mem_singleton.mp hb]; exact Nat.lt_succ_of_lt plt
    · exact Nat.lt_succ_of_lt (List.mem_range.mp hb)
  · rw [List.size_toArray,← hl2,hl]; exact Nat.succ_pos _
  · intro k i j vi vj s' Q' E' st hi hj hQ
    have hi':its[i]?=some vi:=by simpa using hi
    have hj':its[j]?=some vj:=by simpa using hj
    obtain ⟨di,e1,p1,as,r1⟩:=get i vi hi'
    obtain ⟨dj,e2,p2,bs,r2⟩:=get j vj hj'
    have kp:∀ b o,s.heap.get? b=some o→s'.heap.get? b=some o:=fun b o eo=>st.2 b (List.mem_range.mpr (Heap.lt_size eo)) o eo
    obtain ⟨l1,m1⟩:=zce 8 di p1
    obtain ⟨l2,m2⟩:=zce 8 dj p2
    have cm:cmpP 8 (toPy 8 di) (toPy 8 dj)=true:=by
      have:=List.all_eq_true.mp hcm di (List.mem_of_getElem? e1)
      simp only [Bool.and_eq_true] at this
      exact List.all_eq_true.mp this.2 dj (List.mem_of_getElem? e2)
    have:=zkm 8 (toPy 8 di) (toPy 8 dj) X.A.in1 s' vi vj as bs (Reads.keeps kp r1) (Reads.keeps kp r2) cm l1 l2 m1 m2 (by rw [Around.in1_units]; omega)
    refine this _ _ _ _ ?_
    have g1:(t :: ts).getD i .non=di:=by rw [List.getD_eq_getElem?_getD,e1]; rfl
    have g2:(t :: ts).getD j .non=dj:=by rw [List.getD_eq_getElem?_getD,e2]; rfl
    simp only [g1,g2] at hQ
    exact hQ
  · intro v h' tk hP hk
    have hP':its.toArray[argBest (fun i j=>ltD ((t :: ts).getD i .non) ((t :: ts).getD j .non)) (its.toArray.size - 1)]?=some v:=hP
    rw [List.getElem?_toArray,List.size_toArray,← hl2,hl,List.length_cons,Nat.add_sub_cancel] at hP'
    have key:=zfh t ts ts.length (Nat.le_refl _)
    rw [List.take_length] at key
    obtain ⟨di,e1,_⟩:=get _ v hP'
    obtain ⟨x,hx,_⟩:=hr.get e1
    obtain ⟨u',hu',ru⟩:=rv.get hx
    rw [hP'] at hu'
    cases hu'
    refine ⟨x,H,I.kept (t':=tk) (fun b o eo=>hk b o (fun hm=>?_) (Heap.get?_push_of_some _ eo)),ru,q _ x hx key⟩
    rw [List.mem_singleton.mp hm] at eo
    exact absurd (Heap.lt_size eo) (Nat.lt_irrefl _)
end
end L2
namespace PM
open PySem L2
abbrev BP:=Int × List (Int × Int)
def zbZ (p:Int × Int):D:=.tup [.int p.1,.int p.2]
def encB (b:BP):D:=.tup [.int b.1,.tup (b.2.map zbZ)]
def minB:List BP→BP→BP
  | [],m=>m
  | t :: l,m=>minB l (if ltD (encB t) (encB m)=true then t else m)
theorem zn6:∀ (l:List BP) (m:BP),minD (l.map encB) (encB m)=encB (minB l m)
  | [],_=>rfl
  | t :: l,m=>by
    show minD (l.map encB) (if ltD (encB t) (encB m)=true then encB t else encB m)=encB (minB l (if ltD (encB t) (encB m)=true then t else m))
    rw [← zn6 l]
    congr 1
    split <;> rfl
def cutO (rest:List Int) (k:Nat):List Int:=(rest.drop 1).take (k - 1) ++ rest.drop (k + 1)
def bwW (d:Int→Int→Int) (f:List Int→BP) (rest:List Int) (k:Nat):BP:=(d (rest.getD 0 0) (rest.getD k 0) + (f (cutO rest k)).1,(rest.getD 0 0,rest.getD k 0) :: (f (cutO rest k)).2)
def least:List BP→BP
  | []=>(0,[])
  | b :: l=>minB l b
def bpF (d:Int→Int→Int):Nat→List Int→BP
  | 0,_=>(0,[])
  | m + 1,rest=>least ((List.range (rest.length - 1)).map fun j=>bwW d (bpF d m) rest (j + 1))
def cn:Nat→Nat
  | 0=>0
  | m + 1=>1 + (2 * m + 1) * cn m
def zlE (L:D) (d:Int→Int→Int) (rest:List Int):Prop:=∀ i ∈ rest,∀ j ∈ rest,∃ row,oIxL L (.int i)=some row∧oIxL row (.int j)=some (.int (d i j))
theorem zjU {rest:List Int} {k:Nat}:∀ i ∈ cutO rest k,i ∈ rest:=fun i h=>by
  rcases List.mem_append.mp h with z | z
  · exact List.mem_of_mem_drop (List.mem_of_mem_take z)
  · exact List.mem_of_mem_drop z
theorem zmW {rest:List Int} {k:Nat} (h1:1 ≤ k) (h2:k < rest.length):(cutO rest k).length + 2=rest.length:=by
  simp only [cutO,List.length_append,List.length_take,List.length_drop]; omega
structure KPs (K:Kx) (c:Nat) (d:Int→Int→Int) (L:D) (F H:Hp) (x kp dx:Addr) (lv:V) (kvs:List (List Key × V)):Prop where
  fh:Same F H
  hx:H x=some (.ins (K.ca c) dx [("lengths",lv),("known",.ref kp)])
  hk:H kp=some (.dT kvs)
  fx:F x=none
  fk:F kp=none
  rl:Rep K F L lv
  good:∀ e ∈ kvs,∃ ks:List Int,e.1=ks.map Sum.inl∧Rep K F (encB (bpF d (ks.length / 2) ks)) e.2
  emp:∃ v,valV kvs []=some v
structure Stp (kp:Addr) (F H F' H':Hp):Prop where
  ff:Same F F'
  hh:∀ b o,b ≠ kp→H b=some o→H' b=some o
  nw:∀ b o,F b=none→H b=some o→F' b=none
section
variable {K:Kx} {c:Nat} {d:Int→Int→Int} {L:D} {F H F' H' F'' H'':Hp} {x kp dx:Addr} {lv:V} {kvs:List (List Key × V)}
theorem Stp.of (e:Ext F H F' H'):Stp kp F H F' H':=⟨e.ff,fun b o _ h=>e.hh b o h,e.nw⟩
theorem Stp.trans (a:Stp kp F H F' H') (b:Stp kp F' H' F'' H'') (hk:F'' kp=none):Stp kp F H F'' H'' :=
  ⟨a.ff.trans b.ff,fun c o n h=>b.hh c o n (a.hh c o n h),fun c o h1 h2=>by
    by_cases e:c=kp
    · rw [e]; exact hk
    · exact b.nw c o (a.nw c o h1 h2) (a.hh c o e h2)⟩
theorem KPs.ext (k:KPs K c d L F H x kp dx lv kvs) (e:Ext F H F' H'):KPs K c d L F' H' x kp dx lv kvs :=
  ⟨e.fh,e.hh _ _ k.hx,e.hh _ _ k.hk,e.nw _ _ k.fx k.hx,e.nw _ _ k.fk k.hk,Rep.mono e.ff _ k.rl,fun p hp=>let ⟨ks,h1,h2⟩:=k.good p hp; ⟨ks,h1,Rep.mono e.ff _ h2⟩,k.emp⟩
theorem zlb {σ:L2.St} {δ:En} (s:Same F H) (hl:σ.length=δ.length) (hs:∀ (i:Nat) (t:Sl),δ[i]?=some t→t = .no∨∃ dd u,t = .v dd∧σ[i]?=some (some u)∧Rep K F dd u):EnvOk K [] F H F H σ δ:=by
  have no:∀ i:Nat,Sl.own δ[i]?=false:=fun i=>by
    cases q:δ[i]? with
    | none=>rfl
    | some t=>rcases hs i t q with rfl | ⟨dd,u,rfl,_⟩ <;> rfl
  refine ⟨.refl s,hl,fun i=>?_,fun i j a _ h1 _ _ _=>(by rw [no i] at h1; cases h1),fun y hy=>(by cases hy),fun i T h1=>(by have:=no i; rw [h1] at this; cases this)⟩
  cases q:δ[i]? with
  | none=>trivial
  | some t =>
    rcases hs i t q with rfl | ⟨dd,u,rfl,e1,e2⟩
    · trivial
    · exact ⟨u,e1,e2⟩
end
variable (K:Kx) (c:Nat) (d:Int→Int→Int) (L:D) in
def spKB (m:Nat):Sp:=fun vs H Q _=>∃ (x kp dx r:Addr) (lv:V) (F:Hp) (kvs:List (List Key × V)) (rest:List Int),vs = [.ref x,.ref r]∧KPs K c d L F H x kp dx lv kvs∧Rep K F (.tup (rest.map .int)) (.ref r)∧rest.length=2 * m∧zlE L d rest∧kvs.length + cn m ≤ 100000 ∧
  ∀ (v:V) (F' H':Hp) (kvs':List (List Key × V)),Stp kp F H F' H'→KPs K c d L F' H' x kp dx lv kvs'→kvs'.length ≤ kvs.length + cn m→Rep K F' (encB (bpF d m rest)) v→Q v H'
variable (K:Kx) (c:Nat) (d:Int→Int→Int) (L:D) in
def spKW (m:Nat):Sp:=fun vs H Q _=>∃ (x kp dx r:Addr) (lv:V) (F:Hp) (kvs:List (List Key × V)) (rest:List Int) (k:Nat),vs = [.ref x,.ref r,.int k]∧KPs K c d L F H x kp dx lv kvs∧Rep K F (.tup (rest.map .int)) (.ref r)∧rest.length=2 * (m + 1)∧zlE L d rest∧1 ≤ k∧k < rest.length∧kvs.length + cn m ≤ 100000 ∧
  ∀ (v:V) (F' H':Hp) (kvs':List (List Key × V)),Stp kp F H F' H'→KPs K c d L F' H' x kp dx lv kvs'→kvs'.length ≤ kvs.length + cn m→Rep K F' (encB (bwW d (bpF d m) rest k)) v→Q v H'
section
variable {K:Kx} {XO:XOT} {E:L2.St→XK}
def mSlT (me:En→R D) (ml mh:En→R (Option Int)) (δ:En):R D:=(me δ).bind fun d=>(ml δ).bind fun lo=>(mh δ).bind fun hi=>(R.of (asT d)).bind fun l=>ifC (HT.sIx l.length 0 lo=0∧HT.sIx l.length l.length hi=l.length) .no (.ok (.tup (cutD l lo hi)))
theorem zia {te:TE} {me:En→R D} {tl th:TO} {ml mh:En→R (Option Int)} (h:SEr K XO E te me) (hl:SO K XO E tl ml) (hh:SO K XO E th mh):SE K XO E (tSl (rSlT K.f) te tl th) (mSlT me ml mh):=by
  intro Λ F0 H0 F H σ δ Q I a
  refine h Λ F0 H0 F H σ δ _ I (a.bind.imp fun d F1 H1 e1 a1 v r=>?_)
  refine hl Λ F0 H0 F1 H1 σ δ _ (I.grow e1) (a1.bind.imp fun lo F2 H2 e2 a2=>?_)
  refine hh Λ F0 H0 F2 H2 σ δ _ ((I.grow e1).grow e2) (a2.bind.imp fun hi F3 H3 e3 a3=>?_)
  cases d with
  | tup l =>
    have r':Rep K F1 (.tup l) v:=r
    simp only [Rep] at r'
    obtain ⟨p,vs,rfl,h1,h2⟩:=r'
    change Aft E XO σ F3 H3 _ (ifC _ _ _) at a3
    unfold ifC at a3
    split at a3
    · exact a3.elim
    · rename_i hn
      have ln:=h2.length
      refine ⟨p,vs,rfl,.inl (.inl (e3.hh _ _ (e2.hh _ _ (e1.fh _ _ h1)))),by rw [ln]; exact hn,fun q hq=>?_⟩
      refine a3 _ _ (.new e3.fh hq) (.ref q) ?_
      simp only [Rep]
      refine ⟨q,_,rfl,zaj,?_⟩
      have h3:=(h2.mono (e2.ff.trans e3.ff)).mono (show Same F3 (upd F3 q (.tup (cutV vs lo hi))) from Same.upd (e3.fh.free hq))
      generalize upd F3 q (.tup (cutV vs lo hi))=G at h3 ⊢
      unfold cutV cutD
      rw [ln]
      exact (h3.drop _).take _
  | _=>exact a3.elim
end
end PM
namespace PM
open PySem L2
section
variable {K:Kx} {c m:Nat} {d:Int→Int→Int} {L:D} {E:XK}
def tsBW (K:Kx) (c:Nat) (sp:Sp) (E:XK):TS :=
  tSeq (tAsg (zla (K.ca c) "best" sp [] E (tVar 0) (zby (tOp (zna K.f) (tSl (rSlT K.f) (tVar 1) (zmK (tC (.int 1))) (zmK (tVar 2))) (tSl (rSlT K.f) (tVar 1) (zmK (tOp (rI0 fun i j=>.int (i + j)) (tVar 2) (tC (.int 1)))) zjs)) tNil)) (zeS 3))
  (tSeq (tAsg (tTup (zby (tOp (rIxT K.f) (tVar 1) (tC (.int 0))) (zby (tOp (rIxT K.f) (tVar 1) (tVar 2)) tNil))) (zeS 4))
  (tRet (tTup (zby (tOp (rI0 fun i j=>.int (i + j)) (tOp (rIxL K.f) (tOp (rIxL K.f) (tFld K.f (tVar 0) "lengths") (tOp (rIxT K.f) (tVar 4) (tC (.int 0)))) (tOp (rIxT K.f) (tVar 4) (tC (.int 1)))) (tOp (rIxT K.f) (tVar 3) (tC (.int 0))))
    (zby (tOp (zna K.f) (tTup (zby (tVar 4) tNil)) (tOp (rIxT K.f) (tVar 3) (tC (.int 1)))) tNil)))))
abbrev XOn:XOT:=fun _ _ _ _ _=>False
abbrev En0:L2.St→XK:=fun _ _ _ _=>False
theorem zl6 (n z k:Nat) (h:k ≤ n):HT.sIx n z (some (k:Int))=k:=by
  show (if (k:Int) < 0 then ((k:Int) + (n:Int)).toNat else min (k:Int).toNat n)=k
  rw [if_neg (by omega)]; omega
theorem znq {rest:List Int} {k:Nat} (h1:1 ≤ k) (h2:k < rest.length) (h3:rest.length ≤ 1000) {s0 s3 s4:Sl} :
    m2 zkr (mSlT (mRd 1) (zec (mC (.int 1))) (zec (mVar 2))) (mSlT (mRd 1) (zec (m2 oAdd (mRd 2) (mC (.int 1)))) mNoP) [s0,.v (.tup (rest.map .int)),.v (.int k),s3,s4] = .ok (.tup ((cutO rest k).map .int)):=by
  have a1:mSlT (mRd 1) (zec (mC (.int 1))) (zec (mVar 2)) [s0,.v (.tup (rest.map .int)),.v (.int k),s3,s4] = .ok (.tup (((rest.drop 1).take (k - 1)).map .int)):=by
    have e1:=zl6 (rest.map D.int).length 0 1 (by rw [List.length_map]; omega)
    have e2:=zl6 (rest.map D.int).length (rest.map D.int).length k (by rw [List.length_map]; omega)
    have e1':HT.sIx (rest.map D.int).length 0 (some 1)=1:=e1
    simp only [mSlT,mRd,zec,mC,mVar,List.getElem?_cons_succ,List.getElem?_cons_zero,R.bind_ok,zqc,zqI,R.of_some]
    rw [e1',e2,ifC,if_neg (by omega)]
    unfold cutD
    rw [e1',e2,List.map_take,List.map_drop]
  have a2:mSlT (mRd 1) (zec (m2 oAdd (mRd 2) (mC (.int 1)))) mNoP [s0,.v (.tup (rest.map .int)),.v (.int k),s3,s4] = .ok (.tup ((rest.drop (k + 1)).map .int)):=by
    have e1:=zl6 (rest.map D.int).length 0 (k + 1) (by rw [List.length_map]; omega)
    have e1':HT.sIx (rest.map D.int).length 0 (some ((k:Int) + 1))=k + 1:=e1
    have e2:HT.sIx (rest.map D.int).length (rest.map D.int).length none=(rest.map D.int).length:=rfl
    simp only [mSlT,mRd,zec,mC,mNoP,zb6,List.getElem?_cons_succ,List.getElem?_cons_zero,R.bind_ok,zik,zqc,zqI,R.of_some]
    rw [e1',ifC,if_neg (by omega)]
    unfold cutD
    rw [e1',e2,List.map_drop,List.take_of_length_le (by simp)]
  simp only [zb6,a1,a2,R.bind_ok]
  have e:zkr (.tup (((rest.drop 1).take (k - 1)).map .int)) (.tup ((rest.drop (k + 1)).map .int))=some (.tup ((cutO rest k).map .int)):=by
    show ifC _ _ _=_
    rw [zaX (by simp only [List.length_map,List.length_take,List.length_drop,sizeLine_eq]; omega),cutO,List.map_append]
  rw [e,R.of_some]
theorem zg9:∀ (l:List BP) (m:BP),minB l m ∈ m :: l
  | [],m=>by simp [minB]
  | t :: l,m=>by
    unfold minB
    have:=zg9 l (if ltD (encB t) (encB m)=true then t else m)
    split at this <;> simp only [List.mem_cons] at this ⊢ <;> grind
theorem zjl (d:Int→Int→Int):∀ (m:Nat) (rest:List Int),(bpF d m rest).2.length ≤ m
  | 0,_=>by simp [bpF]
  | m + 1,rest=>by
    have key:∀ b ∈ (List.range (rest.length - 1)).map fun j=>bwW d (bpF d m) rest (j + 1),b.2.length ≤ m + 1:=fun b hb=>by
      obtain ⟨j,_,rfl⟩:=List.mem_map.mp hb
      simp only [bwW,List.length_cons]
      have:=zjl d m (cutO rest (j + 1))
      omega
    unfold bpF
    cases q:(List.range (rest.length - 1)).map fun j=>bwW d (bpF d m) rest (j + 1) with
    | nil=>simp [least]
    | cons b l =>
      rw [q] at key
      exact key _ (zg9 l b)
theorem zrb (hC:Cls K.f (K.ca c)) (hL:NoAttr K.f (K.ca c) "lengths") {vs:List V} {H:Hp} {Q:VK} {E E':XK} (hm:m ≤ 6) (h:spKW K c d L m vs H Q E):tsBW K c (spKB K c d L m) E' { nx:=fun _ H'=>Q .non H',rt:=Q } (L2.start ["self","rest","k","others","pair"] vs) H:=by
  obtain ⟨x,kp,dx,r,lv,F,kvs,rest,k,rfl,hK,hr,hl,ht,k1,k2,hn,fin⟩:=h
  have st:L2.start ["self","rest","k","others","pair"] [V.ref x,.ref r,.int k] = [some (.ref x),some (.ref r),some (.int k),none,none]:=rfl
  rw [st]
  refine ⟨.ref x,rfl,x,dx,_,rfl,hK.hx,rfl,?_⟩
  have I1:EnvOk K [] F H F H [some (.ref x),some (.ref r),some (.int k),none,none] [.no,.v (.tup (rest.map .int)),.v (.int k),.no,.no]:=zlb hK.fh rfl fun i t q=>by
    match i,q with
    | 0,q=>cases q; exact .inl rfl
    | 1,q=>cases q; exact .inr ⟨_,_,rfl,rfl,hr⟩
    | 2,q=>cases q; exact .inr ⟨_,_,rfl,rfl,by simp only [Rep]⟩
    | 3,q=>cases q; exact .inl rfl
    | 4,q=>cases q; exact .inl rfl
    | n + 5,q=>cases q
  refine zal (XO:=XOn) (E:=En0) (zmH (K:=K)) (zia zac (zgp se_int) (zgp zam)).r (zia zac (zgp (zal zbr zac se_int.r)) zpo).r [] F H F H _ _ _ I1 ?_
  rw [znq k1 k2 (by omega)]
  intro F1 H1 e1 v1 r1
  have r1':=r1
  simp only [Rep] at r1'
  obtain ⟨r0,ws,rfl,_,_⟩:=r1'
  have cl:=zmW k1 k2
  refine ⟨x,kp,dx,r0,lv,F1,kvs,cutO rest k,rfl,hK.ext e1,r1,by omega,fun i hi j hj=>ht i (zjU i hi) j (zjU j hj),hn,fun v2 F2 H2 kvs2 s2 K2 hl2 rv2=>?_⟩
  have g0:rest[0]?=some (rest.getD 0 0):=by rw [List.getD_eq_getElem?_getD,List.getElem?_eq_getElem (by omega)]; rfl
  have gk:rest[k]?=some (rest.getD k 0):=by rw [List.getD_eq_getElem?_getD,List.getElem?_eq_getElem k2]; rfl
  obtain ⟨p0,hp0⟩:∃ p0,p0=rest.getD 0 0:=⟨_,rfl⟩
  obtain ⟨pk,hpk⟩:∃ pk,pk=rest.getD k 0:=⟨_,rfl⟩
  rw [← hp0] at g0
  rw [← hpk] at gk
  obtain ⟨ob,hob⟩:∃ ob,ob=bpF d m (cutO rest k):=⟨_,rfl⟩
  rw [← hob] at rv2
  have ff2:=e1.ff.trans s2.ff
  have I2:EnvOk K [] F2 H2 F2 H2 [some (.ref x),some (.ref r),some (.int k),some v2,none] [.no,.v (.tup (rest.map .int)),.v (.int k),.v (encB ob),.no]:=zlb K2.fh rfl fun i t q=>by
    match i,q with
    | 0,q=>cases q; exact .inl rfl
    | 1,q=>cases q; exact .inr ⟨_,_,rfl,rfl,Rep.mono ff2 _ hr⟩
    | 2,q=>cases q; exact .inr ⟨_,_,rfl,rfl,by simp only [Rep]⟩
    | 3,q=>cases q; exact .inr ⟨_,_,rfl,rfl,rv2⟩
    | 4,q=>cases q; exact .inl rfl
    | n + 5,q=>cases q
  dsimp only [zeS,tSeq,tAsg,List.set_cons_succ,List.set_cons_zero]
  refine zgr (XO:=XOn) (E:=En0) (zad (zal zcp zac se_int.r) (zad (zal zcp zac zac) zao)) [] F2 H2 F2 H2 _ _ _ I2 ?_
  have pe:mTup (zaa (m2 oIxT (mRd 1) (mC (.int 0))) (zaa (m2 oIxT (mRd 1) (mRd 2)) mNil)) [.no,.v (.tup (rest.map .int)),.v (.int k),.v (encB ob),.no] = .ok (zbZ (p0,pk)):=by
    have i0:oIxT (.tup (rest.map .int)) (.int 0)=some (.int p0):=atI_nat (k:=0) (by rw [List.getElem?_map,g0]; rfl)
    have i1:oIxT (.tup (rest.map .int)) (.int k)=some (.int pk):=atI_nat (by rw [List.getElem?_map,gk]; rfl)
    simp [mTup,zaa,mNil,mRd,mC,i0,i1,sizeLine,zbZ]
  rw [pe]
  intro F3 H3 e3 v4 r4
  have K3:=K2.ext e3
  have I3:EnvOk K [] F3 H3 F3 H3 [some (.ref x),some (.ref r),some (.int k),some v2,some v4] [.no,.v (.tup (rest.map .int)),.v (.int k),.v (encB ob),.v (zbZ (p0,pk))]:=zlb K3.fh rfl fun i t q=>by
    match i,q with
    | 0,q=>cases q; exact .inl rfl
    | 1,q=>cases q; exact .inr ⟨_,_,rfl,rfl,Rep.mono (ff2.trans e3.ff) _ hr⟩
    | 2,q=>cases q; exact .inr ⟨_,_,rfl,rfl,by simp only [Rep]⟩
    | 3,q=>cases q; exact .inr ⟨_,_,rfl,rfl,Rep.mono e3.ff _ rv2⟩
    | 4,q=>cases q; exact .inr ⟨_,_,rfl,rfl,r4⟩
    | n + 5,q=>cases q
  obtain ⟨row,rw1,rw2⟩:=ht p0 (List.mem_of_getElem? g0) pk (List.mem_of_getElem? gk)
  refine ⟨.ref x,rfl,x,_,dx,_,lv,rfl,K3.hx,hC,hL,rfl,?_⟩
  refine zal (XO:=XOn) (E:=En0) zcp zac se_int.r [] F3 H3 F3 H3 _ _ _ I3 ?_
  have v40:m2 oIxT (mRd 4) (mC (.int 0)) [.no,.v (.tup (rest.map .int)),.v (.int k),.v (encB ob),.v (zbZ (p0,pk))] = .ok (.int p0):=rfl
  have v41:m2 oIxT (mRd 4) (mC (.int 1)) [.no,.v (.tup (rest.map .int)),.v (.int k),.v (encB ob),.v (zbZ (p0,pk))] = .ok (.int pk):=rfl
  have v30:m2 oIxT (mRd 3) (mC (.int 0)) [.no,.v (.tup (rest.map .int)),.v (.int k),.v (encB ob),.v (zbZ (p0,pk))] = .ok (.int ob.1):=rfl
  rw [v40]
  intro F4 H4 e4 u4 w4
  refine zaL F4 H4 lv u4 L (.int p0) row _ e4.fh ((Rep.mono e4.ff _ K3.rl).top e4.fh) (w4.top e4.fh) rw1 fun u5 F5 H5 e5 w5=>?_
  refine zal (XO:=XOn) (E:=En0) zcp zac se_int.r [] F3 H3 F5 H5 _ _ _ (I3.grow (e4.trans e5)) ?_
  rw [v41]
  intro F6 H6 e6 u6 w6
  refine zaL F6 H6 u5 u6 row (.int pk) (.int (d p0 pk)) _ e6.fh ((Rep.mono e6.ff _ w5).top e6.fh) (w6.top e6.fh) rw2 fun u7 F7 H7 e7 w7=>?_
  refine zal (XO:=XOn) (E:=En0) zcp zac se_int.r [] F3 H3 F7 H7 _ _ _ (I3.grow (((e4.trans e5).trans e6).trans e7)) ?_
  rw [v30]
  intro F8 H8 e8 u8 w8
  simp only [Rep] at w7 w8
  subst w7 w8
  refine ⟨d p0 pk,ob.1,rfl,rfl,?_⟩
  have e38:=(((e4.trans e5).trans e6).trans e7).trans e8
  refine zal (XO:=XOn) (E:=En0) (zmH (K:=K)) (zgr (zad zam zao)).r (zal zcp zac se_int.r).r [] F3 H3 F8 H8 _ _ _ (I3.grow e38) ?_
  have ol:ob.2.length ≤ m:=by rw [hob]; exact zjl ..
  have vc:m2 zkr (mTup (zaa (mVar 4) mNil)) (m2 oIxT (mRd 3) (mC (.int 1))) [.no,.v (.tup (rest.map .int)),.v (.int k),.v (encB ob),.v (zbZ (p0,pk))] = .ok (.tup (((p0,pk) :: ob.2).map zbZ)):=by
    have t4:mTup (zaa (mVar 4) mNil) [.no,.v (.tup (rest.map .int)),.v (.int k),.v (encB ob),.v (zbZ (p0,pk))] = .ok (.tup [zbZ (p0,pk)]):=by simp [mTup,zaa,mNil,mVar,sizeLine]
    have t3:m2 oIxT (mRd 3) (mC (.int 1)) [.no,.v (.tup (rest.map .int)),.v (.int k),.v (encB ob),.v (zbZ (p0,pk))] = .ok (.tup (ob.2.map zbZ)):=rfl
    have e:zkr (.tup [zbZ (p0,pk)]) (.tup (ob.2.map zbZ))=some (.tup (((p0,pk) :: ob.2).map zbZ)):=by
      show ifC _ _ _=_
      rw [zaX (by simp only [List.length_map,List.length_cons,List.length_nil,sizeLine_eq]; omega)]; rfl
    show R.bind (mTup (zaa (mVar 4) mNil) _) _=_
    rw [t4,R.bind_ok]
    show R.bind (m2 oIxT (mRd 3) (mC (.int 1)) _) _=_
    rw [t3,R.bind_ok,e,R.of_some]
  rw [vc]
  intro F9 H9 e9 u9 w9
  refine ⟨by show 2 ≤ sizeLine; decide,fun p hp=>?_⟩
  have e39:=e38.trans e9
  have x9:Ext F9 H9 (upd F9 p (.tup [.int (d p0 pk + ob.1),u9])) (upd H9 p (.tup [.int (d p0 pk + ob.1),u9])):=.new e9.fh hp
  have K9:=(K3.ext e39).ext x9
  refine fin (.ref p) _ _ kvs2 ((((Stp.of e1).trans s2 K2.fk).trans (Stp.of (e3.trans e39)) (K3.ext e39).fk).trans (Stp.of x9) K9.fk) K9 hl2 ?_
  have eb:bwW d (bpF d m) rest k=(d p0 pk + ob.1,(p0,pk) :: ob.2):=by unfold bwW; rw [← hp0,← hpk,← hob]
  rw [eb]
  unfold encB
  simp only [Rep]
  refine ⟨p,_,rfl,zaj,.cons (by simp only [Rep]) (.cons (Rep.mono x9.ff _ w9) .nil)⟩
end
end PM
namespace PM
open PySem L2
section
variable {K:Kx} {c m:Nat} {d:Int→Int→Int} {L:D}
def tsB0 (K:Kx):TS:=tSeq (tIfS (tB (zjw (tVar 1) (tFld K.f (tVar 0) "known"))) zj3 znM) (tRet (znG (tFld K.f (tVar 0) "known") (tVar 1)))
def teC (K:Kx) (c:Nat) (sp:Sp) (E:XK):TE:=zjx (zpY (zby (tC (.int 1)) (zby (tCB (fun xs H Q=>∃ p ys,xs = [.ref p]∧(SqL K.f H p ys∨SqT K.f H p ys)∧Q (.int ys.length) H) (zby (tVar 1) tNil)) tNil))) [0,1] 1 (zeS 2) none (zla (K.ca c) "best_with" sp [] E (tVar 0) (zby (tVar 1) (zby (tVar 2) tNil)))
def tsB (K:Kx) (c:Nat) (sp:Sp) (E:XK):TS:=tSeq (tIfS (tB (zjw (tVar 1) (tFld K.f (tVar 0) "known"))) (zoA (tFld K.f (tVar 0) "known") (tVar 1) (tCB (zqA K) (zby (teC K c sp E) tNil))) znM) (tRet (znG (tFld K.f (tVar 0) "known") (tVar 1)))
theorem znR {kvs:List (List Key × V)} {k:List Key} {v:V} (h:valV kvs k=some v):∃ e ∈ kvs,e.1=k∧e.2=v:=by
  unfold valV at h
  obtain ⟨e,h1,h2⟩:=Option.map_eq_some_iff.mp h
  have h3:=List.find?_some h1
  exact ⟨e,List.mem_of_find?_eq_some h1,by simpa using h3,h2⟩
theorem znA {kvs:List (List Key × V)} {k:List Key} {v:V} {e:List Key × V} (h:e ∈ putK kvs k v):e ∈ kvs∨e=(k,v):=by
  unfold putK at h
  split at h
  · obtain ⟨a,h1,rfl⟩:=List.mem_map.mp h
    split
    · rename_i z; exact .inr (by rw [z])
    · exact .inl h1
  · rcases List.mem_append.mp h with z | z
    · exact .inl z
    · exact .inr (List.mem_singleton.mp z)
theorem zpv {a b:List Int} (h:a.map (Sum.inl:Int→Key)=b.map Sum.inl):a=b:=by
  induction a generalizing b with
  | nil=>cases b with
    | nil=>rfl
    | cons _ _=>cases h
  | cons x a ih=>cases b with
    | nil=>cases h
    | cons y b =>
      simp only [List.map_cons,List.cons.injEq] at h
      obtain ⟨h1,h2⟩:=h
      cases h1
      rw [ih h2]
theorem zk2 {F H:Hp} {rest:List Int} {r:Addr} (s:Same F H) (h:Rep K F (.tup (rest.map .int)) (.ref r)):H r=some (.tup ((rest.map (Sum.inl:Int→Key)).map kV)):=by
  simp only [Rep] at h
  obtain ⟨a,vs,e,h1,h2⟩:=h
  cases e
  rw [zbp h2] at h1
  rw [s _ _ h1,List.map_map]; rfl
theorem zg0 {F H:Hp} {x kp dx:Addr} {lv v:V} {kvs:List (List Key × V)} {rest:List Int} (k:KPs K c d L F H x kp dx lv kvs) (hl:rest.length=2 * m) (h:valV kvs (rest.map Sum.inl)=some v):Rep K F (encB (bpF d m rest)) v:=by
  obtain ⟨e,h1,h2,h3⟩:=znR h
  obtain ⟨ks,h4,h5⟩:=k.good e h1
  have:ks=rest:=zpv (h4.symm.trans h2)
  subst this
  rw [show ks.length / 2=m by omega,h3] at h5
  exact h5
theorem KPs.side {F H:Hp} {x kp dx:Addr} {lv:V} {kvs:List (List Key × V)} (k:KPs K c d L F H x kp dx lv kvs) {p:Addr} {o:HO} (hf:F p=none) (nx:p ≠ x) (nk:p ≠ kp):KPs K c d L F (upd H p o) x kp dx lv kvs :=
  ⟨fun b u q=>by rw [zai (zaq q hf)]; exact k.fh _ _ q,by rw [zai (Ne.symm nx)]; exact k.hx,by rw [zai (Ne.symm nk)]; exact k.hk,k.fx,k.fk,k.rl,k.good,k.emp⟩
theorem zqY (hC:Cls K.f (K.ca c)) (hN:NoAttr K.f (K.ca c) "known") {vs:List V} {H:Hp} {Q:VK} {E:XK} (h:spKB K c d L 0 vs H Q E):tsB0 K { nx:=fun _ H'=>Q .non H',rt:=Q } (L2.start ["self","rest"] vs) H:=by
  obtain ⟨x,kp,dx,r,lv,F,kvs,rest,rfl,hK,hr,hl,ht,hn,fin⟩:=h
  have e0:rest = []:=List.length_eq_zero_iff.mp (by omega)
  subst e0
  obtain ⟨v,hv⟩:=hK.emp
  have hk:=zk2 hK.fh hr
  have g:=DGet.t (k:=[]) hK.hk hk
  rw [hv] at g
  refine ⟨.ref r,rfl,.ref x,rfl,x,_,dx,_,.ref kp,rfl,hK.hx,hC,hN,rfl,kp,_,rfl,g,false,rfl,?_⟩
  show (if false=true then _ else _)
  rw [if_neg Bool.false_ne_true]
  refine ⟨.ref x,rfl,x,_,dx,_,.ref kp,rfl,hK.hx,hC,hN,rfl,.ref r,rfl,kp,v,rfl,g,?_⟩
  exact fin v F H kvs ⟨.refl _,fun _ _ _ h=>h,fun _ _ h _=>h⟩ hK (by omega) (zg0 (m:=0) hK (rest:=[]) rfl hv)
theorem zq4 (a b:BP):cmpP 8 (toPy 8 (encB a)) (toPy 8 (encB b))=true:=by
  have pr:∀ p q:Int × Int,cmpP 6 (toPy 6 (zbZ p)) (toPy 6 (zbZ q))=true:=fun p q=>rfl
  have e:∀ a:BP,toPy 8 (encB a) = .tuple [.int a.1,.tuple ((a.2.map zbZ).map (toPy 6))]:=fun a=>rfl
  rw [e,e]
  show ((List.range 2).all _)=true
  rw [List.all_eq_true]
  intro j hj
  have hj':=List.mem_range.mp hj
  match j,hj' with
  | 0,_=>rfl
  | 1,_ =>
    show ((List.range (min ((a.2.map zbZ).map (toPy 6)).length ((b.2.map zbZ).map (toPy 6)).length)).all _)=true
    rw [List.all_eq_true]
    intro i hi
    have hi':=List.mem_range.mp hi
    simp only [List.length_map] at hi'
    have g:∀ (l:List (Int × Int)),i < l.length→((l.map zbZ).map (toPy 6)).getD i .none=toPy 6 (zbZ (l.getD i (0,0))):=fun l h=>by
      rw [List.getD_eq_getElem?_getD,List.getElem?_map,List.getElem?_map,List.getD_eq_getElem?_getD,List.getElem?_eq_getElem h]; rfl
    rw [g a.2 (by omega),g b.2 (by omega)]
    exact pr _ _
theorem zpq (b:BP):zaG 8 (encB b)=true:=by
  show ([D.int b.1,.tup (b.2.map zbZ)]).all (zaG 7)=true
  simp only [List.all_cons,List.all_nil,Bool.and_true]
  show (true && (b.2.map zbZ).all (zaG 6))=true
  rw [Bool.true_and,List.all_map,List.all_eq_true]
  intro x _; rfl
theorem zpU (l:List BP):cmpD (l.map encB)=true:=by
  unfold cmpD
  rw [List.all_eq_true]
  intro x hx
  obtain ⟨a,_,rfl⟩:=List.mem_map.mp hx
  rw [Bool.and_eq_true]
  refine ⟨zpq a,?_⟩
  rw [List.all_eq_true]
  intro y hy
  obtain ⟨b,_,rfl⟩:=List.mem_map.mp hy
  exact zq4 a b
theorem b_ok (hC:Cls K.f (K.ca c)) (hN:NoAttr K.f (K.ca c) "known") {vs:List V} {H:Hp} {Q:VK} {E E':XK} (hm:m ≤ 6) (h:spKB K c d L (m + 1) vs H Q E):tsB K c (spKW K c d L m) E' { nx:=fun _ H'=>Q .non H',rt:=Q } (L2.start ["self","rest"] vs) H:=by
  obtain ⟨x,kp,dx,r,lv,F,kvs,rest,rfl,hK,hr,hl,ht,hn,fin⟩:=h
  have hk:=zk2 hK.fh hr
  have g:=DGet.t (k:=rest.map Sum.inl) hK.hk hk
  refine ⟨.ref r,rfl,.ref x,rfl,x,_,dx,_,.ref kp,rfl,hK.hx,hC,hN,rfl,kp,_,rfl,g,_,rfl,?_⟩
  cases q:valV kvs (rest.map Sum.inl) with
  | some v =>
    rw [q] at g
    show (if false=true then _ else _)
    rw [if_neg Bool.false_ne_true]
    refine ⟨.ref x,rfl,x,_,dx,_,.ref kp,rfl,hK.hx,hC,hN,rfl,.ref r,rfl,kp,v,rfl,g,?_⟩
    exact fin v F H kvs ⟨.refl _,fun _ _ _ h=>h,fun _ _ h _=>h⟩ hK (by omega) (zg0 hK hl q)
  | none =>
    show (if true=true then _ else _)
    rw [if_pos rfl]
    obtain ⟨n,hnn⟩:∃ n,n=2 * m + 1:=⟨_,rfl⟩
    have hr':=hr
    simp only [Rep] at hr'
    obtain ⟨r0,ws,er,hr1,hr2⟩:=hr'
    cases er
    have wl:=hr2.length
    rw [List.length_map] at wl
    have cn1:cn (m + 1)=1 + n * cn m:=by rw [hnn]; rfl
    refine ⟨.ref r,rfl,r,ws,rfl,.inr (.inl (.inl (hK.fh _ _ hr1))),1,_,rfl,⟨by decide,by decide,by rw [wl]; omega,by rw [wl]; omega⟩,fun D hD=>?_⟩
    have nn:((ws.length:Int) - 1).toNat=n:=by rw [wl]; omega
    rw [nn]
    have Dx:D ≠ x:=fun e=>by rw [e,hK.hx] at hD; cases hD
    have Dk:D ≠ kp:=fun e=>by rw [e,hK.hk] at hD; cases hD
    refine ⟨fun i mm ys σ2 H2=>∃ (o:Option V) (F2:Hp) (kvs2:List (List Key × V)),σ2 = [some (.ref x),some (.ref r),o]∧H2 D=some (.lst ys)∧F2 D=none∧KPs K c d L F2 H2 x kp dx lv kvs2∧Stp kp F H F2 H2∧RepL K F2 ((List.range i).map fun j=>encB (bwW d (bpF d m) rest (j + 1))) ys∧kvs2.length ≤ kvs.length + i * cn m∧i ≤ n∧mm=n - i,
      ⟨n,none,F,kvs,rfl,zaj,hK.fh.free hD,hK.side (hK.fh.free hD) Dx Dk,⟨.refl _,fun b u _ q=>by rw [zai (zaq q hD)]; exact q,fun _ _ h _=>h⟩,.nil,by omega,by omega,rfl⟩,?_⟩
    rintro i mm ys σ2 H2 ⟨o,F2,kvs2,rfl,hD2,fD2,K2,S2,R2,l2,i2,rfl⟩
    refine ⟨hD2,?_⟩
    rcases Nat.lt_or_ge i n with hi | hi
    · refine .inr ⟨hi,fun ys' σ' H'=>∃ (o:Option V) (F2:Hp) (kvs2:List (List Key × V)),σ' = [some (.ref x),some (.ref r),o]∧H' D=some (.lst ys')∧F2 D=none∧KPs K c d L F2 H' x kp dx lv kvs2∧Stp kp F H F2 H'∧RepL K F2 ((List.range (i + 1)).map fun j=>encB (bwW d (bpF d m) rest (j + 1))) ys'∧kvs2.length ≤ kvs.length + (i + 1) * cn m,
        fun ys' σ' H' ⟨o',F',kvs',w1,w2,w3,w4,w5,w6,w7⟩=>⟨n - (i + 1),by omega,o',F',kvs',w1,w2,w3,w4,w5,w6,w7,hi,rfl⟩,?_⟩
      rintro y H' ⟨rfl,rfl⟩
      dsimp only [zeS,zjY,List.set_cons_succ,List.set_cons_zero]
      rw [if_pos rfl]
      have rr:Rep K F2 (.tup (rest.map .int)) (.ref r):=Rep.mono S2.ff _ hr
      have mul:(i + 1) * cn m=i * cn m + cn m:=by rw [Nat.add_mul,Nat.one_mul]
      have mle:i * cn m + cn m ≤ n * cn m:=by rw [← mul]; exact Nat.mul_le_mul_right _ (by omega)
      refine ⟨.ref x,rfl,x,dx,_,rfl,K2.hx,rfl,.ref r,rfl,.int (1 + i),rfl,x,kp,dx,r,lv,F2,kvs2,rest,i + 1,?_,K2,rr,hl,ht,by omega,by omega,by omega,fun v F3 H3 kvs3 s3 K3 l3 r3=>?_⟩
      · show [V.ref x,.ref r,.int (1 + (i:Int))]=_
        rw [show (1:Int) + (i:Int)=((i + 1:Nat):Int) by omega]
      · have hD3:=s3.hh D _ Dk hD2
        have fD3:=s3.nw D _ fD2 hD2
        have yl:=R2.length
        rw [List.length_map,List.length_range] at yl
        refine ⟨hD3,by rw [yl,sizeLine_eq]; omega,some (.int (1 + i)),F3,kvs3,rfl,zaj,fD3,K3.side fD3 Dx Dk,?_,?_,by omega⟩
        · have:=S2.trans s3 K3.fk
          exact ⟨this.ff,fun b u n q=>by rw [zai (zaq q hD)]; exact this.hh b u n q,this.nw⟩
        · rw [List.range_succ,List.map_append]
          exact (R2.mono s3.ff).append (.cons r3 .nil)
    · refine .inl ⟨hi,?_⟩
      have ei:i=n:=by omega
      subst ei
      obtain ⟨ms,ems⟩:∃ ms,ms=(List.range i).map fun j=>bwW d (bpF d m) rest (j + 1):=⟨_,rfl⟩
      have em:(List.range i).map (fun j=>encB (bwW d (bpF d m) rest (j + 1)))=ms.map encB:=by rw [ems,List.map_map]; rfl
      rw [em] at R2
      have lm:ms.length=i:=by rw [ems,List.length_map,List.length_range]
      cases ms with
      | nil=>simp at lm; omega
      | cons b l =>
        refine ⟨D,F2,ys,encB b,l.map encB,rfl,.inl hD2,K2.fh,R2,zpU (b :: l),fun j v hv hj=>?_⟩
        rw [zn6] at hj
        have eb:bpF d (m + 1) rest=minB l b:=by
          show least ((List.range (rest.length - 1)).map fun j=>bwW d (bpF d m) rest (j + 1))=_
          rw [show rest.length - 1=i by omega,← ems]; rfl
        have rv:Rep K F2 (encB (bpF d (m + 1) rest)) v:=by
          rw [eb,← hj]
          have jl:=(List.getElem?_eq_some_iff.mp hv).1
          rw [R2.length] at jl
          have gd:((b :: l).map encB)[j]?=some (((b :: l).map encB).getD j .non):=by rw [List.getD_eq_getElem?_getD,List.getElem?_eq_getElem jl]; rfl
          obtain ⟨v',h1,h2⟩:=R2.get gd
          rw [hv] at h1
          cases h1
          exact h2
        have rr:Rep K F2 (.tup (rest.map .int)) (.ref r):=Rep.mono S2.ff _ hr
        have hk2:=zk2 K2.fh rr
        refine ⟨.ref x,rfl,x,_,dx,_,.ref kp,rfl,K2.hx,hC,hN,rfl,.ref r,rfl,kp,_,rfl,DPut.t K2.hk hk2 (by rw [sizeLine_eq]; omega),?_⟩
        have xk:x ≠ kp:=fun e=>by have h1:=K2.hx; rw [e,K2.hk] at h1; cases h1
        have rk:r ≠ kp:=fun e=>by rw [e,K2.hk] at hk2; cases hk2
        have rne:rest.map (Sum.inl:Int→Key) ≠ []:=fun e=>by have:=congrArg List.length e; simp at this; rw [this] at hl; simp at hl
        have K4:KPs K c d L F2 (upd H2 kp (.dT (putK kvs2 (rest.map Sum.inl) v))) x kp dx lv (putK kvs2 (rest.map Sum.inl) v) :=
          ⟨fun b u q=>by rw [zai (zaq q K2.fk)]; exact K2.fh _ _ q,by rw [zai xk]; exact K2.hx,zaj,K2.fx,K2.fk,K2.rl,fun e he=>by
            rcases znA he with z | z
            · exact K2.good e z
            · rw [z]
              refine ⟨rest,rfl,?_⟩
              rw [show rest.length / 2=m + 1 by omega]
              exact rv,by
            obtain ⟨w,hw⟩:=K2.emp
            exact ⟨w,by rw [zjy,if_neg (fun e=>rne e.symm)]; exact hw⟩⟩
        have gd:=DGet.t (k:=rest.map Sum.inl) K4.hk (by rw [zai rk]; exact hk2)
        rw [zjy,if_pos rfl] at gd
        refine ⟨.ref x,rfl,x,_,dx,_,.ref kp,rfl,K4.hx,hC,hN,rfl,.ref r,rfl,kp,v,rfl,gd,?_⟩
        refine fin v F2 _ _ ⟨S2.ff,fun b u n q=>by rw [zai n]; exact S2.hh b u n q,S2.nw⟩ K4 ?_ rv
        have:=zek kvs2 (rest.map Sum.inl) v
        omega
end
end PM
namespace L2
open PySem PySem.Spec PyProof.Rows
section
variable {P:Program} {w:World} {K:PySem.W.Frag} {mg:Str→Option Value} {base:Heap} {CX:CXT} {k:Nat} {m:Str} {C:Addr} {ps:List Str} {sp sp':Sp}
theorem HasM.imp (G:HasM P w K mg base CX k m C ps sp) (h:∀ vs H Q E,sp' vs H Q E→sp vs H Q E):HasM P w K mg base CX k m C ps sp':=by
  obtain ⟨f,fd,a,b,F,B⟩:=G.ex
  exact ⟨f,fd,a,b,F.imp h,B⟩
end
end L2
namespace PM
open PySem L2
section
variable {K:Kx} {c m:Nat} {d:Int→Int→Int} {L:D}
def tsI (K:Kx):TS:=tSeq (sFld K.f (tVar 0) (tVar 1) "lengths") (sFld K.f (tVar 0) (zol (tTup tNil) (tTup (zby (tC (.int 0)) (zby (tTup tNil) tNil)))) "known")
variable (K:Kx) (c:Nat) (d:Int→Int→Int) (L:D) in
def spKI:Sp:=fun vs H Q _=>∃ (x dx:Addr) (F Hb:Hp) (lv:V),vs = [.ref x,lv]∧H=upd (upd Hb dx (.own x)) x (.ins (K.ca c) dx [])∧Hb x=none∧Hb dx=none∧dx ≠ x∧Same F Hb∧Rep K F L lv ∧
  ∀ (F' H':Hp) (kp:Addr) (kvs:List (List Key × V)),Ext F Hb F' H'→KPs K c d L F' H' x kp dx lv kvs→kvs.length ≤ 1→Hb kp=none→Q .non H'
theorem i_ok (hC:Cls K.f (K.ca c)) (hL:NoAttr K.f (K.ca c) "lengths") (hN:NoAttr K.f (K.ca c) "known") {vs:List V} {H:Hp} {Q:VK} {E:XK} (h:spKI K c d L vs H Q E):tsI K { nx:=fun _ H'=>Q .non H',rt:=Q } (L2.start ["self","lengths"] vs) H:=by
  obtain ⟨x,dx,F,Hb,lv,rfl,rfl,hx,hdx,ne,s,rl,fin⟩:=h
  refine ⟨lv,rfl,.ref x,rfl,x,_,dx,[],rfl,zaj,hC,hL,by decide,fun kp hkp=>?_⟩
  have e1:upd (upd (upd Hb dx (.own x)) x (.ins (K.ca c) dx [])) x (.ins (K.ca c) dx (putF "lengths" lv []))=upd (upd Hb dx (.own x)) x (.ins (K.ca c) dx [("lengths",lv)]):=by rw [zpC]; rfl
  rw [e1] at hkp ⊢
  have kx:kp ≠ x:=fun e=>by rw [e,zaj] at hkp; cases hkp
  rw [zai kx] at hkp
  have kd:kp ≠ dx:=fun e=>by rw [e,zaj] at hkp; cases hkp
  rw [zai kd] at hkp
  have E1:Ext F Hb F (upd (upd (upd Hb dx (.own x)) x (.ins (K.ca c) dx [("lengths",lv)])) kp (.dT [])):=by
    have a1:Ext F Hb F (upd Hb dx (.own x)):=.newO s hdx
    have a2:=a1.trans (.newO (o:=.ins (K.ca c) dx [("lengths",lv)]) a1.fh (by rw [zai (Ne.symm ne)]; exact hx))
    exact a2.trans (.newO (o:=.dT []) a2.fh (by rw [zai kx,zai kd]; exact hkp))
  refine ⟨by decide,fun p hp=>?_⟩
  have E2:Ext F Hb (upd F p (.tup [])) (upd _ p (.tup [])):=E1.trans (.new E1.fh hp)
  refine ⟨by decide,fun q hq=>⟨by show 2 ≤ sizeLine; decide,fun w hw=>?_⟩⟩
  have E3:=E2.trans (.new (o:=.tup []) E2.fh hq)
  have E4:=E3.trans (.new (o:=.tup [.int 0,.ref q]) E3.fh hw)
  have pq:p ≠ q:=fun e=>by rw [← e,zaj] at hq; cases hq
  have pw:p ≠ w:=fun e=>by rw [← e,zai pq,zaj] at hw; cases hw
  have qw:q ≠ w:=fun e=>by rw [← e,zaj] at hw; cases hw
  have kpp:kp ≠ p:=fun e=>by rw [← e,zaj] at hp; cases hp
  have kq:kp ≠ q:=fun e=>by rw [← e,zai kpp,zaj] at hq; cases hq
  have kw:kp ≠ w:=fun e=>by rw [← e,zai kq,zai kpp,zaj] at hw; cases hw
  have xp:x ≠ p:=fun e=>by rw [← e,zai (Ne.symm kx),zaj] at hp; cases hp
  have xq:x ≠ q:=fun e=>by rw [← e,zai xp,zai (Ne.symm kx),zaj] at hq; cases hq
  have xw:x ≠ w:=fun e=>by rw [← e,zai xq,zai xp,zai (Ne.symm kx),zaj] at hw; cases hw
  refine ⟨by rw [zai kw,zai kq,zai kpp,zaj],[],p,.ref w,rfl,by rw [zai pw,zai pq,zaj]; rfl,.ref x,rfl,x,K.ca c,dx,[("lengths",lv)],rfl,?_,hC,hN,by show 1 < 1000; decide,?_⟩
  · rw [zai (Ne.symm kx),zai xw,zai xq,zai xp,zai (Ne.symm kx),zaj]
  · have fx:F x=none:=s.free hx
    have fk:F kp=none:=s.free hkp
    have f4x:upd (upd (upd F p (.tup [])) q (.tup [])) w (.tup [.int 0,.ref q]) x=none:=by rw [zai xw,zai xq,zai xp]; exact fx
    have f4k:upd (upd (upd F p (.tup [])) q (.tup [])) w (.tup [.int 0,.ref q]) kp=none:=by rw [zai kw,zai kq,zai kpp]; exact fk
    refine fin (upd (upd (upd F p (.tup [])) q (.tup [])) w (.tup [.int 0,.ref q])) _ kp [([],.ref w)] ?_ ⟨?_,?_,?_,f4x,f4k,Rep.mono E4.ff _ rl,?_,⟨.ref w,rfl⟩⟩ (Nat.le_refl 1) hkp
    · refine ⟨E4.ff,fun b o z=>?_,fun b o z=>?_,E4.nw⟩
      · rw [zai (zaq z hx),zai (zaq z hkp)]; exact E4.hh b o z
      · rw [zai (zaq z f4x),zai (zaq z f4k)]; exact E4.fh b o z
    · intro b o z
      rw [zai (zaq z f4x),zai (zaq z f4k)]; exact E4.fh b o z
    · rw [zaj]; rfl
    · rw [zai kx,zaj]
    · intro e he
      rw [List.mem_singleton.mp he]
      refine ⟨[],rfl,?_⟩
      show Rep K _ (.tup [.int 0,.tup []]) (.ref w)
      simp only [Rep]
      exact ⟨w,_,rfl,zaj,.cons (by simp only [Rep]) (.cons (by simp only [Rep]; exact ⟨q,[],rfl,by rw [zai qw,zaj],.nil⟩) .nil)⟩
variable (K:Kx) (c:Nat) in
def spIu (_:Unit):Sp:=fun vs H Q E=>∃ (d:Int→Int→Int) (L:D),spKI K c d L vs H Q E
variable (K:Kx) (c:Nat) in
def spBm (m:Nat):Sp:=fun vs H Q E=>∃ (d:Int→Int→Int) (L:D),spKB K c d L m vs H Q E
variable (K:Kx) (c:Nat) in
def spWm (m:Nat):Sp:=fun vs H Q E=>∃ (d:Int→Int→Int) (L:D),spKW K c d L m vs H Q E
variable (K:Kx) (c:Nat) in
def spBu (_:Unit):Sp:=fun vs H Q E=>∃ m,m ≤ 6∧spBm K c m vs H Q E
def zpk (K:Kx) (c:Nat) (E1 E2:XK):TE :=
  tCB (fun xs H Q=>∃ p ys,xs = [.ref p]∧(SqL K.f H p ys∨SqT K.f H p ys)∧∀ l,H l=none→Q (.ref l) (upd H l (.lst ys)))
    (zby (tOp (rIxT K.f) (zla (K.ca c) "best" (spBu K c ()) [] E2 (zoJ (K.ca c) (spIu K c ()) [] E1 (zby (tVar 0) tNil))
      (zby (tCB (fun xs H Q=>∃ p ys,xs = [.ref p]∧((SqL K.f H p ys∧∀ l,H l=none→Q (.ref l) (upd H l (.tup ys)))∨(SqT K.f H p ys∧Q (.ref p) H))) (zby (tCB zju (zby (tVar 1) tNil)) tNil)) tNil)) (tC (.int 1))) tNil)
def srt (ns:List Int):List Int:=ns.mergeSort fun a b=>decide (a ≤ b)
def dOf (L:D) (i j:Int):Int:=match (oIxL L (.int i)).bind fun r=>oIxL r (.int j) with | some (.int x)=>x | _=>0
def zdv (L:D) (ns:List Int):List (Int × Int):=(bpF (dOf L) (ns.length / 2) (srt ns)).2
def zhX (δ:En):R D:=match δ[(0:Nat)]?,δ[(1:Nat)]? with
  | some (.v L),some (.v (.lst l))=>(match asIs l with | some ns=>ifC (ns.length % 2=0∧ns.length ≤ 12∧zlE L (dOf L) ns) (.ok (.lst ((zdv L ns).map zbZ))) .no | none=>.no)
  | _,_=>.no
theorem zq1:∀ m,m ≤ 6→cn m ≤ 20000
  | 0,_=>by decide
  | 1,_=>by decide
  | 2,_=>by decide
  | 3,_=>by decide
  | 4,_=>by decide
  | 5,_=>by decide
  | 6,_=>by decide
  | n + 7,h=>by omega
theorem zmw {XO:XOT} {E:L2.St→XK} {E1 E2:XK}:SEo K XO E (zpk K c E1 E2) zhX:=by
  intro Λ F0 H0 F H σ δ Q I a
  unfold zhX at a
  split at a
  case h_2=>exact a.elim
  rename_i L l q0 q1
  split at a
  case h_2=>exact a.elim
  rename_i ns qn
  rw [zbB qn] at q1
  unfold ifC at a
  split at a
  case isFalse=>exact a.elim
  rename_i hc
  obtain ⟨h2,h12,ht⟩:=hc
  have s0:=I.slot 0
  rw [q0] at s0
  obtain ⟨u0,e0,r0⟩:=s0
  have s1:=I.slot 1
  rw [q1] at s1
  obtain ⟨u1,e1,r1⟩:=s1
  simp only [Rep] at r1
  obtain ⟨p1,vs,rfl,hp1,hv1⟩:=r1
  rw [zbp hv1] at hp1
  refine ⟨u0,e0,fun x dx hx hdx ne=>⟨dOf L,L,x,dx,F,H,u0,rfl,rfl,hx,hdx,ne,I.ext.fh,r0,fun F1 H1 kp kvs x1 K1 kl hkp=>⟨rfl,x,dx,_,rfl,K1.hx,rfl,?_⟩⟩⟩
  have hp2:Rd H1 p1 (.lst (ns.map V.int)):=Same.rd (x1.ff.trans x1.fh) (by first | exact hp1 | exact .inl hp1)
  refine ⟨.ref p1,e1,p1,ns,rfl,hp2,by omega,fun w hw=>⟨w,(srt ns).map V.int,rfl,.inl ⟨.inl (.inl zaj),fun t htt=>?_⟩⟩⟩
  have y1:Ext F1 H1 F1 (upd H1 w (.lst ((srt ns).map V.int))):=.newO x1.fh hw
  have y2:=y1.trans (.new (o:=.tup ((srt ns).map V.int)) y1.fh htt)
  have rt:Rep K (upd F1 t (.tup ((srt ns).map V.int))) (.tup ((srt ns).map .int)) (.ref t):=by
    simp only [Rep]
    exact ⟨t,_,rfl,zaj,RepL.ints⟩
  have sl:(srt ns).length=ns.length:=List.length_mergeSort ..
  have m6:ns.length / 2 ≤ 6:=by omega
  have cl:=zq1 _ m6
  refine ⟨ns.length / 2,m6,dOf L,L,x,kp,dx,t,u0,_,kvs,srt ns,rfl,K1.ext y2,rt,by omega,fun i hi j hj=>ht i (List.mem_mergeSort.mp hi) j (List.mem_mergeSort.mp hj),by omega,fun v F3 H3 kvs3 s3 K3 l3 r3=>?_⟩
  have x3:Ext F H F3 H3:=by
    have z:=x1.trans y2
    refine ⟨z.ff.trans s3.ff,fun b o hb=>s3.hh b o (fun e=>by rw [e,hkp] at hb; cases hb) (z.hh b o hb),K3.fh,fun b o h1 h2=>s3.nw b o (z.nw b o h1 h2) (z.hh b o h2)⟩
  refine zcp F3 H3 v (.int 1) (encB (bpF (dOf L) (ns.length / 2) (srt ns))) (.int 1) (.tup ((zdv L ns).map zbZ)) _ K3.fh (r3.top K3.fh) (show Rep K F3 (.int 1) (.int 1) by simp only [Rep]) rfl fun v4 F4 H4 e4 r4=>?_
  simp only [Rep] at r4
  obtain ⟨q,ws,rfl,hq,hws⟩:=r4
  refine ⟨q,ws,rfl,.inr (.inl (.inl (e4.fh _ _ hq))),fun lq hlq=>?_⟩
  have x4:=x3.trans e4
  exact a F4 _ (x4.trans (.newO (o:=.lst ws) e4.fh hlq)) lq (e4.fh.free hlq) (x4.hh.free hlq) ⟨ws,zaj,hws⟩
end
end PM
namespace L2
open PySem PySem.Spec PyProof.Rows
section
variable {prog:Program} {w:World} {K:Type} [DecidableEq K] {knd:KeyKind prog w K} {A:Around} {E:Value→Shared→Prop} {s:Shared}
theorem zmk {v:Addr} {Q:Bool→Shared→Prop} (hv:s.TypeIs (.ref v) "dict") (h:Q false s):wpAny (model prog w) A (Builtin.List.listLengthHint (.ref v)) Q E s:=by
  unfold Builtin.List.listLengthHint
  refine wpAny_bind (wpAny_specialOf hv PySem.F.slot_dict_len.lookup ?_)
  generalize hid:("dict.__len__" : String)=id0
  wp_delta
  rw [show splitId id0=some ("dict","__len__") from by subst hid; decide +kernel]
  subst hid
  refine wpAny_bind (wpAny_isInstance (T:="dict") (b:=true) hv (by rw [isSubtype_type]; kernel_rfl) ?_)
  refine wpAny_ite_split (fun c=>absurd c (by decide)) (fun _=>?_)
  refine wpAny_ite_split (fun _=>?_) (fun c=>absurd (show _=true by decide +kernel) c)
  exact wpAny_bind (wpAny_typeOf hv (wpAny_pure h))
theorem zno {R:Result→Shared→Prop} {a:Addr} {kvs:List (K × Value)} {ep:Nat} (hh:A.handled=none) (hm:(a == sysModules)=false) (hd:s.heap.DictAt knd a kvs ep) (hlen:kvs.length ≤ sizeLine) (S:Addr) (res:Value) (c₀:Nat) (hS:s.heap.get? S=some (zhc #[] c₀))
    (hR:∀ h' tk acc c,(∀ b o,b ≠ S→s.heap.get? b=some o→h'.get? b=some o)→h'.get? S=some (zhc acc c)→ItemsOf (fun i x=>∃ k y,kvs[i]?=some (k,y)∧knd.is k x=true) acc kvs.length→R (.ok (.ret res)) { s with heap:=h',toks:=tk }) :
    wpAny (model prog w) A.in1 (Builtin.List.listExtendWith (.ref S) (.ref a) res) (fun fin s'=>match fin with | .done f=>R (.ok f) s' | .again c'=>c'.quiet=true∧codeAny (model prog w) A c' R s') (fun e s'=>R (.error e) s') s:=by
  obtain ⟨oa,es,ga,ca,_⟩:=id hd
  have Sl:S < s.heap.objs.size:=Heap.lt_size hS
  have SI:S ≠ s.heap.objs.size:=Nat.ne_of_lt Sl
  have al:a < s.heap.objs.size:=Heap.lt_size ga
  have Sa:S ≠ a:=fun e=>by
    obtain ⟨c1,c2⟩:=ca
    rw [e,ga] at hS; cases hS; simp at c1
  have nf:S ∉ [s.heap.objs.size,a]:=by
    simp only [List.mem_cons,List.not_mem_nil,or_false,not_or]; exact ⟨SI,Sa⟩
  have W:=(Walks.dictKeys (prog:=prog) (w:=w) (A:=A.in1) (knd:=knd) hh s.heap.objs.size a (Nat.ne_of_lt al) kvs ep).toS
  have key:∀ (h:Heap) (c₁ tk:Nat),h.IsKeyIter s.heap.objs.size a 0 kvs.length ep→(∀ b o,b ≠ S→s.heap.get? b=some o→h.get? b=some o)→h.get? S=some (zhc #[] c₁)→codeAny (model prog w) A (.builtin "list.extend.loop" ⟨[.ref S,.ref s.heap.objs.size,res],[]⟩) R { s with heap:=h,toks:=tk }:=by
    intro h c₁ tk hit hk hS₁
    refine codeAny_extend_loopS W hlen S nf res kvs.length 0 _ #[] c₁ rfl (Nat.zero_le _) ⟨hit,hd.at' fun o e=>hk a o (Ne.symm Sa) e⟩ hS₁ (ItemsOf.nil _) fun s' acc c mv hS' hacc=>?_
    rw [Moved.eq_with mv]
    refine hR s'.heap s'.toks acc c (fun b o hb e=>mv.heap b o (fun m=>?_) (hk b o hb e)) hS' hacc
    rcases List.mem_cons.mp m with e' | m
    · exact hb e'
    · exact absurd (Heap.lt_size e) (by rw [List.mem_singleton.mp m]; exact Nat.lt_irrefl _)
  have tv:s.TypeIs (.ref a) "dict":=⟨oa,ga,ca.1⟩
  unfold Builtin.List.listExtendWith
  refine wpAny_bind (wpAny_typeOf (T:="dict") tv ?_)
  have e1:Builtin.List.listSameRef (.ref S) (.ref a)=false:=by simp [Builtin.List.listSameRef,Sa]
  have e2:(Value.type "dict" == Value.type "list")=false:=by decide
  have e3:(Value.type "dict" == Value.type "tuple")=false:=by decide
  simp only [e1,e2,e3,Bool.or_false,Bool.false_eq_true,if_false]
  refine wpAny_bind (wpAny_pyIter_dict hm hd ?_)
  obtain ⟨itO,eit⟩:∃ itO:Obj,itO = { cls:=.type "dict_keyiterator",data:=.fields #[.ref a,.int 0 0,.int kvs.length 0,.int ep 0] }:=⟨_,rfl⟩
  have it0:(s.heap.push itO).IsKeyIter s.heap.objs.size a 0 kvs.length ep:=⟨itO,Heap.get?_push_size _ (by rw [eit]; rfl),by rw [eit],by rw [eit]; rfl⟩
  rw [← eit]
  refine wpAny_bind (wpAny_holding (zmk ⟨oa,Heap.get?_push_of_some _ ga,ca.1⟩ ?_))
  have hS₁:(s.heap.push itO).get? S=some (zhc #[] c₀):=Heap.get?_push_of_some _ hS
  refine wpAny_ite_split (fun _=>?_) (fun c=>absurd (show _=true by decide +kernel) c)
  refine wpAny_bind (wpAny_rule (wpAny_bind ?_))
  show wpAny _ A.in1 (updateSeq S (·.push .none) >>= fun _=>updateSeq S (·.pop)) _ _ _
  refine wpAny_bind (wpAny_updateSeq hS₁ rfl ?_)
  have hS₂:=Heap.get?_update_self (Obj.mapSeq (·.push Value.none)) hS₁ rfl
  refine wpAny_updateSeq (hz:=by seq_fits) hS₂ rfl ?_
  have hS₃:=Heap.get?_update_self (Obj.mapSeq (·.pop)) hS₂ rfl
  refine wpAny_pure ⟨plainId_quiet F.plain_extend_loop _,key _ _ _ ?_ (fun b o hb e=>?_) hS₃⟩
  · exact it0.at fun o e=>(Heap.get?_update_other _ _ SI).trans ((Heap.get?_update_other _ _ SI).trans e)
  · exact (Heap.get?_update_other _ _ (Ne.symm hb)).trans ((Heap.get?_update_other _ _ (Ne.symm hb)).trans (Heap.get?_push_of_some _ e))
theorem zmi {Q:Value→Shared→Prop} {a:Addr} {kvs:List (K × Value)} {ep:Nat} (hh:A.handled=none) (hm:(a == sysModules)=false) (hd:s.heap.DictAt knd a kvs ep) (hlen:kvs.length ≤ sizeLine)
    (hQ:∀ h' tk acc c,(∀ b o,s.heap.get? b=some o→h'.get? b=some o)→h'.get? s.heap.objs.size=some (zhc acc c)→ItemsOf (fun i x=>∃ k y,kvs[i]?=some (k,y)∧knd.is k x=true) acc kvs.length→Q (.ref s.heap.objs.size) { s with heap:=h',toks:=tk }) :
    wpAny (model prog w) A (call (.type "list") [.ref a]) Q E s:=by
  refine callType_codes (Q₁:=fun ob s₁=>ob = .ref s.heap.objs.size∧s₁ = { s with heap:=s.heap.push (zhc #[] 0) }) F.called_list (F.typeCall_list_1 _) F.entry_list_init (code_list_new _ ⟨rfl,rfl⟩) fun ob s₁ h₁=>?_
  obtain ⟨rfl,rfl⟩:=h₁
  have gS:(s.heap.push (zhc #[] 0)).get? s.heap.objs.size=some (zhc #[] 0):=Heap.get?_push_size _ rfl
  obtain ⟨oa,es,ga,ra⟩:=id hd
  have aS:a ≠ s.heap.objs.size:=Nat.ne_of_lt (Heap.lt_size ga)
  refine ⟨⟨_,gS,rfl⟩,F.args_list_init_2 _ _,?_⟩
  show wpAny _ A.in1.in1 (Builtin.List.listItems (.ref s.heap.objs.size) >>= fun old=>Builtin.List.listUpdate (.ref s.heap.objs.size) (fun _=>#[]) >>= fun _=>letGo old.toList.reverse >>= fun _=>Builtin.List.listExtendWith (.ref s.heap.objs.size) (.ref a) .none) _ _ _
  refine wpAny_bind ?_
  unfold Builtin.List.listItems
  refine wpAny_bind (wpAny_seqItems gS rfl (wpAny_pure ?_))
  show wpAny _ A.in1.in1 (updateSeq s.heap.objs.size (fun _=>#[]) >>= fun _=>letGo (#[]:Array Value).toList.reverse >>= fun _=>Builtin.List.listExtendWith (.ref s.heap.objs.size) (.ref a) .none) _ _ _
  refine wpAny_bind (wpAny_updateSeq gS rfl ?_)
  have g2:=Heap.get?_update_self (Obj.mapSeq (fun _=>(#[]:Array Value))) gS rfl
  have oth:∀ b o,b ≠ s.heap.objs.size→s.heap.get? b=some o→((s.heap.push (zhc #[] 0)).update s.heap.objs.size (Obj.mapSeq (fun _=>(#[]:Array Value)))).get? b=some o:=fun b o hb e=>(Heap.get?_update_other _ _ (Ne.symm hb)).trans (Heap.get?_push_of_some _ e)
  refine wpAny_bind (wpAny_letGo ?_)
  refine zno (A:=A.in1) hh (knd:=knd) (kvs:=kvs) (ep:=ep) (a:=a) hm ⟨oa,es,oth a _ aS ga,ra⟩ hlen _ .none _ g2 fun h' tk acc c hk hS' hacc=>?_
  exact ⟨rfl,hQ h' tk acc c (fun b o e=>hk b o (Nat.ne_of_lt (Heap.lt_size e)) (oth b o (Nat.ne_of_lt (Heap.lt_size e)) e)) hS' hacc⟩
end
section
variable {X:Cx}
def zpZ:List V→Hp→VK→Prop:=fun xs H Q=>∃ (a:Addr) (kvs:List (Key × V)),xs = [.ref a]∧Rd H a (.dK kvs)∧∀ l,H l=none→Q (.ref l) (upd H l (.lst (kvs.map fun kv=>kV kv.1)))
theorem zmA (hc:X.calm=true):zdI X (.type "list") zpZ:=by
  intro pins s σ H xs us Q I r h
  obtain ⟨a,kvs,rfl,ha,q⟩:=h
  obtain ⟨u,rfl,rx⟩:=zey r
  cases rx
  obtain ⟨z,sm,vs,rv,dd⟩:=zi7 I.hok ha
  obtain ⟨ep,da⟩:=dd.dictAt
  have ln:=rv.len
  refine zmi (knd:=zbt X.prog X.w) (I.ok.hd hc) sm da (by rw [ln]; exact z) fun h' tk acc c kp hS items=>?_
  refine ⟨.ref s.heap.objs.size,_,?_,rfl,q _ (I.hok.fresh (Nat.le_refl _))⟩
  obtain ⟨i1,i2⟩:=items
  refine I.laid kp (Nat.le_refl _) ⟨by rw [List.length_map]; exact z,acc.toList,c,?_,by simpa using hS⟩
  refine zk5 (by rw [List.length_map,← ln]; simpa using i1.symm) fun i x y hx hy=>?_
  rw [List.getElem?_map] at hx
  obtain ⟨⟨key,w1⟩,e1,e2⟩:=Option.map_eq_some_iff.mp hx
  obtain ⟨w2,e3,e4⟩:=rv.at e1
  obtain ⟨k',y',e5,e6⟩:=i2 i y (by simpa using hy)
  rw [e3] at e5; cases e5; cases e2
  exact zly e6
end
end L2
namespace PM
open PySem L2
section
variable {K:Kx} {XO:XOT} {E:L2.St→XK}
theorem zm1 {td:TE} {md:En→R D} (h:SEr K XO E td md):SEo K XO E (tCB zpZ (zby td tNil)) (zqN zqB md):=by
  intro Λ F0 H0 F H σ δ Q I a
  refine h Λ F0 H0 F H σ δ _ I (a.bind.imp fun d F1 H1 e1 a1 x rx=>?_)
  cases d with
  | dct ks l =>
    obtain ⟨p,kvs,rfl,h1,h2,h3⟩:=rx
    refine ⟨p,kvs,rfl,.inl h1,fun q hq=>?_⟩
    refine a1 F1 _ (.newO e1.fh hq) q (e1.fh.free hq) (e1.hh.free hq) ⟨_,zaj,?_⟩
    have:kvs.map (fun kv=>kV kv.1)=ks.map kV:=by rw [← h2,List.map_map]; rfl
    rw [this]
    exact zlt ks
  | _=>exact a1.elim
def zeF (j i:Nat) (δ:En):O:=match δ[j]?,δ[i]? with
  | some (.o (.lst r)),some (.o (.lst l))=>if i=j then .no else (match l[l.length - 1]? with | some d=>if r.length < 100000 then .nx ((δ.set i (.o (.lst l.dropLast))).set j (.o (.lst (r ++ [d])))) else .no | none=>.no)
  | _,_=>.no
theorem zkK {j i:Nat}:SS K XO E (zkS (tBM K.f "list" ziY (tVar j) (zby (tBM0 K.f "list" rPop (tVar i)) tNil))) (zeF j i):=by
  intro Λ F0 H0 F H σ δ Dn I a
  unfold zeF at a
  split at a
  · rename_i r l q1 q2
    split at a
    · exact a.elim
    · rename_i hij
      obtain ⟨pr,t1,ws,t2,t3⟩:=I.own q1
      obtain ⟨p,s1,vs,s2,s3⟩:=I.own q2
      cases e:l[l.length - 1]? with
      | none=>simp only [e] at a; exact a.elim
      | some d =>
        simp only [e] at a
        split at a
        · rename_i hr
          obtain ⟨v,hv,rv⟩:=s3.get e
          have I2:=I.chg (u:=.lst vs.dropLast) (d':=.lst l.dropLast) q2 s1 ⟨_,zaj,s3.dropLast⟩
          have q1':(δ.set i (.o (.lst l.dropLast)))[j]?=some (.o (.lst r)):=by rw [List.getElem?_set_ne hij]; exact q1
          obtain ⟨pr2,u1,ws2,u2,u3⟩:=I2.own q1'
          have epr:pr2=pr:=by rw [t1] at u1; cases u1; rfl
          subst epr
          refine ⟨_,t1,.inl ⟨rfl,ws,.inl (.inl t2)⟩,?_⟩
          refine ⟨_,s1,.inl ⟨rfl,vs,.inl (.inl s2)⟩,p,vs,v,rfl,rfl,s2,by rw [s3.length]; exact hv,?_⟩
          refine ⟨pr2,ws2,v,rfl,rfl,u2,by rw [u3.length]; exact zmo (by omega),?_⟩
          exact a σ F _ (I2.chg q1' u1 ⟨_,zaj,u3.append (.cons rv .nil)⟩)
        · exact a.elim
  · exact a.elim
end
end PM
namespace PM
open PySem L2
section
variable {K:Kx} {XO:XOT} {E:L2.St→XK} {Λ:List (Nat × Addr × HO)} {F0 H0 F H:Hp} {σ:L2.St} {δ:En}
theorem EnvOk.frzD {i:Nat} {ks:List Key} {l:List D} {a:Addr} {kvs:List (Key × V)} {o:Obj} (I:EnvOk K Λ F0 H0 F H σ δ) (hx:δ[i]?=some (.o (.dct ks l))) (ha:σ[i]?=some (some (.ref a))) (hk:H a=some (.dK kvs)) :
    EnvOk K Λ F0 H0 (upd F a (.frz o (.dK kvs))) (upd H a (.frz o (.dK kvs))) σ (δ.set i (.v (.fd ks l))):=by
  have hi:i < δ.length:=(List.getElem?_eq_some_iff.mp hx).1
  have z:=I.slot i
  rw [hx] at z
  obtain ⟨a',z1,z2,z3,z4⟩:=z
  rw [ha] at z1; cases z1
  obtain ⟨u,eu⟩:∃ u,u=HO.frz o (.dK kvs):=⟨_,rfl⟩
  rw [← eu]
  have ht:∀ b,b ≠ a→upd H a u b=H b:=fun b e=>zai e
  have hs:Same F (upd F a u):=Same.upd z3
  have sl:∀ j:Nat,i ≠ j→Sl.own δ[j]?=true→σ[j]? ≠ some (some (V.ref a)):=fun j hj h e=>I.dist i j a hj (by rw [hx]; rfl) h ha e
  refine ⟨⟨I.ext.ff.trans hs,fun b w q=>(by rw [ht b (zaq q z2)]; exact I.ext.hh b w q),fun b w q=>?_,fun p o h1 h2=>?_⟩,by simp [I.len],fun j=>?_,fun j k b hjk g1 g2 g3 g4=>?_,fun y hy=>?_,I.tabsOf (fun k ll h=>by
      by_cases e:i=k
      · subst e; rw [List.getElem?_set_self hi] at h; cases h
      · rw [List.getElem?_set_ne e] at h; exact ⟨h,rfl⟩) (fun k r bs T g1 g2 t f dj=>by
      have e:i ≠ k:=fun e=>by subst e; rw [hx] at g1; cases g1
      exact ⟨(t.mono hs (.refl _)).at' fun b hb=>ht b fun e'=>dj i a e (by rw [hx]; rfl) ha (e' ▸ hb),fun b hb=>by rw [zai (show b ≠ a from fun e'=>dj i a e (by rw [hx]; rfl) ha (e' ▸ hb))]; exact (f b hb).2⟩) fun k j ll r b bs _ _ _ _ ho hs=>.inl (by
      by_cases e:i=j
      · subst e; rw [List.getElem?_set_self hi] at ho; cases ho
      · rw [List.getElem?_set_ne e] at ho; exact ⟨ho,hs⟩)⟩
  · by_cases e:b=a
    · subst e; rw [zaj] at q ⊢; exact q
    · rw [zai e] at q; rw [ht b e]; exact I.ext.fh _ _ q
  · rw [zai (zaq h2 z2)]; exact I.ext.nw p o h1 h2
  · by_cases e:i=j
    · subst e
      rw [List.getElem?_set_self hi]
      refine ⟨.ref a,ha,?_⟩
      obtain ⟨kvs',h2,h3,h4⟩:=z4
      rw [hk] at h2; cases h2
      simp only [Rep]
      exact ⟨a,o,kvs,rfl,by rw [zaj,eu],h3,h4.mono hs⟩
    · rw [List.getElem?_set_ne e]
      have w:=I.slot j
      cases q:δ[j]? with
      | none=>trivial
      | some y =>
        rw [q] at w
        cases y with
        | no=>trivial
        | v d=>obtain ⟨v,w1,w2⟩:=w; exact ⟨v,w1,Rep.mono hs d w2⟩
        | o d =>
          obtain ⟨b,w1,w2,w3,w4⟩:=w
          exact ⟨b,w1,w2,by rw [zai (show b ≠ a from fun e'=>sl j e (by rw [q]; rfl) (by rw [w1,e']))]; exact w3,(w4.mono hs (.refl _)).at (ht b fun e'=>sl j e (by rw [q]; rfl) (by rw [w1,e']))⟩
        | p ll =>
          obtain ⟨r,bs,t1,t2,t3,t4,t5⟩:=I.tab q
          exact ⟨r,bs,t1,(t2.mono hs (.refl _)).at' fun b hb=>ht b fun e'=>t4 i a e (by rw [hx]; rfl) ha (e' ▸ hb),fun b hb=>⟨(t3 b hb).1,by rw [zai (show b ≠ a from fun e'=>t4 i a e (by rw [hx]; rfl) ha (e' ▸ hb))]; exact (t3 b hb).2⟩⟩
        | l d =>
          obtain ⟨b,w1,w2,w3,w4⟩:=w
          exact ⟨b,w1,w2,by rw [zai (show b ≠ a from fun e'=>sl j e (by rw [q]; rfl) (by rw [w1,e']))]; exact w3,(w4.mono hs (.refl _)).at (ht b fun e'=>sl j e (by rw [q]; rfl) (by rw [w1,e']))⟩
  · have ow:∀ k:Nat,Sl.own (δ.set i (.v (.fd ks l)))[k]?=true→Sl.own δ[k]?=true:=by
      intro k h
      by_cases e:i=k
      · subst e; rw [List.getElem?_set_self hi] at h; cases h
      · rw [List.getElem?_set_ne e] at h; exact h
    exact I.dist j k b hjk (ow j g1) (ow k g2) g3 g4
  · obtain ⟨⟨d2,g1⟩,g2,g3⟩:=I.lent y hy
    have n:i ≠ y.1:=by
      intro e
      rw [← e,hx] at g1
      cases g1
    exact ⟨⟨d2,by rw [List.getElem?_set_ne n]; exact g1⟩,g2,by rw [ht _ (fun e'=>sl y.1 n (by rw [g1]; rfl) (by rw [g2,e']))]; exact g3⟩
def zpw (i:Nat) (m:En→O) (δ:En):O:=match δ[i]? with | some (.o (.dct ks l))=>m (δ.set i (.v (.fd ks l))) | _=>.no
theorem zl5 {i:Nat} {r:List V→Hp→VK→Prop} {ix:List Nat} {n:Nat} {g:TG} {tc:Option TT} {te:TE} {m:En→O} (h:SS K XO E (tRet (tCB r (zby (zjx (znO (tVar i)) ix n g tc te) tNil))) m) :
    SS K XO E (tRet (tCB r (zby (zjx (znO (tFix (tVar i))) ix n g tc te) tNil))) (zpw i m):=by
  intro Λ F0 H0 F H σ δ Dn I a
  unfold zpw at a
  split at a
  · rename_i ks l q
    obtain ⟨p,s1,kvs,s2,s3,s4⟩:=I.own q
    refine ⟨.ref p,s1,p,kvs,rfl,s2,fun o=>?_⟩
    obtain ⟨v,hv,k⟩:=h Λ F0 H0 _ _ σ _ Dn (I.frzD (o:=o) q s1 s2) a
    rw [s1] at hv
    cases hv
    exact k
  · exact a.elim
end
end PM
namespace PM
open PySem L2
section
variable {K:Kx} {XO:XOT} {E:L2.St→XK} {Λ:List (Nat × Addr × HO)} {F0 H0 F H:Hp} {σ:L2.St} {δ:En} {t:TS} {m:En→O}
end
end PM
namespace L2
open PySem PySem.Spec PyProof.Rows
section
variable {X:Cx}
theorem ziu {l:Addr} {its:Array Value} {n:Nat} {x:Value} {e:Value→Bool} {j:Nat} (hj:j < its.size) (hit:e its[j]=true) (hz:its.size ≤ sizeLine):∀ k i:Nat,i + k=j→(∀ m (hm:m < its.size),i ≤ m→m < j→e its[m]=false) →
    Meets (Builtin.«list.remove.loop» ⟨[.ref l,x,rawInt i],[]⟩) (fun A R s=>s.heap.get? l=some ⟨.type "list",none,.seq its n,#[]⟩∧(∀ y,y ∈ its→SeqAt.EqAt A.in1 s y x (e y))∧R (.ok (.ret .none)) { s with heap:=s.heap.update l (Obj.mapSeq fun xs=>xs.eraseIdxIfInBounds j) })
  | 0,i,hk,hno=>by
    rintro prog w A R ⟨hp,g,d,tk,os⟩ ⟨hl,he,h⟩
    obtain rfl:i=j:=by omega
    wp_walk using wpAny_loadPart' hl
    rw [show its[((i:Nat):Int).toNat]?=some its[i] by simp [hj]]
    refine wpAny_bind (he its[i] (Array.getElem_mem hj) prog w _ _ ?_)
    rw [hit]
    have h2:=Nat.le_trans (MeetsSeq.size_erased its i) (Nat.le_succ_of_le hz)
    wp_walk using (wpAny_updateSeq hl rfl (hz:=hz) (_hz':=h2)),wpAny_loadPart' hl
    simpa using h
  | k + 1,i,hk,hno=>by
    rintro prog w A R ⟨hp,g,d,tk,os⟩ ⟨hl,he,h⟩
    have hi:i < its.size:=by omega
    wp_walk using wpAny_loadPart' hl
    rw [show its[((i:Nat):Int).toNat]?=some its[i] by simp [hi]]
    refine wpAny_bind (he its[i] (Array.getElem_mem hi) prog w _ _ ?_)
    rw [hno i hi (Nat.le_refl _) (by omega)]
    wp_walk
    have ih:=ziu (l:=l) (n:=n) (x:=x) hj hit hz k (i + 1) (by omega) (fun m hm h1 h2=>hno m hm (by omega) h2) prog w A R _ ⟨hl,he,h⟩
    refine ⟨plainId_quiet MeetsSeq.plain_remove_loop _,codeAny_builtin MeetsSeq.entry_remove_loop ?_⟩
    rw [Around.under_plainId MeetsSeq.plain_remove_loop _,show ((i:Int) + 1)=((i + 1:Nat):Int) by omega]
    exact ih
theorem zmr {l:Addr} {its:Array Value} {n:Nat} {x:Value} {e:Value→Bool} {j:Nat} (hj:j < its.size) (hit:e its[j]=true) (hno:∀ m (hm:m < its.size),m < j→e its[m]=false) (hz:its.size ≤ sizeLine) :
    Meets (Builtin.«list.remove» ⟨[.ref l,x],[]⟩) (fun A R s=>s.heap.get? l=some ⟨.type "list",none,.seq its n,#[]⟩∧(∀ y,y ∈ its→SeqAt.EqAt A.in1 s y x (e y))∧R (.ok (.ret .none)) { s with heap:=s.heap.update l (Obj.mapSeq fun xs=>xs.eraseIdxIfInBounds j) }):=by
  rintro prog w A R ⟨hp,g,d,tk,os⟩ ⟨hl,he,h⟩
  wp_walk using wpAny_loadPart' hl
  have go:=ziu (l:=l) (n:=n) (x:=x) hj hit hz j 0 (by omega) (fun m hm _ h2=>hno m hm h2) prog w A R _ ⟨hl,he,h⟩
  refine ⟨plainId_quiet MeetsSeq.plain_remove_loop _,codeAny_builtin MeetsSeq.entry_remove_loop ?_⟩
  rw [Around.under_plainId MeetsSeq.plain_remove_loop _]
  exact go
end
end L2
namespace PM
open PySem L2
section
variable {X:Cx} {K:Kx} {XO:XOT} {E:L2.St→XK} {te:TE} {me:En→R D} {ca:Nat→Addr} {an:Nat→Str}
open Classical in
def rInD (K:Kx) (neg:Bool):R2:=fun x y H Q=>∃ (F:Hp) (dx:D) (l:List D),Same F H∧Top K F H dx x∧Top K F H (.lst l) y∧zaG 7 dx=true∧zaG 8 (.lst l)=true∧Q (.bl (if neg=true then !decide (dx ∈ l) else decide (dx ∈ l))) H
open Classical in
theorem zn0 {dx:D} {l:List D} (px:zaG 7 dx=true) (pl:zaG 8 (.lst l)=true):((l.map (toPy 7)).any fun y=>PyData.eqv y (toPy 7 dx))=decide (dx ∈ l):=by
  have pl':=List.all_eq_true.mp (show l.all (zaG 7)=true from pl)
  rw [Bool.eq_iff_iff,List.any_map,List.any_eq_true,decide_eq_true_eq]
  constructor
  · rintro ⟨y,hy,h⟩
    have:PyData.eqv (toPy 7 y) (toPy 7 dx)=true:=h
    rw [zfR 7 y dx (pl' y hy) px] at this
    rw [← of_decide_eq_true this]; exact hy
  · intro h
    refine ⟨dx,h,?_⟩
    show PyData.eqv (toPy 7 dx) (toPy 7 dx)=true
    rw [zfR 7 dx dx px px]; simp
theorem zmJ (hu:X.A.units + 64 < cLine):OpR X (compareOp .NotIn) (rInD ⟨X.K,ca,an⟩ true):=by
  intro pins s σ H x y v u Q I rx ry h
  obtain ⟨F,dx,l,sm,tx,ty,px,py,q⟩:=h
  obtain ⟨as,ra⟩:=zc2 I sm px tx rx
  obtain ⟨bs,rb⟩:=zc2 I sm py ty ry
  obtain ⟨l1,l2⟩:=zce 7 dx px
  obtain ⟨m1,m2⟩:=zce 8 (.lst l) py
  simp only [toPy,PyData.canLay0,PyData.depth] at m1 m2
  refine SeqAt.notIn_list_reads rb ra m1 l1 (by omega) ?_
  rw [zn0 px py]
  exact ⟨.bl _,H,I,rfl,q⟩
open Classical in
def ze3 (x y:D):Option D:=match y with | .lst l=>ifC (zaG 7 x=true∧zaG 8 (.lst l)=true) (some (.bl (!decide (x ∈ l)))) none | _=>none
theorem zmz:SR K (rInD K true) ze3:=by
  intro F H x y dx dy d Q s hx hy e q
  unfold ze3 at e
  split at e
  · unfold ifC at e
    split at e
    · rename_i h
      cases e
      exact ⟨F,dx,_,s,hx,hy,h.1,h.2,q _ F H (.refl s) (by simp only [Rep]; rfl)⟩
    · cases e
  · cases e
def zjE (K:Kx):V→List V→Hp→VK→Prop:=fun x vs H Q=>∃ (p:Addr) (F:Hp) (xs:List V) (l:List D) (d:D) (v:V) (j:Nat),x = .ref p∧vs = [v]∧H p=some (.lst xs)∧Same F H∧RepL K F l xs∧Rep K F d v∧zaG 8 d=true∧l.all (zaG 8)=true∧l[j]?=some d∧(∀ m,m < j→l[m]? ≠ some d)∧Q .non (upd H p (.lst (xs.eraseIdx j)))
open Classical in
theorem zkO (hu:X.A.units + 64 < cLine):MtM X "list.remove" (zjE ⟨X.K,ca,an⟩):=by
  intro pins s σ H x vs v us Q I rx rv h
  obtain ⟨p,F,xs,l,d,dv,j,rfl,rfl,hH,sm,rl,rd,pd,pl,hj,hno,q⟩:=h
  cases rx
  obtain ⟨u,rfl,ru⟩:=rv.one
  obtain ⟨z,its,n,rs,hl,e⟩:=I.lstM hH
  have len:=rl.length
  obtain ⟨as,ra⟩:=zfG I sm 8 d dv u pd rd ru
  obtain ⟨l1,l2⟩:=zce 8 d pd
  have jl:j < l.length:=(List.getElem?_eq_some_iff.mp hj).1
  have get:∀ (i:Nat) (hi:i < its.length),∃ x,l[i]?=some x∧zaG 8 x=true∧∃ bs,Reads s.heap its[i] (toPy 8 x) bs:=fun i hi=>by
    have hx:l[i]?=some l[i]:=List.getElem?_eq_getElem (by omega)
    obtain ⟨w,hw,rw'⟩:=rl.get hx
    obtain ⟨u',hu',ru'⟩:=rs.get hw
    rw [List.getElem?_eq_getElem hi] at hu'
    cases hu'
    have pp:=List.all_eq_true.mp pl _ (List.getElem_mem (by omega:i < l.length))
    exact ⟨_,hx,pp,zfG I sm 8 _ w _ pp rw' ru'⟩
  let ev:Value→Bool:=fun y=>PyData.eqv (SeqAt.readOf s.heap y) (toPy 8 d)
  have evg:∀ (i:Nat) (hi:i < its.length) (x:D),l[i]?=some x→∃ bs,Reads s.heap its[i] (toPy 8 x) bs∧(toPy 8 x).canLay0=true∧(toPy 8 x).depth ≤ 8∧(ev its[i]=true ↔ x=d):=fun i hi x hx=>by
    obtain ⟨x',hx',px,bs,rb⟩:=get i hi
    rw [hx] at hx'; cases hx'
    obtain ⟨m1,m2⟩:=zce 8 x px
    refine ⟨bs,rb,m1,m2,?_⟩
    show PyData.eqv (SeqAt.readOf s.heap its[i]) (toPy 8 d)=true ↔ _
    rw [SeqAt.readOf_eq m1 rb,zfR 8 x d px pd,decide_eq_true_eq]
  have hj':j < its.toArray.size:=by rw [List.size_toArray]; omega
  have he:∀ y,y ∈ its.toArray→SeqAt.EqAt X.A.in1 s y u (ev y):=fun y hy=>by
    obtain ⟨i,hi,rfl⟩:=List.getElem_of_mem (show y ∈ its by simpa using hy)
    have hx:l[i]?=some l[i]:=List.getElem?_eq_getElem (by omega)
    obtain ⟨bs,rb,m1,m2,_⟩:=evg i hi _ hx
    have:=SeqAt.eqAt_reads _ _ X.A.in1 s _ u _ _ rb ra m1 l1 (by rw [Around.in1_units]; omega)
    show SeqAt.EqAt X.A.in1 s _ u (PyData.eqv (SeqAt.readOf s.heap its[i]) (toPy 8 d))
    rw [SeqAt.readOf_eq m1 rb]; exact this
  refine call_meets PySem.F.slot_list_remove ⟨_,e,rfl⟩ PySem.F.entry_list_remove (PySem.F.args_list_remove_2 _ _) (zmr (e:=ev) (j:=j) hj' ?_ (fun m hm hlt=>?_) (by rw [List.size_toArray,← hl]; exact z)) ⟨e,he,?_⟩
  · obtain ⟨_,_,_,_,h5⟩:=evg j (by omega) d hj
    simpa using h5.mpr rfl
  · have hm':m < its.length:=by simpa using hm
    have hx:l[m]?=some l[m]:=List.getElem?_eq_getElem (by omega)
    obtain ⟨_,_,_,_,h5⟩:=evg m hm' _ hx
    have:¬ ev its[m]=true:=fun h=>hno m hlt (by rw [hx,h5.mp h])
    simpa using this
  · refine ⟨.non,_,I.lset (ys:=xs.eraseIdx j) (its':=its.eraseIdx j) hH e ?_ (rs.eraseIdx j) ?_,rfl,q⟩
    · rw [List.eraseIdxIfInBounds_toArray]
    · have:=List.length_eraseIdx_le xs j
      omega
open Classical in
def zfF (i:Nat) (me:En→R D) (δ:En):O:=match δ[i]? with
  | some (.o (.lst l))=>(me δ).toO δ fun k=>if zaG 8 k=true∧l.all (zaG 8)=true∧k ∈ l then .nx (δ.set i (.o (.lst (l.eraseIdx (l.findIdx fun y=>decide (y=k)))))) else .no
  | _=>.no
open Classical in
theorem zkz {i:Nat} (h:SE K XO E te me):SS K XO E (zkS (tBM K.f "list" (zjE K) (tVar i) (zby te tNil))) (zfF i me):=by
  intro Λ F0 H0 F H σ δ Dn I a
  unfold zfF at a
  split at a
  · rename_i l q
    obtain ⟨p,s1,vs,s2,s3⟩:=I.own q
    refine ⟨_,s1,.inl ⟨rfl,vs,.inl (.inl s2)⟩,?_⟩
    refine h Λ F0 H0 F H σ δ _ I ((AftS.of I a).imp fun d F1 H1 e c v r=>?_)
    split at c
    · rename_i hc
      have ex:∃ x ∈ l,(decide (x=d))=true:=⟨d,hc.2.2,by simp⟩
      have hj:=List.findIdx_lt_length_of_exists ex
      have hg:=List.findIdx_getElem (w:=hj)
      refine ⟨p,F1,vs,l,d,v,_,rfl,rfl,e.hh _ _ s2,e.fh,s3.mono e.ff,r,hc.1,hc.2.1,?_,fun m hm hx=>?_,c σ F1 _ ((I.grow e).chg q s1 ⟨_,zaj,(s3.mono e.ff).eraseIdx _⟩)⟩
      · rw [List.getElem?_eq_getElem hj]
        exact congrArg some (of_decide_eq_true hg)
      · have:=List.not_of_lt_findIdx hm
        rw [List.getElem?_eq_getElem (Nat.lt_trans hm hj)] at hx
        simp [Option.some.inj hx] at this
    · exact c.elim
  · exact a.elim
end
end PM
namespace L2
open PySem PySem.Spec PyProof.Rows
section
variable {X:Cx}
def zmF (K:PySem.W.Frag) (f:List Int→Int→Int):List V→Hp→VK→Prop:=fun xs H Q=>∃ (p:Addr) (n:Int) (l:List Int),xs = [.ref p]∧SqT K H p ((n :: l).map V.int)∧Q (.int (f l n)) H
section
variable {prog:Program} {w:World} {A:Around} {E:Value→Shared→Prop} {s:Shared} {a:Addr} {xs:Array (Int × Tok)}
theorem zjI {h':Heap} (hk:∀ b o,b ∉ [s.heap.objs.size]→(s.heap.push ⟨.type "tuple_iterator",none,.fields #[.ref a,.int 0 0],#[]⟩).get? b=some o→h'.get? b=some o):∀ b o,s.heap.get? b=some o→h'.get? b=some o:=fun b o e =>
  hk b o (fun hm=>absurd (List.mem_singleton.mp hm ▸ Heap.lt_size e) (Nat.lt_irrefl _)) (Heap.get?_push_of_some _ e)
theorem zpF {Q:Value→Shared→Prop} (hh:A.handled=none) (ht:s.heap.IsTuple a (intItems xs)) (hne:0 < xs.size)
    (h:∀ v h' tk,(intItems xs)[argBest (fun i j=>decide (numAt xs i > numAt xs j)) (xs.size - 1)]?=some v→(∀ b o,s.heap.get? b=some o→h'.get? b=some o)→Q v ⟨h',s.gens,s.drawn,tk,s.os⟩):wpAny (model prog w) A (call (.builtin "max") [.ref a]) Q E s:=by
  have lt:a < s.heap.objs.size:=by obtain ⟨_,e,_⟩:=ht; exact Heap.lt_size e
  refine call_max_walk (wpAny_pyIter_tuple ht ⟨_,_,_,_,_,_,_,rfl,Walks.tuple (A:=A.in1) hh _ a (Nat.ne_of_lt lt) (intItems xs),⟨⟨_,Heap.get?_push_size _ rfl,rfl,rfl⟩,ht.push _⟩,fun b hb=>?_,by simpa [intItems] using hne,CmpOf.ints_gt (numAt xs) (fun _ _=>intItems_at),fun v h' tk hP hk=>h v h' tk (by simpa [intItems] using hP) (zjI hk)⟩)
  show b < (s.heap.push _).objs.size
  rw [Heap.size_push]
  rcases List.mem_cons.mp hb with rfl | hb
  · exact Nat.lt_succ_self _
  · rw [List.mem_singleton.mp hb]; exact Nat.lt_succ_of_lt lt
theorem zoO {Q:Value→Shared→Prop} (hh:A.handled=none) (ht:s.heap.IsTuple a (intItems xs)) (hne:0 < xs.size)
    (h:∀ v h' tk,(intItems xs)[argBest (fun i j=>decide (numAt xs i < numAt xs j)) (xs.size - 1)]?=some v→(∀ b o,s.heap.get? b=some o→h'.get? b=some o)→Q v ⟨h',s.gens,s.drawn,tk,s.os⟩):wpAny (model prog w) A (call (.builtin "min") [.ref a]) Q E s:=by
  have lt:a < s.heap.objs.size:=by obtain ⟨_,e,_⟩:=ht; exact Heap.lt_size e
  refine call_min_walk (wpAny_pyIter_tuple ht ⟨_,_,_,_,_,_,_,rfl,Walks.tuple (A:=A.in1) hh _ a (Nat.ne_of_lt lt) (intItems xs),⟨⟨_,Heap.get?_push_size _ rfl,rfl,rfl⟩,ht.push _⟩,fun b hb=>?_,by simpa [intItems] using hne,CmpOf.ints_lt (numAt xs) (fun _ _=>intItems_at),fun v h' tk hP hk=>h v h' tk (by simpa [intItems] using hP) (zjI hk)⟩)
  show b < (s.heap.push _).objs.size
  rw [Heap.size_push]
  rcases List.mem_cons.mp hb with rfl | hb
  · exact Nat.lt_succ_self _
  · rw [List.mem_singleton.mp hb]; exact Nat.lt_succ_of_lt lt
end
theorem zi3 (hc:X.calm=true):zdI X (.builtin "max") (zmF X.K PM.maxI):=by
  intro pins s σ H xs us Q I r h
  obtain ⟨p,m,l,rfl,hq,q⟩:=h
  obtain ⟨u,rfl,rx⟩:=zey r
  cases rx
  obtain ⟨its,rv,pl,_⟩:=I.tuple hq
  obtain ⟨ts,e1,e2,e3⟩:=zjV rv
  rw [e1] at pl
  refine zpF (I.ok.hd hc) pl (by rw [e2]; simp) fun v h' tk hv hk=>?_
  obtain ⟨t,rfl⟩:=intItems_at hv
  refine ⟨.int (PM.maxI l m),H,I.kept (t':=tk) hk,⟨t,?_⟩,q⟩
  congr 1
  rw [e2]
  exact znF e3
theorem zjh (hc:X.calm=true):zdI X (.builtin "min") (zmF X.K PM.minI):=by
  intro pins s σ H xs us Q I r h
  obtain ⟨p,m,l,rfl,hq,q⟩:=h
  obtain ⟨u,rfl,rx⟩:=zey r
  cases rx
  obtain ⟨its,rv,pl,_⟩:=I.tuple hq
  obtain ⟨ts,e1,e2,e3⟩:=zjV rv
  rw [e1] at pl
  refine zoO (I.ok.hd hc) pl (by rw [e2]; simp) fun v h' tk hv hk=>?_
  obtain ⟨t,rfl⟩:=intItems_at hv
  refine ⟨.int (PM.minI l m),H,I.kept (t':=tk) hk,⟨t,?_⟩,q⟩
  congr 1
  rw [e2]
  exact znL e3
end
end L2
namespace PM
open PySem L2
section
variable {K:Kx}
def zfk (f:List Int→Int→Int):List D→Option D
  | [.tup (.int a :: l)]=>(asIs l).map fun ns=>.int (f ns a)
  | _=>none
theorem zjC {f:List Int→Int→Int}:SC K (zmF K.f f) (zfk f):=by
  intro F H vs ds d Q s r e q
  unfold zfk at e
  split at e
  · rename_i a l
    cases z:asIs l with
    | none=>rw [z] at e; cases e
    | some ns =>
      rw [z] at e; cases e
      have el:=zbB z; subst el
      cases r with
      | cons r r' =>
        cases r'
        simp only [Top,Rep] at r
        obtain ⟨p,xs,rfl,h1,h2⟩:=r
        have ex:=zbp (ns:=a :: ns) h2
        subst ex
        exact ⟨p,a,ns,rfl,.inl (.inl (s _ _ h1)),q _ F H (.refl s) (by simp only [Rep])⟩
  · cases e
end
end PM
namespace My
open PySem L2 PM
def znJ:Nat→Bool
  | 2=>true
  | _=>false
def zkY:Nat→Bool
  | 2=>true
  | _=>false
def zmS:Nat→Option Bool
  | 2=>some true
  | _=>none
def zcr:En→O:=(mSeq (mIfS (zar (m2 oLt (mRd 1) (mCB fLen (zaa (mRd 0) mNil))))
  (mRet (m2 oIxL (mRd 0) (mRd 1)))
  zbv)
  (mRet (mC (.int 0))))
def zaJ:List D→R D:=runF 2 0 zcr
def zfg:En→O:=(mSeq (mAsg (m2 oMod (zag zaJ (zaa (mVar 0) (zaa (mVar 1) mNil))) (m2 oPow (mC (.int 10)) (mC (.int 20)))) (zap 3))
  (mSeq (mAsg (m2 oMod (m2 oAdd (m2 oMul (mRd 3) (mC (.int 48271))) (m2 oMul (m2 oMul (m2 oAdd (mRd 1) (mC (.int 1))) (m2 oAdd (mRd 1) (mC (.int 7)))) (mC (.int 69621)))) (mC (.int 2147483647))) (zap 4))
  (mSeq (mAsg (m2 oMod (m2 oAdd (m2 oAdd (m2 oMul (mRd 3) (mC (.int 16807))) (m2 oMul (m2 oMul (mRd 1) (mRd 1)) (mC (.int 40692)))) (mC (.int 7))) (mC (.int 2147483629))) (zap 5))
  (mRet (m2 oMod (m2 oAdd (m2 oMul (mRd 4) (mC (.int 2147483629))) (mRd 5)) (m2 oAdd (mRd 2) (mC (.int 1))))))))
def zaH:List D→R D:=runF 3 3 zfg
def zeb:En→R D:=ze6 (mRng (zaa (mVar 1) mNil)) [0,2] 1 (zbi 2) none (mTup (zaa (zag zaH (zaa (mVar 0) (zaa (m2 oAdd (mC (.int 1)) (m2 oMul (mC (.int 2)) (mRd 2))) (zaa (mVar 1) mNil)))) (zaa (zag zaH (zaa (mVar 0) (zaa (m2 oAdd (mC (.int 2)) (m2 oMul (mC (.int 2)) (mRd 2))) (zaa (mVar 1) mNil)))) mNil)))
def zge:En→R D:=ze6 (mItL (mRd 3)) [5,6] 1 (zbi 2) none (m2 oAdd (mCB fAbs (zaa (m2 oSub (mRd 0) (m2 oIxT (mRd 2) (mC (.int 0)))) mNil)) (mCB fAbs (zaa (m2 oSub (mRd 1) (m2 oIxT (mRd 2) (mC (.int 1)))) mNil)))
def zds:En→O:=(zbo 4 zge)
def zga:En→O:=mFor (mItL (mVar 3)) (bTup 2 (zbF (zap 5) (zbF (zap 6) bNil))) zds
def zgL:En→O:=(mSeq (mAsg zeb (zap 3))
  (mSeq (mAsg (mLst mNil) (bNew 4))
  (mSeq zga
  (zhe 4))))
def zb1:List D→R D:=runO 3 4 zgL
def zdm:En→O:=(mSeq (mAsg (zed (m2 oAdd (m2 oIxL (m2 oIxL (mRd 0) (mRd 2)) (mRd 1)) (m2 oIxL (m2 oIxL (mRd 0) (mRd 1)) (mRd 3)))) (zap 4))
  (zjr 0 (mVar 2) (mVar 3) (zed (mCB zhn (zaa (m2 oIxL (m2 oIxL (mRd 0) (mRd 2)) (mRd 3)) (zaa (mRd 4) mNil))))))
def zdD:En→O:=mFor (mRng (zaa (zed (mCB fLen (zaa (mRd 0) mNil))) mNil)) (zap 3) zdm
def zdp:En→O:=zdD
def zdC:En→O:=mFor (mRng (zaa (zed (mCB fLen (zaa (mRd 0) mNil))) mNil)) (zap 2) zdp
def zdl:En→O:=zdC
def zdL:En→O:=mFor (mRng (zaa (zed (mCB fLen (zaa (mRd 0) mNil))) mNil)) (zap 1) zdl
def zcd:En→O:=(mSeq zdL
  (zm8 0))
def zbj:List (List Int)→R D:=runT 4 zcd
def zcS:En→R D:=ze6 (mRng (zaa (mVar 0) mNil)) [] 1 (zbi 0) none (mC (.int 0))
def zca:En→R (List (List Int)):=zmB (mRng (zaa (mVar 3) mNil)) [3] 1 (zbi 1) zcS
def zdF:En→O:=(mSeq (mAsg (zag zaH (zaa (mVar 0) (zaa (m2 oAdd (m2 oAdd (mC (.int 1)) (m2 oDiv (m2 oMul (mRd 7) (m2 oSub (mRd 7) (mC (.int 1)))) (mC (.int 2)))) (mRd 8)) (zaa (mVar 5) mNil)))) (zap 9))
  (mSeq (mIfS (zar (m2 oEq (mRd 4) (mC (.int 1))))
  (mAsg (m2 oAdd (mRd 9) (mRd 5)) (zap 9))
  zbv)
  (mSeq (zjr 6 (mVar 7) (mVar 8) (mVar 9))
  (zjr 6 (mVar 8) (mVar 7) (mVar 9)))))
def zd8:En→O:=mFor (mRng (zaa (mVar 7) mNil)) (zap 8) zdF
def zdu:En→O:=zd8
def zd7:En→O:=mFor (mRng (zaa (mVar 3) mNil)) (zap 7) zdu
def zeG:En→O:=(mSeq (mAsg (zag zaJ (zaa (mVar 0) (zaa (mC (.int 0)) mNil))) (zap 2))
  (mSeq (mAsg (m2 oAdd (mC (.int 1)) (m2 oMod (mRd 2) (mC (.int 7)))) (zap 3))
  (mSeq (mIfS (zar (m2 oEq (m2 oMod (m2 oDiv (mRd 2) (mC (.int 7))) (mC (.int 8))) (mC (.int 3))))
  (mAsg (m2 oAdd (mC (.int 8)) (m2 oMod (m2 oDiv (mRd 2) (mC (.int 56))) (mC (.int 4)))) (zap 3))
  zbv)
  (mSeq (mAsg (m2 oMod (m2 oDiv (mRd 2) (mC (.int 112))) (mC (.int 3))) (zap 4))
  (mSeq (mAsg (m2 oIxL (mLst (zaa (mC (.int 6)) (zaa (mC (.int 60)) (zaa (mVar 1) mNil)))) (m2 oMod (m2 oDiv (mRd 2) (mC (.int 336))) (mC (.int 3)))) (zap 5))
  (mSeq (mIfS (zar (m2 oEq (mRd 4) (mC (.int 0))))
  (zeT (zag zb1 (zaa (mVar 0) (zaa (mVar 3) (zaa (mVar 5) mNil)))))
  zbv)
  (mSeq (zne zca 6)
  (mSeq zd7
  (mSeq (mIfS (zar (m2 oEq (mRd 4) (mC (.int 2))))
  (zie zbj 6)
  zbv)
  (zm8 6))))))))))
def zbu:List D→R D:=runO 2 8 zeG
def zej:En→O:=(mIfS (zar (m2 oNe (m2 oIxL (m2 oIxL (mRd 0) (mRd 2)) (mRd 2)) (mC (.int 0))))
  (fun _=>.no)
  zbv)
def zgG:En→O:=mFor (mRng (zaa (mVar 1) mNil)) (zap 2) zej
def zea:En→O:=(mIfS (zar (m2 oNe (m2 oIxL (m2 oIxL (mRd 0) (mRd 2)) (mRd 3)) (m2 oIxL (m2 oIxL (mRd 0) (mRd 3)) (mRd 2))))
  (fun _=>.no)
  zbv)
def zkW:En→O:=mFor (mRng (zaa (mVar 2) mNil)) (zap 3) zea
def zf8:En→O:=zkW
def zgR:En→O:=mFor (mRng (zaa (mVar 1) mNil)) (zap 2) zf8
def zee:En→O:=(mIfS (zar (m2 oLt (m2 oAdd (m2 oIxL (m2 oIxL (mRd 0) (mRd 2)) (mRd 3)) (m2 oIxL (m2 oIxL (mRd 0) (mRd 3)) (mRd 4))) (m2 oIxL (m2 oIxL (mRd 0) (mRd 2)) (mRd 4))))
  (fun _=>.no)
  zbv)
def zkd:En→O:=mFor (mRng (zaa (mVar 1) mNil)) (zap 4) zee
def zfW:En→O:=zkd
def zky:En→O:=mFor (mRng (zaa (mVar 1) mNil)) (zap 3) zfW
def zfQ:En→O:=zky
def zgM:En→O:=mFor (mRng (zaa (mVar 1) mNil)) (zap 2) zfQ
def zih:En→O:=(mSeq (mAsg (mCB fLen (zaa (mRd 0) mNil)) (zap 1))
  (mSeq zgG
  (mSeq zgR
  zgM)))
def zbX:List D→R D:=runF 1 4 zih
def zb2:En→O:=(zbo 3 (mTup (zaa (m2 oIxL (m2 oIxL (mRd 0) (mRd 5)) (mRd 4)) (zaa (mVar 4) (zaa (mVar 5) mNil)))))
def zdj:En→O:=mFor (mItL (mVar 1)) (zap 5) zb2
def zb7:En→O:=zdj
def zdq:En→O:=mFor (mItL (mVar 2)) (zap 4) zb7
def zdA:En→O:=(mSeq (mAsg (mLst mNil) (bNew 3))
  (mSeq zdq
  (mSeq (mAsg (mCB zlf (zaa (mRd 3) mNil)) (zap 6))
  (mRet (mTup (zaa (m2 oIxT (mRd 6) (mC (.int 2))) (zaa (m2 oIxT (mRd 6) (mC (.int 1))) mNil)))))))
def zbq:List D→R D:=runF 3 4 zdA
def zbw:En→R Bool:=(zar (m2 oGt (mCB fLen (zaa (mRd 2) mNil)) (mC (.int 0))))
def zcX:En→O:=(mSeq (mAsg (zeN zbq (zaa (mVar 0) (zaa (mRd 1) (zaa (mRd 2) mNil)))) (zap 4))
  (mSeq (zbo 3 (mVar 4))
  (mSeq (zbo 1 (m2 oIxT (mRd 4) (mC (.int 1))))
  (ze2 2 (m2 oIxT (mRd 4) (mC (.int 1)))))))
def zez:En→O:=zfd zbw zcX
def zfa:En→O:=(mSeq (mDo (zag zbX (zaa (mVar 0) mNil)))
  (mSeq (mAsg (mLst (zaa (mC (.int 0)) mNil)) (bNew 1))
  (mSeq (mAsg (zjR (zaa (mC (.int 1)) (zaa (mCB fLen (zaa (mRd 0) mNil)) mNil))) (bNew 2))
  (mSeq (mAsg (mLst mNil) (bNew 3))
  (mSeq zez
  (zhe 3))))))
def zaY:List D→R D:=runO 1 4 zfa
def zfl:En→O:=(ziV 1 (mVar 3) (zkQ (zja (mRd 1) (mVar 3) (mC (.bl false)))))
def zfM:En→O:=mFor (mItT (mVar 2)) (zap 3) zfl
def zdy:En→O:=zfM
def zf0:En→O:=mFor (mItL (mVar 0)) (zap 2) zdy
def zei:En→R D:=ze6 (zpS (mVar 1)) [1] 1 (zbi 1) (some (zar (m2 fGet (mVar 0) (mVar 1)))) (mVar 1)
def zg1:En→O:=(mSeq (mAsg (mC (.dct [] [])) (bNew 1))
  (mSeq zf0
  (zpw 1 (zeT (mCB zef (zaa zei mNil))))))
def zba:List D→R D:=runO 1 3 zg1
def zdR:En→O:=(mSeq (mDo (zag zbX (zaa (mVar 0) mNil)))
  (zeT zhX))
def zaD:List D→R D:=runO 2 0 zdR
def zdn:En→O:=(mIfS (zar (m2 oEq (mRd 5) (mRd 4)))
  (zbo 3 (mVar 6))
  zbv)
def zdP:En→O:=mFor (mRev (zaa (mVar 1) mNil)) (bTup 2 (zbF (zap 5) (zbF (zap 6) bNil))) zdn
def zbh:En→R Bool:=(zar (m2 oGt (mCB fLen (zaa (mRd 3) mNil)) (mC (.int 0))))
def zcn:En→O:=(mSeq (ziq 3 (zap 4))
  (mSeq (zbo 2 (mVar 4))
  zdP))
def zdz:En→O:=zfd zbh zcn
def zd4:En→O:=(mSeq (mAsg (zag zaY (zaa (mVar 0) mNil)) (zap 1))
  (mSeq (mAsg (mLst mNil) (bNew 2))
  (mSeq (mAsg (mLst (zaa (mC (.int 0)) mNil)) (bNew 3))
  (mSeq zdz
  (zhe 2)))))
def zaU:List D→R D:=runO 1 6 zd4
def zbN:En→O:=(mIfS (zar (m2 oIn (mRd 1) (mRd 3)))
  (mRet (mVar 2))
  zbv)
def zku:En→O:=mFor (zpd (zaa (mVar 0) mNil)) (bTup 2 (zbF (zap 2) (zbF (zap 3) bNil))) zbN
def zin:En→O:=(mSeq zku
  (mRet (mC .non)))
def zch:List D→R D:=runF 2 2 zin
def zdb:En→O:=(mRet (mIf (zar (m2 oEq (m2 oIxT (mRd 0) (mC (.int 0))) (mRd 1))) (m2 oIxT (mRd 0) (mC (.int 1))) (m2 oIxT (mRd 0) (mC (.int 0)))))
def zb3:List D→R D:=runF 2 0 zdb
def zbl:En→R Bool:=(zar (m2 oGt (mCB fLen (zaa (mRd 2) mNil)) (mC (.int 0))))
def zbJ:En→O:=(mSeq (mAsg (m2 oIxL (mRd 2) (m1 oNeg (mC (.int 1)))) (zap 4))
  (mSeq (mAsg (zeN zch (zaa (mRd 1) (zaa (mVar 4) mNil))) (zap 5))
  (mIfS (zar (m2 oIs (mRd 5) (mC .non)))
  (zeF 3 2)
  (mSeq (zlN 1 (mVar 5) (zap 6))
  (zbo 2 (zag zb3 (zaa (mVar 6) (zaa (mVar 4) mNil))))))))
def zeO:En→O:=zfd zbl zbJ
def ze8:En→O:=(mSeq (mAsg (mCB zc6 (zaa (mRd 0) mNil)) (bNew 1))
  (mSeq (mAsg (mLst (zaa (mC (.int 0)) mNil)) (bNew 2))
  (mSeq (mAsg (mLst mNil) (bNew 3))
  (mSeq zeO
  (zhe 3)))))
def zbO:List D→R D:=runO 1 6 ze8
def zeD:En→O:=(mSeq (mAsg (zag zaY (zaa (mVar 0) mNil)) (zap 1))
  (zeT (zag zbO (zaa (m2 oCat (mRd 1) (zag zaD (zaa (mVar 0) (zaa (zag zba (zaa (mVar 1) mNil)) mNil)))) mNil))))
def zav:List D→R D:=runO 1 1 zeD
def zco:En→O:=(ziV 1 (mVar 2) (mC (.bl true)))
def zdJ:En→O:=mFor (mItL (zag zav (zaa (mVar 0) mNil))) (zap 2) zco
def zd6:En→O:=(mSeq (mAsg (mC (.dct [] [])) (bNew 1))
  (mSeq zdJ
  (zeT (zqN zqB (mRd 1)))))
def zaV:List D→R D:=runO 1 2 zd6
def zd0:En→R D:=ze6 (mItL (mRd 0)) [] 1 (zbi 0) (some (mAnd (zar (m1 (oIsi "int") (mRd 0))) (mNot (zar (m1 (oIsi "bool") (mRd 0)))))) (mVar 0)
def zeL:En→O:=(mSeq (mIfS (mNot (zar (m1 (oIsi "list") (mRd 0))))
  (mRet (mC (.bl false)))
  zbv)
  (mRet (m2 oEq (mCB fLen (zaa zd0 mNil)) (mCB fLen (zaa (mRd 0) mNil)))))
def zaw:List D→R D:=runF 1 0 zeL
def zda:En→R D:=ze6 (mItL (znw (mRd 0) (m1 oNeg (mC (.int 1))))) [3] 2 (bTup 2 (zbF (zbi 1) (zbF (zbi 2) bNil))) (some (zar (m2 oEq (mRd 1) (mRd 0)))) (mVar 2)
def zbx:En→R Bool:=(zar (m2 oGt (mCB fLen (zaa (mRd 2) mNil)) (mC (.int 0))))
def zc0:En→O:=(mSeq (ziq 2 (zap 3))
  (mSeq (zbo 1 (mVar 3))
  (mAsg (m2 oCat (mRd 2) zda) (bNew 2))))
def zeq:En→O:=zfd zbx zc0
def zfb:En→O:=(mSeq (mAsg (mLst mNil) (bNew 1))
  (mSeq (mAsg (mLst (zaa (mC (.int 0)) mNil)) (bNew 2))
  (mSeq zeq
  (zhe 1))))
def zbD:List D→R D:=runO 1 3 zfb
def zen:En→R D:=ze6 (mItL (mRd 1)) [] 1 (zbi 0) none (mTup (zaa (mCB (zfk minI) (zaa (mRd 0) mNil)) (zaa (mCB (zfk maxI) (zaa (mRd 0) mNil)) mNil)))
def zfm:En→O:=(mSeq (mAsg (mTup (zaa (mCB zhn (zaa (m2 oIxL (mRd 0) (mRd 3)) (zaa (m2 oIxL (mRd 0) (m2 oAdd (mRd 3) (mC (.int 1)))) mNil))) (zaa (mCB zk1 (zaa (m2 oIxL (mRd 0) (mRd 3)) (zaa (m2 oIxL (mRd 0) (m2 oAdd (mRd 3) (mC (.int 1)))) mNil))) mNil))) (zap 4))
  (mSeq (mIfS (zar (m2 ze3 (mRd 4) (mRd 2)))
  (mRet (mC (.bl false)))
  zbv)
  (zfF 2 (mVar 4))))
def zgm:En→O:=mFor (mRng (zaa (mCB fLen (zaa (mRd 1) mNil)) mNil)) (zap 3) zfm
def zgU:En→O:=(mSeq (mAsg zen (bNew 2))
  (mSeq (mIfS (mOr (mNot (zar (zag zaw (zaa (mVar 0) mNil)))) (mOr (zar (m2 oNe (mCB fLen (zaa (mRd 0) mNil)) (m2 oAdd (mCB fLen (zaa (mRd 1) mNil)) (mC (.int 1))))) (mOr (zar (m2 oNe (m2 oIxL (mRd 0) (mC (.int 0))) (mC (.int 0)))) (zar (m2 oNe (m2 oIxL (mRd 0) (m1 oNeg (mC (.int 1)))) (mC (.int 0)))))))
  (mRet (mC (.bl false)))
  zbv)
  (mSeq zgm
  (mRet (mC (.bl true))))))
def zb8:List D→R D:=runF 2 3 zgU
def zbU:En→O:=(mIfS (zar (m2 zgO (mRd 2) (mRd 1)))
  (zbo 1 (mVar 2))
  zbv)
def zc4:En→O:=mFor (mItL (mVar 0)) (zap 2) zbU
def zdo:En→O:=(mSeq (mAsg (mLst mNil) (bNew 1))
  (mSeq zc4
  (zhe 1)))
def za7:List D→R D:=runO 1 2 zdo
def zeK:En→R D:=ze6 (mRng (zaa (m2 oSub (mCB fLen (zaa (mRd 1) mNil)) (mC (.int 1))) mNil)) [0,1] 1 (zbi 2) none (m2 oIxL (m2 oIxL (mRd 0) (m2 oIxL (mRd 1) (mRd 2))) (m2 oIxL (mRd 1) (m2 oAdd (mRd 2) (mC (.int 1)))))
def zff:En→O:=(mRet (mCB fSum (zaa zeK mNil)))
def za2:List D→R D:=runF 2 0 zff
def zd5:En→O:=(mSeq (mIfS (zar (m2 oEq (mCB fLen (zaa (mRd 1) mNil)) (mC (.int 1))))
  (mRet (mC (.int 0)))
  zbv)
  (mRet (m2 oAdd (zag za2 (zaa (mVar 0) (zaa (mVar 1) mNil))) (m2 oIxL (m2 oIxL (mRd 0) (m2 oIxL (mRd 1) (m1 oNeg (mC (.int 1))))) (m2 oIxL (mRd 1) (mC (.int 0)))))))
def za9:List D→R D:=runF 2 0 zd5
def zfO:En→R D:=ze6 (mRng (zaa (m2 oAdd (mC (.int 1)) (zag zaH (zaa (mVar 0) (zaa (mC (.int 37)) (zaa (mC (.int 11)) mNil))))) mNil)) [0,2] 1 (zbi 2) none (zag zaH (zaa (mVar 0) (zaa (m2 oAdd (mC (.int 38)) (mRd 2)) (zaa (m2 oSub (mRd 1) (mC (.int 1))) mNil))))
def zfc:En→O:=(mAsg (m2 oAdd (mRd 4) (m2 oIxL (m2 oIxL (mRd 1) (mRd 5)) (mRd 6))) (zap 4))
def zel:En→O:=mFor (mZip (zaa (mSl (mRd 3) mNoP (zec (m1 oNeg (mC (.int 1))))) (zaa (mSl (mRd 3) (zec (mC (.int 1))) mNoP) mNil))) (bTup 2 (zbF (zap 5) (zbF (zap 6) bNil))) zfc
def zgK:En→O:=(mSeq (mAsg (mCB fLen (zaa (mRd 1) mNil)) (zap 2))
  (mSeq (mAsg zfO (zap 3))
  (mSeq (mAsg (mC (.int 0)) (zap 4))
  (mSeq zel
  (mSeq (mAsg (mCB zc6 (zaa (mRd 3) mNil)) (zap 7))
  (mSeq (mAsg (mLst (zaa (zag za2 (zaa (mVar 1) (zaa (mVar 7) mNil))) mNil)) (zap 8))
  (mSeq (mIfS (mOr (zar (m2 oNeD (mRd 8) (mLst (zaa (mVar 4) mNil)))) (mOr (mNot (zar (zag zaw (zaa (mVar 8) mNil)))) (zar (m2 oNeD (mRd 7) (mRd 3)))))
  (mRet (mC (.bl false)))
  zbv)
  (mSeq (mAsg (mLst (zaa (zag za9 (zaa (mVar 1) (zaa (mVar 7) mNil))) mNil)) (zap 8))
  (mRet (zks (m2 oEqD (mRd 8) (mLst (zaa (m2 oAdd (mRd 4) (m2 oIxL (m2 oIxL (mRd 1) (m2 oIxL (mRd 3) (m1 oNeg (mC (.int 1))))) (m2 oIxL (mRd 3) (mC (.int 0))))) mNil))) (zks (zag zaw (zaa (mVar 8) mNil)) (m2 oEqD (mRd 7) (mRd 3)))))))))))))
def zcv:List D→R D:=runF 2 7 zgK
def zog:En→R D:=ze6 (mItL (mRd 1)) [] 1 (zbi 0) none (mCB zc6 (zaa (mRd 0) mNil))
def zqP:En→O:=(mSeq (mAsg (zag zbu (zaa (mVar 0) (zaa (m2 oMul (mC (.int 5)) (m2 oPow (mC (.int 10)) (mC (.int 17)))) mNil))) (zap 1))
  (mSeq (mAsg zog (zap 2))
  (mSeq (mAsg (zag zaY (zaa (mVar 1) mNil)) (zap 3))
  (mSeq (mAsg (m2 oCat (mRd 3) (zag zaD (zaa (mVar 1) (zaa (zag zba (zaa (mVar 3) mNil)) mNil)))) (zap 4))
  (mSeq (mAsg (zag zaU (zaa (mVar 2) mNil)) (zap 5))
  (mSeq (mAsg (zag zav (zaa (mVar 2) mNil)) (zap 6))
  (mSeq (mAsg (zag zaV (zaa (mVar 2) mNil)) (zap 7))
  (mSeq (mIfS (mOr (mNot (zar (zag zaw (zaa (mVar 5) mNil)))) (mOr (zar (m2 oNeD (mRd 5) (zag zbD (zaa (mVar 3) mNil)))) (mNot (zar (zag zb8 (zaa (mVar 6) (zaa (mVar 4) mNil)))))))
  (mRet (mC (.bl false)))
  zbv)
  (mSeq (mIfS (mOr (mNot (zar (zag zaw (zaa (mVar 7) mNil)))) (mOr (zar (m2 oNeD (mRd 7) (zag za7 (zaa (mVar 6) mNil)))) (zar (m2 oNeD (mRd 2) (mRd 1)))))
  (mRet (mC (.bl false)))
  zbv)
  (mSeq (mAsg (mLst (zaa (mCB zc6 (zaa (mRd 5) mNil)) (zaa (mCB zc6 (zaa (mRd 6) mNil)) (zaa (mCB zc6 (zaa (mRd 7) mNil)) mNil)))) (zap 8))
  (mSeq (mIfS (mOr (zar (m2 oNeD (zag zav (zaa (mVar 1) mNil)) (mRd 6))) (mOr (zar (m2 oNeD (zag zaU (zaa (mLst (zaa (mLst (zaa (mC (.int 0)) mNil)) mNil)) mNil)) (mLst (zaa (mC (.int 0)) mNil)))) (zar (m2 oNeD (zag zav (zaa (mLst (zaa (mLst (zaa (mC (.int 0)) mNil)) mNil)) mNil)) (mLst (zaa (mC (.int 0)) mNil))))))
  (mRet (mC (.bl false)))
  zbv)
  (mSeq (mIfS (mOr (zar (m2 oNeD (zag zaV (zaa (mLst (zaa (mLst (zaa (mC (.int 0)) (zaa (mC (.int 3)) mNil))) (zaa (mLst (zaa (mC (.int 3)) (zaa (mC (.int 0)) mNil))) mNil))) mNil)) (mLst (zaa (mC (.int 0)) (zaa (mC (.int 1)) mNil))))) (zar (m2 oNeD (zag zav (zaa (mLst (zaa (mLst (zaa (mC (.int 0)) (zaa (mC (.int 3)) mNil))) (zaa (mLst (zaa (mC (.int 3)) (zaa (mC (.int 0)) mNil))) mNil))) mNil)) (mLst (zaa (mC (.int 0)) (zaa (mC (.int 1)) (zaa (mC (.int 0)) mNil)))))))
  (mRet (mC (.bl false)))
  zbv)
  (mRet (zks (m2 oEqD (mLst (zaa (mVar 5) (zaa (mVar 6) (zaa (mVar 7) mNil)))) (mRd 8)) (zag zcv (zaa (mVar 0) (zaa (mVar 1) mNil)))))))))))))))))
def zqb:List D→R D:=runF 1 8 zqP
end My
namespace My
open PySem L2 PM
def upt (n:Nat):List Int:=(List.range n).map fun (k:Nat)=>(k:Int)
theorem mem_upt {n:Nat} {t:Int}:t ∈ upt n ↔ 0 ≤ t∧t < (n:Int):=by
  unfold upt
  rw [List.mem_map]
  constructor
  · rintro ⟨a,h,rfl⟩
    have:=List.mem_range.mp h
    omega
  · rintro ⟨h0,h1⟩
    exact ⟨t.toNat,List.mem_range.mpr (by omega),by omega⟩
theorem zaZ {n:Nat}:(upt n).length=n:=by simp [upt]
theorem zf3 (n:Nat):(upt n).Nodup:=List.Pairwise.map _ (fun a b h e=>h (Int.ofNat.inj e)) List.nodup_range
theorem rngT {n:Nat} (h:n ≤ 1000):rng [.int (n:Int)]=some ((upt n).map .int):=by
  rw [rng1 (by omega) (by omega),Int.toNat_natCast,zpc,upt,List.map_map]; rfl
theorem zoP (ns:List Int):fSum [iL ns]=some (.int ns.sum):=by simp [fSum,iL,zcO]
theorem zcu {i:Nat} {me:En→R D} {δ:En} {L:List Int} {y:Int} (h:δ[i]?=some (.o (iL L))) (hy:me δ = .ok (.int y)) (hl:L.length ≤ 100000):zbo i me δ = .nx (δ.set i (.o (iL (L ++ [y])))):=by
  unfold zbo
  rw [h]
  simp only [iL,hy,R.toO_ok]
  rw [zaX (by rw [List.length_map]; exact Nat.lt_of_le_of_lt hl (by decide))]
  simp
end My
namespace My
open PySem L2 PM
theorem p20:oPow (.int 10) (.int 20)=some (.int 100000000000000000000):=zop ⟨by decide,by decide,by decide⟩
theorem zgZ (ns:List Int) (k:Nat):zaJ [.scr ns,.int k] = .ok (.int (ns.getD k 0)):=by
  by_cases h:k < ns.length
  · have e:oIxL (.scr ns) (.int (k:Int))=some (.int (ns.getD k 0)):=by
      show (atI ns (k:Int)).map D.int=_
      rw [atI_nat (d:=ns.getD k 0) (by simp [h,List.getD_eq_getElem?_getD])]; rfl
    simp [zaJ,runF,zdt,zcr,mSeq,mIfS,zar,mRet,mRd,mC,mCB,zaa,mNil,fLen,h,e]
  · have e:ns.getD k 0=0:=by simp [List.getD_eq_getElem?_getD,List.getElem?_eq_none_iff.mpr (Nat.le_of_not_lt h)]
    rw [e]
    simp [zaJ,runF,zdt,zcr,mSeq,mIfS,zar,mRet,mRd,mC,mCB,zaa,mNil,fLen,h,zbv]
theorem zlA (ns:List Int) {k:Int} (h:0 ≤ k):zaJ [.scr ns,.int k] = .ok (.int (ns.getD k.toNat 0)):=by
  have:=zgZ ns k.toNat
  rwa [show ((k.toNat:Nat):Int)=k by omega] at this
theorem zoU {m n:En→O} {δ:En} {d:D} (h:m δ = .rt d):mSeq m n δ = .rt d:=by unfold mSeq; rw [h]
theorem zeo {i:Nat} {me:En→R D} {δ:En} {l:List D} {d:D} (h:δ[i]?=some (.o (.lst l))) (hy:me δ = .ok d) (hl:l.length ≤ 100000):zbo i me δ = .nx (δ.set i (.o (.lst (l ++ [d])))):=by
  unfold zbo
  rw [h]
  simp only [hy,R.toO_ok]
  rw [zaX (Nat.lt_of_le_of_lt hl (by decide))]
theorem zgb (a:Int) {b:Int} (h:0 < b):0 ≤ a % b:=Int.emod_nonneg _ (by omega)
theorem zgj (a:Int) {b:Int} (h:0 < b):a % b < b:=Int.emod_lt_of_pos _ h
end My
namespace My
open PySem L2 PM
theorem zeQ (ns:List Int) {k top:Int} (h0:0 ≤ k) (h1:k ≤ 1000) (t0:0 ≤ top):∃ x:Int,(0 ≤ x∧x ≤ top)∧zaH [.scr ns,.int k,.int top] = .ok (.int x):=by
  obtain ⟨c,ec⟩:∃ c,c=ns.getD k.toNat 0 % 100000000000000000000:=⟨_,rfl⟩
  have c0:0 ≤ c:=by rw [ec]; exact zgb _ (by decide)
  have c1:c < 100000000000000000000:=by rw [ec]; exact zgj _ (by decide)
  have k2:k * k ≤ 1000 * 1000:=Int.mul_le_mul h1 h1 h0 (by decide)
  have k3:0 ≤ k * k:=Int.mul_nonneg h0 h0
  have k4:(k + 1) * (k + 7) ≤ 1001 * 1007:=Int.mul_le_mul (by omega) (by omega) (by omega) (by decide)
  have k5:0 ≤ (k + 1) * (k + 7):=Int.mul_nonneg (by omega) (by omega)
  have f1:Fit c:=fitN (10 ^ 20) (by omega)
  have f2:Fit 48271:=fitN 100000 (by decide)
  have f3:Fit (k + 1):=fitN 2000 (by omega)
  have f4:Fit (k + 7):=fitN 2000 (by omega)
  have f5:Fit ((k + 1) * (k + 7)):=fitN (10 ^ 20) (by omega)
  have f6:Fit 69621:=fitN 100000 (by decide)
  have f7:Fit 16807:=fitN 100000 (by decide)
  have f8:Fit k:=fitN 2000 (by omega)
  have f9:Fit (k * k):=fitN (10 ^ 20) (by omega)
  have f10:Fit 40692:=fitN 100000 (by decide)
  obtain ⟨a,ea⟩:∃ a,a=(c * 48271 + (k + 1) * (k + 7) * 69621) % 2147483647:=⟨_,rfl⟩
  obtain ⟨b,eb⟩:∃ b,b=(c * 16807 + k * k * 40692 + 7) % 2147483629:=⟨_,rfl⟩
  have a0:0 ≤ a:=by rw [ea]; exact zgb _ (by decide)
  have a1:a < 2147483647:=by rw [ea]; exact zgj _ (by decide)
  have f11:Fit a:=fitN (10 ^ 10) (by omega)
  have f12:Fit 2147483629:=fitN (10 ^ 10) (by decide)
  have tp:(0:Int) < top + 1:=by omega
  refine ⟨(a * 2147483629 + b) % (top + 1),⟨zgb _ tp,by have:=zgj (a * 2147483629 + b) tp; omega⟩,zcG ?_⟩
  show mSeq _ _ [.v (.scr ns),.v (.int k),.v (.int top),.no,.no,.no]=_
  have q1:mAsg (m2 oMod (zag zaJ (zaa (mVar 0) (zaa (mVar 1) mNil))) (m2 oPow (mC (.int 10)) (mC (.int 20)))) (zap 3) [.v (.scr ns),.v (.int k),.v (.int top),.no,.no,.no] = .nx [.v (.scr ns),.v (.int k),.v (.int top),.v (.int c),.no,.no]:=by
    refine zax (d:=.int c) ?_ rfl
    simp only [zb6,zag,zaa,mNil,mVar,mC,List.getElem?_cons_succ,List.getElem?_cons_zero,R.bind_ok,zlA ns h0,R.nev_ok,p20,R.of_some,zd9 (show (0:Int) < 100000000000000000000 by decide),ec]
  have q2:mAsg (m2 oMod (m2 oAdd (m2 oMul (mRd 3) (mC (.int 48271))) (m2 oMul (m2 oMul (m2 oAdd (mRd 1) (mC (.int 1))) (m2 oAdd (mRd 1) (mC (.int 7)))) (mC (.int 69621)))) (mC (.int 2147483647))) (zap 4) [.v (.scr ns),.v (.int k),.v (.int top),.v (.int c),.no,.no] = .nx [.v (.scr ns),.v (.int k),.v (.int top),.v (.int c),.v (.int a),.no]:=by
    refine zax (d:=.int a) ?_ rfl
    simp [mRd,mC,zd2 f1 f2,zd2 f3 f4,zd2 f5 f6,zd9,ea]
  have q3:mAsg (m2 oMod (m2 oAdd (m2 oAdd (m2 oMul (mRd 3) (mC (.int 16807))) (m2 oMul (m2 oMul (mRd 1) (mRd 1)) (mC (.int 40692)))) (mC (.int 7))) (mC (.int 2147483629))) (zap 5) [.v (.scr ns),.v (.int k),.v (.int top),.v (.int c),.v (.int a),.no] = .nx [.v (.scr ns),.v (.int k),.v (.int top),.v (.int c),.v (.int a),.v (.int b)]:=by
    refine zax (d:=.int b) ?_ rfl
    simp [mRd,mC,zd2 f1 f7,zd2 f8 f8,zd2 f9 f10,zd9,eb]
  refine (zah q1).trans ((zah q2).trans ((zah q3).trans ?_))
  simp [mRet,mRd,mC,zd2 f11 f12,zd9 tp]
end My
namespace My
open PySem L2 PM
def tabF (n:Nat) (d:Int→Int→Int):List (List Int):=(upt n).map fun a=>(upt n).map (d a)
theorem zcB {m k:Nat} (h:k < m):(upt m)[k]?=some (k:Int):=by
  unfold upt; rw [List.getElem?_map,List.getElem?_range h]; rfl
theorem zcF {n:Nat} {f:Int→Int} {b:Int} (h0:0 ≤ b) (h1:b < n):oIxL (iL ((upt n).map f)) (.int b)=some (.int (f b)):=by
  refine zor h0 ?_
  rw [List.getElem?_map,List.getElem?_map,zcB (show b.toNat < n by omega)]
  simp [show ((b.toNat:Nat):Int)=b by omega]
theorem ze7 {n:Nat} {d:Int→Int→Int} {a:Int} (h0:0 ≤ a) (h1:a < n):oIxL (tabD (tabF n d)) (.int a)=some (iL ((upt n).map (d a))):=by
  unfold tabD tabF
  refine zor h0 ?_
  rw [List.getElem?_map,List.getElem?_map,zcB (show a.toNat < n by omega)]
  simp [show ((a.toNat:Nat):Int)=a by omega]
theorem zg3 {n:Nat} {d:Int→Int→Int}:fLen [tabD (tabF n d)]=some (.int n):=by
  simp [tabD,tabF,zaZ]
def upd2 (d:Int→Int→Int) (a b v:Int):Int→Int→Int:=fun x y=>if x=a∧y=b then v else d x y
theorem zoK {n:Nat} {f:Int→Int} {b v:Int} (h0:0 ≤ b) (h1:b < n):((upt n).map f).set b.toNat v=(upt n).map fun y=>if y=b then v else f y:=by
  apply List.ext_getElem?
  intro i
  by_cases hi:i < n
  · rw [List.getElem?_map,zcB hi]
    by_cases e:b.toNat=i
    · rw [e,List.getElem?_set_self (by rw [List.length_map,zaZ]; exact hi)]
      have:(i:Int)=b:=by omega
      simp [this]
    · rw [List.getElem?_set_ne e,List.getElem?_map,zcB hi]
      have:¬ (i:Int)=b:=by omega
      simp [this]
  · rw [List.getElem?_eq_none_iff.mpr (by rw [List.length_set,List.length_map,zaZ]; omega),List.getElem?_eq_none_iff.mpr (by rw [List.length_map,zaZ]; omega)]
theorem zoV {n:Nat} {d:Int→Int→Int} {a b v:Int} (a0:0 ≤ a) (a1:a < n) (b0:0 ≤ b) (b1:b < n):(tabF n d).set a.toNat (((upt n).map (d a)).set b.toNat v)=tabF n (upd2 d a b v):=by
  rw [zoK b0 b1]
  unfold tabF
  apply List.ext_getElem?
  intro i
  by_cases hi:i < n
  · rw [List.getElem?_map,zcB hi]
    by_cases e:a.toNat=i
    · rw [e,List.getElem?_set_self (by rw [List.length_map,zaZ]; exact hi)]
      have:(i:Int)=a:=by omega
      simp [upd2,this]
    · rw [List.getElem?_set_ne e,List.getElem?_map,zcB hi]
      have:¬ (i:Int)=a:=by omega
      simp [upd2,this]
  · rw [List.getElem?_eq_none_iff.mpr (by rw [List.length_set,List.length_map,zaZ]; omega),List.getElem?_eq_none_iff.mpr (by rw [List.length_map,zaZ]; omega)]
def tabG (n:Nat) (d:Int→Int→Int):Tr:=tabT (tabF n d)
theorem zlz {n:Nat} {d:Int→Int→Int}:tabOf (some (.p (tabG n d)))=some (tabF n d):=by simp [tabG]
theorem zfP {i:Nat} {mk mj me:En→R D} {δ:En} {n:Nat} {d:Int→Int→Int} {a b v:Int} (h:δ[i]?=some (.p (tabG n d))) (hk:mk δ = .ok (.int a)) (hj:mj δ = .ok (.int b)) (hv:me δ = .ok (.int v)) (a0:0 ≤ a) (a1:a < n) (b0:0 ≤ b) (b1:b < n) :
    zjr i mk mj me δ = .nx (δ.set i (.p (tabG n (upd2 d a b v)))):=by
  have l1:(tabF n d).length=n:=by simp [tabF,zaZ]
  have e1:ixN (tabF n d).length a=some a.toNat:=by unfold ixN; rw [if_pos a0,l1,if_pos a1]
  have e2:(tabF n d)[a.toNat]?=some ((upt n).map (d a)):=by
    unfold tabF
    rw [List.getElem?_map,zcB (show a.toNat < n by omega)]
    simp [show ((a.toNat:Nat):Int)=a by omega]
  have e3:ixN ((upt n).map (d a)).length b=some b.toNat:=by unfold ixN; rw [if_pos b0,List.length_map,zaZ,if_pos b1]
  unfold zjr
  rw [h,zlz]
  simp only [hv,hk,hj,R.toO_ok,e1,e2,e3,zoV a0 a1 b0 b1,tabG]
structure LenOk (n:Nat) (B:Int) (d:Int→Int→Int):Prop where
  nn:∀ a b:Int,0 ≤ a→a < n→0 ≤ b→b < n→0 ≤ d a b∧d a b ≤ B
  self:∀ a:Int,0 ≤ a→a < n→d a a=0
  sym:∀ a b:Int,0 ≤ a→a < n→0 ≤ b→b < n→d a b=d b a
  tri:∀ a b c:Int,0 ≤ a→a < n→0 ≤ b→b < n→0 ≤ c→c < n→d a c ≤ d a b + d b c
theorem zdU {mi:En→R (List D)} {b:D→En→Option En} {m:En→O} {δ:En} {n:Nat} (h:mi δ = .ok ((upt n).map .int)):mFor mi b m δ=zde b m ((upt n).map .int) δ:=zbz h
theorem zgH {n:Nat} {B:Int} {d:Int→Int→Int} (hn:n ≤ 100) (ok:LenOk n B d):zbX [tabD (tabF n d)] = .ok .non:=by
  obtain ⟨T,eT⟩:∃ T,T=tabD (tabF n d):=⟨_,rfl⟩
  have tix:∀ a:Int,0 ≤ a→a < n→oIxL T (.int a)=some (iL ((upt n).map (d a))):=fun a h0 h1=>by rw [eT]; exact ze7 h0 h1
  rw [← eT]
  have rn:=rngT (show n ≤ 1000 by omega)
  have l1:∀ o2 o3 o4:Option D,∃ p2,zgG [.v T,.v (.int n),sv o2,sv o3,sv o4] = .nx [.v T,.v (.int n),sv p2,sv o3,sv o4]:=fun o2 o3 o4=>by
    obtain ⟨δ,h1,p2,rfl⟩:=za5 (b:=zap 2) (m:=zej) D.int (fun _ δ=>∃ p2,δ = [.v T,.v (.int n),sv p2,sv o3,sv o4]) (upt n)
      (by
        rintro pre a post δ hall ⟨p2,rfl⟩
        obtain ⟨a0,a1⟩:=mem_upt.mp (show a ∈ upt n by rw [hall]; simp)
        have r:=zcF (n:=n) (f:=d a) a0 a1
        rw [ok.self a a0 a1] at r
        refine ⟨[.v T,.v (.int n),.v (.int a),sv o3,sv o4],[.v T,.v (.int n),.v (.int a),sv o3,sv o4],zaT rfl,.inl ?_,some _,rfl⟩
        unfold zej
        rw [zbP (by simp [zar,mRd,mC,tix a a0 a1,r])]; rfl)
      [.v T,.v (.int n),sv o2,sv o3,sv o4] ⟨o2,rfl⟩
    exact ⟨p2,(zdU (by simp [mRng,zaa,mNil,mVar,rn])).trans h1⟩
  have l3:∀ o2 o3 o4:Option D,∃ p2 p3,zgR [.v T,.v (.int n),sv o2,sv o3,sv o4] = .nx [.v T,.v (.int n),sv p2,sv p3,sv o4]:=fun o2 o3 o4=>by
    obtain ⟨δ,h1,p2,p3,rfl⟩:=za5 (b:=zap 2) (m:=zf8) D.int (fun _ δ=>∃ p2 p3,δ = [.v T,.v (.int n),sv p2,sv p3,sv o4]) (upt n)
      (by
        rintro pre a post δ hall ⟨p2,p3,rfl⟩
        obtain ⟨a0,a1⟩:=mem_upt.mp (show a ∈ upt n by rw [hall]; simp)
        obtain ⟨δ2,g1,r3,rfl⟩:=za5 (b:=zap 3) (m:=zea) D.int (fun _ δ=>∃ r3,δ = [.v T,.v (.int n),.v (.int a),sv r3,sv o4]) (upt a.toNat)
          (by
            rintro pre2 b post2 δ hall2 ⟨r3,rfl⟩
            obtain ⟨b0,b1⟩:=mem_upt.mp (show b ∈ upt a.toNat by rw [hall2]; simp)
            have r1:=zcF (n:=n) (f:=d a) b0 (by omega)
            have r2:=zcF (n:=n) (f:=d b) a0 a1
            rw [ok.sym a b a0 a1 b0 (by omega)] at r1
            refine ⟨[.v T,.v (.int n),.v (.int a),.v (.int b),sv o4],[.v T,.v (.int n),.v (.int a),.v (.int b),sv o4],zaT rfl,.inl ?_,some _,rfl⟩
            unfold zea
            rw [zbP (by simp [zar,mRd,mC,tix a a0 a1,tix b b0 (by omega),r1,r2])]; rfl)
          [.v T,.v (.int n),.v (.int a),sv p3,sv o4] ⟨p3,rfl⟩
        refine ⟨[.v T,.v (.int n),.v (.int a),sv p3,sv o4],[.v T,.v (.int n),.v (.int a),sv r3,sv o4],zaT rfl,.inl ?_,some _,r3,rfl⟩
        have ra:=rngT (show a.toNat ≤ 1000 by omega)
        rw [show ((a.toNat:Nat):Int)=a by omega] at ra
        exact (zdU (n:=a.toNat) (by simp [mRng,zaa,mNil,mVar,ra])).trans g1)
      [.v T,.v (.int n),sv o2,sv o3,sv o4] ⟨o2,o3,rfl⟩
    exact ⟨p2,p3,(zdU (by simp [mRng,zaa,mNil,mVar,rn])).trans h1⟩
  have l6:∀ o2 o3 o4:Option D,∃ p2 p3 p4,zgM [.v T,.v (.int n),sv o2,sv o3,sv o4] = .nx [.v T,.v (.int n),sv p2,sv p3,sv p4]:=fun o2 o3 o4=>by
    obtain ⟨δ,h1,p2,p3,p4,rfl⟩:=za5 (b:=zap 2) (m:=zfQ) D.int (fun _ δ=>∃ p2 p3 p4,δ = [.v T,.v (.int n),sv p2,sv p3,sv p4]) (upt n)
      (by
        rintro pre a post δ hall ⟨p2,p3,p4,rfl⟩
        obtain ⟨a0,a1⟩:=mem_upt.mp (show a ∈ upt n by rw [hall]; simp)
        obtain ⟨δ2,g1,r3,r4,rfl⟩:=za5 (b:=zap 3) (m:=zfW) D.int (fun _ δ=>∃ r3 r4,δ = [.v T,.v (.int n),.v (.int a),sv r3,sv r4]) (upt n)
          (by
            rintro pre2 b post2 δ hall2 ⟨r3,r4,rfl⟩
            obtain ⟨b0,b1⟩:=mem_upt.mp (show b ∈ upt n by rw [hall2]; simp)
            obtain ⟨δ3,k1,t4,rfl⟩:=za5 (b:=zap 4) (m:=zee) D.int (fun _ δ=>∃ t4,δ = [.v T,.v (.int n),.v (.int a),.v (.int b),sv t4]) (upt n)
              (by
                rintro pre3 c post3 δ hall3 ⟨t4,rfl⟩
                obtain ⟨c0,c1⟩:=mem_upt.mp (show c ∈ upt n by rw [hall3]; simp)
                have r1:=zcF (n:=n) (f:=d a) b0 b1
                have r2:=zcF (n:=n) (f:=d b) c0 c1
                have r5:=zcF (n:=n) (f:=d a) c0 c1
                have tr:¬ d a b + d b c < d a c:=by have:=ok.tri a b c a0 a1 b0 b1 c0 c1; omega
                refine ⟨[.v T,.v (.int n),.v (.int a),.v (.int b),.v (.int c)],[.v T,.v (.int n),.v (.int a),.v (.int b),.v (.int c)],zaT rfl,.inl ?_,some _,rfl⟩
                unfold zee
                rw [zbP (by simp [zar,mRd,mC,tix a a0 a1,tix b b0 b1,r1,r2,r5,tr])]; rfl)
              [.v T,.v (.int n),.v (.int a),.v (.int b),sv r4] ⟨r4,rfl⟩
            refine ⟨[.v T,.v (.int n),.v (.int a),.v (.int b),sv r4],[.v T,.v (.int n),.v (.int a),.v (.int b),sv t4],zaT rfl,.inl ?_,some _,t4,rfl⟩
            exact (zdU (by simp [mRng,zaa,mNil,mVar,rn])).trans k1)
          [.v T,.v (.int n),.v (.int a),sv p3,sv p4] ⟨p3,p4,rfl⟩
        refine ⟨[.v T,.v (.int n),.v (.int a),sv p3,sv p4],[.v T,.v (.int n),.v (.int a),sv r3,sv r4],zaT rfl,.inl ?_,some _,r3,r4,rfl⟩
        exact (zdU (by simp [mRng,zaa,mNil,mVar,rn])).trans g1)
      [.v T,.v (.int n),sv o2,sv o3,sv o4] ⟨o2,o3,o4,rfl⟩
    exact ⟨p2,p3,p4,(zdU (by simp [mRng,zaa,mNil,mVar,rn])).trans h1⟩
  have lT:fLen [T]=some (.int n):=by rw [eT]; exact zg3
  obtain ⟨p2,e1⟩:=l1 none none none
  obtain ⟨q2,q3,e2⟩:=l3 p2 none none
  obtain ⟨r2,r3,r4,e3⟩:=l6 q2 q3 none
  refine zpu (δ:=[.v T,.v (.int n),sv r2,sv r3,sv r4]) ?_
  show mSeq _ _ [.v T,.no,.no,.no,.no]=_
  have s1:mAsg (mCB fLen (zaa (mRd 0) mNil)) (zap 1) [.v T,.no,.no,.no,.no] = .nx [.v T,.v (.int n),sv none,sv none,sv none]:=zax (d:=.int n) (by simp [mCB,zaa,mNil,mRd,lT]) rfl
  exact (zah s1).trans ((zah e1).trans ((zah e2).trans e3))
end My
namespace My
open PySem L2 PM
theorem zqp (z:Int):fAbs [.int z]=some (.int (z.natAbs:Int)):=by
  have:fAbs [.int z]=some (.int (if z < 0 then -z else z)):=rfl
  rw [this]; congr 2; split <;> omega
def encQ (p:Int × Int):D:=.tup [.int p.1,.int p.2]
theorem zo6 (ns:List Int) {n:Nat} {top:Int} (hn:n ≤ 12) (t0:0 ≤ top):∃ d,LenOk n (2 * top) d∧zb1 [.scr ns,.int n,.int top] = .ok (tabD (tabF n d)):=by
  obtain ⟨F,hF⟩:=Classical.axiomOfChoice (r:=fun (k:Int) (x:Int)=>0 ≤ k∧k ≤ 100→(0 ≤ x∧x ≤ top)∧zaH [.scr ns,.int k,.int top] = .ok (.int x)) (fun k=>by
    by_cases hk:0 ≤ k∧k ≤ 100
    · obtain ⟨x,a,b⟩:=zeQ ns (k:=k) (top:=top) (by omega) (by omega) t0
      exact ⟨x,fun _=>⟨a,b⟩⟩
    · exact ⟨0,fun z=>absurd z hk⟩)
  let sp:Int→Int × Int:=fun k=>(F (1 + 2 * k),F (2 + 2 * k))
  let d:Int→Int→Int:=fun a b=>(((sp a).1 - (sp b).1).natAbs:Int) + (((sp a).2 - (sp b).2).natAbs:Int)
  have bd:∀ k:Int,0 ≤ k→k < n→(0 ≤ (sp k).1∧(sp k).1 ≤ top)∧(0 ≤ (sp k).2∧(sp k).2 ≤ top):=fun k h0 h1=>⟨(hF (1 + 2 * k) (by omega)).1,(hF (2 + 2 * k) (by omega)).1⟩
  refine ⟨d,⟨fun a b a0 a1 b0 b1=>?_,fun a _ _=>?_,fun a b _ _ _ _=>?_,fun a b c _ _ _ _ _ _=>?_⟩,zcA ?_⟩
  · have:=bd a a0 a1
    have:=bd b b0 b1
    show 0 ≤ _ + _∧_ + _ ≤ _
    omega
  · show (((sp a).1 - (sp a).1).natAbs:Int) + (((sp a).2 - (sp a).2).natAbs:Int)=0
    omega
  · show (((sp a).1 - (sp b).1).natAbs:Int) + (((sp a).2 - (sp b).2).natAbs:Int)=(((sp b).1 - (sp a).1).natAbs:Int) + (((sp b).2 - (sp a).2).natAbs:Int)
    omega
  · show (((sp a).1 - (sp c).1).natAbs:Int) + (((sp a).2 - (sp c).2).natAbs:Int) ≤ (((sp a).1 - (sp b).1).natAbs:Int) + (((sp a).2 - (sp b).2).natAbs:Int) + ((((sp b).1 - (sp c).1).natAbs:Int) + (((sp b).2 - (sp c).2).natAbs:Int))
    omega
  · obtain ⟨S,eS⟩:∃ S,S=D.lst ((upt n).map fun k=>encQ (sp k)):=⟨_,rfl⟩
    have f2:Fit 2:=fitN 100 (by decide)
    have k1:zeb [.v (.scr ns),.v (.int n),.v (.int top),.no,.no,.no,.no] = .ok S:=by
      rw [eS]
      refine zcf (l:=(upt n).map .int) (by simp [mRng,zaa,mNil,mVar,rngT (show n ≤ 1000 by omega)]) (by rw [List.length_map,zaZ]; omega) ?_
      refine zbQ .int (fun k=>encQ (sp k)) _ fun k hk=>?_
      obtain ⟨a,b⟩:=mem_upt.mp hk
      have fk:Fit k:=fitN 100 (by omega)
      have h1:=(hF (1 + 2 * k) (by omega)).2
      have h2:=(hF (2 + 2 * k) (by omega)).2
      simp [zdZ,zaO,zkq,zbi,mTup,zag,zaa,mNil,mVar,mRd,mC,zd2 f2 fk,h1,h2,sizeLine,encQ,sp]
    obtain ⟨δ,h1,o5,o6,rfl⟩:=za5 (b:=bTup 2 (zbF (zap 5) (zbF (zap 6) bNil))) (m:=zds) (fun k=>encQ (sp k)) (fun pre δ=>∃ o5 o6,δ = [.v (.scr ns),.v (.int n),.v (.int top),.v S,.o (.lst (pre.map fun a=>iL ((upt n).map (d a)))),sv o5,sv o6]) (upt n)
      (by
        rintro pre a post δ hall ⟨o5,o6,rfl⟩
        have pl:pre.length ≤ 12:=by
          have:(upt n).length=n:=zaZ
          rw [hall] at this; simp at this; omega
        have k2:∀ L:Sl,zge [.v (.scr ns),.v (.int n),.v (.int top),.v S,L,.v (.int (sp a).1),.v (.int (sp a).2)] = .ok (iL ((upt n).map (d a))):=fun L=>by
          refine Eq.trans (zcf (l:=(upt n).map fun k=>encQ (sp k)) (r:=(upt n).map fun b=>.int (d a b)) (by simp [mItL,mRd,eS]) (by rw [List.length_map,zaZ]; omega) ?_) (by simp [iL])
          refine zbQ (fun k=>encQ (sp k)) (fun b=>.int (d a b)) _ fun b _=>?_
          simp [zdZ,zaO,zkq,zbi,mCB,zaa,mNil,mRd,mC,encQ,zqp,d]
        refine ⟨[.v (.scr ns),.v (.int n),.v (.int top),.v S,.o (.lst (pre.map fun a=>iL ((upt n).map (d a)))),.v (.int (sp a).1),.v (.int (sp a).2)],[.v (.scr ns),.v (.int n),.v (.int top),.v S,.o (.lst ((pre ++ [a]).map fun a=>iL ((upt n).map (d a)))),.v (.int (sp a).1),.v (.int (sp a).2)],?_,.inl ?_,some _,some _,rfl⟩
        · rcases o5 with _ | o5 <;> rcases o6 with _ | o6 <;> rfl
        · unfold zds
          refine (zeo (d:=iL ((upt n).map (d a))) rfl (k2 _) (by rw [List.length_map]; omega)).trans ?_
          simp)
      [.v (.scr ns),.v (.int n),.v (.int top),.v S,.o (.lst []),.no,.no] ⟨none,none,rfl⟩
    show mSeq _ _ [.v (.scr ns),.v (.int n),.v (.int top),.no,.no,.no,.no]=_
    have q1:mAsg zeb (zap 3) [.v (.scr ns),.v (.int n),.v (.int top),.no,.no,.no,.no] = .nx [.v (.scr ns),.v (.int n),.v (.int top),.v S,.no,.no,.no]:=zax k1 rfl
    have q2:mAsg (mLst mNil) (bNew 4) [.v (.scr ns),.v (.int n),.v (.int top),.v S,.no,.no,.no] = .nx [.v (.scr ns),.v (.int n),.v (.int top),.v S,.o (.lst []),.no,.no]:=zax (d:=.lst []) (by simp [mLst,mNil,sizeLine]) rfl
    have q3:zga [.v (.scr ns),.v (.int n),.v (.int top),.v S,.o (.lst []),.no,.no] = .nx [.v (.scr ns),.v (.int n),.v (.int top),.v S,.o (.lst ((upt n).map fun a=>iL ((upt n).map (d a)))),sv o5,sv o6]:=(zbz (by simp [mItL,mVar,eS])).trans h1
    refine (zah q1).trans ((zah q2).trans ((zah q3).trans ?_))
    simp [zhe,tabD,tabF]
structure SymOk (n:Nat) (B:Int) (d:Int→Int→Int):Prop where
  nn:∀ a b:Int,0 ≤ a→a < n→0 ≤ b→b < n→0 ≤ d a b∧d a b ≤ B
  self:∀ a:Int,0 ≤ a→a < n→d a a=0
  sym:∀ a b:Int,0 ≤ a→a < n→0 ≤ b→b < n→d a b=d b a
def newD (d:Int→Int→Int) (k:Int):Int→Int→Int:=fun a b=>if d a k + d k b < d a b then d a k + d k b else d a b
theorem zng {n:Nat} {B:Int} {d:Int→Int→Int} {k:Int} (h:SymOk n B d) (k0:0 ≤ k) (k1:k < n):SymOk n B (newD d k):=by
  refine ⟨fun a b a0 a1 b0 b1=>?_,fun a a0 a1=>?_,fun a b a0 a1 b0 b1=>?_⟩
  · have:=h.nn a b a0 a1 b0 b1
    have:=h.nn a k a0 a1 k0 k1
    have:=h.nn k b k0 k1 b0 b1
    unfold newD; split <;> omega
  · have:=h.self a a0 a1
    have:=h.nn a k a0 a1 k0 k1
    have:=h.nn k a k0 k1 a0 a1
    unfold newD; split <;> omega
  · have:=h.sym a b a0 a1 b0 b1
    have:=h.sym a k a0 a1 k0 k1
    have:=h.sym k b k0 k1 b0 b1
    unfold newD; split <;> split <;> omega
theorem zmX {n:Nat} {B:Int} {d:Int→Int→Int} {k:Int} (h:SymOk n B d) (k0:0 ≤ k) (k1:k < n) {M:List Int} (hM:∀ m ∈ M,0 ≤ m∧m < n) (met:∀ m ∈ M,∀ a b:Int,0 ≤ a→a < n→0 ≤ b→b < n→d a b ≤ d a m + d m b) :
    ∀ m ∈ M ++ [k],∀ a b:Int,0 ≤ a→a < n→0 ≤ b→b < n→newD d k a b ≤ newD d k a m + newD d k m b:=by
  intro m hm a b a0 a1 b0 b1
  have kk:=h.self k k0 k1
  rcases List.mem_append.mp hm with z | z
  · obtain ⟨m0,m1⟩:=hM m z
    have e1:=met m z a b a0 a1 b0 b1
    have e2:=met m z k b k0 k1 b0 b1
    have e3:=met m z a k a0 a1 k0 k1
    have p1:=h.nn k m k0 k1 m0 m1
    have p2:=h.nn m k m0 m1 k0 k1
    unfold newD
    split <;> split <;> split <;> omega
  · rw [List.mem_singleton.mp z]
    have p1:=h.nn a k a0 a1 k0 k1
    have p2:=h.nn k b k0 k1 b0 b1
    unfold newD
    split <;> split <;> split <;> omega
def half (d:Int→Int→Int) (k a b:Int):Int→Int→Int:=fun x y=>if x < a∨(x=a∧y < b) then newD d k x y else d x y
theorem zkL {n:Nat} {d e:Int→Int→Int} (h:∀ a b:Int,0 ≤ a→a < n→0 ≤ b→b < n→d a b=e a b):tabF n d=tabF n e:=by
  unfold tabF
  refine List.map_congr_left fun a ha=>List.map_congr_left fun b hb=>?_
  obtain ⟨a0,a1⟩:=mem_upt.mp ha
  obtain ⟨b0,b1⟩:=mem_upt.mp hb
  exact h a b a0 a1 b0 b1
theorem zev {n:Nat} {pre post:List Int} {x:Int} (h:upt n=pre ++ x :: post):x=pre.length∧pre.length < n∧pre=upt pre.length:=by
  have ul:(upt n).length=n:=zaZ
  have pl:pre.length < n:=by rw [h] at ul; simp at ul; omega
  refine ⟨?_,pl,?_⟩
  · have h1:(upt n)[pre.length]?=some x:=by rw [h]; simp
    rw [zcB pl] at h1
    exact (Option.some.inj h1).symm
  · apply List.ext_getElem?
    intro i
    by_cases hi:i < pre.length
    · have h1:(upt n)[i]?=pre[i]?:=by rw [h,List.getElem?_append_left hi]
      rw [zcB hi,← h1,zcB (by omega)]
    · rw [List.getElem?_eq_none_iff.mpr (by omega),List.getElem?_eq_none_iff.mpr (by rw [zaZ]; omega)]
theorem zon {ll:List (List Int)} {l:En}:peek (.p (tabT ll) :: l) = .v (tabD ll) :: peek l:=by
  show Sl.v (trD (tabT ll)) :: _=_
  rw [zfx]; rfl
theorem zdT {n:Nat} {d e:Int→Int→Int} (h:∀ a b:Int,0 ≤ a→a < n→0 ≤ b→b < n→d a b=e a b):tabG n d=tabG n e:=by unfold tabG; rw [zkL h]
theorem zqx {n:Nat} {e:Int→Int→Int} {l:En}:peek (.p (tabG n e) :: l) = .v (tabD (tabF n e)) :: peek l:=by
  show Sl.v (trD (tabT (tabF n e))) :: _=_
  rw [zfx]; rfl
theorem zjf {n:Nat} {B:Int} {d:Int→Int→Int} (hn:n ≤ 100) (h:SymOk n B d):∃ e,LenOk n B e∧zbj (tabF n d) = .ok (tabD (tabF n e)):=by
  have rn:=rngT (show n ≤ 1000 by omega)
  have rng':∀ (e:Int→Int→Int) (l:En),mRng (zaa (zed (mCB fLen (zaa (mRd 0) mNil))) mNil) (.p (tabG n e) :: l) = .ok ((upt n).map .int):=fun e l=>by
    have p:zed (mCB fLen (zaa (mRd 0) mNil)) (.p (tabG n e) :: l) = .ok (.int n):=by
      unfold zed
      rw [zqx]
      simp [mCB,zaa,mNil,mRd,zg3,zdG]
    simp [mRng,zaa,mNil,p,rn]
  have inner:∀ (d:Int→Int→Int) (k a:Int) (o3 o4:Option D),SymOk n B d→0 ≤ k→k < n→0 ≤ a→a < n→∃ p3 p4,zdD [.p (tabG n (half d k a 0)),.v (.int k),.v (.int a),sv o3,sv o4] = .nx [.p (tabG n (half d k (a + 1) 0)),.v (.int k),.v (.int a),sv p3,sv p4]:=fun d k a o3 o4 hs k0 k1 a0 a1=>by
    have kk:=hs.self k k0 k1
    obtain ⟨δ,h1,p3,p4,rfl⟩:=za5 (b:=zap 3) (m:=zdm) D.int (fun pre δ=>∃ p3 p4,δ = [.p (tabG n (half d k a pre.length)),.v (.int k),.v (.int a),sv p3,sv p4]) (upt n)
      (by
        rintro pre b post δ hall ⟨p3,p4,rfl⟩
        obtain ⟨eb,_,_⟩:=zev hall
        obtain ⟨b0,b1⟩:=mem_upt.mp (show b ∈ upt n by rw [hall]; simp)
        rw [← eb]
        obtain ⟨T,eT⟩:∃ T,T=tabF n (half d k a b):=⟨_,rfl⟩
        have v1:half d k a b a k=d a k:=by
          have:=hs.nn a k a0 a1 k0 k1
          unfold half newD; (repeat' split) <;> omega
        have v2:half d k a b k b=d k b:=by
          have:=hs.nn k b k0 k1 b0 b1
          unfold half newD; (repeat' split) <;> omega
        have v3:half d k a b a b=d a b:=by
          unfold half; rw [if_neg (by omega)]
        have ta:=ze7 (n:=n) (d:=half d k a b) a0 a1
        have tk:=ze7 (n:=n) (d:=half d k a b) k0 k1
        have r1:=zcF (n:=n) (f:=half d k a b a) k0 k1
        have r2:=zcF (n:=n) (f:=half d k a b k) b0 b1
        have r3:=zcF (n:=n) (f:=half d k a b a) b0 b1
        rw [v1] at r1
        rw [v2] at r2
        rw [v3] at r3
        rw [← eT] at ta tk
        rw [show tabG n (half d k a b)=tabT T by rw [eT]; rfl]
        have q1:mAsg (zed (m2 oAdd (m2 oIxL (m2 oIxL (mRd 0) (mRd 2)) (mRd 1)) (m2 oIxL (m2 oIxL (mRd 0) (mRd 1)) (mRd 3)))) (zap 4) [.p (tabT T),.v (.int k),.v (.int a),.v (.int b),sv p4] = .nx [.p (tabT T),.v (.int k),.v (.int a),.v (.int b),.v (.int (d a k + d k b))]:=by
          refine zax (d:=.int (d a k + d k b)) ?_ (zaT rfl)
          unfold zed
          rw [zon]
          simp [peek,znl,mRd,ta,tk,r1,r2,zdG]
        have pv:zed (mCB zhn (zaa (m2 oIxL (m2 oIxL (mRd 0) (mRd 2)) (mRd 3)) (zaa (mRd 4) mNil))) [.p (tabT T),.v (.int k),.v (.int a),.v (.int b),.v (.int (d a k + d k b))] = .ok (.int (newD d k a b)):=by
          unfold zed
          rw [zon]
          simp [peek,znl,mCB,zaa,mNil,mRd,ta,r3,zhn,zdG,newD]
        have q2:=zfP (i:=0) (mk:=mVar 2) (mj:=mVar 3) (me:=zed (mCB zhn (zaa (m2 oIxL (m2 oIxL (mRd 0) (mRd 2)) (mRd 3)) (zaa (mRd 4) mNil)))) (δ:=[.p (tabT T),.v (.int k),.v (.int a),.v (.int b),.v (.int (d a k + d k b))]) (d:=half d k a b) (n:=n) (by rw [eT]; rfl) rfl rfl pv a0 a1 b0 b1
        have eq2:tabG n (upd2 (half d k a b) a b (newD d k a b))=tabG n (half d k a (pre ++ [b]).length):=zdT fun x y _ _ _ _=>by
          have:((pre ++ [b]).length:Int)=b + 1:=by simp; omega
          rw [this]
          unfold upd2 half
          by_cases c1:x=a∧y=b
          · rw [if_pos c1,if_pos (by omega),c1.1,c1.2]
          · rw [if_neg c1]
            by_cases c2:x < a∨x=a∧y < b
            · rw [if_pos c2,if_pos (by omega)]
            · rw [if_neg c2,if_neg (by omega)]
        rw [eq2] at q2
        exact ⟨[.p (tabT T),.v (.int k),.v (.int a),.v (.int b),sv p4],_,zaT rfl,.inl ((zah q1).trans q2),some (.int b),some (.int (d a k + d k b)),rfl⟩)
      [.p (tabG n (half d k a 0)),.v (.int k),.v (.int a),sv o3,sv o4] ⟨o3,o4,rfl⟩
    refine ⟨p3,p4,(zbz (rng' _ _)).trans (h1.trans ?_)⟩
    have:tabG n (half d k a (upt n).length)=tabG n (half d k (a + 1) 0):=zdT fun x y _ _ _ hy=>by
      rw [zaZ]
      unfold half
      by_cases c:x < a∨x=a∧y < (n:Int)
      · rw [if_pos c,if_pos (by omega)]
      · rw [if_neg c,if_neg (by omega)]
    rw [this]
  have mid:∀ (d:Int→Int→Int) (k:Int) (o2 o3 o4:Option D),SymOk n B d→0 ≤ k→k < n→∃ p2 p3 p4,zdC [.p (tabG n d),.v (.int k),sv o2,sv o3,sv o4] = .nx [.p (tabG n (newD d k)),.v (.int k),sv p2,sv p3,sv p4]:=fun d k o2 o3 o4 hs k0 k1=>by
    obtain ⟨δ,h1,p2,p3,p4,rfl⟩:=za5 (b:=zap 2) (m:=zdp) D.int (fun pre δ=>∃ p2 p3 p4,δ = [.p (tabG n (half d k pre.length 0)),.v (.int k),sv p2,sv p3,sv p4]) (upt n)
      (by
        rintro pre a post δ hall ⟨p2,p3,p4,rfl⟩
        obtain ⟨ea,_,_⟩:=zev hall
        obtain ⟨a0,a1⟩:=mem_upt.mp (show a ∈ upt n by rw [hall]; simp)
        rw [← ea]
        obtain ⟨r3,r4,e⟩:=inner d k a p3 p4 hs k0 k1 a0 a1
        refine ⟨[.p (tabG n (half d k a 0)),.v (.int k),.v (.int a),sv p3,sv p4],_,zaT rfl,.inl e,some (.int a),r3,r4,?_⟩
        have:((pre ++ [a]).length:Int)=a + 1:=by simp; omega
        rw [this]; rfl)
      [.p (tabG n (half d k 0 0)),.v (.int k),sv o2,sv o3,sv o4] ⟨o2,o3,o4,rfl⟩
    have e0:tabG n (half d k 0 0)=tabG n d:=zdT fun x y x0 _ y0 _=>by unfold half; rw [if_neg (by omega)]
    have e1:tabG n (half d k (upt n).length 0)=tabG n (newD d k):=zdT fun x y _ x1 _ _=>by rw [zaZ]; unfold half; rw [if_pos (by omega)]
    rw [e0,e1] at h1
    exact ⟨p2,p3,p4,(zbz (rng' _ _)).trans h1⟩
  obtain ⟨δ,h1,e,p1,p2,p3,p4,rfl,hs,met⟩:=za5 (b:=zap 1) (m:=zdl) D.int (fun pre δ=>∃ (e:Int→Int→Int) (p1 p2 p3 p4:Option D),δ = [.p (tabG n e),sv p1,sv p2,sv p3,sv p4]∧SymOk n B e∧∀ m ∈ pre,∀ a b:Int,0 ≤ a→a < n→0 ≤ b→b < n→e a b ≤ e a m + e m b) (upt n)
    (by
      rintro pre k post δ hall ⟨e,p1,p2,p3,p4,rfl,hs,met⟩
      obtain ⟨k0,k1⟩:=mem_upt.mp (show k ∈ upt n by rw [hall]; simp)
      obtain ⟨r2,r3,r4,e2⟩:=mid e k p2 p3 p4 hs k0 k1
      exact ⟨[.p (tabG n e),.v (.int k),sv p2,sv p3,sv p4],_,zaT rfl,.inl e2,newD e k,some (.int k),r2,r3,r4,rfl,zng hs k0 k1,zmX hs k0 k1 (fun m hm=>mem_upt.mp (show m ∈ upt n by rw [hall]; exact List.mem_append_left _ hm)) met⟩)
    [.p (tabG n d),.no,.no,.no,.no] ⟨d,none,none,none,none,rfl,h,fun m hm=>by cases hm⟩
  refine ⟨e,⟨hs.nn,hs.self,hs.sym,fun a b c a0 a1 b0 b1 c0 c1=>met b (mem_upt.mpr ⟨b0,b1⟩) a c a0 a1 c0 c1⟩,?_⟩
  have q:zcd [.p (tabG n d),.no,.no,.no,.no] = .ro (tabD (tabF n e)):=by
    have q1:zdL [.p (tabG n d),.no,.no,.no,.no] = .nx [.p (tabG n e),sv p1,sv p2,sv p3,sv p4]:=(zbz (rng' _ _)).trans h1
    exact (zah q1).trans (show O.ro (trD (tabT (tabF n e)))=_ by rw [zfx])
  show runT 4 zcd (tabF n d)=_
  unfold runT
  rw [show (Sl.p (tabT (tabF n d)) :: List.replicate 4 Sl.no) = [.p (tabG n d),.no,.no,.no,.no] from rfl,q]
end My
namespace My
open PySem L2 PM
theorem ziK {α:Type} {f:D→R (List Int)} (enc:α→D) (g:α→List Int) (l:List α) (h:∀ x ∈ l,f (enc x) = .ok (g x)):zcl f (l.map enc) = .ok (l.map g):=by
  induction l with
  | nil=>rfl
  | cons a l ih=>rw [List.map_cons,zcl,h a (by simp),R.bind_ok,ih fun x hx=>h x (by simp [hx]),R.bind_ok]; rfl
theorem zm2 {n:Nat} {B:Int} {d:Int→Int→Int} {a b v:Int} (h:SymOk n B d) (a0:0 ≤ a) (b0:0 ≤ b) (ne:a ≠ b) (v0:0 ≤ v) (v1:v ≤ B):SymOk n B (upd2 (upd2 d a b v) b a v):=by
  refine ⟨fun x y x0 x1 y0 y1=>?_,fun x x0 x1=>?_,fun x y x0 x1 y0 y1=>?_⟩
  · have:=h.nn x y x0 x1 y0 y1
    unfold upd2; (repeat' split) <;> omega
  · have:=h.self x x0 x1
    unfold upd2; (repeat' split) <;> omega
  · have:=h.sym x y x0 x1 y0 y1
    unfold upd2; (repeat' split) <;> omega
theorem zke (ns:List Int) {most:Int} (t0:0 ≤ most) (t1:most ≤ 1000000000000000000):∃ (n:Nat) (d:Int→Int→Int),(1 ≤ n∧n ≤ 11)∧LenOk n 2000000000000000000 d∧zbu [.scr ns,.int most] = .ok (tabD (tabF n d)):=by
  obtain ⟨c,ec⟩:∃ c,c=ns.getD 0 0:=⟨_,rfl⟩
  have c0:zaJ [.scr ns,.int 0] = .ok (.int c):=by rw [ec]; exact zgZ ns 0
  have f7:Fit 7:=fitN 1000 (by decide)
  have f56:Fit 56:=fitN 1000 (by decide)
  have f112:Fit 112:=fitN 1000 (by decide)
  have f336:Fit 336:=fitN 1000 (by decide)
  obtain ⟨n,hn1,hn2,hn⟩:∃ n:Nat,1 ≤ n∧n ≤ 11∧(n:Int)=if c / 7 % 8=3 then 8 + c / 56 % 4 else 1 + c % 7:=by
    have a1:=zgb (c / 56) (show (0:Int) < 5 by decide)
    have a2:=zgj (c / 56) (show (0:Int) < 5 by decide)
    have a3:=zgb c (show (0:Int) < 7 by decide)
    have a4:=zgj c (show (0:Int) < 7 by decide)
    by_cases h:c / 7 % 8=3
    · exact ⟨(8 + c / 56 % 4).toNat,by omega,by omega,by rw [if_pos h]; omega⟩
    · exact ⟨(1 + c % 7).toNat,by omega,by omega,by rw [if_neg h]; omega⟩
  obtain ⟨w,ew⟩:∃ w,w=c / 112 % 3:=⟨_,rfl⟩
  have w0:0 ≤ w:=by rw [ew]; exact zgb _ (by decide)
  have w1:w < 3:=by rw [ew]; exact zgj _ (by decide)
  obtain ⟨top,⟨p0,p1⟩,itop⟩:∃ top:Int,(0 ≤ top∧top ≤ 1000000000000000000)∧oIxL (.lst [.int 6,.int 60,.int most]) (.int (c / 336 % 3))=some (.int top):=by
    have h0:=zgb (c / 336) (show (0:Int) < 3 by decide)
    have h1:=zgj (c / 336) (show (0:Int) < 3 by decide)
    rcases (show c / 336 % 3=0∨c / 336 % 3=1∨c / 336 % 3=2 by omega) with e | e | e <;> rw [e]
    · exact ⟨6,by decide,rfl⟩
    · exact ⟨60,by decide,rfl⟩
    · exact ⟨most,⟨t0,t1⟩,rfl⟩
  have rn:=rngT (show n ≤ 1000 by omega)
  have big:∀ {d:Int→Int→Int} {B:Int},B ≤ 2000000000000000000→LenOk n B d→LenOk n 2000000000000000000 d:=fun hB h=>⟨fun a b a0 a1 b0 b1=>by have:=h.nn a b a0 a1 b0 b1; omega,h.self,h.sym,h.tri⟩
  have q1:mAsg (zag zaJ (zaa (mVar 0) (zaa (mC (.int 0)) mNil))) (zap 2) [.v (.scr ns),.v (.int most),.no,.no,.no,.no,.no,.no,.no,.no] = .nx [.v (.scr ns),.v (.int most),.v (.int c),.no,.no,.no,.no,.no,.no,.no]:=zax (d:=.int c) (by simp [zag,zaa,mNil,mVar,mC,c0]) rfl
  have q2:mAsg (m2 oAdd (mC (.int 1)) (m2 oMod (mRd 2) (mC (.int 7)))) (zap 3) [.v (.scr ns),.v (.int most),.v (.int c),.no,.no,.no,.no,.no,.no,.no] = .nx [.v (.scr ns),.v (.int most),.v (.int c),.v (.int (1 + c % 7)),.no,.no,.no,.no,.no,.no]:=zax (d:=.int (1 + c % 7)) (by simp [mRd,mC,zd9]) rfl
  have q3:mIfS (zar (m2 oEq (m2 oMod (m2 oDiv (mRd 2) (mC (.int 7))) (mC (.int 8))) (mC (.int 3)))) (mAsg (m2 oAdd (mC (.int 8)) (m2 oMod (m2 oDiv (mRd 2) (mC (.int 56))) (mC (.int 4)))) (zap 3)) zbv [.v (.scr ns),.v (.int most),.v (.int c),.v (.int (1 + c % 7)),.no,.no,.no,.no,.no,.no] = .nx [.v (.scr ns),.v (.int most),.v (.int c),.v (.int n),.no,.no,.no,.no,.no,.no]:=by
    by_cases h:c / 7 % 8=3
    · rw [if_pos h] at hn
      rw [zew (by simp [zar,mRd,mC,zd9,zgT,f7,h])]
      exact zax (d:=.int n) (by simp [mRd,mC,zd9,zgT,f56,hn]) rfl
    · rw [if_neg h] at hn
      rw [zbP (by simp [zar,mRd,mC,zd9,zgT,f7,h]),hn]; rfl
  have q4:mAsg (m2 oMod (m2 oDiv (mRd 2) (mC (.int 112))) (mC (.int 3))) (zap 4) [.v (.scr ns),.v (.int most),.v (.int c),.v (.int n),.no,.no,.no,.no,.no,.no] = .nx [.v (.scr ns),.v (.int most),.v (.int c),.v (.int n),.v (.int w),.no,.no,.no,.no,.no]:=zax (d:=.int w) (by simp [mRd,mC,zd9,zgT,f112,ew]) rfl
  have q5:mAsg (m2 oIxL (mLst (zaa (mC (.int 6)) (zaa (mC (.int 60)) (zaa (mVar 1) mNil)))) (m2 oMod (m2 oDiv (mRd 2) (mC (.int 336))) (mC (.int 3)))) (zap 5) [.v (.scr ns),.v (.int most),.v (.int c),.v (.int n),.v (.int w),.no,.no,.no,.no,.no] = .nx [.v (.scr ns),.v (.int most),.v (.int c),.v (.int n),.v (.int w),.v (.int top),.no,.no,.no,.no]:=zax (d:=.int top) (by simp [mLst,zaa,mNil,mVar,mRd,mC,sizeLine,zd9,zgT,f336,itop]) rfl
  have run:∀ X,_→zbu [.scr ns,.int most] = .ok X:=fun X hX=>zcA ((zah q1).trans ((zah q2).trans ((zah q3).trans ((zah q4).trans ((zah q5).trans hX)))))
  by_cases hw0:w=0
  · obtain ⟨d,hd,hg⟩:=zo6 ns (n:=n) (top:=top) (by omega) p0
    refine ⟨n,d,⟨hn1,hn2⟩,big (by omega) hd,run _ ?_⟩
    have:mIfS (zar (m2 oEq (mRd 4) (mC (.int 0)))) (zeT (zag zb1 (zaa (mVar 0) (zaa (mVar 3) (zaa (mVar 5) mNil))))) zbv [.v (.scr ns),.v (.int most),.v (.int c),.v (.int n),.v (.int w),.v (.int top),.no,.no,.no,.no] = .ro (tabD (tabF n d)):=by
      rw [zew (by simp [zar,mRd,mC,hw0])]
      simp [zeT,zag,zaa,mNil,mVar,hg]
    unfold mSeq
    rw [this]
  · have q6:mIfS (zar (m2 oEq (mRd 4) (mC (.int 0)))) (zeT (zag zb1 (zaa (mVar 0) (zaa (mVar 3) (zaa (mVar 5) mNil))))) zbv [.v (.scr ns),.v (.int most),.v (.int c),.v (.int n),.v (.int w),.v (.int top),.no,.no,.no,.no] = .nx [.v (.scr ns),.v (.int most),.v (.int c),.v (.int n),.v (.int w),.v (.int top),.no,.no,.no,.no]:=by
      rw [zbP (by simp [zar,mRd,mC,hw0])]; rfl
    obtain ⟨lo,elo⟩:∃ lo:Int,lo=if w=1 then top else 0:=⟨_,rfl⟩
    have lo0:0 ≤ lo∧lo ≤ top:=by rw [elo]; split <;> omega
    have k2:zca [.v (.scr ns),.v (.int most),.v (.int c),.v (.int n),.v (.int w),.v (.int top),.no,.no,.no,.no] = .ok (tabF n fun _ _=>0):=by
      unfold zca zmB
      have r:mRng (zaa (mVar 3) mNil) [.v (.scr ns),.v (.int most),.v (.int c),.v (.int n),.v (.int w),.v (.int top),.no,.no,.no,.no] = .ok ((upt n).map .int):=by simp [mRng,zaa,mNil,mVar,rn]
      rw [r,R.bind_ok,zaX (by rw [List.length_map,zaZ]; exact Nat.le_trans hn2 (by decide))]
      have g:zcl (ziO (zbi 1) zcS (zaO [.v (.scr ns),.v (.int most),.v (.int c),.v (.int n),.v (.int w),.v (.int top),.no,.no,.no,.no] [3] 1)) ((upt n).map .int) = .ok ((upt n).map fun _=>(upt n).map fun _=>(0:Int)):=by
        refine ziK .int _ _ fun a _=>?_
        have k1:zcS [.v (.int n),.v (.int a)] = .ok (iL ((upt n).map fun _=>(0:Int))):=by
          refine Eq.trans (zcf (l:=(upt n).map .int) (r:=(upt n).map fun _=>.int 0) (by simp [mRng,zaa,mNil,mVar,rn]) (by rw [List.length_map,zaZ]; omega) ?_) (by simp [iL])
          exact zbQ .int (fun _=>.int 0) _ fun k _=>by simp [zdZ,zaO,zbi,mC]
        have e:zaO [.v (.scr ns),.v (.int most),.v (.int c),.v (.int n),.v (.int w),.v (.int top),.no,.no,.no,.no] [3] 1 = [.v (.int n),.no]:=rfl
        have al:asIl (iL ((upt n).map fun _=>(0:Int)))=some ((upt n).map fun _=>(0:Int)):=zcO _
        rw [e]
        simp [ziO,zbi,k1,al]
      rw [g]; rfl
    have q7:zne zca 6 [.v (.scr ns),.v (.int most),.v (.int c),.v (.int n),.v (.int w),.v (.int top),.no,.no,.no,.no] = .nx [.v (.scr ns),.v (.int most),.v (.int c),.v (.int n),.v (.int w),.v (.int top),.p (tabG n fun _ _=>0),.no,.no,.no]:=by
      unfold zne
      rw [k2]; rfl
    have inner:∀ (d:Int→Int→Int) (a:Int) (o8 o9:Option D),SymOk n (2 * top) d→0 ≤ a→a < n→(∀ x y:Int,0 ≤ x→x < a→0 ≤ y→y < a→x ≠ y→lo ≤ d x y) →
        ∃ d' p8 p9,zd8 [.v (.scr ns),.v (.int most),.v (.int c),.v (.int n),.v (.int w),.v (.int top),.p (tabG n d),.v (.int a),sv o8,sv o9] = .nx [.v (.scr ns),.v (.int most),.v (.int c),.v (.int n),.v (.int w),.v (.int top),.p (tabG n d'),.v (.int a),sv p8,sv p9]∧SymOk n (2 * top) d'∧∀ x y:Int,0 ≤ x→x < a + 1→0 ≤ y→y < a + 1→x ≠ y→lo ≤ d' x y:=fun d a o8 o9 hs a0 a1 hd=>by
      obtain ⟨δ,h1,e,p8,p9,rfl,es,ed⟩:=za5 (b:=zap 8) (m:=zdF) D.int (fun pre δ=>∃ (e:Int→Int→Int) (p8 p9:Option D),δ = [.v (.scr ns),.v (.int most),.v (.int c),.v (.int n),.v (.int w),.v (.int top),.p (tabG n e),.v (.int a),sv p8,sv p9]∧SymOk n (2 * top) e∧∀ x y:Int,0 ≤ x→x < a + 1→0 ≤ y→y < a + 1→x ≠ y→(x < a∨y < pre.length)→(y < a∨x < pre.length)→lo ≤ e x y) (upt a.toNat)
        (by
          rintro pre b post δ hall ⟨e,p8,p9,rfl,es,ed⟩
          obtain ⟨eb,_,_⟩:=zev hall
          obtain ⟨b0,b1⟩:=mem_upt.mp (show b ∈ upt a.toNat by rw [hall]; simp)
          have aa:0 ≤ a * (a - 1):=Int.mul_nonneg a0 (by omega)
          have ab:a * (a - 1) ≤ 12 * 12:=Int.mul_le_mul (by omega) (by omega) (by omega) (by decide)
          obtain ⟨x,⟨x0,x1⟩,hx⟩:=zeQ ns (k:=1 + a * (a - 1) / 2 + b) (top:=top) (by omega) (by omega) p0
          have fa:Fit a:=fitN 100 (by omega)
          have fa1:Fit (a - 1):=fitN 100 (by omega)
          have f2:Fit 2:=fitN 100 (by decide)
          obtain ⟨v,ev⟩:∃ v,v=if w=1 then x + top else x:=⟨_,rfl⟩
          have v0:lo ≤ v∧0 ≤ v∧v ≤ 2 * top:=by rw [ev,elo]; split <;> omega
          have s1:mAsg (zag zaH (zaa (mVar 0) (zaa (m2 oAdd (m2 oAdd (mC (.int 1)) (m2 oDiv (m2 oMul (mRd 7) (m2 oSub (mRd 7) (mC (.int 1)))) (mC (.int 2)))) (mRd 8)) (zaa (mVar 5) mNil)))) (zap 9) [.v (.scr ns),.v (.int most),.v (.int c),.v (.int n),.v (.int w),.v (.int top),.p (tabG n e),.v (.int a),.v (.int b),sv p9] = .nx [.v (.scr ns),.v (.int most),.v (.int c),.v (.int n),.v (.int w),.v (.int top),.p (tabG n e),.v (.int a),.v (.int b),.v (.int x)]:=by
            refine zax (d:=.int x) ?_ (zaT rfl)
            simp [zag,zaa,mNil,mVar,mRd,mC,zd2 fa fa1,zgT,f2,hx]
          have s2:mIfS (zar (m2 oEq (mRd 4) (mC (.int 1)))) (mAsg (m2 oAdd (mRd 9) (mRd 5)) (zap 9)) zbv [.v (.scr ns),.v (.int most),.v (.int c),.v (.int n),.v (.int w),.v (.int top),.p (tabG n e),.v (.int a),.v (.int b),.v (.int x)] = .nx [.v (.scr ns),.v (.int most),.v (.int c),.v (.int n),.v (.int w),.v (.int top),.p (tabG n e),.v (.int a),.v (.int b),.v (.int v)]:=by
            by_cases h:w=1
            · rw [if_pos h] at ev
              rw [zew (by simp [zar,mRd,mC,h])]
              exact zax (d:=.int v) (by simp [mRd,ev]) rfl
            · rw [if_neg h] at ev
              rw [zbP (by simp [zar,mRd,mC,h]),ev]; rfl
          have s3:=zfP (i:=6) (mk:=mVar 7) (mj:=mVar 8) (me:=mVar 9) (δ:=[.v (.scr ns),.v (.int most),.v (.int c),.v (.int n),.v (.int w),.v (.int top),.p (tabG n e),.v (.int a),.v (.int b),.v (.int v)]) (n:=n) (d:=e) rfl rfl rfl rfl a0 a1 b0 (by omega)
          have s4:=zfP (i:=6) (mk:=mVar 8) (mj:=mVar 7) (me:=mVar 9) (δ:=[.v (.scr ns),.v (.int most),.v (.int c),.v (.int n),.v (.int w),.v (.int top),.p (tabG n (upd2 e a b v)),.v (.int a),.v (.int b),.v (.int v)]) (n:=n) (d:=upd2 e a b v) rfl rfl rfl rfl b0 (by omega) a0 a1
          refine ⟨[.v (.scr ns),.v (.int most),.v (.int c),.v (.int n),.v (.int w),.v (.int top),.p (tabG n e),.v (.int a),.v (.int b),sv p9],_,zaT rfl,.inl ((zah s1).trans ((zah s2).trans ((zah s3).trans s4))),upd2 (upd2 e a b v) b a v,some (.int b),some (.int v),rfl,zm2 es a0 b0 (by omega) v0.2.1 v0.2.2,fun y z y0 y1 z0 z1 yz h1 h2=>?_⟩
          have pl:((pre ++ [b]).length:Int)=b + 1:=by simp; omega
          rw [pl] at h1 h2
          have h3:=ed y z y0 y1 z0 z1 yz
          have v1:=v0.1
          unfold upd2
          (repeat' split) <;> first | exact v1 | (refine h3 ?_ ?_ <;> omega))
        [.v (.scr ns),.v (.int most),.v (.int c),.v (.int n),.v (.int w),.v (.int top),.p (tabG n d),.v (.int a),sv o8,sv o9] ⟨d,o8,o9,rfl,hs,fun x y x0 x1 y0 y1 xy h1 h2=>by
          simp at h1 h2
          exact hd x y x0 (by omega) y0 (by omega) xy⟩
      refine ⟨e,p8,p9,(zbz (l:=(upt a.toNat).map .int) ?_).trans h1,es,fun x y x0 x1 y0 y1 xy=>ed x y x0 x1 y0 y1 xy (by rw [zaZ]; omega) (by rw [zaZ]; omega)⟩
      have ra:=rngT (show a.toNat ≤ 1000 by omega)
      rw [show ((a.toNat:Nat):Int)=a by omega] at ra
      simp [mRng,zaa,mNil,mVar,ra]
    obtain ⟨δ,h1,d,o7,o8,o9,rfl,hs,hd⟩:=za5 (b:=zap 7) (m:=zdu) D.int (fun pre δ=>∃ (d:Int→Int→Int) (o7 o8 o9:Option D),δ = [.v (.scr ns),.v (.int most),.v (.int c),.v (.int n),.v (.int w),.v (.int top),.p (tabG n d),sv o7,sv o8,sv o9]∧SymOk n (2 * top) d∧∀ x y:Int,0 ≤ x→x < pre.length→0 ≤ y→y < pre.length→x ≠ y→lo ≤ d x y) (upt n)
      (by
        rintro pre a post δ hall ⟨d,o7,o8,o9,rfl,hs,hd⟩
        obtain ⟨ea,_,_⟩:=zev hall
        obtain ⟨a0,a1⟩:=mem_upt.mp (show a ∈ upt n by rw [hall]; simp)
        rw [← ea] at hd
        obtain ⟨d',p8,p9,e1,e2,e3⟩:=inner d a o8 o9 hs a0 a1 hd
        refine ⟨[.v (.scr ns),.v (.int most),.v (.int c),.v (.int n),.v (.int w),.v (.int top),.p (tabG n d),.v (.int a),sv o8,sv o9],_,zaT rfl,.inl e1,d',some (.int a),p8,p9,rfl,e2,?_⟩
        have pl:((pre ++ [a]).length:Int)=a + 1:=by simp; omega
        rw [pl]; exact e3)
      [.v (.scr ns),.v (.int most),.v (.int c),.v (.int n),.v (.int w),.v (.int top),.p (tabG n fun _ _=>0),.no,.no,.no] ⟨fun _ _=>0,none,none,none,rfl,⟨fun _ _ _ _ _ _=>⟨Int.le_refl _,by omega⟩,fun _ _ _=>rfl,fun _ _ _ _ _ _=>rfl⟩,fun x y x0 x1=>by simp at x1; omega⟩
    have q8:zd7 [.v (.scr ns),.v (.int most),.v (.int c),.v (.int n),.v (.int w),.v (.int top),.p (tabG n fun _ _=>0),.no,.no,.no] = .nx [.v (.scr ns),.v (.int most),.v (.int c),.v (.int n),.v (.int w),.v (.int top),.p (tabG n d),sv o7,sv o8,sv o9]:=(zbz (l:=(upt n).map .int) (by simp [mRng,zaa,mNil,mVar,rn])).trans h1
    rw [zaZ] at hd
    by_cases hw2:w=2
    · obtain ⟨e,he,hsh⟩:=zjf (show n ≤ 100 by omega) hs
      refine ⟨n,e,⟨hn1,hn2⟩,big (by omega) he,run _ ((zah q6).trans ((zah q7).trans ((zah q8).trans ?_)))⟩
      have:mIfS (zar (m2 oEq (mRd 4) (mC (.int 2)))) (zie zbj 6) zbv [.v (.scr ns),.v (.int most),.v (.int c),.v (.int n),.v (.int w),.v (.int top),.p (tabG n d),sv o7,sv o8,sv o9] = .ro (tabD (tabF n e)):=by
        rw [zew (by simp [zar,mRd,mC,hw2])]
        show (match tabOf (some (Sl.p (tabG n d))) with | some ll=>_ | none=>_)=_
        rw [zlz]
        simp only [hsh]
      unfold mSeq
      rw [this]
    · have hw1:w=1:=by omega
      rw [if_pos hw1] at elo
      rw [elo] at hd
      refine ⟨n,d,⟨hn1,hn2⟩,big (by omega) ⟨hs.nn,hs.self,hs.sym,fun a b c a0 a1 b0 b1 c0 c1=>?_⟩,run _ ((zah q6).trans ((zah q7).trans ((zah q8).trans ?_)))⟩
      · have n1:=hs.nn a c a0 a1 c0 c1
        by_cases e1:a=b
        · subst e1; have:=hs.self a a0 a1; omega
        · by_cases e2:b=c
          · subst e2; have:=hs.self b b0 b1; omega
          · have:=hd a b a0 a1 b0 b1 e1
            have:=hd b c b0 b1 c0 c1 e2
            omega
      · have:mIfS (zar (m2 oEq (mRd 4) (mC (.int 2)))) (zie zbj 6) zbv [.v (.scr ns),.v (.int most),.v (.int c),.v (.int n),.v (.int w),.v (.int top),.p (tabG n d),sv o7,sv o8,sv o9] = .nx [.v (.scr ns),.v (.int most),.v (.int c),.v (.int n),.v (.int w),.v (.int top),.p (tabG n d),sv o7,sv o8,sv o9]:=by
          rw [zbP (by simp [zar,mRd,mC,hw2])]; rfl
        exact (zah this).trans (show O.ro (trD (tabT (tabF n d)))=_ by rw [zfx])
end My
namespace My
open PySem L2 PM
theorem zfY:∀ {x y z:List Int},PM.lexLt x y=true→PM.lexLt y z=true→PM.lexLt x z=true
  | [],[],_,h,_=>by simp [PM.lexLt] at h
  | [],_ :: _,[],_,h=>by simp [PM.lexLt] at h
  | [],_ :: _,_ :: _,_,_=>rfl
  | _ :: _,[],_,h,_=>by simp [PM.lexLt] at h
  | _ :: _,_ :: _,[],_,h=>by simp [PM.lexLt] at h
  | a :: x,b :: y,c :: z,h1,h2=>by
    unfold PM.lexLt at h1 h2 ⊢
    split at h1 <;> split at h2 <;> rename_i e1 e2
    · rw [if_pos (e1.trans e2)]; exact zfY h1 h2
    · rw [if_neg (by rw [e1]; exact e2),e1]; exact h2
    · rw [if_neg (by rw [← e2]; exact e1),← e2]; exact h1
    · have l1:a < b:=by simpa using h1
      have l2:b < c:=by simpa using h2
      rw [if_neg (by omega)]
      simp; omega
theorem zhG:∀ {x y:List Int},PM.lexLt x y=false→PM.lexLt y x=false→x=y
  | [],[],_,_=>rfl
  | [],_ :: _,h,_=>by simp [PM.lexLt] at h
  | _ :: _,[],_,h=>by simp [PM.lexLt] at h
  | a :: x,b :: y,h1,h2=>by
    unfold PM.lexLt at h1 h2
    split at h1
    · rename_i e
      rw [if_pos e.symm] at h2
      rw [e,zhG h1 h2]
    · rename_i e
      rw [if_neg (fun z=>e z.symm)] at h2
      simp at h1 h2
      omega
def mnT:List (List Int)→List Int
  | []=>[]
  | t :: l=>minT l t
theorem zlp:∀ (l:List (List Int)) (m:List Int),(minT l m=m∨minT l m ∈ l)∧PM.lexLt m (minT l m)=false∧∀ x ∈ l,PM.lexLt x (minT l m)=false
  | [],m=>⟨.inl rfl,by
      show PM.lexLt m m=false
      induction m with
      | nil=>rfl
      | cons a m ih=>simp [PM.lexLt,ih],fun _ h=>(by cases h)⟩
  | t :: l,m=>by
    have irr:∀ z:List Int,PM.lexLt z z=false:=fun z=>by
      induction z with
      | nil=>rfl
      | cons a m ih=>simp [PM.lexLt,ih]
    obtain ⟨h1,h2,h3⟩:=zlp l (if PM.lexLt t m=true then t else m)
    show (minT l (if PM.lexLt t m=true then t else m)=m∨minT l (if PM.lexLt t m=true then t else m) ∈ t :: l)∧PM.lexLt m (minT l (if PM.lexLt t m=true then t else m))=false∧∀ x ∈ t :: l,PM.lexLt x (minT l (if PM.lexLt t m=true then t else m))=false
    by_cases c:PM.lexLt t m=true
    · rw [if_pos c] at h1 h2 h3 ⊢
      refine ⟨.inr ?_,?_,fun x hx=>?_⟩
      · rcases h1 with e | e
        · rw [e]; simp
        · exact List.mem_cons_of_mem _ e
      · cases z:PM.lexLt m (minT l t) with
        | false=>rfl
        | true=>rw [zfY c z] at h2; cases h2
      · rcases List.mem_cons.mp hx with rfl | hx
        · exact h2
        · exact h3 x hx
    · rw [if_neg c] at h1 h2 h3 ⊢
      refine ⟨?_,h2,fun x hx=>?_⟩
      · rcases h1 with e | e
        · exact .inl e
        · exact .inr (List.mem_cons_of_mem _ e)
      · rcases List.mem_cons.mp hx with rfl | hx
        · cases z:PM.lexLt x (minT l m) with
          | false=>rfl
          | true =>
            rcases h1 with e | e
            · rw [e] at z; exact absurd z c
            · have c':PM.lexLt x m=false:=by simpa using c
              -- m is not below the least,x is below it: then m is not below x; they are alike or x is below m
              cases w:PM.lexLt m x with
              | true=>rw [zfY w z] at h2; cases h2
              | false =>
                have e2:=zhG c' w
                rw [e2] at z
                rw [z] at h2; cases h2
        · exact h3 x hx
theorem zgc {ts:List (List Int)} (h:ts ≠ []):mnT ts ∈ ts∧∀ x ∈ ts,PM.lexLt x (mnT ts)=false:=by
  cases ts with
  | nil=>exact absurd rfl h
  | cons t l =>
    obtain ⟨h1,h2,h3⟩:=zlp l t
    refine ⟨?_,fun x hx=>?_⟩
    · rcases h1 with e | e
      · show minT l t ∈ _; rw [e]; simp
      · exact List.mem_cons_of_mem _ e
    · rcases List.mem_cons.mp hx with rfl | hx
      · exact h2
      · exact h3 x hx
theorem znm {ts us:List (List Int)} (h:ts ≠ []) (e:∀ x,x ∈ ts ↔ x ∈ us):mnT ts=mnT us:=by
  have h':us ≠ []:=fun z=>by
    have:=(e _).mp (zgc h).1
    rw [z] at this; cases this
  exact zhG ((zgc h').2 _ ((e _).mp (zgc h).1)) ((zgc h).2 _ ((e _).mpr (zgc h').1))
def tri3 (x:List Int):D:=.tup (x.map .int)
theorem znW {ts:List (List Int)} (h:ts ≠ []):zlf [.lst (ts.map tri3)]=some (tri3 (mnT ts)):=by
  cases ts with
  | nil=>exact absurd rfl h
  | cons t l =>
    have a1:∀ t:List Int,asTi (tri3 t)=some t:=fun t=>zcO t
    have a2:∀ l:List (List Int),asTs (l.map tri3)=some l:=fun l=>by
      induction l with
      | nil=>rfl
      | cons t l ih=>simp [asTs,a1,ih]
    show (asTi (tri3 t)).bind (fun t=>(asTs (l.map tri3)).map fun ts=>D.tup ((minT ts t).map .int))=_
    rw [a1,a2]; rfl
def offL (n:Nat) (d:Int→Int→Int) (W V:List Int):List (List Int):=V.flatMap fun i=>((upt n).filter fun o=>o ∉ W).map fun o=>[d i o,o,i]
def offP (d:Int→Int→Int) (W U:List Int):List (List Int):=U.flatMap fun o=>W.map fun i=>[d i o,o,i]
theorem mem_offL {n:Nat} {d:Int→Int→Int} {W V x}:x ∈ offL n d W V ↔ ∃ i o,i ∈ V∧(0 ≤ o∧o < (n:Int))∧o ∉ W∧x = [d i o,o,i]:=by
  simp only [offL,List.mem_flatMap,List.mem_map,List.mem_filter,decide_eq_true_eq]
  constructor
  · rintro ⟨i,hi,o,⟨ho,hw⟩,rfl⟩
    exact ⟨i,o,hi,mem_upt.mp ho,by simpa using hw,rfl⟩
  · rintro ⟨i,o,hi,ho,hw,rfl⟩
    exact ⟨i,hi,o,⟨mem_upt.mpr ho,by simpa using hw⟩,rfl⟩
theorem znd {d:Int→Int→Int} {W U x}:x ∈ offP d W U ↔ ∃ i o,i ∈ W∧o ∈ U∧x = [d i o,o,i]:=by
  simp only [offP,List.mem_flatMap,List.mem_map]
  constructor
  · rintro ⟨o,ho,i,hi,rfl⟩
    exact ⟨i,o,hi,ho,rfl⟩
  · rintro ⟨i,o,hi,ho,rfl⟩
    exact ⟨o,ho,i,hi,rfl⟩
theorem zjA (d:Int→Int→Int) (W:List Int):∀ U:List Int,(offP d W U).length=U.length * W.length
  | []=>by simp [offP]
  | o :: U=>by
    have:=zjA d W U
    unfold offP at this ⊢
    rw [List.flatMap_cons,List.length_append,List.length_map,this,List.length_cons,Nat.succ_mul]; omega
def nt (n:Nat) (d:Int→Int→Int) (W:List Int):List Int:=mnT (offL n d W W)
def nI (n:Nat) (d:Int→Int→Int) (W:List Int):Int:=(nt n d W).getD 2 0
def nO (n:Nat) (d:Int→Int→Int) (W:List Int):Int:=(nt n d W).getD 1 0
theorem ziU {n:Nat} {d:Int→Int→Int} {W:List Int} (h:W ≠ []) (hl:W.length < n):offL n d W W ≠ []∧nt n d W = [d (nI n d W) (nO n d W),nO n d W,nI n d W]∧nI n d W ∈ W∧(0 ≤ nO n d W∧nO n d W < n)∧nO n d W ∉ W:=by
  have ne:offL n d W W ≠ []:=fun e=>by
    obtain ⟨o,ho,hw⟩:∃ o ∈ upt n,o ∉ W:=by
      apply Classical.byContradiction
      intro hno
      have:=List.Nodup.length_le_of_subset (l₂:=W) (zf3 n) (fun q hq=>Classical.byContradiction fun z=>hno ⟨q,hq,z⟩)
      rw [zaZ] at this; omega
    cases W with
    | nil=>exact h rfl
    | cons i W =>
      have : [d i o,o,i] ∈ offL n d (i :: W) (i :: W):=mem_offL.mpr ⟨i,o,by simp,mem_upt.mp ho,hw,rfl⟩
      rw [e] at this; cases this
  obtain ⟨i,o,hi,ho,hw,e⟩:=mem_offL.mp (zgc ne).1
  have e':nt n d W = [d i o,o,i]:=e
  have e1:nI n d W=i:=by unfold nI; rw [e']; rfl
  have e2:nO n d W=o:=by unfold nO; rw [e']; rfl
  rw [e1,e2]
  exact ⟨ne,e',hi,ho,hw⟩
def stW (n:Nat) (d:Int→Int→Int):Nat→List Int
  | 0=>[0]
  | k + 1=>stW n d k ++ [nO n d (stW n d k)]
def stR (n:Nat) (d:Int→Int→Int):Nat→List (Int × Int)
  | 0=>[]
  | k + 1=>stR n d k ++ [(nI n d (stW n d k),nO n d (stW n d k))]
theorem zcZ (n:Nat) (d:Int→Int→Int) (k:Nat):(stW n d k).length=k + 1:=by
  induction k with
  | zero=>rfl
  | succ k ih=>simp [stW,ih]
theorem zhp (n:Nat) (d:Int→Int→Int) (k:Nat):(stR n d k).length=k:=by
  induction k with
  | zero=>rfl
  | succ k ih=>simp [stR,ih]
theorem zf2 (n:Nat) (d:Int→Int→Int) (k:Nat):stW n d k ≠ []:=fun e=>by
  have:=zcZ n d k
  rw [e] at this; simp at this
theorem zhu {n:Nat} {d:Int→Int→Int} (hn:0 < n):∀ k,k < n→∀ q ∈ stW n d k,0 ≤ q∧q < (n:Int)
  | 0,_,q,hq=>by rw [List.mem_singleton.mp hq]; omega
  | k + 1,h,q,hq=>by
    rcases List.mem_append.mp hq with z | z
    · exact zhu hn k (by omega) q z
    · rw [List.mem_singleton.mp z]
      exact (ziU (zf2 n d k) (by rw [zcZ]; omega)).2.2.2.1
theorem ziZ {n:Nat} {d:Int→Int→Int} (hn:0 < n):∀ k,k < n→∀ p ∈ stR n d k,(0 ≤ p.1∧p.1 < (n:Int))∧(0 ≤ p.2∧p.2 < (n:Int))
  | 0,_,q,hq=>by cases hq
  | k + 1,h,q,hq=>by
    rcases List.mem_append.mp hq with z | z
    · exact ziZ hn k (by omega) q z
    · rw [List.mem_singleton.mp z]
      obtain ⟨_,_,a,b,_⟩:=ziU (d:=d) (zf2 n d k) (show (stW n d k).length < n by rw [zcZ]; omega)
      exact ⟨zhu hn k (by omega) _ a,b⟩
def encR (p:Int × Int):D:=.tup [.int p.1,.int p.2]
end My
namespace My
open PySem L2 PM
def odd (E:List Int) (k:Int):Bool:=decide (E.count k % 2=1)
def insO (L:List Int) (t:Int):List Int:=if t ∈ L then L else L ++ [t]
def zaC (E:List Int):List Int:=E.foldl insO []
theorem ze5 (E:List Int) (x:Int):zaC (E ++ [x])=insO (zaC E) x:=by simp [zaC]
theorem zci:∀ E:List Int,(zaC E).Nodup∧∀ x,x ∈ zaC E ↔ x ∈ E:=by
  have key:∀ (E L:List Int),L.Nodup→(E.foldl insO L).Nodup∧∀ x,x ∈ E.foldl insO L ↔ x ∈ L∨x ∈ E:=by
    intro E
    induction E with
    | nil=>intro L h; exact ⟨h,by simp⟩
    | cons a E ih =>
      intro L h
      have h2:(insO L a).Nodup:=by
        unfold insO
        split
        · exact h
        · rename_i z
          refine List.nodup_append.mpr ⟨h,by simp,fun x hx y hy e=>?_⟩
          rw [List.mem_singleton.mp hy] at e
          rw [e] at hx; exact z hx
      have m2:∀ x,x ∈ insO L a ↔ x ∈ L∨x=a:=fun x=>by
        unfold insO
        split
        · rename_i z
          exact ⟨.inl,fun w=>w.elim id fun e=>by rw [e]; exact z⟩
        · simp
      obtain ⟨i1,i2⟩:=ih (insO L a) h2
      refine ⟨i1,fun x=>?_⟩
      rw [List.foldl_cons,i2,m2,List.mem_cons,or_assoc]
  intro E
  obtain ⟨a,b⟩:=key E [] List.nodup_nil
  exact ⟨a,fun x=>by rw [show zaC E=E.foldl insO [] from rfl,b]; simp⟩
theorem zc7 (E:List Int):(zaC E).length ≤ E.length:=by
  have:=zci E
  exact List.Nodup.length_le_of_subset this.1 fun x hx=>(this.2 x).mp hx
def dF (E:List Int):D:=.dct ((zaC E).map .inl) ((zaC E).map fun k=>.bl (odd E k))
theorem get_map (ks:List Int) (f:Int→D) (t:Int):getK (ks.map .inl) (ks.map f) (.inl t)=if t ∈ ks then some (f t) else none:=by
  induction ks with
  | nil=>rfl
  | cons a l ih =>
    simp only [List.map_cons,getK,ih]
    by_cases h:a=t
    · subst h; simp
    · have h':¬ (Sum.inl a:Key)=Sum.inl t:=fun e=>h (Sum.inl.inj e)
      rw [if_neg h']
      by_cases z:t ∈ l
      · rw [if_pos z,if_pos (List.mem_cons_of_mem _ z)]
      · rw [if_neg z,if_neg (fun w=>by rcases List.mem_cons.mp w with e | e; exact h e.symm; exact z e)]
theorem zjZ (ks:List Int) (f:Int→D) (t:Int) (v:D) (hn:ks.Nodup):putL (ks.map .inl) (ks.map f) (.inl t) v=ks.map fun k=>if k=t then v else f k:=by
  induction ks with
  | nil=>rfl
  | cons a l ih =>
    have hl:=(List.nodup_cons.mp hn)
    simp only [List.map_cons,putL]
    by_cases h:a=t
    · subst h
      simp only [if_true,ih hl.2]
    · have h':¬ (Sum.inl a:Key)=Sum.inl t:=fun e=>h (Sum.inl.inj e)
      rw [if_neg h',if_neg h,ih hl.2]
theorem any_map (L:List Int) (t:Int):(L.map (.inl:Int→Key)).any (fun a=>decide (a = .inl t))=decide (t ∈ L):=by
  rw [Bool.eq_iff_iff]
  simp only [List.any_eq_true,List.mem_map,decide_eq_true_eq]
  constructor
  · rintro ⟨x,⟨a,h1,rfl⟩,h2⟩
    cases h2; exact h1
  · intro h
    exact ⟨_,⟨t,h,rfl⟩,rfl⟩
theorem zfH (E:List Int) (x k:Int):odd (E ++ [x]) k=if k=x then !odd E k else odd E k:=by
  unfold odd
  rw [List.count_append]
  by_cases h:k=x
  · subst h
    rw [if_pos rfl,List.count_singleton_self]
    by_cases z:E.count k % 2=1 <;> simp [z] <;> omega
  · rw [if_neg h,List.count_singleton]
    have:(x == k)=false:=beq_eq_false_iff_ne.mpr fun e=>h e.symm
    simp [this]
theorem zpJ (E:List Int) (x:Int):putD ((zaC E).map .inl) ((zaC E).map fun k=>.bl (odd E k)) (.inl x) (.bl (!odd E x))=dF (E ++ [x]):=by
  have ok:=zci E
  unfold putD dF
  rw [any_map,ze5]
  by_cases h:x ∈ zaC E
  · rw [if_pos (by simpa using h),zjZ _ _ _ _ ok.1]
    simp only [insO,if_pos h]
    congr 1
    refine List.map_congr_left fun k _=>?_
    rw [zfH]
    by_cases e:k=x
    · subst e; simp
    · simp [e]
  · rw [if_neg (by simpa using h)]
    simp only [insO,if_neg h,List.map_append,List.map_cons,List.map_nil]
    congr 2
    · refine List.map_congr_left fun k hk=>?_
      rw [zfH,if_neg (fun e=>h (by rw [← e]; exact hk))]
    · rw [zfH,if_pos rfl]
def ends (R:List (Int × Int)):List Int:=R.flatMap fun p=>[p.1,p.2]
theorem zhl (R:List (Int × Int)):(ends R).length=2 * R.length:=by
  induction R with
  | nil=>rfl
  | cons p R ih=>simp only [ends,List.flatMap_cons,List.length_append,List.length_cons,List.length_nil] at *; omega
def oddL (R:List (Int × Int)):List Int:=(zaC (ends R)).filter (odd (ends R))
theorem zfN {R:List (Int × Int)} (hR:R.length ≤ 30):zba [.lst (R.map encR)] = .ok (iL (srt (oddL R))):=by
  obtain ⟨A,eA⟩:∃ A,A=D.lst (R.map encR):=⟨_,rfl⟩
  have step:∀ (E:List Int) (x:Int) (s2:Sl),E.length ≤ 100→zfl [.v A,.o (dF E),s2,.v (.int x)] = .nx [.v A,.o (dF (E ++ [x])),s2,.v (.int x)]:=fun E x s2 hE=>by
    have g:zja (mRd 1) (mVar 3) (mC (.bl false)) [.v A,.o (dF E),s2,.v (.int x)] = .ok (.bl (odd E x)):=by
      have gk:=get_map (zaC E) (fun k=>D.bl (odd E k)) x
      by_cases h:x ∈ zaC E
      · rw [if_pos h] at gk
        simp [zja,mRd,mVar,mC,dF,asK,gk,zoW]
      · rw [if_neg h] at gk
        have z:odd E x=false:=by
          unfold odd
          have:x ∉ E:=fun w=>h ((zci E).2 x |>.mpr w)
          rw [List.count_eq_zero.mpr this]; rfl
        simp [zja,mRd,mVar,mC,dF,asK,gk,z,zoW]
    have fl:=zc7 E
    show ziV 1 (mVar 3) (zkQ (zja (mRd 1) (mVar 3) (mC (.bl false)))) _=_
    unfold ziV
    have nv:zkQ (zja (mRd 1) (mVar 3) (mC (.bl false))) [.v A,.o (dF E),s2,.v (.int x)] = .ok (.bl (!odd E x)):=by
      unfold zkQ
      rw [g]; rfl
    show (PM.R.toO (zkQ _ _) _ _)=_
    rw [nv]
    simp only [PM.R.toO_ok]
    show (PM.R.toO (mVar 3 _) _ _)=_
    have v3:mVar 3 [.v A,.o (dF E),s2,.v (.int x)] = .ok (.int x):=rfl
    rw [v3]
    simp only [PM.R.toO_ok,asK]
    rw [zaX (by rw [List.length_map]; exact zmo (by omega)),zpJ]
    rfl
  obtain ⟨δ1,h1,o2,o3,rfl⟩:=za5 (b:=zap 2) (m:=zdy) encR (fun pre δ=>∃ o2 o3,δ = [.v A,.o (dF (ends pre)),sv o2,sv o3]) R
    (by
      rintro pre p post δ hall ⟨o2,o3,rfl⟩
      have pl:pre.length ≤ 30:=by rw [hall] at hR; simp at hR; omega
      have el:=zhl pre
      have s1:=step (ends pre) p.1 (.v (encR p)) (by omega)
      have s2:=step (ends pre ++ [p.1]) p.2 (.v (encR p)) (by simp; omega)
      refine ⟨[.v A,.o (dF (ends pre)),.v (encR p),sv o3],_,zaT rfl,.inl ?_,some (encR p),some (.int p.2),rfl⟩
      have e:ends (pre ++ [p])=ends pre ++ [p.1] ++ [p.2]:=by simp [ends]
      rw [e]
      unfold zdy zfM
      refine (zbz (l:=[.int p.1,.int p.2]) rfl).trans ?_
      unfold zde
      rw [show zap 3 (.int p.1) [.v A,.o (dF (ends pre)),.v (encR p),sv o3]=some [.v A,.o (dF (ends pre)),.v (encR p),.v (.int p.1)] from zaT rfl]
      simp only [s1]
      unfold zde
      rw [show zap 3 (.int p.2) [.v A,.o (dF (ends pre ++ [p.1])),.v (encR p),.v (.int p.1)]=some [.v A,.o (dF (ends pre ++ [p.1])),.v (encR p),.v (.int p.2)] from rfl]
      simp only [s2]
      rfl)
    [.v A,.o (dF []),.no,.no] ⟨none,none,rfl⟩
  have q0:mAsg (mC (.dct [] [])) (bNew 1) [.v A,.no,.no,.no] = .nx [.v A,.o (dF []),.no,.no]:=rfl
  have q1:zf0 [.v A,.o (dF []),.no,.no]=_:=(zbz (l:=R.map encR) (by rw [eA]; rfl)).trans h1
  have fl:=zc7 (ends R)
  have el:=zhl R
  have k:zei [.v A,.v (.fd ((zaC (ends R)).map .inl) ((zaC (ends R)).map fun k=>.bl (odd (ends R) k))),sv o2,sv o3] = .ok (iL (oddL R)):=by
    refine zcf (l:=(zaC (ends R)).map .int) ?_ (by rw [List.length_map]; omega) ?_
    · show PM.R.ok (((zaC (ends R)).map .inl).map kD)=_
      rw [List.map_map]; rfl
    · refine zg8 .int _ _ fun x hx=>?_
      have e:zaO [.v A,.v (.fd ((zaC (ends R)).map .inl) ((zaC (ends R)).map fun k=>.bl (odd (ends R) k))),sv o2,sv o3] [1] 1 = [.v (.fd ((zaC (ends R)).map .inl) ((zaC (ends R)).map fun k=>.bl (odd (ends R) k))),.no]:=rfl
      rw [e]
      have gk:=get_map (zaC (ends R)) (fun k=>D.bl (odd (ends R) k)) x
      rw [if_pos hx] at gk
      have fg:fGet (.fd ((zaC (ends R)).map .inl) ((zaC (ends R)).map fun k=>.bl (odd (ends R) k))) (.int x)=some (.bl (odd (ends R) x)):=gk
      cases z:odd (ends R) x <;> simp [zdZ,zbi,zar,mVar,fg,z]
  have ol:(oddL R).length < 64:=Nat.lt_of_le_of_lt (List.length_filter_le ..) (by omega)
  refine zcA ?_
  rw [← eA]
  refine (zah q0).trans ((zah q1).trans ?_)
  show zeT (mCB zef (zaa zei mNil)) [.v A,.v (.fd ((zaC (ends R)).map .inl) ((zaC (ends R)).map fun k=>.bl (odd (ends R) k))),sv o2,sv o3]=_
  have fs:zef [iL (oddL R)]=some (iL (srt (oddL R))):=by
    unfold zef iL
    simp only [zcO,Option.bind]
    rw [zaX ol]; rfl
  simp only [zeT,mCB,zaa,mNil,k,PM.R.bind_ok,fs,PM.R.of_some]; rfl
theorem flip {x:Int} {E:List Int}:∀ {K:List Int},K.Nodup→((K.filter (odd (E ++ [x]))).length + (K.filter (odd E)).length) % 2=if x ∈ K then 1 else 0
  | [],_=>rfl
  | a :: K,h=>by
    have hk:=List.nodup_cons.mp h
    have ih:=flip (x:=x) (E:=E) hk.2
    rw [List.filter_cons,List.filter_cons,zfH]
    by_cases e:a=x
    · subst e
      rw [if_neg hk.1] at ih
      rw [if_pos rfl,if_pos (List.mem_cons_self)]
      cases z:odd E a <;> simp <;> omega
    · rw [if_neg e]
      have m:(x ∈ a :: K) ↔ x ∈ K:=by
        rw [List.mem_cons]; exact ⟨fun w=>w.resolve_left fun q=>e q.symm,.inr⟩
      have ei:(if x ∈ a :: K then 1 else 0)=(if x ∈ K then 1 else 0:Nat):=by simp only [m]
      rw [ei]
      cases z:odd E a <;> simp <;> omega
theorem zkZ:∀ (n:Nat) (E:List Int),E.length=n→∀ K:List Int,K.Nodup→(∀ x ∈ E,x ∈ K)→(K.filter (odd E)).length % 2=E.length % 2:=by
  intro n
  induction n with
  | zero =>
    intro E hE K _ _
    rw [List.length_eq_zero_iff.mp hE]
    have:K.filter (odd []) = []:=List.filter_eq_nil_iff.mpr fun a _=>by simp [odd]
    rw [this]
  | succ n ih =>
    intro E hE K hn hs
    have ne:E ≠ []:=fun e=>by rw [e] at hE; simp at hE
    obtain ⟨E',x,rfl⟩:∃ E' x,E=E' ++ [x]:=⟨E.dropLast,E.getLast ne,(List.dropLast_concat_getLast ne).symm⟩
    have l:E'.length=n:=by simp at hE; exact hE
    have i:=ih E' l K hn fun y hy=>hs y (by simp [hy])
    have f:=flip (x:=x) (E:=E') hn
    rw [if_pos (hs x (by simp))] at f
    rw [List.length_append,List.length_singleton]
    omega
theorem zlX (R:List (Int × Int)):(oddL R).length % 2=0:=by
  have ok:=zci (ends R)
  have:=zkZ _ (ends R) rfl (zaC (ends R)) ok.1 fun x hx=>(ok.2 x).mpr hx
  rw [zhl] at this
  unfold oddL
  omega
theorem znP {R:List (Int × Int)} {x:Int} (h:x ∈ oddL R):x ∈ ends R:=((zci (ends R)).2 x).mp (List.mem_filter.mp h).1
theorem zgV (R:List (Int × Int)):(oddL R).Nodup:=(zci (ends R)).1.filter _
end My
namespace My
open PySem L2 PM
theorem zf4 {α β:Type} (f:α→β):∀ (l:List α) (k:Nat),(l.map f).eraseIdx k=(l.eraseIdx k).map f
  | [],_=>by simp
  | _ :: _,0=>rfl
  | a :: l,k + 1=>by simp [zf4 f l k]
theorem zkT {S:List (Int × Int)} (hS:S.length ≤ 100) (x:Int):(∃ (k:Nat) (p:Int × Int),S[k]?=some p∧(x=p.1∨x=p.2)∧zch [.lst (S.map encR),.int x] = .ok (.int k))∨((∀ p ∈ S,x ≠ p.1∧x ≠ p.2)∧zch [.lst (S.map encR),.int x] = .ok .non):=by
  obtain ⟨A,eA⟩:∃ A,A=D.lst (S.map encR):=⟨_,rfl⟩
  let enc:(Int × Int) × Nat→D:=fun q=>.tup [.int q.2,encR q.1]
  have ee:zhS (S.map encR)=S.zipIdx.map enc:=by rw [znH,List.zipIdx_map,List.map_map]; rfl
  have it:zpd (zaa (mVar 0) mNil) [.v A,.v (.int x),.no,.no] = .ok (S.zipIdx.map enc):=by
    rw [eA]
    show R.of (some (zhS (S.map encR)))=_
    rw [ee]; rfl
  have tt:∀ (q:(Int × Int) × Nat),zar (m2 oIn (mRd 1) (mRd 3)) [.v A,.v (.int x),.v (.int q.2),.v (encR q.1)] = .ok (decide (x=q.1.1∨x=q.1.2)):=fun q=>by
    simp [zar,mRd,oIn,encR,asIs]
  have run:∀ (l:List ((Int × Int) × Nat)) (o2 o3:Option D),(∃ q ∈ l,(x=q.1.1∨x=q.1.2)∧zde (bTup 2 (zbF (zap 2) (zbF (zap 3) bNil))) zbN (l.map enc) [.v A,.v (.int x),sv o2,sv o3] = .rt (.int q.2))∨((∀ q ∈ l,¬ (x=q.1.1∨x=q.1.2))∧∃ p2 p3,zde (bTup 2 (zbF (zap 2) (zbF (zap 3) bNil))) zbN (l.map enc) [.v A,.v (.int x),sv o2,sv o3] = .nx [.v A,.v (.int x),sv p2,sv p3]):=by
    intro l
    induction l with
    | nil=>intro o2 o3; exact .inr ⟨by simp,o2,o3,rfl⟩
    | cons q l ih =>
      intro o2 o3
      have b1:bTup 2 (zbF (zap 2) (zbF (zap 3) bNil)) (enc q) [.v A,.v (.int x),sv o2,sv o3]=some [.v A,.v (.int x),.v (.int q.2),.v (encR q.1)]:=by rcases o2 with _ | o2 <;> rcases o3 with _ | o3 <;> rfl
      have t1:=tt q
      by_cases h:x=q.1.1∨x=q.1.2
      · rw [decide_eq_true h] at t1
        refine .inl ⟨q,by simp,h,?_⟩
        rw [List.map_cons]
        unfold zde
        rw [b1]
        have:zbN [.v A,.v (.int x),.v (.int q.2),.v (encR q.1)] = .rt (.int q.2):=(zew t1).trans rfl
        simp only [this]
      · rw [decide_eq_false h] at t1
        have bd:zbN [.v A,.v (.int x),.v (.int q.2),.v (encR q.1)] = .nx [.v A,.v (.int x),.v (.int q.2),.v (encR q.1)]:=(zbP t1).trans rfl
        have un:zde (bTup 2 (zbF (zap 2) (zbF (zap 3) bNil))) zbN ((q :: l).map enc) [.v A,.v (.int x),sv o2,sv o3]=zde (bTup 2 (zbF (zap 2) (zbF (zap 3) bNil))) zbN (l.map enc) [.v A,.v (.int x),sv (some (.int q.2)),sv (some (encR q.1))]:=by
          rw [List.map_cons]
          conv=>lhs; unfold zde
          rw [b1]
          simp only [bd]
          rfl
        rcases ih (some (.int q.2)) (some (encR q.1)) with ⟨q',h1,h2,h3⟩ | ⟨h1,p2,p3,h3⟩
        · exact .inl ⟨q',List.mem_cons_of_mem _ h1,h2,un.trans h3⟩
        · exact .inr ⟨fun z hz=>by rcases List.mem_cons.mp hz with rfl | hz; exact h; exact h1 z hz,p2,p3,un.trans h3⟩
  rw [← eA]
  rcases run S.zipIdx none none with ⟨q,h1,h2,h3⟩ | ⟨h1,p2,p3,h3⟩
  · obtain ⟨p,k⟩:=q
    have hk:S[k]?=some p:=by
      have:=List.mem_zipIdx_iff_getElem?.mp h1
      simpa using this
    exact .inl ⟨k,p,hk,h2,zcG (zoU ((zbz it).trans h3))⟩
  · refine .inr ⟨fun p hp=>?_,zcG ((zah ((zbz it).trans h3)).trans rfl)⟩
    obtain ⟨k,hk,e⟩:=List.getElem_of_mem hp
    have:=h1 (p,k) (List.mem_zipIdx_iff_getElem?.mpr (by simp [List.getElem?_eq_getElem hk,e]))
    exact ⟨fun z=>this (.inl z),fun z=>this (.inr z)⟩
def zdM (p:Int × Int) (x:Int):Int:=if p.1=x then p.2 else p.1
theorem zii (p:Int × Int) (x:Int):zb3 [encR p,.int x] = .ok (.int (zdM p x)):=by
  refine zcG ?_
  show zdb [.v (encR p),.v (.int x)]=_
  unfold zdb zdM
  by_cases h:p.1=x <;> simp [mRet,mIf,zar,mRd,mC,encR,h]
theorem zmj {A:D} {S:List (Int × Int)} {G:List Int} {x:Int} {W:List Int} {o4 o5 o6:Option D} (hS:S.length ≤ 100) (hG:G.length ≤ 1000) (hW:W.length ≤ 1000) :
    (∃ (k:Nat) (p:Int × Int) (o4' o5' o6':Option D),S[k]?=some p∧(x=p.1∨x=p.2)∧zbJ [.v A,.o (.lst (S.map encR)),.o (iL (G ++ [x])),.o (iL W),sv o4,sv o5,sv o6] = .nx [.v A,.o (.lst ((S.eraseIdx k).map encR)),.o (iL (G ++ [x] ++ [zdM p x])),.o (iL W),sv o4',sv o5',sv o6']) ∨
    (∃ (o4' o5':Option D),(∀ p ∈ S,x ≠ p.1∧x ≠ p.2)∧zbJ [.v A,.o (.lst (S.map encR)),.o (iL (G ++ [x])),.o (iL W),sv o4,sv o5,sv o6] = .nx [.v A,.o (.lst (S.map encR)),.o (iL G),.o (iL (W ++ [x])),sv o4',sv o5',sv o6]):=by
  have q1:mAsg (m2 oIxL (mRd 2) (m1 oNeg (mC (.int 1)))) (zap 4) [.v A,.o (.lst (S.map encR)),.o (iL (G ++ [x])),.o (iL W),sv o4,sv o5,sv o6] = .nx [.v A,.o (.lst (S.map encR)),.o (iL (G ++ [x])),.o (iL W),.v (.int x),sv o5,sv o6]:=by
    refine zax (d:=.int x) ?_ (zaT rfl)
    have ix:oIxL (iL (G ++ [x])) (.int (-1))=some (.int x):=by
      show atI ((G ++ [x]).map D.int) (-1)=_
      unfold atI ixN
      rw [if_neg (by decide),List.length_map,List.length_append,List.length_singleton]
      rw [if_pos (by omega)]
      have:((-1:Int) + ((G.length + 1:Nat):Int)).toNat=G.length:=by omega
      simp only [this]
      simp
    simp [mRd,mC,ix]
  have len:(iL (G ++ [x])) = .lst ((G ++ [x]).map .int):=rfl
  rcases zkT hS x with ⟨k,p,hk,hx,hr⟩ | ⟨hx,hr⟩
  · have q2:mAsg (zeN zch (zaa (mRd 1) (zaa (mVar 4) mNil))) (zap 5) [.v A,.o (.lst (S.map encR)),.o (iL (G ++ [x])),.o (iL W),.v (.int x),sv o5,sv o6] = .nx [.v A,.o (.lst (S.map encR)),.o (iL (G ++ [x])),.o (iL W),.v (.int x),.v (.int k),sv o6]:=by
      refine zax (d:=.int k) ?_ (zaT rfl)
      simp [zeN,zaa,mNil,mRd,mVar,hr,zdG]
    have kl:=(List.getElem?_eq_some_iff.mp hk).1
    have t3:zar (m2 oIs (mRd 5) (mC .non)) [.v A,.o (.lst (S.map encR)),.o (iL (G ++ [x])),.o (iL W),.v (.int x),.v (.int k),sv o6] = .ok false:=rfl
    have q4:zlN 1 (mVar 5) (zap 6) [.v A,.o (.lst (S.map encR)),.o (iL (G ++ [x])),.o (iL W),.v (.int x),.v (.int k),sv o6] = .nx [.v A,.o (.lst ((S.eraseIdx k).map encR)),.o (iL (G ++ [x])),.o (iL W),.v (.int x),.v (.int k),.v (encR p)]:=by
      have g : [Sl.v A,.o (.lst (S.map encR)),.o (iL (G ++ [x])),.o (iL W),.v (.int x),.v (.int k),sv o6][1]?=some (.o (.lst (S.map encR))):=rfl
      have v:mVar 5 [Sl.v A,.o (.lst (S.map encR)),.o (iL (G ++ [x])),.o (iL W),.v (.int x),.v (.int k),sv o6] = .ok (.int k):=rfl
      have gk:(S.map encR)[k]?=some (encR p):=by rw [List.getElem?_map,hk]; rfl
      have er:(S.map encR).eraseIdx k=(S.eraseIdx k).map encR:=zf4 _ _ _
      unfold zlN
      rw [g]
      simp only [v,R.toO_ok]
      show (match (S.map encR)[k]? with | some d=>if k < 2 ^ 63 then O.of (zap 6 d _) else O.no | none=>O.no)=_
      rw [gk]
      simp only
      rw [if_pos (by omega),er]
      rcases o6 with _ | o6 <;> rfl
    have q5:zbo 2 (zag zb3 (zaa (mVar 6) (zaa (mVar 4) mNil))) [.v A,.o (.lst ((S.eraseIdx k).map encR)),.o (iL (G ++ [x])),.o (iL W),.v (.int x),.v (.int k),.v (encR p)] = .nx [.v A,.o (.lst ((S.eraseIdx k).map encR)),.o (iL (G ++ [x] ++ [zdM p x])),.o (iL W),.v (.int x),.v (.int k),.v (encR p)] :=
      zcu (L:=G ++ [x]) (y:=zdM p x) rfl (by simp [zag,zaa,mNil,mVar,zii]) (by simp; omega)
    exact .inl ⟨k,p,some (.int x),some (.int k),some (encR p),hk,hx,(zah q1).trans ((zah q2).trans ((zbP t3).trans ((zah q4).trans q5)))⟩
  · have q2:mAsg (zeN zch (zaa (mRd 1) (zaa (mVar 4) mNil))) (zap 5) [.v A,.o (.lst (S.map encR)),.o (iL (G ++ [x])),.o (iL W),.v (.int x),sv o5,sv o6] = .nx [.v A,.o (.lst (S.map encR)),.o (iL (G ++ [x])),.o (iL W),.v (.int x),.v .non,sv o6]:=by
      refine zax (d:=.non) ?_ (zaT rfl)
      simp [zeN,zaa,mNil,mRd,mVar,hr,zdG]
    have t3:zar (m2 oIs (mRd 5) (mC .non)) [.v A,.o (.lst (S.map encR)),.o (iL (G ++ [x])),.o (iL W),.v (.int x),.v .non,sv o6] = .ok true:=rfl
    have q4:zeF 3 2 [.v A,.o (.lst (S.map encR)),.o (iL (G ++ [x])),.o (iL W),.v (.int x),.v .non,sv o6] = .nx [.v A,.o (.lst (S.map encR)),.o (iL G),.o (iL (W ++ [x])),.v (.int x),.v .non,sv o6]:=by
      have g1 : [Sl.v A,.o (.lst (S.map encR)),.o (iL (G ++ [x])),.o (iL W),.v (.int x),.v .non,sv o6][3]?=some (.o (.lst (W.map .int))):=rfl
      have g2 : [Sl.v A,.o (.lst (S.map encR)),.o (iL (G ++ [x])),.o (iL W),.v (.int x),.v .non,sv o6][2]?=some (.o (.lst ((G ++ [x]).map .int))):=rfl
      have gk:((G ++ [x]).map D.int)[((G ++ [x]).map D.int).length - 1]?=some (.int x):=by simp
      have dl:((G ++ [x]).map D.int).dropLast=G.map .int:=by rw [List.map_append]; simp
      have ap:W.map D.int ++ [.int x]=(W ++ [x]).map .int:=by simp
      unfold zeF
      rw [g1,g2]
      simp only [gk]
      rw [if_neg (by decide),if_pos (by rw [List.length_map]; omega),dl,ap]
      rcases o6 with _ | o6 <;> rfl
    exact .inr ⟨some (.int x),some .non,hx,(zah q1).trans ((zah q2).trans ((zew t3).trans q4))⟩
end My
namespace My
open PySem L2 PM
theorem zoX {n:Nat} {d:Int→Int→Int} {ns:List Int} (h:∀ q ∈ ns,0 ≤ q∧q < (n:Int)):zlE (tabD (tabF n d)) (dOf (tabD (tabF n d))) ns:=by
  intro i hi j hj
  have a:=ze7 (d:=d) (h i hi).1 (h i hi).2
  have b:=zcF (n:=n) (f:=d i) (h j hj).1 (h j hj).2
  refine ⟨_,a,?_⟩
  rw [b]
  unfold dOf
  rw [a,Option.bind_some,b]
end My
namespace My
open PySem L2 PM
theorem zqe (a b c:Int):oIxT (tri3 [a,b,c]) (.int 1)=some (.int b):=rfl
theorem zqV (a b c:Int):oIxT (tri3 [a,b,c]) (.int 2)=some (.int c):=rfl
theorem zoC {n:Nat} {d:Int→Int→Int} {W U:List Int} (hW:W ≠ []) (hl:W.length < n) (hn:n ≤ 100) (wm:∀ q ∈ W,0 ≤ q∧q < (n:Int)) (um:∀ q,q ∈ U ↔ (0 ≤ q∧q < (n:Int))∧q ∉ W) (ul:U.length ≤ 100) :
    zbq [tabD (tabF n d),iL W,iL U] = .ok (encR (nI n d W,nO n d W)):=by
  obtain ⟨T,eT⟩:∃ T,T=tabD (tabF n d):=⟨_,rfl⟩
  have tix:∀ a:Int,0 ≤ a→a < n→oIxL T (.int a)=some (iL ((upt n).map (d a))):=fun a h0 h1=>by rw [eT]; exact ze7 h0 h1
  obtain ⟨ne,e3,hi,ho,hw⟩:=ziU (d:=d) hW hl
  have same:∀ x,x ∈ offL n d W W ↔ x ∈ offP d W U:=fun x=>by
    rw [mem_offL,znd]
    constructor
    · rintro ⟨i,o,a,b,c,e⟩; exact ⟨i,o,a,(um o).mpr ⟨b,c⟩,e⟩
    · rintro ⟨i,o,a,b,e⟩; exact ⟨i,o,a,((um o).mp b).1,((um o).mp b).2,e⟩
  have ms:mnT (offP d W U)=nt n d W:=(znm ne same).symm
  have neP:offP d W U ≠ []:=fun e=>by
    have:=(same _).mp (zgc ne).1
    rw [e] at this; cases this
  obtain ⟨δ,h1,o4,o5,rfl⟩:=za5 (b:=zap 4) (m:=zb7) D.int (fun pre δ=>∃ o4 o5:Option D,δ = [.v T,.v (iL W),.v (iL U),.o (.lst ((offP d W pre).map tri3)),sv o4,sv o5,.no]) U
    (by
      rintro pre o post δ hall ⟨o4,o5,rfl⟩
      have oU:o ∈ U:=by rw [hall]; simp
      obtain ⟨⟨o0,o1⟩,_⟩:=(um o).mp oU
      obtain ⟨δ2,g1,p5,rfl⟩:=za5 (b:=zap 5) (m:=zb2) D.int (fun pw δ=>∃ p5:Option D,δ = [.v T,.v (iL W),.v (iL U),.o (.lst ((offP d W pre ++ pw.map fun i=>[d i o,o,i]).map tri3)),.v (.int o),sv p5,.no]) W
        (by
          rintro pw i qw δ hallw ⟨p5,rfl⟩
          have iW:i ∈ W:=by rw [hallw]; simp
          obtain ⟨i0,i1⟩:=wm i iW
          have r:=zcF (n:=n) (f:=d i) o0 o1
          refine ⟨[.v T,.v (iL W),.v (iL U),.o (.lst ((offP d W pre ++ pw.map fun i=>[d i o,o,i]).map tri3)),.v (.int o),.v (.int i),.no],[.v T,.v (iL W),.v (iL U),.o (.lst ((offP d W pre ++ (pw ++ [i]).map fun i=>[d i o,o,i]).map tri3)),.v (.int o),.v (.int i),.no],zaT rfl,.inl ?_,some _,rfl⟩
          unfold zb2
          have tr:mTup (zaa (m2 oIxL (m2 oIxL (mRd 0) (mRd 5)) (mRd 4)) (zaa (mVar 4) (zaa (mVar 5) mNil))) [.v T,.v (iL W),.v (iL U),.o (.lst ((offP d W pre ++ pw.map fun i=>[d i o,o,i]).map tri3)),.v (.int o),.v (.int i),.no] = .ok (tri3 [d i o,o,i]):=by
            simp [mTup,zaa,mNil,mVar,mRd,tix i i0 i1,r,tri3,sizeLine]
          refine (zeo (i:=3) rfl tr ?_).trans ?_
          · have a1:=congrArg List.length hall
            have a2:=congrArg List.length hallw
            simp only [List.length_append,List.length_cons] at a1 a2
            rw [List.length_map,List.length_append,List.length_map,zjA]
            have:pre.length * W.length ≤ 100 * 100:=Nat.mul_le_mul (by omega) (by omega)
            omega
          · rw [List.map_append (l₁:=pw),← List.append_assoc,List.map_append (l₂:=List.map _ [i])]; rfl)
        [.v T,.v (iL W),.v (iL U),.o (.lst ((offP d W pre).map tri3)),.v (.int o),sv o5,.no] ⟨o5,by rw [List.map_nil,List.append_nil]⟩
      refine ⟨[.v T,.v (iL W),.v (iL U),.o (.lst ((offP d W pre).map tri3)),.v (.int o),sv o5,.no],[.v T,.v (iL W),.v (iL U),.o (.lst ((offP d W (pre ++ [o])).map tri3)),.v (.int o),sv p5,.no],zaT rfl,.inl ?_,some _,p5,rfl⟩
      have e:offP d W (pre ++ [o])=offP d W pre ++ W.map fun i=>[d i o,o,i]:=by unfold offP; rw [List.flatMap_append]; simp
      rw [e]
      unfold zb7 zdj
      refine (zbz (l:=W.map .int) ?_).trans g1
      simp [mItL,mVar])
    [.v T,.v (iL W),.v (iL U),.o (.lst []),.no,.no,.no] ⟨none,none,rfl⟩
  refine zcG ?_
  rw [← eT]
  show mSeq _ _ [.v T,.v (iL W),.v (iL U),.no,.no,.no,.no]=_
  have q1:mAsg (mLst mNil) (bNew 3) [.v T,.v (iL W),.v (iL U),.no,.no,.no,.no] = .nx [.v T,.v (iL W),.v (iL U),.o (.lst []),.no,.no,.no]:=zax (d:=.lst []) (by simp [mLst,mNil,sizeLine]) rfl
  have q2:zdq [.v T,.v (iL W),.v (iL U),.o (.lst []),.no,.no,.no]=_:=(zbz (l:=U.map .int) (by simp [mItL,mVar])).trans h1
  have fm:=znW neP
  rw [ms,e3] at fm
  have q3:mAsg (mCB zlf (zaa (mRd 3) mNil)) (zap 6) [.v T,.v (iL W),.v (iL U),.o (.lst ((offP d W U).map tri3)),sv o4,sv o5,.no] = .nx [.v T,.v (iL W),.v (iL U),.o (.lst ((offP d W U).map tri3)),sv o4,sv o5,.v (tri3 [d (nI n d W) (nO n d W),nO n d W,nI n d W])]:=zax (by simp only [mCB,zaa,mNil,mRd,List.getElem?_cons_succ,List.getElem?_cons_zero,R.bind_ok,fm,R.of_some]) rfl
  refine (zah q1).trans ((zah q2).trans ((zah q3).trans ?_))
  simp only [mRet,mTup,zaa,mNil,zb6,mRd,mC,List.getElem?_cons_succ,List.getElem?_cons_zero,R.bind_ok,zqe,zqV,R.of_some]
  rw [zaX (show ([D.int (nI n d W),D.int (nO n d W)]:List D).length ≤ sizeLine from by show 2 ≤ sizeLine; decide)]
  rfl
theorem zdf {n:Nat} {B:Int} {d:Int→Int→Int} (ok:LenOk n B d) (hn0:0 < n) (hn:n ≤ 100):zaY [tabD (tabF n d)] = .ok (.lst ((stR n d (n - 1)).map encR)):=by
  obtain ⟨T,eT⟩:∃ T,T=tabD (tabF n d):=⟨_,rfl⟩
  have lT:fLen [T]=some (.int n):=by rw [eT]; exact zg3
  have look:=zgH hn ok
  rw [← eT] at look
  have run:∀ (j k:Nat) (U:List Int) (o4:Option D),j + k + 1=n→(∀ q,q ∈ U ↔ (0 ≤ q∧q < (n:Int))∧q ∉ stW n d k)→U.Nodup→U.length=j →
      ∃ p4:Option D,zbS zbw zcX (j + 1) [.v T,.o (iL (stW n d k)),.o (iL U),.o (.lst ((stR n d k).map encR)),sv o4] = .nx [.v T,.o (iL (stW n d (n - 1))),.o (iL []),.o (.lst ((stR n d (n - 1)).map encR)),sv p4]:=by
    intro j
    induction j with
    | zero =>
      intro k U o4 hk hU hN hl
      obtain rfl:U = []:=List.length_eq_zero_iff.mp hl
      obtain rfl:k=n - 1:=by omega
      refine ⟨o4,?_⟩
      have t:zbw [.v T,.o (iL (stW n d (n - 1))),.o (iL []),.o (.lst ((stR n d (n - 1)).map encR)),sv o4] = .ok false:=by
        simp only [zbw,zar,zb6,mCB,zaa,mNil,mRd,mC,List.getElem?_cons_succ,List.getElem?_cons_zero,R.bind_ok,zdg,R.of_some]; rfl
      unfold zbS
      rw [t]; rfl
    | succ j ih =>
      intro k U o4 hk hU hN hl
      have t:zbw [.v T,.o (iL (stW n d k)),.o (iL U),.o (.lst ((stR n d k).map encR)),sv o4] = .ok true:=by
        have:(0:Int) < ((j + 1:Nat):Int):=by omega
        simp only [zbw,zar,zb6,mCB,zaa,mNil,mRd,mC,List.getElem?_cons_succ,List.getElem?_cons_zero,R.bind_ok,zdg,hl,R.of_some,zmU,znz]
        exact congrArg R.ok (decide_eq_true (by omega))
      obtain ⟨I,eI⟩:∃ I,I=nI n d (stW n d k):=⟨_,rfl⟩
      obtain ⟨O,eO⟩:∃ O,O=nO n d (stW n d k):=⟨_,rfl⟩
      have rd:=zoC (d:=d) (U:=U) (zf2 n d k) (show (stW n d k).length < n by rw [zcZ]; omega) hn (zhu hn0 k (by omega)) hU (by omega)
      obtain ⟨_,_,hi,ho,hw⟩:=ziU (d:=d) (zf2 n d k) (show (stW n d k).length < n by rw [zcZ]; omega)
      rw [← eT,← eI,← eO] at rd
      rw [← eO] at ho hw
      have oU:O ∈ U:=(hU O).mpr ⟨ho,hw⟩
      have q1:mAsg (zeN zbq (zaa (mVar 0) (zaa (mRd 1) (zaa (mRd 2) mNil)))) (zap 4) [.v T,.o (iL (stW n d k)),.o (iL U),.o (.lst ((stR n d k).map encR)),sv o4] = .nx [.v T,.o (iL (stW n d k)),.o (iL U),.o (.lst ((stR n d k).map encR)),.v (encR (I,O))]:=by
        refine zax (d:=encR (I,O)) ?_ (zaT rfl)
        simp [zeN,zaa,mNil,mVar,mRd,rd,encR,zdG,ziF]
      have q2:zbo 3 (mVar 4) [.v T,.o (iL (stW n d k)),.o (iL U),.o (.lst ((stR n d k).map encR)),.v (encR (I,O))] = .nx [.v T,.o (iL (stW n d k)),.o (iL U),.o (.lst ((stR n d (k + 1)).map encR)),.v (encR (I,O))]:=by
        refine (zeo (i:=3) (d:=encR (I,O)) rfl rfl (by rw [List.length_map,zhp]; omega)).trans ?_
        rw [stR,List.map_append,← eI,← eO]; rfl
      have q3:zbo 1 (m2 oIxT (mRd 4) (mC (.int 1))) [.v T,.o (iL (stW n d k)),.o (iL U),.o (.lst ((stR n d (k + 1)).map encR)),.v (encR (I,O))] = .nx [.v T,.o (iL (stW n d (k + 1))),.o (iL U),.o (.lst ((stR n d (k + 1)).map encR)),.v (encR (I,O))]:=by
        refine (zcu (i:=1) (L:=stW n d k) (y:=O) rfl (by simp [mRd,mC,encR]) (by rw [zcZ]; omega)).trans ?_
        rw [stW,← eO]; rfl
      have q4:ze2 2 (m2 oIxT (mRd 4) (mC (.int 1))) [.v T,.o (iL (stW n d (k + 1))),.o (iL U),.o (.lst ((stR n d (k + 1)).map encR)),.v (encR (I,O))] = .nx [.v T,.o (iL (stW n d (k + 1))),.o (iL (U.erase O)),.o (.lst ((stR n d (k + 1)).map encR)),.v (encR (I,O))]:=by
        have g:([.v T,.o (iL (stW n d (k + 1))),.o (.lst (U.map .int)),.o (.lst ((stR n d (k + 1)).map encR)),.v (encR (I,O))]:En)[2]?=some (.o (.lst (U.map .int))):=rfl
        have v:m2 oIxT (mRd 4) (mC (.int 1)) [.v T,.o (iL (stW n d (k + 1))),.o (.lst (U.map .int)),.o (.lst ((stR n d (k + 1)).map encR)),.v (encR (I,O))] = .ok (.int O):=by simp [mRd,mC,encR]
        have ix:U.idxOf O < U.length:=List.idxOf_lt_length_iff.mpr oU
        show ze2 2 _ [.v T,.o (iL (stW n d (k + 1))),.o (.lst (U.map .int)),.o (.lst ((stR n d (k + 1)).map encR)),.v (encR (I,O))]=_
        unfold ze2
        rw [g]
        simp only [v,R.toO_ok,zcO,if_pos ix]
        rw [List.erase_eq_eraseIdx_of_idxOf rfl]; rfl
      obtain ⟨p4,hh⟩:=ih (k + 1) (U.erase O) (some (encR (I,O))) (by omega) (fun q=>by
          rw [List.Nodup.mem_erase_iff hN,hU,stW,List.mem_append,List.mem_singleton,← eO]
          constructor
          · rintro ⟨a,b,c⟩; exact ⟨b,fun z=>z.elim c a⟩
          · rintro ⟨b,c⟩; exact ⟨fun z=>c (.inr z),b,fun z=>c (.inl z)⟩) (hN.erase O) (by rw [List.length_erase_of_mem oU,hl]; rfl)
      refine ⟨p4,?_⟩
      unfold zbS
      rw [t,R.toO_ok,if_pos rfl]
      have bd:zcX [.v T,.o (iL (stW n d k)),.o (iL U),.o (.lst ((stR n d k).map encR)),sv o4] = .nx [.v T,.o (iL (stW n d (k + 1))),.o (iL (U.erase O)),.o (.lst ((stR n d (k + 1)).map encR)),.v (encR (I,O))]:=(zah q1).trans ((zah q2).trans ((zah q3).trans q4))
      rw [bd]
      exact hh
  obtain ⟨U,eU⟩:∃ U:List Int,U=(List.range (n - 1)).map fun k:Nat=>1 + (k:Int):=⟨_,rfl⟩
  obtain ⟨p4,hr⟩:=run (n - 1) 0 U none (by omega) (fun q=>by
      rw [eU,List.mem_map]
      constructor
      · rintro ⟨k,hk,rfl⟩
        have:=List.mem_range.mp hk
        refine ⟨⟨by omega,by omega⟩,fun z=>?_⟩
        have:=List.mem_singleton.mp z
        omega
      · rintro ⟨⟨a,b⟩,c⟩
        have:q ≠ 0:=fun z=>c (List.mem_singleton.mpr z)
        exact ⟨(q - 1).toNat,List.mem_range.mpr (by omega),by omega⟩)
    (by
      rw [eU,List.Nodup,List.pairwise_map]
      exact List.nodup_range.imp fun {a b} ne e=>ne (by omega))
    (by rw [eU,List.length_map,List.length_range])
  have hw:zez [.v T,.o (iL (stW n d 0)),.o (iL U),.o (.lst ((stR n d 0).map encR)),sv none]=_:=zeM hr (by intro z; cases z)
  refine zcA ?_
  rw [← eT]
  show mSeq _ _ [.v T,.no,.no,.no,.no]=_
  have q0:mDo (zag zbX (zaa (mVar 0) mNil)) [.v T,.no,.no,.no,.no] = .nx [.v T,.no,.no,.no,.no]:=by simp [mDo,zag,zaa,mNil,mVar,look]
  have q1:mAsg (mLst (zaa (mC (.int 0)) mNil)) (bNew 1) [.v T,.no,.no,.no,.no] = .nx [.v T,.o (iL (stW n d 0)),.no,.no,.no]:=zax (d:=iL [0]) (by simp [mLst,zaa,mNil,mC,sizeLine,iL]) rfl
  have q2:mAsg (zjR (zaa (mC (.int 1)) (zaa (mCB fLen (zaa (mRd 0) mNil)) mNil))) (bNew 2) [.v T,.o (iL (stW n d 0)),.no,.no,.no] = .nx [.v T,.o (iL (stW n d 0)),.o (iL U),.no,.no]:=by
    refine zax (d:=iL U) ?_ rfl
    have ml:zaa (mC (.int 1)) (zaa (mCB fLen (zaa (mRd 0) mNil)) mNil) [.v T,.o (iL (stW n d 0)),.no,.no,.no] = .ok [.int 1,.int n]:=by simp [zaa,mNil,mC,mCB,mRd,lT]
    unfold zjR
    rw [ml,R.bind_ok]
    unfold zlq
    simp only
    rw [zaX ⟨by decide,by omega,by omega⟩,eU]
    unfold iL
    rw [List.map_map,show ((n:Int) - 1).toNat=n - 1 by omega]; rfl
  have q3:mAsg (mLst mNil) (bNew 3) [.v T,.o (iL (stW n d 0)),.o (iL U),.no,.no] = .nx [.v T,.o (iL (stW n d 0)),.o (iL U),.o (.lst ((stR n d 0).map encR)),sv none]:=zax (d:=.lst []) (by simp [mLst,mNil,sizeLine]) rfl
  exact (zah q0).trans ((zah q1).trans ((zah q2).trans ((zah q3).trans ((zah hw).trans rfl))))
end My
namespace My
open PySem L2 PM
theorem zgQ (n:Nat) (d:Int→Int→Int):∀ k,stW n d k=0 :: (stR n d k).map (·.2)
  | 0=>rfl
  | k + 1=>by rw [stW,stR,zgQ n d k,List.map_append]; rfl
theorem zl3 {n:Nat} {d:Int→Int→Int}:∀ k,k < n→(stW n d k).Nodup
  | 0,_=>by simp [stW]
  | k + 1,h=>by
    rw [stW]
    have z:=(ziU (d:=d) (zf2 n d k) (show (stW n d k).length < n by rw [zcZ]; omega)).2.2.2.2
    refine List.nodup_append.mpr ⟨zl3 k (by omega),by simp,fun x hx y hy e=>?_⟩
    rw [List.mem_singleton.mp hy] at e
    rw [e] at hx; exact z hx
def kids (R:List (Int × Int)) (p:Int):List Int:=(R.filter fun q=>decide (q.1=p)).map (·.2)
theorem znh {R:List (Int × Int)} {p x:Int}:x ∈ kids R p ↔ (p,x) ∈ R:=by
  unfold kids
  rw [List.mem_map]
  constructor
  · rintro ⟨q,h,rfl⟩
    obtain ⟨h1,h2⟩:=List.mem_filter.mp h
    have:q.1=p:=by simpa using h2
    rw [← this]; exact h1
  · intro h
    exact ⟨(p,x),List.mem_filter.mpr ⟨h,by simp⟩,rfl⟩
theorem zoL {R:List (Int × Int)} {p:Int} (h:(R.map (·.2)).Nodup):(kids R p).Nodup:=h.sublist (List.Sublist.map _ List.filter_sublist)
structure Rnd (R:List (Int × Int)) (W Q:List Int):Prop where
  nd:(W ++ Q).Nodup
  up:∀ x ∈ W ++ Q,x=0∨∃ i,(i,x) ∈ R∧i ∈ W
theorem zlx {R:List (Int × Int)} (h:(R.map (·.2)).Nodup) {i j x:Int} (h1:(i,x) ∈ R) (h2:(j,x) ∈ R):i=j:=by
  induction R with
  | nil=>cases h1
  | cons a R ih =>
    rw [List.map_cons,List.nodup_cons] at h
    rcases List.mem_cons.mp h1 with e1 | e1 <;> rcases List.mem_cons.mp h2 with e2 | e2
    · exact congrArg Prod.fst (e1.trans e2.symm)
    · exact absurd (List.mem_map.mpr ⟨_,e2,by rw [← e1]⟩) h.1
    · exact absurd (List.mem_map.mpr ⟨_,e1,by rw [← e2]⟩) h.1
    · exact ih h.2 e1 e2
theorem Rnd.step {R:List (Int × Int)} {W Q:List Int} {p:Int} (h0:0 ∉ R.map (·.2)) (hn:(R.map (·.2)).Nodup) (h:Rnd R W (Q ++ [p])):Rnd R (W ++ [p]) (Q ++ kids R.reverse p):=by
  have hk:∀ x,x ∈ kids R.reverse p ↔ (p,x) ∈ R:=fun x=>by rw [znh,List.mem_reverse]
  have pW:p ∉ W:=fun z=>(List.nodup_append.mp h.nd).2.2 p z p (by simp) rfl
  have hnr:(R.reverse.map (·.2)).Nodup:=by rw [List.map_reverse]; exact (List.reverse_perm _).nodup_iff.mpr hn
  constructor
  · have a:((W ++ [p]) ++ Q).Nodup:=by
      have:=h.nd
      refine (List.Perm.nodup_iff ?_).mp this
      rw [List.append_assoc]
      exact List.Perm.append_left W List.perm_append_comm
    rw [← List.append_assoc]
    refine List.nodup_append.mpr ⟨a,zoL hnr,fun x hx y hy e=>?_⟩
    subst e
    have m:=(hk x).mp hy
    have:x ∈ W ++ (Q ++ [p]):=by
      simp only [List.mem_append,List.mem_singleton] at hx ⊢
      rcases hx with (z | z) | z
      · exact .inl z
      · exact .inr (.inr z)
      · exact .inr (.inl z)
    rcases h.up x this with e | ⟨i,hi,hw⟩
    · exact h0 (List.mem_map.mpr ⟨_,m,e⟩)
    · rw [zlx hn hi m] at hw
      exact pW hw
  · intro x hx
    simp only [List.mem_append,List.mem_singleton] at hx
    have old:x ∈ W ++ (Q ++ [p])→x=0∨∃ i,(i,x) ∈ R∧i ∈ W ++ [p]:=fun z=>by
      rcases h.up x z with e | ⟨i,hi,hw⟩
      · exact .inl e
      · exact .inr ⟨i,hi,List.mem_append_left _ hw⟩
    rcases hx with (z | z) | z | z
    · exact old (List.mem_append_left _ z)
    · exact old (by rw [z]; simp)
    · exact old (by simp [z])
    · exact .inr ⟨p,(hk x).mp z,by simp⟩
theorem Rnd.len {R:List (Int × Int)} {W Q:List Int} (h:Rnd R W Q):(W ++ Q).length ≤ R.length + 1:=by
  have:=List.Nodup.length_le_of_subset (l₂:=0 :: R.map (·.2)) h.nd fun x hx=>by
    rcases h.up x hx with e | ⟨i,hi,_⟩
    · rw [e]; simp
    · exact List.mem_cons_of_mem _ (List.mem_map.mpr ⟨_,hi,rfl⟩)
  rwa [List.length_cons,List.length_map] at this
theorem zkE {T:D} {R:List (Int × Int)} {W Q:List Int} {p:Int} {o4 o5 o6:Option D} (hR:R.length ≤ 100) (hW:W.length ≤ 1000) (hQ:Q.length ≤ 1000) :
    ∃ (p4 p5 p6:Option D),zcn [.v T,.v (.lst (R.map encR)),.o (iL W),.o (iL (Q ++ [p])),sv o4,sv o5,sv o6] = .nx [.v T,.v (.lst (R.map encR)),.o (iL (W ++ [p])),.o (iL (Q ++ kids R.reverse p)),sv p4,sv p5,sv p6]:=by
  obtain ⟨A,eA⟩:∃ A,A=D.lst (R.map encR):=⟨_,rfl⟩
  rw [← eA]
  have q1:ziq 3 (zap 4) [.v T,.v A,.o (iL W),.o (iL (Q ++ [p])),sv o4,sv o5,sv o6] = .nx [.v T,.v A,.o (iL W),.o (iL Q),.v (.int p),sv o5,sv o6]:=by
    have g : [Sl.v T,.v A,.o (iL W),.o (iL (Q ++ [p])),sv o4,sv o5,sv o6][3]?=some (.o (.lst ((Q ++ [p]).map .int))):=rfl
    have gk:((Q ++ [p]).map D.int)[((Q ++ [p]).map D.int).length - 1]?=some (.int p):=by simp
    have dl:((Q ++ [p]).map D.int).dropLast=Q.map .int:=by rw [List.map_append]; simp
    unfold ziq
    rw [g]
    simp only [gk]
    rw [dl]
    rcases o4 with _ | o4 <;> rfl
  have q2:zbo 2 (mVar 4) [.v T,.v A,.o (iL W),.o (iL Q),.v (.int p),sv o5,sv o6] = .nx [.v T,.v A,.o (iL (W ++ [p])),.o (iL Q),.v (.int p),sv o5,sv o6] :=
    zcu (L:=W) (y:=p) rfl rfl (by omega)
  obtain ⟨δ,h1,p5,p6,rfl⟩:=za5 (b:=bTup 2 (zbF (zap 5) (zbF (zap 6) bNil))) (m:=zdn) encR (fun pre δ=>∃ p5 p6:Option D,δ = [.v T,.v A,.o (iL (W ++ [p])),.o (iL (Q ++ kids pre p)),.v (.int p),sv p5,sv p6]) R.reverse
    (by
      rintro pre x post δ hall ⟨p5,p6,rfl⟩
      have pl:pre.length ≤ 100:=by
        have:=congrArg List.length hall
        rw [List.length_reverse,List.length_append] at this
        omega
      have kl:(kids pre p).length ≤ 100:=by
        unfold kids
        rw [List.length_map]
        exact Nat.le_trans (List.length_filter_le _ _) pl
      have b1:bTup 2 (zbF (zap 5) (zbF (zap 6) bNil)) (encR x) [.v T,.v A,.o (iL (W ++ [p])),.o (iL (Q ++ kids pre p)),.v (.int p),sv p5,sv p6]=some [.v T,.v A,.o (iL (W ++ [p])),.o (iL (Q ++ kids pre p)),.v (.int p),.v (.int x.1),.v (.int x.2)]:=by rcases p5 with _ | p5 <;> rcases p6 with _ | p6 <;> rfl
      refine ⟨_,_,b1,.inl (?_:_=O.nx [.v T,.v A,.o (iL (W ++ [p])),.o (iL (Q ++ kids (pre ++ [x]) p)),.v (.int p),.v (.int x.1),.v (.int x.2)]),some (.int x.1),some (.int x.2),rfl⟩
      have tt:zar (m2 oEq (mRd 5) (mRd 4)) [.v T,.v A,.o (iL (W ++ [p])),.o (iL (Q ++ kids pre p)),.v (.int p),.v (.int x.1),.v (.int x.2)] = .ok (decide (x.1=p)):=by simp [zar,mRd]
      have ek:kids (pre ++ [x]) p=if x.1=p then kids pre p ++ [x.2] else kids pre p:=by
        unfold kids
        rw [List.filter_append]
        by_cases e:x.1=p <;> simp [e]
      rw [ek]
      by_cases e:x.1=p
      · rw [decide_eq_true e] at tt
        rw [if_pos e,← List.append_assoc]
        exact (zew tt).trans (zcu (L:=Q ++ kids pre p) (y:=x.2) rfl rfl (by rw [List.length_append]; omega))
      · rw [decide_eq_false e] at tt
        rw [if_neg e]
        exact (zbP tt).trans rfl)
    [.v T,.v A,.o (iL (W ++ [p])),.o (iL Q),.v (.int p),sv o5,sv o6] ⟨o5,o6,by simp [kids]⟩
  refine ⟨some (.int p),p5,p6,(zah q1).trans ((zah q2).trans ?_)⟩
  unfold zdP
  refine (zbz (l:=R.reverse.map encR) ?_).trans h1
  rw [eA]
  simp [mRev,zaa,mNil,mVar,rev1]
end My
namespace My
open PySem L2 PM
theorem zhj (l:List Int):(srt l).length=l.length:=List.length_mergeSort l
theorem srt_mem {l:List Int} {x:Int}:x ∈ srt l ↔ x ∈ l:=List.mem_mergeSort
theorem zi8 (L:D) (ns:List Int):(zdv L ns).length ≤ ns.length / 2:=zjl _ _ _
theorem zfo {n:Nat} {B:Int} {d:Int→Int→Int} (ok:LenOk n B d) (hn:n ≤ 100) {ns:List Int} (h:∀ q ∈ ns,0 ≤ q∧q < (n:Int)) (he:ns.length % 2=0) (hl:ns.length ≤ 12) :
    zaD [tabD (tabF n d),iL ns] = .ok (.lst ((zdv (tabD (tabF n d)) ns).map encR)):=by
  have look:=zgH hn ok
  have tk:=zoX (d:=d) h
  obtain ⟨T,eT⟩:∃ T,T=tabD (tabF n d):=⟨_,rfl⟩
  rw [← eT] at look tk ⊢
  refine zcA ?_
  show mSeq _ _ [.v T,.v (iL ns)]=_
  have q0:mDo (zag zbX (zaa (mVar 0) mNil)) [.v T,.v (iL ns)] = .nx [.v T,.v (iL ns)]:=by simp [mDo,zag,zaa,mNil,mVar,look]
  refine (zah q0).trans ?_
  have p:zhX [.v T,.v (iL ns)] = .ok (.lst ((zdv T ns).map encR)):=by
    unfold zhX
    show (match asIs (ns.map D.int) with | some ns=>ifC (ns.length % 2=0∧ns.length ≤ 12∧zlE T (dOf T) ns) (PM.R.ok (D.lst ((zdv T ns).map zbZ))) .no | none=>.no)=_
    rw [zcO]
    exact zaX ⟨he,hl,tk⟩
  unfold zeT
  rw [p]; rfl
theorem zjB {R:List (Int × Int)} {x:Int} (h:x ∈ ends R):∃ p ∈ R,x=p.1∨x=p.2:=by
  unfold ends at h
  obtain ⟨p,hp,hx⟩:=List.mem_flatMap.mp h
  exact ⟨p,hp,by simpa using hx⟩
theorem zns (E:List Int) (x:Int):putD ((zaC E).map .inl) ((zaC E).map fun _=>.bl true) (.inl x) (.bl true) = .dct ((zaC (E ++ [x])).map .inl) ((zaC (E ++ [x])).map fun _=>.bl true):=by
  have ok:=zci E
  unfold putD
  rw [any_map,ze5]
  by_cases h:x ∈ zaC E
  · rw [if_pos (by simpa using h),zjZ _ _ _ _ ok.1]
    simp only [insO,if_pos h]
    congr 1
    exact List.map_congr_left fun k _=>by split <;> rfl
  · rw [if_neg (by simpa using h)]
    simp only [insO,if_neg h,List.map_append,List.map_cons,List.map_nil]
end My
namespace My
open PySem L2 PM
theorem zpg (i j:Int):PyData.eqv (.int i) (.int j)=decide (i=j):=by
  unfold PyData.eqv
  first | rfl | simp
theorem zrk (t m:BP):(ltD (encB t) (encB m)=true→t.1 ≤ m.1)∧(ltD (encB t) (encB m)=false→m.1 ≤ t.1):=by
  have e:∀ b:BP,∃ q,toPy 8 (encB b) = .tuple [.int b.1,q]:=fun b=>⟨_,rfl⟩
  obtain ⟨q1,e1⟩:=e t
  obtain ⟨q2,e2⟩:=e m
  unfold ltD
  rw [e1,e2]
  have:ltP 8 (.tuple [.int t.1,q1]) (.tuple [.int m.1,q2])=if decide (t.1=m.1)=true then lexB (fun j=>PyData.eqv ([PyData.int t.1,q1].getD (j + 1) .none) ([PyData.int m.1,q2].getD (j + 1) .none)) (fun j=>ltP 7 ([PyData.int t.1,q1].getD (j + 1) .none) ([PyData.int m.1,q2].getD (j + 1) .none)) 1 1 else decide (t.1 < m.1):=by
    rw [← zpg]; rfl
  rw [this]
  by_cases c:t.1=m.1
  · exact ⟨fun _=>by omega,fun _=>by omega⟩
  · rw [if_neg (by simpa using c)]
    constructor <;> intro h <;> simp at h <;> omega
theorem zlW:∀ (l:List BP) (m:BP),(minB l m).1 ≤ m.1∧∀ x ∈ l,(minB l m).1 ≤ x.1
  | [],m=>⟨Int.le_refl _,fun _ h=>by cases h⟩
  | t :: l,m=>by
    obtain ⟨h1,h2⟩:=zlW l (if ltD (encB t) (encB m)=true then t else m)
    obtain ⟨a,b⟩:=zrk t m
    show (minB l (if ltD (encB t) (encB m)=true then t else m)).1 ≤ _∧∀ x ∈ t :: l,(minB l (if ltD (encB t) (encB m)=true then t else m)).1 ≤ x.1
    cases c:ltD (encB t) (encB m) with
    | true =>
      rw [c,if_pos rfl] at h1 h2
      rw [if_pos rfl]
      have:=a c
      exact ⟨by omega,fun x hx=>by rcases List.mem_cons.mp hx with rfl | hx; exact h1; exact h2 x hx⟩
    | false =>
      rw [c,if_neg (by decide)] at h1 h2
      rw [if_neg (by decide)]
      have:=b c
      exact ⟨h1,fun x hx=>by rcases List.mem_cons.mp hx with rfl | hx; omega; exact h2 x hx⟩
theorem zm3 {l:List BP} (h:l ≠ []):least l ∈ l∧∀ x ∈ l,(least l).1 ≤ x.1:=by
  cases l with
  | nil=>exact absurd rfl h
  | cons b l =>
    obtain ⟨h1,h2⟩:=zlW l b
    exact ⟨zg9 l b,fun x hx=>by rcases List.mem_cons.mp hx with rfl | hx; exact h1; exact h2 x hx⟩
def cost (d:Int→Int→Int) (Q:List (Int × Int)):Int:=(Q.map fun p=>d p.1 p.2).sum
theorem zmd (a:Int) (r:List Int) (j:Nat):cutO (a :: r) (j + 1)=r.eraseIdx j:=by
  unfold cutO
  simp [List.eraseIdx_eq_take_drop_succ]
theorem zkw {r:List Int} {j:Nat} {b:Int} (h:r[j]?=some b):r.Perm (b :: r.eraseIdx j):=by
  induction r generalizing j with
  | nil=>simp at h
  | cons a r ih =>
    cases j with
    | zero=>simp at h; subst h; exact .refl _
    | succ j =>
      simp at h
      exact ((ih h).cons a).trans (.swap b a _)
theorem zqO (d:Int→Int→Int):∀ (m:Nat) (rest:List Int),rest.length=2 * m→(ends (bpF d m rest).2).Perm rest∧(bpF d m rest).1=cost d (bpF d m rest).2
  | 0,rest,h=>by
    obtain rfl:rest = []:=List.length_eq_zero_iff.mp (by omega)
    exact ⟨.refl _,rfl⟩
  | m + 1,rest,h=>by
    cases rest with
    | nil=>simp at h
    | cons a r =>
      have hr:r.length=2 * m + 1:=by simp at h; omega
      have ne:(List.range ((a :: r).length - 1)).map (fun j=>bwW d (bpF d m) (a :: r) (j + 1)) ≠ []:=fun e=>by
        have:=congrArg List.length e
        rw [List.length_map,List.length_range] at this; simp only [List.length_cons,List.length_nil] at this; omega
      obtain ⟨j,hj,e⟩:=List.mem_map.mp (zm3 ne).1
      have jl:j < r.length:=by simpa using hj
      have gk:r[j]?=some r[j]:=List.getElem?_eq_getElem jl
      have eb:bpF d (m + 1) (a :: r)=bwW d (bpF d m) (a :: r) (j + 1):=e.symm
      have g:(a :: r).getD (j + 1) 0=r[j]:=by simp [jl]
      rw [eb]
      unfold bwW
      rw [zmd,g]
      have el:(r.eraseIdx j).length=2 * m:=by rw [List.length_eraseIdx_of_lt jl]; omega
      obtain ⟨i1,i2⟩:=zqO d m (r.eraseIdx j) el
      refine ⟨?_,?_⟩
      · show ([a,r[j]] ++ ends (bpF d m (r.eraseIdx j)).2).Perm (a :: r)
        exact (((i1.cons r[j]).trans (zkw gk).symm)).cons a
      · show d a r[j] + (bpF d m (r.eraseIdx j)).1=d a r[j] + cost d (bpF d m (r.eraseIdx j)).2
        rw [i2]
end My
namespace My
open PySem L2 PM
def path (d:Int→Int→Int):List Int→Int
  | a :: b :: l=>d a b + path d (b :: l)
  | _=>0
theorem zib (d:Int→Int→Int):∀ (l:List Int) (a x y:Int),path d (a :: (l ++ [x,y]))=path d (a :: (l ++ [x])) + d x y
  | [],a,x,y=>by simp [path]
  | c :: l,a,x,y=>by
    have:=zib d l c x y
    show d a c + path d (c :: (l ++ [x,y]))=d a c + path d (c :: (l ++ [x])) + d x y
    omega
def cyc (d:Int→Int→Int):List Int→Int
  | []=>0
  | a :: l=>path d (a :: (l ++ [a]))
end My
namespace My
open PySem L2 PM
def nrm (p:Int × Int):Int × Int:=if p.1 ≤ p.2 then p else (p.2,p.1)
theorem zhL (a b:Int):nrm (a,b)=nrm (b,a):=by
  unfold nrm
  by_cases h:a ≤ b <;> by_cases h2:b ≤ a <;> simp [h,h2] <;> omega
theorem zfE {p q:Int × Int} (h:nrm p=nrm q):(p.1=q.1∧p.2=q.2)∨(p.1=q.2∧p.2=q.1):=by
  unfold nrm at h
  by_cases h1:p.1 ≤ p.2 <;> by_cases h2:q.1 ≤ q.2 <;> simp only [h1,h2,if_true,if_false] at h
  · exact .inl ⟨congrArg Prod.fst h,congrArg Prod.snd h⟩
  · exact .inr ⟨congrArg Prod.fst h,congrArg Prod.snd h⟩
  · exact .inr ⟨congrArg Prod.snd h,congrArg Prod.fst h⟩
  · exact .inl ⟨congrArg Prod.snd h,congrArg Prod.fst h⟩
def pe:List Int→List (Int × Int)
  | a :: b :: l=>nrm (a,b) :: pe (b :: l)
  | _=>[]
theorem zhf:∀ (l:List Int) (x y:Int),pe (l ++ [x,y])=pe (l ++ [x]) ++ [nrm (x,y)]
  | [],x,y=>rfl
  | [a],x,y=>rfl
  | a :: b :: l,x,y=>by
    have:=zhf (b :: l) x y
    show nrm (a,b) :: pe (b :: l ++ [x,y])=nrm (a,b) :: (pe (b :: l ++ [x]) ++ _)
    rw [this]
theorem zoe:∀ {l:List Int} {a b:Int},nrm (a,b) ∈ pe l→a ∈ l∧b ∈ l
  | [],_,_,h=>by cases h
  | [_],_,_,h=>by cases h
  | u :: v :: l,a,b,h=>by
    rcases List.mem_cons.mp h with e | e
    · rcases zfE e with ⟨h1,h2⟩ | ⟨h1,h2⟩
      · simp only at h1 h2; subst h1 h2; simp
      · simp only at h1 h2; subst h1 h2; simp
    · have:=zoe e
      exact ⟨List.mem_cons_of_mem _ this.1,List.mem_cons_of_mem _ this.2⟩
def con (z:Int) (W:List Int):List (Int × Int):=match W.getLast? with | none=>[] | some w=>[nrm (z,w)]
def deg (S:List (Int × Int)) (v:Int):Nat:=(ends S).count v
structure Eul (E S:List (Int × Int)) (G:List Int) (x:Int) (W:List Int) (z:Int):Prop where
  par:∀ v,(deg S v + (if v=x then 1 else 0) + (if v=z then 1 else 0)) % 2=0
  acc:∀ e,(E.map nrm).count e=(S.map nrm).count e + (pe (G ++ [x])).count e + (pe W).count e + (con z W).count e
  g0:(G ++ [x]).head?=some 0
  w0:(W = []→z=0)∧(W ≠ []→W.head?=some 0)
  nil:∀ v ∈ W,deg S v=0
structure Fin1 (E S:List (Int × Int)) (W:List Int):Prop where
  acc:∀ e,(E.map nrm).count e=(S.map nrm).count e + (pe W).count e
  w0:W.head?=some 0
  w1:W.getLast?=some 0
  nil:∀ v ∈ W,deg S v=0
theorem zko {p:Int × Int} {x:Int} (h:x=p.1∨x=p.2):(p.1=x∧p.2=zdM p x)∨(p.2=x∧p.1=zdM p x):=by
  unfold zdM
  by_cases c:p.1=x
  · rw [if_pos c]; exact .inl ⟨c,rfl⟩
  · rw [if_neg c]; exact .inr ⟨(h.resolve_left fun e=>c e.symm).symm,rfl⟩
theorem zh9 {S:List (Int × Int)} {k:Nat} {p:Int × Int} (h:S[k]?=some p) (v:Int):deg S v=deg (S.eraseIdx k) v + (if p.1=v then 1 else 0) + (if p.2=v then 1 else 0):=by
  induction S generalizing k with
  | nil=>simp at h
  | cons q S ih =>
    have c:∀ (r:Int × Int) (L:List (Int × Int)),deg (r :: L) v=deg L v + (if r.1=v then 1 else 0) + (if r.2=v then 1 else 0):=fun r L=>by
      show (r.1 :: r.2 :: ends L).count v=_
      rw [List.count_cons,List.count_cons]
      simp only [beq_iff_eq]
      unfold deg
      omega
    cases k with
    | zero=>simp at h; subst h; rw [c]; rfl
    | succ k =>
      simp at h
      rw [List.eraseIdx_cons_succ,c,c,ih h]
      omega
theorem zlC {S:List (Int × Int)} {k:Nat} {p:Int × Int} (h:S[k]?=some p) (e:Int × Int):(S.map nrm).count e=((S.eraseIdx k).map nrm).count e + (if nrm p=e then 1 else 0):=by
  induction S generalizing k with
  | nil=>simp at h
  | cons q S ih =>
    cases k with
    | zero =>
      simp at h; subst h
      rw [List.map_cons,List.count_cons]
      simp only [beq_iff_eq]
      rfl
    | succ k =>
      simp at h
      rw [List.eraseIdx_cons_succ,List.map_cons,List.map_cons,List.count_cons,List.count_cons,ih h]
      omega
theorem Eul.push {E S:List (Int × Int)} {G:List Int} {x z:Int} {W:List Int} {k:Nat} {p:Int × Int} (I:Eul E S G x W z) (hk:S[k]?=some p) (hx:x=p.1∨x=p.2):Eul E (S.eraseIdx k) (G ++ [x]) (zdM p x) W z:=by
  obtain ⟨y,ey⟩:∃ y,y=zdM p x:=⟨_,rfl⟩
  have oe:=zko hx
  rw [← ey] at oe ⊢
  have np:nrm p=nrm (x,y):=by
    rcases oe with ⟨h1,h2⟩ | ⟨h1,h2⟩
    · rw [← h1,← h2]
    · rw [zhL,← h1,← h2]
  refine ⟨fun v=>?_,fun e=>?_,?_,I.w0,fun v hv=>?_⟩
  · have:=I.par v
    rw [zh9 hk v] at this
    have key:∀ A B:Int,(if A=v then 1 else 0:Nat)=(if v=A then 1 else 0):=fun A _=>by
      by_cases c:v=A
      · rw [if_pos c,if_pos c.symm]
      · rw [if_neg c,if_neg fun z=>c z.symm]
    rw [key p.1 0,key p.2 0] at this
    rcases oe with ⟨h1,h2⟩ | ⟨h1,h2⟩
    · rw [h1,h2] at this; omega
    · rw [h1,h2] at this; omega
  · have a:=I.acc e
    have m:=zlC hk e
    have ps:pe (G ++ [x] ++ [y])=pe (G ++ [x]) ++ [nrm (x,y)]:=by rw [List.append_assoc]; exact zhf G x y
    rw [ps,List.count_append,List.count_singleton]
    rw [np] at m
    simp only [beq_iff_eq]
    omega
  · have:=I.g0
    cases G with
    | nil=>exact this
    | cons a G=>exact this
  · have:=I.nil v hv
    rw [zh9 hk v] at this
    omega
theorem znt {S:List (Int × Int)} {x:Int} (h:∀ p ∈ S,x ≠ p.1∧x ≠ p.2):deg S x=0:=by
  unfold deg
  refine List.count_eq_zero.mpr fun z=>?_
  obtain ⟨p,hp,hx⟩:=zjB z
  exact hx.elim (h p hp).1 (h p hp).2
theorem Eul.pop {E S:List (Int × Int)} {G:List Int} {x z:Int} {W:List Int} (I:Eul E S G x W z) (h:∀ p ∈ S,x ≠ p.1∧x ≠ p.2):x=z∧(G = []→Fin1 E S (W ++ [x]))∧∀ G' g,G=G' ++ [g]→Eul E S G' g (W ++ [x]) g:=by
  have d0:=znt h
  have xz:x=z:=by
    have:=I.par x
    rw [d0,if_pos rfl] at this
    by_cases c:x=z
    · exact c
    · rw [if_neg c] at this; omega
  have ev:∀ v,deg S v % 2=0:=fun v=>by
    have:=I.par v
    rw [← xz] at this
    split at this <;> omega
  have nil:∀ v ∈ W ++ [x],deg S v=0:=fun v hv=>by
    rcases List.mem_append.mp hv with z | z
    · exact I.nil v z
    · rw [List.mem_singleton.mp z]; exact d0
  have pw:∀ e,(pe (W ++ [x])).count e=(pe W).count e + (con z W).count e:=fun e=>by
    rcases List.eq_nil_or_concat W with rfl | ⟨W',w,eW⟩
    · rfl
    · rw [List.concat_eq_append] at eW
      subst eW
      have:con z (W' ++ [w]) = [nrm (w,x)]:=by
        unfold con
        rw [List.getLast?_concat]
        rw [zhL,xz]
      rw [this,List.append_assoc]
      show (pe (W' ++ [w,x])).count e=_
      rw [zhf,List.count_append]
  have w0:(W ++ [x]).head?=some 0:=by
    cases W with
    | nil =>
      have:=I.w0.1 rfl
      simp [xz,this]
    | cons a W=>exact I.w0.2 (by simp)
  refine ⟨xz,fun eG=>?_,fun G' g eG=>?_⟩
  · subst eG
    refine ⟨fun e=>?_,w0,?_,nil⟩
    · have a:=I.acc e
      rw [pw e]
      have:pe ([] ++ [x]) = []:=rfl
      rw [this,List.count_nil] at a
      omega
    · have:=I.g0
      rw [List.getLast?_concat]
      exact this
  · subst eG
    refine ⟨fun v=>?_,fun e=>?_,?_,⟨fun z=>absurd z (by simp),fun _=>w0⟩,nil⟩
    · have:=ev v
      split <;> omega
    · have a:=I.acc e
      have:pe (G' ++ [g] ++ [x])=pe (G' ++ [g]) ++ [nrm (g,x)]:=by rw [List.append_assoc]; exact zhf G' g x
      rw [this,List.count_append] at a
      have c:con g (W ++ [x]) = [nrm (g,x)]:=by unfold con; rw [List.getLast?_concat]
      rw [pw e,c]
      omega
    · have:=I.g0
      cases G' with
      | nil=>exact this
      | cons a G=>exact this
end My
namespace My
open PySem L2 PM
theorem zmM {A:D} {E:List (Int × Int)}:∀ (j:Nat) (S:List (Int × Int)) (G:List Int) (x:Int) (W:List Int) (z:Int) (o4 o5 o6:Option D),2 * S.length + G.length + 1=j→S.length + G.length + 1 + W.length ≤ 101→Eul E S G x W z →
    ∃ (S':List (Int × Int)) (W':List Int) (p4 p5 p6:Option D),W'.length ≤ 101∧Fin1 E S' W'∧(∀ q ∈ S',q ∈ S)∧zbS zbl zbJ (j + 1) [.v A,.o (.lst (S.map encR)),.o (iL (G ++ [x])),.o (iL W),sv o4,sv o5,sv o6] = .nx [.v A,.o (.lst (S'.map encR)),.o (iL []),.o (iL W'),sv p4,sv p5,sv p6]:=by
  intro j
  induction j with
  | zero=>intro S G x W z o4 o5 o6 h; omega
  | succ j ih =>
    intro S G x W z o4 o5 o6 h hl I
    have t:zbl [.v A,.o (.lst (S.map encR)),.o (iL (G ++ [x])),.o (iL W),sv o4,sv o5,sv o6] = .ok true:=by
      simp only [zbl,zar,zb6,mCB,zaa,mNil,mRd,mC,List.getElem?_cons_succ,List.getElem?_cons_zero,R.bind_ok,zdg,R.of_some,zmU,znz,List.length_append,List.length_singleton]
      exact congrArg R.ok (decide_eq_true (by omega))
    rcases zmj (A:=A) (S:=S) (G:=G) (x:=x) (W:=W) (o4:=o4) (o5:=o5) (o6:=o6) (by omega) (by omega) (by omega) with ⟨k,p,q4,q5,q6,hk,hx,hb⟩ | ⟨q4,q5,hx,hb⟩
    · have kl:=(List.getElem?_eq_some_iff.mp hk).1
      have el:(S.eraseIdx k).length=S.length - 1:=List.length_eraseIdx_of_lt kl
      obtain ⟨S',W',p4,p5,p6,h1,h2,h3,h4⟩:=ih (S.eraseIdx k) (G ++ [x]) (zdM p x) W z q4 q5 q6 (by simp only [List.length_append,List.length_singleton,el]; omega) (by simp only [List.length_append,List.length_singleton,el]; omega) (I.push hk hx)
      refine ⟨S',W',p4,p5,p6,h1,h2,fun q hq=>List.mem_of_mem_eraseIdx (h3 q hq),?_⟩
      unfold zbS
      rw [t,R.toO_ok,if_pos rfl,hb]
      exact h4
    · obtain ⟨xz,fin,nxt⟩:=I.pop hx
      rcases List.eq_nil_or_concat G with rfl | ⟨G',g,eG⟩
      · refine ⟨S,W ++ [x],q4,q5,o6,by rw [List.length_append,List.length_singleton]; simp at hl; omega,fin rfl,fun _ h=>h,?_⟩
        have t2:zbl [.v A,.o (.lst (S.map encR)),.o (iL []),.o (iL (W ++ [x])),sv q4,sv q5,sv o6] = .ok false:=by
          simp only [zbl,zar,zb6,mCB,zaa,mNil,mRd,mC,List.getElem?_cons_succ,List.getElem?_cons_zero,R.bind_ok,zdg,R.of_some]; rfl
        have jj:∃ i,j=i + 1∨j=0:=⟨j - 1,by omega⟩
        have fin0:zbS zbl zbJ (j + 1) [.v A,.o (.lst (S.map encR)),.o (iL []),.o (iL (W ++ [x])),sv q4,sv q5,sv o6] = .nx [.v A,.o (.lst (S.map encR)),.o (iL []),.o (iL (W ++ [x])),sv q4,sv q5,sv o6]:=by
          unfold zbS
          rw [t2]; rfl
        unfold zbS
        rw [t,R.toO_ok,if_pos rfl,hb]
        exact fin0
      · rw [List.concat_eq_append] at eG
        obtain ⟨S',W',p4,p5,p6,h1,h2,h3,h4⟩:=ih S G' g (W ++ [x]) g q4 q5 o6 (by rw [eG] at h; simp only [List.length_append,List.length_singleton] at h; omega) (by rw [eG] at hl; simp only [List.length_append,List.length_singleton] at hl ⊢; omega) (nxt G' g eG)
        refine ⟨S',W',p4,p5,p6,h1,h2,h3,?_⟩
        unfold zbS
        rw [t,R.toO_ok,if_pos rfl,hb,eG]
        exact h4
theorem zk3 {E:List (Int × Int)} (h:∀ v,deg E v % 2=0):Eul E E [] 0 [] 0:=by
  refine ⟨fun v=>?_,fun e=>?_,rfl,⟨fun _=>rfl,fun z=>absurd rfl z⟩,fun v hv=>by cases hv⟩
  · have:=h v
    split <;> omega
  · show _=_ + (pe [0]).count e + (pe []).count e + (con 0 []).count e
    simp [pe,con]
theorem ziz {S:List (Int × Int)} (hS:S.length ≤ 100) (ev:∀ v,deg S v % 2=0):∃ (S':List (Int × Int)) (W:List Int),W.length ≤ 101∧Fin1 S S' W∧(∀ q ∈ S',q ∈ S)∧zbO [.lst (S.map encR)] = .ok (iL W):=by
  obtain ⟨A,eA⟩:∃ A,A=D.lst (S.map encR):=⟨_,rfl⟩
  obtain ⟨S',W',p4,p5,p6,hl,hf,hs,hr⟩:=zmM (A:=A) (2 * S.length + 1) S [] 0 [] 0 none none none (by simp) (by simp; omega) (zk3 ev)
  have hw:zeO [.v A,.o (.lst (S.map encR)),.o (iL [0]),.o (iL []),.no,.no,.no]=_:=zeM hr (by intro z; cases z)
  refine ⟨S',W',hl,hf,hs,zcA ?_⟩
  rw [← eA]
  show mSeq _ _ [.v A,.no,.no,.no,.no,.no,.no]=_
  have q1:mAsg (mCB zc6 (zaa (mRd 0) mNil)) (bNew 1) [.v A,.no,.no,.no,.no,.no,.no] = .nx [.v A,.o (.lst (S.map encR)),.no,.no,.no,.no,.no]:=zax (d:=.lst (S.map encR)) (by rw [eA]; simp [mCB,zaa,mNil,mRd,zc6]) rfl
  have q2:mAsg (mLst (zaa (mC (.int 0)) mNil)) (bNew 2) [.v A,.o (.lst (S.map encR)),.no,.no,.no,.no,.no] = .nx [.v A,.o (.lst (S.map encR)),.o (iL [0]),.no,.no,.no,.no]:=zax (d:=iL [0]) (by simp [mLst,zaa,mNil,mC,sizeLine,iL]) rfl
  have q3:mAsg (mLst mNil) (bNew 3) [.v A,.o (.lst (S.map encR)),.o (iL [0]),.no,.no,.no,.no] = .nx [.v A,.o (.lst (S.map encR)),.o (iL [0]),.o (iL []),.no,.no,.no]:=zax (d:=.lst []) (by simp [mLst,mNil,sizeLine]) rfl
  exact (zah q1).trans ((zah q2).trans ((zah q3).trans ((zah hw).trans rfl)))
theorem zkv {n:Nat} {d:Int→Int→Int} (hn:0 < n) {P S':List (Int × Int)} {W:List Int} (f:Fin1 (stR n d (n - 1) ++ P) S' W) (sub:∀ q ∈ S',q ∈ stR n d (n - 1) ++ P) (pm:∀ q ∈ P,(0 ≤ q.1∧q.1 < (n:Int))∧(0 ≤ q.2∧q.2 < (n:Int))) :
    (∀ v:Int,0 ≤ v→v < n→v ∈ W)∧S' = []∧((stR n d (n - 1) ++ P).map nrm).Perm (pe W):=by
  have step:∀ q ∈ stR n d (n - 1),q.1 ∈ W→q.2 ∈ W:=fun q hq h1=>by
    have c:0 < ((stR n d (n - 1) ++ P).map nrm).count (nrm q):=List.count_pos_iff.mpr (List.mem_map.mpr ⟨q,List.mem_append_left _ hq,rfl⟩)
    have a:=f.acc (nrm q)
    have s0:(S'.map nrm).count (nrm q)=0:=by
      refine List.count_eq_zero.mpr fun z=>?_
      obtain ⟨r,hr,er⟩:=List.mem_map.mp z
      have d0:=f.nil _ h1
      have:q.1 ∈ ends S':=by
        unfold ends
        refine List.mem_flatMap.mpr ⟨r,hr,?_⟩
        rcases zfE er with ⟨e1,_⟩ | ⟨_,e2⟩
        · rw [e1]; simp
        · rw [e2]; simp
      exact absurd d0 (Nat.ne_of_gt (List.count_pos_iff.mpr this))
    have:nrm (q.1,q.2) ∈ pe W:=List.count_pos_iff.mp (by show 0 < (pe W).count (nrm q); omega)
    exact (zoe this).2
  have z0:(0:Int) ∈ W:=List.mem_of_mem_head? (by rw [f.w0]; rfl)
  have grow:∀ k,k ≤ n - 1→∀ v ∈ stW n d k,v ∈ W:=by
    intro k
    induction k with
    | zero=>intro _ v hv; rw [List.mem_singleton.mp hv]; exact z0
    | succ k ih =>
      intro hk v hv
      rcases List.mem_append.mp hv with z | z
      · exact ih (by omega) v z
      · rw [List.mem_singleton.mp z]
        obtain ⟨_,_,hi,_,_⟩:=ziU (d:=d) (zf2 n d k) (show (stW n d k).length < n by rw [zcZ]; omega)
        have inR:∀ j i,j + 1 + i=n - 1→(nI n d (stW n d j),nO n d (stW n d j)) ∈ stR n d (j + 1 + i):=by
          intro j i
          induction i with
          | zero=>intro _; rw [show j + 1 + 0=j + 1 from rfl,stR]; simp
          | succ i _ =>
            intro _
            have key:∀ i,(nI n d (stW n d j),nO n d (stW n d j)) ∈ stR n d (j + 1 + i):=fun i=>by
              induction i with
              | zero=>rw [show j + 1 + 0=j + 1 from rfl,stR]; simp
              | succ i ih=>exact List.mem_append_left _ ih
            exact key (i + 1)
        have:=inR k (n - 1 - (k + 1)) (by omega)
        rw [show k + 1 + (n - 1 - (k + 1))=n - 1 by omega] at this
        exact step _ this (ih (by omega) _ hi)
  have all:∀ v:Int,0 ≤ v→v < n→v ∈ W:=fun v v0 v1=>by
    refine grow (n - 1) (Nat.le_refl _) v ?_
    have nd:=zl3 (d:=d) (n - 1) (show n - 1 < n by omega)
    have sub2:∀ q ∈ stW n d (n - 1),q ∈ upt n:=fun q hq=>mem_upt.mpr (zhu hn (n - 1) (by omega) q hq)
    apply Classical.byContradiction
    intro hno
    have:=List.Nodup.length_le_of_subset (l₂:=(upt n).erase v) nd fun q hq=>by
      refine (List.Nodup.mem_erase_iff (zf3 n)).mpr ⟨fun e=>hno (by rw [← e]; exact hq),sub2 q hq⟩
    rw [zcZ,List.length_erase_of_mem (mem_upt.mpr ⟨v0,v1⟩),zaZ] at this
    omega
  have nilS:S' = []:=by
    cases S' with
    | nil=>rfl
    | cons q S' =>
      have hq:=sub q (by simp)
      have q1:0 ≤ q.1∧q.1 < (n:Int):=(List.mem_append.mp hq).elim (fun z=>(ziZ hn (n - 1) (by omega) q z).1) fun z=>(pm q z).1
      have d0:=f.nil _ (all q.1 q1.1 q1.2)
      have:q.1 ∈ ends (q :: S'):=by show q.1 ∈ q.1 :: q.2 :: ends S'; simp
      exact absurd d0 (Nat.ne_of_gt (List.count_pos_iff.mpr this))
  refine ⟨all,nilS,List.perm_iff_count.mpr fun e=>?_⟩
  have:=f.acc e
  rw [nilS] at this
  simpa using this
end My
namespace My
open PySem L2 PM
theorem zn4 {d:Int→Int→Int} (E F:List (Int × Int)):cost d (E ++ F)=cost d E + cost d F:=by
  unfold cost
  rw [List.map_append,List.sum_append]
end My
namespace My
open PySem L2 PM
theorem zkn {T:D} {R:List (Int × Int)} (Inv:List Int→List Int→Prop) (hR:R.length ≤ 100) (h0:0 ∉ R.map (·.2)) (hn:(R.map (·.2)).Nodup) (step:∀ W Q p,Rnd R W (Q ++ [p])→Inv W (Q ++ [p])→Inv (W ++ [p]) (Q ++ kids R.reverse p)):∀ (j:Nat) (W Q:List Int) (o4 o5 o6:Option D),W.length + j=R.length + 1→Rnd R W Q→Inv W Q →
    ∃ (W':List Int) (p4 p5 p6:Option D),Rnd R W' []∧Inv W' []∧zbS zbh zcn (j + 1) [.v T,.v (.lst (R.map encR)),.o (iL W),.o (iL Q),sv o4,sv o5,sv o6] = .nx [.v T,.v (.lst (R.map encR)),.o (iL W'),.o (iL []),sv p4,sv p5,sv p6]:=by
  intro j
  have done:∀ (W:List Int) (o4 o5 o6:Option D),zbh [.v T,.v (.lst (R.map encR)),.o (iL W),.o (iL []),sv o4,sv o5,sv o6] = .ok false:=fun W o4 o5 o6=>by
    simp only [zbh,zar,zb6,mCB,zaa,mNil,mRd,mC,List.getElem?_cons_succ,List.getElem?_cons_zero,PM.R.bind_ok,zdg,PM.R.of_some]; rfl
  induction j with
  | zero =>
    intro W Q o4 o5 o6 hl hr hi
    have:=hr.len
    rw [List.length_append] at this
    obtain rfl:Q = []:=List.length_eq_zero_iff.mp (by omega)
    refine ⟨W,o4,o5,o6,hr,hi,?_⟩
    unfold zbS
    rw [done]; rfl
  | succ j ih =>
    intro W Q o4 o5 o6 hl hr hi
    rcases List.eq_nil_or_concat Q with rfl | ⟨Q',p,eQ⟩
    · refine ⟨W,o4,o5,o6,hr,hi,?_⟩
      unfold zbS
      rw [done]; rfl
    · rw [List.concat_eq_append] at eQ
      subst eQ
      have ln:=hr.len
      rw [List.length_append,List.length_append,List.length_singleton] at ln
      have t:zbh [.v T,.v (.lst (R.map encR)),.o (iL W),.o (iL (Q' ++ [p])),sv o4,sv o5,sv o6] = .ok true:=by
        simp only [zbh,zar,zb6,mCB,zaa,mNil,mRd,mC,List.getElem?_cons_succ,List.getElem?_cons_zero,PM.R.bind_ok,zdg,PM.R.of_some,zmU,znz,List.length_append,List.length_singleton]
        exact congrArg PM.R.ok (decide_eq_true (by omega))
      obtain ⟨p4,p5,p6,hb⟩:=zkE (T:=T) (R:=R) (W:=W) (Q:=Q') (p:=p) (o4:=o4) (o5:=o5) (o6:=o6) hR (by omega) (by omega)
      unfold zbS
      rw [t,PM.R.toO_ok,if_pos rfl,hb]
      exact ih _ _ p4 p5 p6 (by rw [List.length_append,List.length_singleton]; omega) (hr.step h0 hn) (step W Q' p hr hi)
inductive Anc (R:List (Int × Int)) (u:Int):Int→Prop
  | refl:Anc R u u
  | step {i v:Int}:(i,v) ∈ R→Anc R u i→Anc R u v
theorem Anc.trans {R:List (Int × Int)} {u v w:Int} (h1:Anc R u v) (h2:Anc R v w):Anc R u w:=by
  induction h2 with
  | refl=>exact h1
  | step h _ ih=>exact .step h ih
def Stk (R:List (Int × Int)):Int→List Int→Prop
  | _,[]=>True
  | c,q :: T=>∃ i,(i,q) ∈ R∧Anc R i c∧Stk R i T
theorem Stk.mono {R:List (Int × Int)} {u c:Int} (h:Anc R u c):∀ {T:List Int},Stk R u T→Stk R c T
  | [],_=>trivial
  | _ :: _,⟨i,h1,h2,h3⟩=>⟨i,h1,h2.trans h,h3⟩
theorem Stk.kids {R:List (Int × Int)} {p:Int}:∀ {K T:List Int},(∀ k ∈ K,(p,k) ∈ R)→Stk R p T→Stk R p (K ++ T)
  | [],_,_,h=>h
  | k :: K,T,hk,h=>⟨p,hk k (by simp),.refl,Stk.kids (K:=K) (fun x hx=>hk x (List.mem_cons_of_mem _ hx)) h⟩
end My
namespace My
open PySem L2 PM
end My
namespace My
open PySem L2 PM
theorem zpB (R P:List (Int × Int)) (v:Int):deg (R ++ P) v=deg R v + deg P v:=by
  unfold deg ends
  rw [List.flatMap_append,List.count_append]
theorem znC {R P:List (Int × Int)} (h:(ends P).Perm (oddL R)) (v:Int):deg (R ++ P) v % 2=0:=by
  rw [zpB]
  have c:deg P v=(oddL R).count v:=by unfold deg; exact h.count_eq v
  have nd:=zgV R
  by_cases m:v ∈ oddL R
  · have c1:(oddL R).count v=1:=by
      have:=List.nodup_iff_count.mp nd v
      have:=List.count_pos_iff.mpr m
      omega
    have o:odd (ends R) v=true:=(List.mem_filter.mp m).2
    unfold odd at o
    have o':(ends R).count v % 2=1:=by simpa using o
    unfold deg
    rw [show (ends P).count v=deg P v from rfl,c,c1]
    omega
  · have c0:(oddL R).count v=0:=List.count_eq_zero.mpr m
    rw [c,c0]
    by_cases e:v ∈ ends R
    · have o:¬ (odd (ends R) v=true):=fun z=>m (List.mem_filter.mpr ⟨((zci (ends R)).2 v).mpr e,z⟩)
      unfold odd at o
      have o':¬ (ends R).count v % 2=1:=by simpa using o
      unfold deg
      omega
    · have:deg R v=0:=List.count_eq_zero.mpr e
      omega
theorem zj6:∀ (l:List Int) (v:Int),v ∈ l→(∃ u,nrm (v,u) ∈ pe l)∨l = [v]
  | [],_,h=>by cases h
  | [a],v,h=>.inr (by rw [List.mem_singleton.mp h])
  | a :: b :: l,v,h=>by
    rcases List.mem_cons.mp h with rfl | h
    · exact .inl ⟨b,by show nrm (v,b) ∈ nrm (v,b) :: _; simp⟩
    · rcases zj6 (b :: l) v h with ⟨u,hu⟩ | e
      · exact .inl ⟨u,List.mem_cons_of_mem _ hu⟩
      · have eb:b=v:=(List.cons.inj e).1
        refine .inl ⟨a,?_⟩
        show nrm (v,a) ∈ nrm (a,b) :: pe (b :: l)
        rw [eb,zhL]; simp
theorem zcT {n:Nat} {B:Int} {d:Int→Int→Int} (ok:LenOk n B d) (hn0:0 < n) (hn:n ≤ 12):∃ (P:List (Int × Int)) (W:List Int),
    (ends P).Perm (oddL (stR n d (n - 1)))∧P=zdv (tabD (tabF n d)) (srt (oddL (stR n d (n - 1))))∧zaD [tabD (tabF n d),iL (srt (oddL (stR n d (n - 1))))] = .ok (.lst (P.map encR))∧zav [tabD (tabF n d)] = .ok (iL W)∧W.length ≤ 101∧W.head?=some 0∧W.getLast?=some 0∧(∀ v:Int,v ∈ W ↔ 0 ≤ v∧v < n)∧((stR n d (n - 1) ++ P).map nrm).Perm (pe W):=by
  have lt:=zdf ok hn0 (by omega)
  have sm:=ziZ (d:=d) hn0 (n - 1) (by omega)
  have sl:=zhp n d (n - 1)
  have oe:=zfN (R:=stR n d (n - 1)) (by omega)
  have om:∀ q ∈ srt (oddL (stR n d (n - 1))),0 ≤ q∧q < (n:Int):=fun q hq=>by
    obtain ⟨p,hp,hx⟩:=zjB (znP (srt_mem.mp hq))
    rcases hx with rfl | rfl
    · exact (sm p hp).1
    · exact (sm p hp).2
  have ev:=zlX (stR n d (n - 1))
  have ol:(srt (oddL (stR n d (n - 1)))).length ≤ 12:=by
    rw [zhj]
    have:=List.Nodup.length_le_of_subset (l₂:=upt n) (zgV (stR n d (n - 1))) fun q hq=>mem_upt.mpr (om q (srt_mem.mpr hq))
    rw [zaZ] at this
    omega
  have lp:=zfo ok (by omega) om (by rw [zhj]; exact ev) ol
  obtain ⟨P,eP⟩:∃ P,P=zdv (tabD (tabF n d)) (srt (oddL (stR n d (n - 1)))):=⟨_,rfl⟩
  have pl:P.length ≤ 6:=by
    rw [eP]
    have:=zi8 (tabD (tabF n d)) (srt (oddL (stR n d (n - 1))))
    omega
  have pp:(ends P).Perm (oddL (stR n d (n - 1))):=by
    rw [eP]
    have:=(zqO (dOf (tabD (tabF n d))) ((srt (oddL (stR n d (n - 1)))).length / 2) (srt (srt (oddL (stR n d (n - 1))))) (by rw [zhj,zhj]; omega)).1
    exact this.trans ((List.mergeSort_perm _ _).trans (List.mergeSort_perm _ _))
  rw [← eP] at lp
  obtain ⟨S',W,wl,f,sub,hw⟩:=ziz (S:=stR n d (n - 1) ++ P) (by rw [List.length_append]; omega) (znC pp)
  have pm:∀ q ∈ P,(0 ≤ q.1∧q.1 < (n:Int))∧(0 ≤ q.2∧q.2 < (n:Int)):=fun q hq=>by
    have m:∀ x,x ∈ ends P→0 ≤ x∧x < (n:Int):=fun x hx=>om x (srt_mem.mpr (pp.mem_iff.mp hx))
    exact ⟨m _ (List.mem_flatMap.mpr ⟨q,hq,by simp⟩),m _ (List.mem_flatMap.mpr ⟨q,hq,by simp⟩)⟩
  obtain ⟨all,_,per⟩:=zkv hn0 f sub pm
  have run:zav [tabD (tabF n d)] = .ok (iL W):=by
    obtain ⟨R,eR⟩:∃ R,R=stR n d (n - 1):=⟨_,rfl⟩
    obtain ⟨T,eT⟩:∃ T,T=tabD (tabF n d):=⟨_,rfl⟩
    rw [← eR] at lt lp hw oe sl
    rw [← eT] at lp lt ⊢
    refine zcA ?_
    show mSeq _ _ [.v T,.no]=_
    have q1:mAsg (zag zaY (zaa (mVar 0) mNil)) (zap 1) [.v T,.no] = .nx [.v T,.v (.lst (R.map encR))]:=zax (d:=.lst (R.map encR)) (by simp [zag,zaa,mNil,mVar,lt]) rfl
    refine (zah q1).trans ?_
    have ct:oCat (.lst (R.map encR)) (.lst (P.map encR))=some (.lst ((R ++ P).map encR)):=by
      unfold oCat
      simp only
      rw [zaX (by rw [List.length_map,List.length_map]; exact Nat.le_trans (show R.length + P.length ≤ 100 by omega) (by decide)),List.map_append]
    have e1:zag zba (zaa (mVar 1) mNil) [.v T,.v (.lst (R.map encR))] = .ok (iL (srt (oddL R))):=by simp [zag,zaa,mNil,mVar,oe]
    have e2:zag zaD (zaa (mVar 0) (zaa (zag zba (zaa (mVar 1) mNil)) mNil)) [.v T,.v (.lst (R.map encR))] = .ok (.lst (P.map encR)):=by
      show ((zaa _ (zaa _ mNil)) _).bind _=_; simp only [zaa,e1,mNil,mVar,List.getElem?_cons_zero,PM.R.bind_ok,lp,PM.R.nev_ok]
    have e3:m2 oCat (mRd 1) (zag zaD (zaa (mVar 0) (zaa (zag zba (zaa (mVar 1) mNil)) mNil))) [.v T,.v (.lst (R.map encR))] = .ok (.lst ((R ++ P).map encR)):=by
      simp only [zb6,e2,mRd,List.getElem?_cons_succ,List.getElem?_cons_zero,PM.R.bind_ok,ct,PM.R.of_some]
    have e4:zag zbO (zaa (m2 oCat (mRd 1) (zag zaD (zaa (mVar 0) (zaa (zag zba (zaa (mVar 1) mNil)) mNil)))) mNil) [.v T,.v (.lst (R.map encR))] = .ok (iL W):=by
      show ((zaa _ mNil) _).bind _=_; simp only [zaa,e3,mNil,PM.R.bind_ok,hw,PM.R.nev_ok]
    unfold zeT
    rw [e4]; rfl
  refine ⟨P,W,pp,eP,lp,run,wl,f.w0,f.w1,fun v=>⟨fun h=>?_,fun h=>all v h.1 h.2⟩,per⟩
  -- each place of the walk is an end of a road,or it is 0
  rcases zj6 W v h with ⟨u,hu⟩ | e
  · obtain ⟨q,hq,eq⟩:=List.mem_map.mp (per.mem_iff.mpr hu)
    have rg:(0 ≤ q.1∧q.1 < (n:Int))∧(0 ≤ q.2∧q.2 < (n:Int)):=(List.mem_append.mp hq).elim (sm q) (pm q)
    rcases zfE eq with ⟨e1,_⟩ | ⟨_,e2⟩
    · simp only at e1; rw [← e1]; exact rg.1
    · simp only at e2; rw [← e2]; exact rg.2
  · have:=f.w0
    rw [e] at this
    have:v=0:=by simpa using this
    omega
end My
namespace My
open PySem L2 PM
def Ed (L:List (Int × Int)) (x y:Int):Prop:=(x,y) ∈ L∨(y,x) ∈ L
inductive Rch (L:List (Int × Int)) (W:List Int):Int→Prop
  | base {x:Int}:x ∈ W→Rch L W x
  | step {x y:Int}:Ed L x y→Rch L W y→Rch L W x
theorem Ed.symm {L:List (Int × Int)} {x y:Int} (h:Ed L x y):Ed L y x:=h.elim .inr .inl
theorem Rch.mono {L L':List (Int × Int)} {W W':List Int} {x:Int} (hL:∀ p ∈ L,p ∈ L') (hW:∀ q ∈ W,q ∈ W') (h:Rch L W x):Rch L' W' x:=by
  induction h with
  | base h=>exact .base (hW _ h)
  | step e _ ih=>exact .step (e.elim (fun z=>.inl (hL _ z)) fun z=>.inr (hL _ z)) ih
theorem Rch.trans {L:List (Int × Int)} {W W':List Int} {x:Int} (h:Rch L W x) (k:∀ q ∈ W,Rch L W' q):Rch L W' x:=by
  induction h with
  | base h=>exact k _ h
  | step e _ ih=>exact .step e ih
theorem Rch.symm {L:List (Int × Int)} {a b:Int} (h:Rch L [a] b):Rch L [b] a:=by
  suffices key:∀ x,Rch L [a] x→Rch L [b] x→Rch L [b] a from key b h (.base (by simp))
  intro x hx
  induction hx with
  | base h=>intro k; rw [List.mem_singleton.mp h] at k; exact k
  | step e _ ih=>intro k; exact ih (.step e.symm k)
def tot (d:Int→Int→Int) (L:List (Int × Int)):Int:=(L.map fun p=>d p.1 p.2).sum
end My
namespace My
open PySem L2 PM
def cp:List Int→List (Int × Int)
  | a :: b :: l=>(a,b) :: cp (b :: l)
  | _=>[]
theorem zmh (d:Int→Int→Int):∀ l:List Int,tot d (cp l)=path d l
  | []=>rfl
  | [_]=>rfl
  | a :: b :: l=>by
    have:=zmh d (b :: l)
    show d a b + tot d (cp (b :: l))=d a b + path d (b :: l)
    rw [this]
theorem zjG (d:Int→Int→Int):∀ L:List (Int × Int),tot d L=cost d L
  | []=>rfl
  | q :: L=>by
    have:=zjG d L
    show d q.1 q.2 + tot d L=d q.1 q.2 + cost d L
    rw [this]
theorem zl4:∀ {l:List Int} {q:Int × Int},q ∈ cp l→q.1 ∈ l∧q.2 ∈ l
  | [],_,h=>by cases h
  | [_],_,h=>by cases h
  | a :: b :: l,q,h=>by
    rcases List.mem_cons.mp h with e | e
    · rw [e]; simp
    · have:=zl4 e
      exact ⟨List.mem_cons_of_mem _ this.1,List.mem_cons_of_mem _ this.2⟩
end My
namespace My
open PySem L2 PM
theorem zpx {l r:List Int}:zipD (l.map .int) (r.map .int)=(l.zip r).map fun x=>D.tup [.int x.1,.int x.2]:=by
  unfold zipD
  induction l generalizing r with
  | nil=>rfl
  | cons a l ih =>
    cases r with
    | nil=>rfl
    | cons b r=>simp only [List.map_cons,List.zipWith_cons_cons,List.zip_cons_cons,ih]
theorem znZ {l:List D} (h:l ≠ []):cutD l none (some (-1))=l.dropLast:=by
  have hl:0 < l.length:=List.length_pos_iff.mpr h
  have e:HT.sIx l.length l.length (some (-1))=l.length - 1:=by
    unfold HT.sIx
    simp
    omega
  have e0:HT.sIx l.length 0 none=0:=rfl
  unfold cutD
  rw [e,e0,List.drop_zero,Nat.sub_zero,List.dropLast_eq_take]
theorem zoa:∀ l:List Int,l.dropLast.zip (l.drop 1)=cp l
  | []=>rfl
  | [_]=>rfl
  | a :: b :: l=>by
    have:=zoa (b :: l)
    show (a :: (b :: l).dropLast).zip (b :: l)=(a,b) :: cp (b :: l)
    rw [← this]; rfl
theorem zok (d:Int→Int→Int) (l:List Int) (w:Int):cyc d (l ++ [w])=path d (l ++ [w]) + d w ((l ++ [w]).headD 0):=by
  cases l with
  | nil=>show d w w + 0=0 + d w w; omega
  | cons a l=>show path d (a :: ((l ++ [w]) ++ [a]))=path d (a :: (l ++ [w])) + d w a; rw [List.append_assoc]; exact zib d l a w a
theorem ziR {l:List Int} {w:Int}:oIxL (iL (l ++ [w])) (.int (-1))=some (.int w):=by
  show atI ((l ++ [w]).map D.int) (-1)=_
  unfold atI ixN
  rw [if_neg (by decide),List.length_map,List.length_append,List.length_singleton]
  rw [if_pos (by omega)]
  have:((-1:Int) + ((l.length + 1:Nat):Int)).toNat=l.length:=by omega
  simp only [this]
  simp
theorem zhN {l:List Int} {a:Int}:oIxL (iL (a :: l)) (.int 0)=some (.int a):=by
  show atI ((a :: l).map D.int) 0=_
  unfold atI ixN
  simp
theorem zmu {l:List Int} {w:Int}:oIxL (iL (l ++ [w])) (.int 0)=some (.int ((l ++ [w]).headD 0)):=by
  cases l with
  | nil=>exact zhN
  | cons a l=>exact zhN
end My
namespace My
open PySem L2 PM
theorem zdE {n:Nat} {d:Int→Int→Int} {W:List Int} (wl:W.length ≤ 101) (cw:zav [tabD (tabF n d)] = .ok (iL W)):zaV [tabD (tabF n d)] = .ok (iL (zaC W)):=by
  obtain ⟨T,eT⟩:∃ T,T=tabD (tabF n d):=⟨_,rfl⟩
  rw [← eT] at cw ⊢
  obtain ⟨δ,h1,p2,rfl⟩:=za5 (b:=zap 2) (m:=zco) D.int (fun pre δ=>∃ p2:Option D,δ = [.v T,.o (.dct ((zaC pre).map .inl) ((zaC pre).map fun _=>.bl true)),sv p2]) W
    (by
      rintro pre x post δ hall ⟨p2,rfl⟩
      refine ⟨[.v T,.o (.dct ((zaC pre).map .inl) ((zaC pre).map fun _=>.bl true)),.v (.int x)],[.v T,.o (.dct ((zaC (pre ++ [x])).map .inl) ((zaC (pre ++ [x])).map fun _=>.bl true)),.v (.int x)],zaT rfl,.inl ?_,some _,rfl⟩
      have pl:(zaC pre).length ≤ 101:=by
        have a:=congrArg List.length hall
        rw [List.length_append] at a
        have:=zc7 pre
        omega
      rw [← zns]
      unfold zco ziV
      show (ifC (((zaC pre).map (.inl:Int→Key)).length < sizeLine) (O.nx _) O.no)=_
      rw [zaX (by rw [List.length_map]; exact Nat.lt_of_lt_of_le (show (zaC pre).length < 200 by omega) (by decide))]
      rfl)
    [.v T,.o (.dct [] []),.no] ⟨none,rfl⟩
  refine zcA ?_
  show mSeq _ _ [.v T,.no,.no]=_
  have q1:mAsg (mC (.dct [] [])) (bNew 1) [.v T,.no,.no] = .nx [.v T,.o (.dct [] []),.no]:=rfl
  have q2:zdJ [.v T,.o (.dct [] []),.no]=_:=(zbz (l:=W.map .int) (by simp [mItL,zag,zaa,mNil,mVar,cw])).trans h1
  refine (zah q1).trans ((zah q2).trans ?_)
  have:((zaC W).map (.inl:Int→Key)).map kD=(zaC W).map .int:=by rw [List.map_map]; rfl
  show O.ro (.lst (((zaC W).map (.inl:Int→Key)).map kD))=_
  rw [this]; rfl
structure Rn (n:Nat) (l:List Int):Prop where
  nd:l.Nodup
  mem:∀ v:Int,v ∈ l ↔ 0 ≤ v∧v < (n:Int)
theorem Rn.perm {n:Nat} {l:List Int} (h:Rn n l):l.Perm (upt n):=by
  refine (List.perm_ext_iff_of_nodup h.nd (zf3 n)).mpr fun x=>?_
  rw [h.mem,mem_upt]
theorem Rn.len {n:Nat} {l:List Int} (h:Rn n l):l.length=n:=by rw [h.perm.length_eq,zaZ]
theorem Rn.ne {n:Nat} {l:List Int} (h:Rn n l) (hn:0 < n):l ≠ []:=fun e=>by
  have:=h.len
  rw [e] at this
  simp at this
  omega
end My
namespace My
open PySem L2 PM
theorem zfy:∀ l:List Int,cp l=(List.range (l.length - 1)).map fun k=>(l.getD k 0,l.getD (k + 1) 0)
  | []=>rfl
  | [_]=>rfl
  | a :: b :: l=>by
    have:=zfy (b :: l)
    show (a,b) :: cp (b :: l)=_
    rw [this]
    show _=(List.range (l.length + 1)).map _
    rw [List.range_succ_eq_map,List.map_cons,List.map_map]
    rfl
theorem znk {l:List Int} {k:Nat} (h:k < l.length):oIxL (iL l) (.int k)=some (.int (l.getD k 0)):=by
  show atI (l.map D.int) k=_
  unfold atI ixN
  rw [if_pos (by omega),List.length_map]
  simp [h]
theorem zeE {n:Nat} {d:Int→Int→Int} {l:List Int} (ne:l ≠ []) (hl:l.length ≤ 100) (mem:∀ v ∈ l,0 ≤ v∧v < (n:Int)):za2 [tabD (tabF n d),iL l] = .ok (.int (path d l)):=by
  obtain ⟨T,eT⟩:∃ T,T=tabD (tabF n d):=⟨_,rfl⟩
  have tix:∀ a:Int,0 ≤ a→a < n→oIxL T (.int a)=some (iL ((upt n).map (d a))):=fun a h0 h1=>by rw [eT]; exact ze7 h0 h1
  rw [← eT]
  have l1:0 < l.length:=List.length_pos_iff.mpr ne
  have li:fLen [iL l]=some (.int l.length):=by unfold iL fLen; simp
  have rg:mRng (zaa (m2 oSub (mCB fLen (zaa (mRd 1) mNil)) (mC (.int 1))) mNil) [.v T,.v (iL l)] = .ok ((List.range (l.length - 1)).map fun k:Nat=>.int k):=by
    have rn:=rngT (show l.length - 1 ≤ 1000 by omega)
    have e:(l.length:Int) - 1=((l.length - 1:Nat):Int):=by omega
    simp only [mRng,zaa,mNil,mC,mCB,mRd,zb6,List.getElem?_cons_succ,List.getElem?_cons_zero,li,R.bind_ok,R.of_some,zqd]
    rw [e]
    refine (congrArg R.of rn).trans ?_
    unfold upt
    rw [List.map_map]; rfl
  have k1:zeK [.v T,.v (iL l)] = .ok (iL ((cp l).map fun p=>d p.1 p.2)):=by
    unfold iL
    rw [zfy,List.map_map,List.map_map]
    refine zcf (l:=(List.range (l.length - 1)).map fun k:Nat=>.int k) rg (by simp; omega) ?_
    have e:zaO [.v T,.v (iL l)] [0,1] 1 = [.v T,.v (iL l),.no]:=rfl
    unfold iL at e
    rw [e]
    refine zbQ (fun k:Nat=>.int k) _ _ fun k hk=>?_
    have kl:=List.mem_range.mp hk
    have a0:=znk (l:=l) (k:=k) (by omega)
    have a1:=znk (l:=l) (k:=k + 1) (by omega)
    rw [show ((k + 1:Nat):Int)=(k:Int) + 1 by omega] at a1
    have at':∀ j,j < l.length→l.getD j 0 ∈ l:=fun j hj=>by rw [List.getD_eq_getElem?_getD,List.getElem?_eq_getElem hj]; exact List.getElem_mem hj
    have m0:=mem _ (at' k (by omega))
    have m1:=mem _ (at' (k + 1) (by omega))
    have t:=tix _ m0.1 m0.2
    have r:=zcF (n:=n) (f:=d (l.getD k 0)) m1.1 m1.2
    have b:zbi 2 (.int k) [.v T,.v (.lst (l.map .int)),.no]=some [.v T,.v (.lst (l.map .int)),.v (.int k)]:=rfl
    unfold iL at a0 a1
    simp only [zdZ,b]
    simp only [zb6,mRd,mC,List.getElem?_cons_succ,List.getElem?_cons_zero,R.bind_ok,a0,a1,R.of_some,t,zik,r,R.nev_ok]
    rfl
  refine zcG ?_
  show mRet _ [.v T,.v (iL l)]=_
  have s:=zoP ((cp l).map fun p=>d p.1 p.2)
  have e:((cp l).map fun p=>d p.1 p.2).sum=path d l:=zmh d l
  simp only [mRet,mCB,zaa,mNil,k1,R.bind_ok,s,R.of_some,e]; rfl
theorem zf1 {n:Nat} {B:Int} {d:Int→Int→Int} (ok:LenOk n B d) {l:List Int} (ne:l ≠ []) (hl:l.length ≤ 100) (mem:∀ v ∈ l,0 ≤ v∧v < (n:Int)):za9 [tabD (tabF n d),iL l] = .ok (.int (cyc d l)):=by
  have wl:=zeE (d:=d) ne hl mem
  rcases List.eq_nil_or_concat l with e | ⟨l',w,e⟩
  · exact absurd e ne
  rw [List.concat_eq_append] at e
  subst e
  obtain ⟨a,ea⟩:∃ a,a=(l' ++ [w]).headD 0:=⟨_,rfl⟩
  have aM:a ∈ l' ++ [w]:=by
    rw [ea]
    cases l' with
    | nil=>simp
    | cons b l'=>simp
  have ha:=mem a aM
  have hw:=mem w (by simp)
  have tw:=ze7 (d:=d) hw.1 hw.2
  have rw':=zcF (n:=n) (f:=d w) ha.1 ha.2
  have cy:=zok d l' w
  rw [← ea] at cy
  have i0:=zmu (l:=l') (w:=w)
  rw [← ea] at i0
  have i1:=ziR (l:=l') (w:=w)
  have li:fLen [iL (l' ++ [w])]=some (.int (l'.length + 1:Nat)):=by unfold iL fLen; simp
  have z:l'.length=0→cyc d (l' ++ [w])=0:=fun h=>by
    have:l' = []:=List.length_eq_zero_iff.mp h
    subst this
    have:=ok.self w hw.1 hw.2
    show d w w + 0=0
    omega
  obtain ⟨X,eX⟩:∃ X,X=l' ++ [w]:=⟨_,rfl⟩
  rw [← eX] at wl cy i0 i1 li z ⊢
  obtain ⟨T,eT⟩:∃ T,T=tabD (tabF n d):=⟨_,rfl⟩
  rw [← eT] at wl tw ⊢
  refine zcG ?_
  show mSeq _ _ [.v T,.v (iL X)]=_
  by_cases c:l'.length=0
  · have q:mIfS (zar (m2 oEq (mCB fLen (zaa (mRd 1) mNil)) (mC (.int 1)))) (mRet (mC (.int 0))) zbv [.v T,.v (iL X)] = .rt (.int 0):=by
      rw [c] at li
      rw [zew (by simp [zar,mCB,zaa,mNil,mRd,mC,li])]; rfl
    have z':=z c
    rw [z']
    unfold mSeq
    rw [q]
  · have q:mIfS (zar (m2 oEq (mCB fLen (zaa (mRd 1) mNil)) (mC (.int 1)))) (mRet (mC (.int 0))) zbv [.v T,.v (iL X)] = .nx [.v T,.v (iL X)]:=by
      rw [zbP (by simp [zar,mCB,zaa,mNil,mRd,mC,li]; omega)]; rfl
    refine (zah q).trans ?_
    have e1:zag za2 (zaa (mVar 0) (zaa (mVar 1) mNil)) [.v T,.v (iL X)] = .ok (.int (path d X)):=by simp [zag,zaa,mNil,mVar,wl]
    simp only [mRet,zb6,e1,zp6,mRd,mC,List.getElem?_cons_succ,List.getElem?_cons_zero,R.bind_ok,R.of_some,zob,i0,i1,tw,rw',zik,cy]; rfl
end My
namespace My
open PySem L2 PM
inductive Steps (R:List (Int × Int)):List Int→List Int→List Int→Prop
  | done (W:List Int):Steps R W [] W
  | step {W Q:List Int} {p:Int} {W':List Int}:Steps R (W ++ [p]) (Q ++ kids R.reverse p) W'→Steps R W (Q ++ [p]) W'
theorem Steps.len {R:List (Int × Int)} {W Q W':List Int} (h:Steps R W Q W'):W.length + Q.length ≤ W'.length:=by
  induction h with
  | done W=>simp
  | step _ ih=>simp at ih ⊢; omega
theorem ze9 {n:Nat} {B:Int} {d:Int→Int→Int} (ok:LenOk n B d) (hn0:0 < n) (hn:n ≤ 100):∃ W:List Int,zaU [tabD (tabF n d)] = .ok (iL W)∧Steps (stR n d (n - 1)) [] [0] W∧W.length ≤ 100:=by
  have lt:=zdf ok hn0 hn
  have nd:=zl3 (d:=d) (n - 1) (show n - 1 < n by omega)
  rw [zgQ,List.nodup_cons] at nd
  have lR:=zhp n d (n - 1)
  obtain ⟨R,eR⟩:∃ R,R=stR n d (n - 1):=⟨_,rfl⟩
  rw [← eR] at lt nd lR ⊢
  obtain ⟨T,eT⟩:∃ T,T=tabD (tabF n d):=⟨_,rfl⟩
  rw [← eT] at lt ⊢
  obtain ⟨W',p4,p5,p6,rd,iv,hr⟩:=zkn (T:=T) (R:=R) (fun W Q=>∀ W',Steps R W Q W'→Steps R [] [0] W') (by omega) nd.1 nd.2 (fun W Q p _ I W' h=>I W' (.step h)) n [] [0] none none none (by simp; omega) ⟨by simp,fun x hx=>.inl (by simpa using hx)⟩ (fun W' h=>h)
  have hw:zdz [.v T,.v (.lst (R.map encR)),.o (iL []),.o (iL [0]),.no,.no,.no]=_:=zeM hr (by intro z; cases z)
  have ln:=rd.len
  rw [List.append_nil] at ln
  refine ⟨W',?_,iv W' (.done W'),by omega⟩
  refine zcA ?_
  show mSeq _ _ [.v T,.no,.no,.no,.no,.no,.no]=_
  have q1:mAsg (zag zaY (zaa (mVar 0) mNil)) (zap 1) [.v T,.no,.no,.no,.no,.no,.no] = .nx [.v T,.v (.lst (R.map encR)),.no,.no,.no,.no,.no]:=zax (d:=.lst (R.map encR)) (by simp [zag,zaa,mNil,mVar,lt]) rfl
  have q2:mAsg (mLst mNil) (bNew 2) [.v T,.v (.lst (R.map encR)),.no,.no,.no,.no,.no] = .nx [.v T,.v (.lst (R.map encR)),.o (iL []),.no,.no,.no,.no]:=zax (d:=.lst []) (by simp [mLst,mNil,sizeLine]) rfl
  have q3:mAsg (mLst (zaa (mC (.int 0)) mNil)) (bNew 3) [.v T,.v (.lst (R.map encR)),.o (iL []),.no,.no,.no,.no] = .nx [.v T,.v (.lst (R.map encR)),.o (iL []),.o (iL [0]),.no,.no,.no]:=zax (d:=iL [0]) (by simp [mLst,zaa,mNil,mC,sizeLine,iL]) rfl
  exact (zah q1).trans ((zah q2).trans ((zah q3).trans ((zah hw).trans rfl)))
theorem zhy {R:List (Int × Int)} {W Q:List Int} {p:Int} {o3:Option D} (hR:R.length ≤ 100) (hW:W.length ≤ 1000) (hQ:Q.length ≤ 1000) :
    zc0 [.v (.lst (R.map encR)),.o (iL W),.o (iL (Q ++ [p])),sv o3] = .nx [.v (.lst (R.map encR)),.o (iL (W ++ [p])),.o (iL (Q ++ kids R.reverse p)),.v (.int p)]:=by
  obtain ⟨A,eA⟩:∃ A,A=D.lst (R.map encR):=⟨_,rfl⟩
  rw [← eA]
  have q1:ziq 2 (zap 3) [.v A,.o (iL W),.o (iL (Q ++ [p])),sv o3] = .nx [.v A,.o (iL W),.o (iL Q),.v (.int p)]:=by
    have g : [Sl.v A,.o (iL W),.o (iL (Q ++ [p])),sv o3][2]?=some (.o (.lst ((Q ++ [p]).map .int))):=rfl
    have gk:((Q ++ [p]).map D.int)[((Q ++ [p]).map D.int).length - 1]?=some (.int p):=by simp
    have dl:((Q ++ [p]).map D.int).dropLast=Q.map .int:=by rw [List.map_append]; simp
    unfold ziq
    rw [g]
    simp only [gk]
    rw [dl]
    rcases o3 with _ | o3 <;> rfl
  have q2:zbo 1 (mVar 3) [.v A,.o (iL W),.o (iL Q),.v (.int p)] = .nx [.v A,.o (iL (W ++ [p])),.o (iL Q),.v (.int p)] :=
    zcu (L:=W) (y:=p) rfl rfl (by omega)
  have kl:(kids R.reverse p).length ≤ 100:=by
    unfold kids
    rw [List.length_map]
    refine Nat.le_trans (List.length_filter_le _ _) ?_
    rw [List.length_reverse]; exact hR
  have k:zda [.v A,.o (iL (W ++ [p])),.o (iL Q),.v (.int p)] = .ok (iL (kids R.reverse p)):=by
    refine zcf (l:=R.reverse.map encR) ?_ (by rw [List.length_map,List.length_reverse]; omega) ?_
    · have ng:m1 oNeg (mC (.int 1)) [.v A,.o (iL (W ++ [p])),.o (iL Q),.v (.int p)] = .ok (.int (-1)):=rfl
      have e:znw (mRd 0) (m1 oNeg (mC (.int 1))) [.v A,.o (iL (W ++ [p])),.o (iL Q),.v (.int p)] = .ok (.lst (R.reverse.map encR)):=by
        unfold znw
        simp only [mRd,List.getElem?_cons_zero,PM.R.bind_ok,ng]
        rw [if_pos (show zmf (.int (-1))=true from rfl),eA]
        show PM.R.ok (D.lst (R.map encR).reverse)=_
        rw [List.map_reverse]
      unfold mItL
      rw [e]; rfl
    · have s:zaO [.v A,.o (iL (W ++ [p])),.o (iL Q),.v (.int p)] [3] 2 = [.v (.int p),.no,.no]:=rfl
      rw [s,zdW encR (fun q=>if decide (q.1=p)=true then some (.int q.2) else none) R.reverse fun q _=>?_]
      · congr 1
        unfold kids
        induction R.reverse with
        | nil=>rfl
        | cons a l ih =>
          by_cases hp:decide (a.1=p)=true
          · rw [List.filterMap_cons_some (b:=D.int a.2) (by simp only [hp,if_true]),ih,List.filter_cons_of_pos (by simpa using hp)]; rfl
          · rw [List.filterMap_cons_none (by rw [if_neg hp]),ih,List.filter_cons_of_neg (by simpa using hp)]
      · have b:bTup 2 (zbF (zbi 1) (zbF (zbi 2) bNil)) (encR q) [.v (.int p),.no,.no]=some [.v (.int p),.v (.int q.1),.v (.int q.2)]:=rfl
        simp only [zdZ,b]
        by_cases e:q.1=p <;> simp [zar,mRd,mVar,e]
  have ct:oCat (iL Q) (iL (kids R.reverse p))=some (iL (Q ++ kids R.reverse p)):=by
    unfold oCat iL
    simp only
    rw [zaX (by rw [List.length_map,List.length_map]; exact Nat.le_trans (show Q.length + (kids R.reverse p).length ≤ 1100 by omega) (by decide)),List.map_append]
  have q3:mAsg (m2 oCat (mRd 2) zda) (bNew 2) [.v A,.o (iL (W ++ [p])),.o (iL Q),.v (.int p)] = .nx [.v A,.o (iL (W ++ [p])),.o (iL (Q ++ kids R.reverse p)),.v (.int p)] :=
    zax (d:=iL (Q ++ kids R.reverse p)) (by simp only [zb6,k,mRd,List.getElem?_cons_succ,List.getElem?_cons_zero,PM.R.bind_ok,ct,PM.R.of_some]) rfl
  exact (zah q1).trans ((zah q2).trans q3)
theorem zif {R:List (Int × Int)} (hR:R.length ≤ 100) {W Q W':List Int} (h:Steps R W Q W'):W'.length ≤ 100→∀ o3:Option D,∃ (k:Nat) (p3:Option D),zbS zbx zc0 k [.v (.lst (R.map encR)),.o (iL W),.o (iL Q),sv o3] = .nx [.v (.lst (R.map encR)),.o (iL W'),.o (iL []),sv p3]:=by
  induction h with
  | done W =>
    intro _ o3
    refine ⟨1,o3,?_⟩
    have:zbx [.v (.lst (R.map encR)),.o (iL W),.o (iL []),sv o3] = .ok false:=by
      simp only [zbx,zar,zb6,mCB,zaa,mNil,mRd,mC,List.getElem?_cons_succ,List.getElem?_cons_zero,PM.R.bind_ok,zdg,PM.R.of_some]; rfl
    unfold zbS
    rw [this]; rfl
  | @step W Q p W' h ih =>
    intro hl o3
    have ln:=h.len
    rw [List.length_append,List.length_append,List.length_singleton] at ln
    obtain ⟨k,p3,hk⟩:=ih hl (some (.int p))
    refine ⟨k + 1,p3,?_⟩
    have t:zbx [.v (.lst (R.map encR)),.o (iL W),.o (iL (Q ++ [p])),sv o3] = .ok true:=by
      simp only [zbx,zar,zb6,mCB,zaa,mNil,mRd,mC,List.getElem?_cons_succ,List.getElem?_cons_zero,PM.R.bind_ok,zdg,PM.R.of_some,zmU,znz,List.length_append,List.length_singleton]
      exact congrArg PM.R.ok (decide_eq_true (by omega))
    unfold zbS
    rw [t,PM.R.toO_ok,if_pos rfl,zhy hR (by omega) (by omega)]
    exact hk
theorem zhb {R:List (Int × Int)} (hR:R.length ≤ 100) {W:List Int} (h:Steps R [] [0] W) (hl:W.length ≤ 100):zbD [.lst (R.map encR)] = .ok (iL W):=by
  obtain ⟨k,p3,hk⟩:=zif hR h hl none
  have hw:zeq [.v (.lst (R.map encR)),.o (iL []),.o (iL [0]),.no]=_:=zeM hk (by intro z; cases z)
  refine zcA ?_
  show mSeq _ _ [.v (.lst (R.map encR)),.no,.no,.no]=_
  have q1:mAsg (mLst mNil) (bNew 1) [.v (.lst (R.map encR)),.no,.no,.no] = .nx [.v (.lst (R.map encR)),.o (iL []),.no,.no]:=zax (d:=.lst []) (by simp [mLst,mNil,sizeLine]) rfl
  have q2:mAsg (mLst (zaa (mC (.int 0)) mNil)) (bNew 2) [.v (.lst (R.map encR)),.o (iL []),.no,.no] = .nx [.v (.lst (R.map encR)),.o (iL []),.o (iL [0]),.no]:=zax (d:=iL [0]) (by simp [mLst,zaa,mNil,mC,sizeLine,iL]) rfl
  exact (zah q1).trans ((zah q2).trans ((zah hw).trans rfl))
theorem zbL {l:List Int} (hl:l.length ≤ 1000):zaw [iL l] = .ok (.bl true):=by
  have k:zd0 [.v (iL l)] = .ok (iL l):=by
    refine zcf (l:=l.map .int) (by simp [mItL,mRd,iL]) (by rw [List.length_map]; omega) ?_
    refine zbQ D.int D.int l fun x _=>?_
    have i1:oIsi "int" (.int x)=some (.bl true):=rfl
    have i2:oIsi "bool" (.int x)=some (.bl false):=rfl
    have s:zaO [.v (iL l)] [] 1 = [.no]:=rfl
    rw [s]
    simp [zdZ,zbi,mAnd,mNot,zar,mRd,mVar,i1,i2]
  refine zcG ?_
  show mSeq _ _ [.v (iL l)]=_
  have isl:oIsi "list" (iL l)=some (.bl true):=rfl
  have q1:mIfS (mNot (zar (m1 (oIsi "list") (mRd 0)))) (mRet (mC (.bl false))) zbv [.v (iL l)] = .nx [.v (iL l)]:=by
    rw [zbP (by simp [mNot,zar,mRd,isl])]; rfl
  refine (zah q1).trans ?_
  simp only [mRet,zb6,mCB,zaa,mNil,k,PM.R.bind_ok,zdg,PM.R.of_some,mRd,List.getElem?_cons_zero]
  simp
end My
namespace My
open PySem L2 PM
theorem zpf:∀ W:List Int,pe W=(cp W).map nrm
  | []=>rfl
  | [_]=>rfl
  | a :: b :: l=>by
    have:=zpf (b :: l)
    show nrm (a,b) :: pe (b :: l)=nrm (a,b) :: (cp (b :: l)).map nrm
    rw [this]
theorem zgX (W:List Int):(pe W).length=W.length - 1:=by rw [zpf,zfy]; simp
theorem zoM {W:List Int} {k:Nat} (h:k + 1 < W.length):(pe W).drop k=nrm (W.getD k 0,W.getD (k + 1) 0) :: (pe W).drop (k + 1):=by
  have hk:k < (pe W).length:=by rw [zgX]; omega
  rw [List.drop_eq_getElem_cons hk]
  congr 1
  have:(pe W)[k]?=some (nrm (W.getD k 0,W.getD (k + 1) 0)):=by
    rw [zpf,zfy,List.getElem?_map,List.getElem?_map,List.getElem?_range (by omega)]
    rfl
  rw [List.getElem?_eq_getElem hk] at this
  exact Option.some.inj this
theorem ziJ {α:Type} {r:List α} {j:Nat} {b:α} (h:r[j]?=some b):r.Perm (b :: r.eraseIdx j):=by
  induction r generalizing j with
  | nil=>simp at h
  | cons a r ih =>
    cases j with
    | zero=>simp at h; subst h; exact List.Perm.refl _
    | succ j =>
      rw [List.eraseIdx_cons_succ]
      exact ((ih (by simpa using h)).cons a).trans (List.Perm.swap _ _ _)
theorem zp5 (a b:Int):zfk minI [encR (a,b)]=some (.int (nrm (a,b)).1)∧zfk maxI [encR (a,b)]=some (.int (nrm (a,b)).2):=by
  have e1:zfk minI [encR (a,b)]=some (.int (if b < a then b else a)):=rfl
  have e2:zfk maxI [encR (a,b)]=some (.int (if b > a then b else a)):=rfl
  rw [e1,e2]
  unfold nrm
  by_cases h:a ≤ b
  · rw [if_neg (by omega)]
    simp only [h,if_true]
    refine ⟨trivial,?_⟩
    by_cases h2:b > a
    · rw [if_pos h2]
    · rw [if_neg h2,show a=b by omega]
  · rw [if_pos (by omega),if_neg (show ¬ b > a by omega)]
    simp [h]
theorem zo3 (a b:Int):zhn [.int a,.int b]=some (.int (nrm (a,b)).1)∧zk1 [.int a,.int b]=some (.int (nrm (a,b)).2):=zp5 a b
theorem zhM (p:Int × Int):∀ k,zaG (k + 1) (encR p)=true:=fun k=>by cases k <;> rfl
theorem zi6 {E:List (Int × Int)} {W:List Int} (hE:E.length ≤ 100) (h0:W.head?=some 0) (h1:W.getLast?=some 0) (per:(E.map nrm).Perm (pe W)):zb8 [iL W,.lst (E.map encR)] = .ok (.bl true):=by
  classical
  have ne:W ≠ []:=fun e=>by rw [e] at h0; cases h0
  have w1:0 < W.length:=List.length_pos_iff.mpr ne
  have pl:=per.length_eq
  rw [List.length_map,zgX] at pl
  have nm:=zbL (l:=W) (by omega)
  have rn:=rngT (show E.length ≤ 1000 by omega)
  obtain ⟨A,eA⟩:∃ A,A=D.lst (E.map encR):=⟨_,rfl⟩
  have lA:fLen [A]=some (.int E.length):=by rw [eA]; unfold fLen; simp
  have i0:oIxL (iL W) (.int 0)=some (.int 0):=by
    cases W with
    | nil=>cases h0
    | cons a t =>
      have:a=0:=by simpa using h0
      rw [this]; exact zhN
  have il:oIxL (iL W) (.int (-1))=some (.int 0):=by
    rcases List.eq_nil_or_concat W with e | ⟨l,w,e⟩
    · exact absurd e ne
    rw [List.concat_eq_append] at e
    rw [e] at h1 ⊢
    have:w=0:=by simpa using h1
    rw [this]; exact ziR
  have k1:zen [.v (iL W),.v A,.no,.no,.no] = .ok (.lst ((E.map nrm).map encR)):=by
    refine zcf (l:=E.map encR) (by rw [eA]; simp [mItL,mRd]) (by rw [List.length_map]; omega) ?_
    rw [List.map_map]
    refine zbQ encR _ E fun p _=>?_
    obtain ⟨b1,b2⟩:=zp5 p.1 p.2
    unfold encR at b1 b2
    simp only at b1 b2
    have s:zaO [.v (iL W),.v A,.no,.no,.no] [] 1 = [.no]:=rfl
    rw [s]
    simp [zdZ,zbi,mTup,mCB,zaa,mNil,mRd,b1,b2,sizeLine,encR]
  rw [← eA]
  obtain ⟨δ,hl,L,o3,o4,hp,rfl⟩:=za5 (b:=zap 3) (m:=zfm) D.int (fun pre δ=>∃ (L:List (Int × Int)) (o3 o4:Option D),L.Perm ((pe W).drop pre.length)∧δ = [.v (iL W),.v A,.o (.lst (L.map encR)),sv o3,sv o4]) (upt E.length)
    (by
      rintro pre k post δ hall ⟨L,o3,o4,hp,rfl⟩
      have kk:k=pre.length:=by
        have:=congrArg (fun l=>l[pre.length]?) hall
        have hlt:pre.length < E.length:=by
          have:=congrArg List.length hall
          rw [zaZ] at this
          simp only [List.length_append,List.length_cons] at this
          omega
        rw [zcB hlt] at this
        simpa using this.symm
      have klt:pre.length < E.length:=by
        have:=congrArg List.length hall
        rw [zaZ] at this
        simp only [List.length_append,List.length_cons] at this
        omega
      obtain ⟨j,ej⟩:∃ j,j=pre.length:=⟨_,rfl⟩
      rw [← ej] at kk klt hp
      subst kk
      have a0:=znk (l:=W) (k:=j) (by omega)
      have a1:=znk (l:=W) (k:=j + 1) (by omega)
      rw [show ((j + 1:Nat):Int)=(j:Int) + 1 by omega] at a1
      rw [zoM (by omega)] at hp
      obtain ⟨t1,t2⟩:=zo3 (W.getD j 0) (W.getD (j + 1) 0)
      obtain ⟨s,es⟩:∃ s,s=nrm (W.getD j 0,W.getD (j + 1) 0):=⟨_,rfl⟩
      rw [← es] at hp t1 t2
      obtain ⟨x,ex⟩:∃ x,x=W.getD j 0:=⟨_,rfl⟩
      obtain ⟨y,ey⟩:∃ y,y=W.getD (j + 1) 0:=⟨_,rfl⟩
      rw [← ex] at a0 t1 t2
      rw [← ey] at a1 t1 t2
      have sL:s ∈ L:=hp.mem_iff.mpr (by simp)
      have sM:encR s ∈ L.map encR:=List.mem_map.mpr ⟨s,sL,rfl⟩
      have plL:(L.map encR).all (zaG 7)=true:=by rw [List.all_map,List.all_eq_true]; exact fun p _=>zhM p 6
      have plL8:(L.map encR).all (zaG 8)=true:=by rw [List.all_map,List.all_eq_true]; exact fun p _=>zhM p 7
      obtain ⟨i,ei⟩:∃ i,i=(L.map encR).findIdx (fun y=>decide (y=encR s)):=⟨_,rfl⟩
      have il':i < (L.map encR).length:=by rw [ei]; exact List.findIdx_lt_length_of_exists ⟨encR s,sM,by simp⟩
      have ig:(L.map encR)[i]=encR s:=by
        subst ei
        exact of_decide_eq_true (List.findIdx_getElem (w:=il'))
      have iL':i < L.length:=by simpa using il'
      have is:L[i]?=some s:=by
        rw [List.getElem_map] at ig
        rw [List.getElem?_eq_getElem iL']
        have:∀ p q:Int × Int,encR p=encR q→p=q:=fun p q h=>by
          unfold encR at h
          have h':=D.tup.inj h
          simp at h'
          exact Prod.ext h'.1 h'.2
        rw [this _ _ ig]
      refine ⟨[.v (iL W),.v A,.o (.lst (L.map encR)),.v (.int j),sv o4],[.v (iL W),.v A,.o (.lst ((L.eraseIdx i).map encR)),.v (.int j),.v (encR s)],zaT rfl,.inl ?_,L.eraseIdx i,some _,some _,?_,rfl⟩
      · have q1:mAsg (mTup (zaa (mCB zhn (zaa (m2 oIxL (mRd 0) (mRd 3)) (zaa (m2 oIxL (mRd 0) (m2 oAdd (mRd 3) (mC (.int 1)))) mNil))) (zaa (mCB zk1 (zaa (m2 oIxL (mRd 0) (mRd 3)) (zaa (m2 oIxL (mRd 0) (m2 oAdd (mRd 3) (mC (.int 1)))) mNil))) mNil))) (zap 4) [.v (iL W),.v A,.o (.lst (L.map encR)),.v (.int j),sv o4] = .nx [.v (iL W),.v A,.o (.lst (L.map encR)),.v (.int j),.v (encR s)]:=by
          refine zax (d:=encR s) ?_ (by rcases o4 with _ | o4 <;> rfl)
          simp [mTup,mCB,zaa,mNil,mRd,mC,a0,a1,t1,t2,sizeLine,encR]
        have ni:ze3 (encR s) (.lst (L.map encR))=some (.bl false):=by
          unfold ze3
          simp only
          rw [zaX ⟨zhM s 6,plL⟩]
          simp [sM]
        have q2:mIfS (zar (m2 ze3 (mRd 4) (mRd 2))) (mRet (mC (.bl false))) zbv [.v (iL W),.v A,.o (.lst (L.map encR)),.v (.int j),.v (encR s)] = .nx [.v (iL W),.v A,.o (.lst (L.map encR)),.v (.int j),.v (encR s)]:=by
          rw [zbP (by simp [zar,mRd,ni])]; rfl
        refine (zah q1).trans ((zah q2).trans ?_)
        unfold zfF
        show (if zaG 8 (encR s)=true∧(L.map encR).all (zaG 8)=true∧encR s ∈ L.map encR then O.nx _ else .no)=_
        rw [if_pos ⟨zhM s 7,plL8,sM⟩,← ei,zf4]
        rfl
      · rw [List.length_append,List.length_singleton,← ej]
        exact List.Perm.cons_inv ((ziJ is).symm.trans hp))
    [.v (iL W),.v A,.o (.lst ((E.map nrm).map encR)),.no,.no] ⟨E.map nrm,none,none,by simpa using per,rfl⟩
  refine zcG ?_
  show mSeq _ _ [.v (iL W),.v A,.no,.no,.no]=_
  have q1:mAsg zen (bNew 2) [.v (iL W),.v A,.no,.no,.no] = .nx [.v (iL W),.v A,.o (.lst ((E.map nrm).map encR)),.no,.no]:=zax (d:=.lst ((E.map nrm).map encR)) k1 rfl
  have q2:mIfS (mOr (mNot (zar (zag zaw (zaa (mVar 0) mNil)))) (mOr (zar (m2 oNe (mCB fLen (zaa (mRd 0) mNil)) (m2 oAdd (mCB fLen (zaa (mRd 1) mNil)) (mC (.int 1))))) (mOr (zar (m2 oNe (m2 oIxL (mRd 0) (mC (.int 0))) (mC (.int 0)))) (zar (m2 oNe (m2 oIxL (mRd 0) (m1 oNeg (mC (.int 1)))) (mC (.int 0))))))) (mRet (mC (.bl false))) zbv [.v (iL W),.v A,.o (.lst ((E.map nrm).map encR)),.no,.no] = .nx [.v (iL W),.v A,.o (.lst ((E.map nrm).map encR)),.no,.no]:=by
    have t1:zar (zag zaw (zaa (mVar 0) mNil)) [.v (iL W),.v A,.o (.lst ((E.map nrm).map encR)),.no,.no] = .ok true:=by simp [zar,zag,zaa,mNil,mVar,nm]
    have t2:zar (m2 oNe (mCB fLen (zaa (mRd 0) mNil)) (m2 oAdd (mCB fLen (zaa (mRd 1) mNil)) (mC (.int 1)))) [.v (iL W),.v A,.o (.lst ((E.map nrm).map encR)),.no,.no] = .ok false:=by
      simp [zar,mCB,zaa,mNil,mRd,mC,lA]
      omega
    have t3:zar (m2 oNe (m2 oIxL (mRd 0) (mC (.int 0))) (mC (.int 0))) [.v (iL W),.v A,.o (.lst ((E.map nrm).map encR)),.no,.no] = .ok false:=by simp [zar,mRd,mC,i0]
    have t4:zar (m2 oNe (m2 oIxL (mRd 0) (m1 oNeg (mC (.int 1)))) (mC (.int 0))) [.v (iL W),.v A,.o (.lst ((E.map nrm).map encR)),.no,.no] = .ok false:=by simp [zar,mRd,mC,il]
    rw [zbP (by simp only [mOr,mNot,t1,t2,t3,t4,R.bind_ok]; rfl)]; rfl
  have q3:zgm [.v (iL W),.v A,.o (.lst ((E.map nrm).map encR)),.no,.no]=_:=(zbz (l:=(upt E.length).map .int) (by simp [mRng,zaa,mNil,mCB,mRd,lA,rn])).trans hl
  exact (zah q1).trans ((zah q2).trans ((zah q3).trans rfl))
theorem zhB {W:List Int} (hW:W.length ≤ 1000):za7 [iL W] = .ok (iL (zaC W)):=by
  obtain ⟨δ,h1,o2,rfl⟩:=za5 (b:=zap 2) (m:=zbU) D.int (fun pre δ=>∃ o2:Option D,δ = [.v (iL W),.o (iL (zaC pre)),sv o2]) W
    (by
      rintro pre x post δ hall ⟨o2,rfl⟩
      refine ⟨[.v (iL W),.o (iL (zaC pre)),.v (.int x)],[.v (iL W),.o (iL (zaC (pre ++ [x]))),.v (.int x)],zaT rfl,.inl ?_,some _,rfl⟩
      have fl:=zc7 pre
      have pl:=congrArg List.length hall
      rw [List.length_append] at pl
      rw [ze5]
      unfold insO zbU
      by_cases h:x ∈ zaC pre
      · rw [if_pos h,zbP (by simp [zar,mRd,zgO,iL,zcO,h])]; rfl
      · rw [if_neg h,zew (by simp [zar,mRd,zgO,iL,zcO,h])]
        exact zcu (L:=zaC pre) (y:=x) rfl rfl (by omega))
    [.v (iL W),.o (iL []),.no] ⟨none,rfl⟩
  refine zcA ?_
  show mSeq _ _ [.v (iL W),.no,.no]=_
  have q1:mAsg (mLst mNil) (bNew 1) [.v (iL W),.no,.no] = .nx [.v (iL W),.o (iL []),.no]:=zax (d:=.lst []) (by simp [mLst,mNil,sizeLine]) rfl
  have q2:zc4 [.v (iL W),.o (iL []),.no]=_:=(zbz (l:=W.map .int) (by simp [mItL,mVar,iL])).trans h1
  exact (zah q1).trans ((zah q2).trans rfl)
end My
namespace My
open PySem L2 PM
theorem zeB {f:List D→R D} {a b:En→R D} {δ:En} {x y r:D} (ha:a δ = .ok x) (hb:b δ = .ok y) (hf:f [x,y] = .ok r):zag f (zaa a (zaa b mNil)) δ = .ok r:=by
  simp [zag,zaa,mNil,ha,hb,hf]
theorem zbn {f:List D→R D} {a:En→R D} {δ:En} {x r:D} (ha:a δ = .ok x) (hf:f [x] = .ok r):zag f (zaa a mNil) δ = .ok r:=by
  simp [zag,zaa,mNil,ha,hf]
theorem zbe (l:List Int):∀ k,zaG (k + 1) (iL l)=true:=fun k=>by
  unfold iL
  show (l.map D.int).all (zaG k)=true
  rw [List.all_map,List.all_eq_true]
  intro x _
  cases k <;> rfl
theorem zjo (ns:List Int) {n:Nat} {B:Int} {d:Int→Int→Int} (ok:LenOk n B d) (hn0:0 < n) (hn:n ≤ 100):zcv [.scr ns,tabD (tabF n d)] = .ok (.bl true):=by
  obtain ⟨c,⟨c0,c1⟩,hc⟩:=zeQ ns (k:=37) (top:=11) (by decide) (by decide) (by decide)
  obtain ⟨m,rfl⟩:∃ m:Nat,c=m:=⟨c.toNat,(Int.toNat_of_nonneg c0).symm⟩
  have hx:∀ k:Nat,∃ x:Int,k ≤ 100→(0 ≤ x∧x < n)∧zaH [.scr ns,.int (38 + k),.int ((n:Int) - 1)] = .ok (.int x):=fun k=>by
    by_cases hk:k ≤ 100
    · obtain ⟨x,⟨x0,x1⟩,h⟩:=zeQ ns (k:=38 + k) (top:=(n:Int) - 1) (by omega) (by omega) (by omega)
      exact ⟨x,fun _=>⟨⟨x0,by omega⟩,h⟩⟩
    · exact ⟨0,fun z=>absurd z hk⟩
  obtain ⟨f,hf⟩:=Classical.axiomOfChoice hx
  have lT:fLen [tabD (tabF n d)]=some (.int n):=zg3
  obtain ⟨X,eX⟩:∃ X,X=(List.range (m + 1)).map f:=⟨_,rfl⟩
  have Xne:X ≠ []:=fun e=>by rw [e] at eX; have:=congrArg List.length eX; simp at this
  have Xl:X.length ≤ 100:=by rw [eX]; simp; omega
  have Xm:∀ v ∈ X,0 ≤ v∧v < (n:Int):=fun v hv=>by
    rw [eX] at hv
    obtain ⟨k,hk,rfl⟩:=List.mem_map.mp hv
    have:=List.mem_range.mp hk
    exact (hf k (by omega)).1
  have wl:=zeE (d:=d) Xne Xl Xm
  have rl:=zf1 ok Xne Xl Xm
  have tix:∀ a:Int,0 ≤ a→a < n→oIxL (tabD (tabF n d)) (.int a)=some (iL ((upt n).map (d a))):=fun a h0 h1=>ze7 h0 h1
  rcases List.eq_nil_or_concat X with e | ⟨l',w,e⟩
  · exact absurd e Xne
  rw [List.concat_eq_append] at e
  obtain ⟨a,ea⟩:∃ a,a=X.headD 0:=⟨_,rfl⟩
  have aM:a ∈ X:=by
    rw [ea,e]
    cases l' with
    | nil=>simp
    | cons b l'=>simp
  have ha:=Xm a aM
  have hw:=Xm w (by rw [e]; simp)
  have tw:=tix w hw.1 hw.2
  have rw':=zcF (n:=n) (f:=d w) ha.1 ha.2
  have cy:cyc d X=path d X + d w a:=by rw [ea,e]; exact zok d l' w
  have i0:oIxL (iL X) (.int 0)=some (.int a):=by rw [ea,e]; exact zmu
  have i1:oIxL (iL X) (.int (-1))=some (.int w):=by rw [e]; exact ziR
  have cl:=znZ (l:=X.map D.int) (by simpa using Xne)
  have cd:=zn3 (l:=X.map D.int) (k:=1) (by rw [e]; simp)
  obtain ⟨T,eT⟩:∃ T,T=tabD (tabF n d):=⟨_,rfl⟩
  rw [← eT] at lT wl rl tix tw ⊢
  obtain ⟨δ,hl,o5,o6,rfl⟩:=za5 (b:=bTup 2 (zbF (zap 5) (zbF (zap 6) bNil))) (m:=zfc) encR (fun pre δ=>∃ o5 o6:Option D,δ = [.v (.scr ns),.v T,.v (.int n),.v (iL X),.v (.int (cost d pre)),sv o5,sv o6,.no,.no]) (cp X)
    (by
      rintro pre q post δ hall ⟨o5,o6,rfl⟩
      have hq:q ∈ cp X:=by rw [hall]; simp
      obtain ⟨a0,a1⟩:=Xm _ (zl4 hq).1
      obtain ⟨b0,b1⟩:=Xm _ (zl4 hq).2
      have bb:bTup 2 (zbF (zap 5) (zbF (zap 6) bNil)) (encR q) [.v (.scr ns),.v T,.v (.int n),.v (iL X),.v (.int (cost d pre)),sv o5,sv o6,.no,.no]=some [.v (.scr ns),.v T,.v (.int n),.v (iL X),.v (.int (cost d pre)),.v (.int q.1),.v (.int q.2),.no,.no]:=by rcases o5 with _ | o5 <;> rcases o6 with _ | o6 <;> rfl
      refine ⟨_,[.v (.scr ns),.v T,.v (.int n),.v (iL X),.v (.int (cost d (pre ++ [q]))),.v (.int q.1),.v (.int q.2),.no,.no],bb,.inl ?_,some (.int q.1),some (.int q.2),rfl⟩
      have r:=zcF (n:=n) (f:=d q.1) b0 b1
      refine zax (d:=.int (cost d (pre ++ [q]))) ?_ rfl
      have e:cost d (pre ++ [q])=cost d pre + d q.1 q.2:=by rw [zn4]; show _ + (d q.1 q.2 + 0)=_; omega
      rw [e]
      simp [mRd,tix q.1 a0 a1,r])
    [.v (.scr ns),.v T,.v (.int n),.v (iL X),.v (.int 0),.no,.no,.no,.no] ⟨none,none,rfl⟩
  rw [← zjG,zmh] at hl
  refine zcG ?_
  show mSeq _ _ [.v (.scr ns),.v T,.no,.no,.no,.no,.no,.no,.no]=_
  have q1:mAsg (mCB fLen (zaa (mRd 1) mNil)) (zap 2) [.v (.scr ns),.v T,.no,.no,.no,.no,.no,.no,.no] = .nx [.v (.scr ns),.v T,.v (.int n),.no,.no,.no,.no,.no,.no]:=zax (d:=.int n) (by simp [mCB,zaa,mNil,mRd,lT]) rfl
  have q2:mAsg zfO (zap 3) [.v (.scr ns),.v T,.v (.int n),.no,.no,.no,.no,.no,.no] = .nx [.v (.scr ns),.v T,.v (.int n),.v (iL X),.no,.no,.no,.no,.no]:=by
    refine zax (d:=iL X) ?_ rfl
    have rn:=rngT (show m + 1 ≤ 1000 by omega)
    have e1:(1:Int) + m=((m + 1:Nat):Int):=by omega
    unfold iL
    rw [eX,List.map_map]
    refine zcf (l:=(List.range (m + 1)).map fun k:Nat=>.int k) ?_ (by simp; omega) ?_
    · have:zag zaH (zaa (mVar 0) (zaa (mC (.int 37)) (zaa (mC (.int 11)) mNil))) [.v (.scr ns),.v T,.v (.int n),.no,.no,.no,.no,.no,.no] = .ok (.int m):=by simp [zag,zaa,mNil,mVar,mC,hc]
      simp only [mRng,zaa,mNil,zb6,this,mC,R.bind_ok,zik,R.of_some]
      rw [e1]
      refine (congrArg R.of rn).trans ?_
      unfold upt
      rw [List.map_map]; rfl
    · have s:zaO [.v (.scr ns),.v T,.v (.int n),.no,.no,.no,.no,.no,.no] [0,2] 1 = [.v (.scr ns),.v (.int n),.no]:=rfl
      rw [s]
      refine zbQ (fun k:Nat=>.int k) _ _ fun k hk=>?_
      have:=List.mem_range.mp hk
      have h:=(hf k (by omega)).2
      simp [zdZ,zbi,zag,zaa,mNil,mVar,mRd,mC,h]
  have q3:mAsg (mC (.int 0)) (zap 4) [.v (.scr ns),.v T,.v (.int n),.v (iL X),.no,.no,.no,.no,.no] = .nx [.v (.scr ns),.v T,.v (.int n),.v (iL X),.v (.int 0),.no,.no,.no,.no]:=rfl
  have q4:zel [.v (.scr ns),.v T,.v (.int n),.v (iL X),.v (.int 0),.no,.no,.no,.no] = .nx [.v (.scr ns),.v T,.v (.int n),.v (iL X),.v (.int (path d X)),sv o5,sv o6,.no,.no]:=by
    unfold zel
    refine (zbz (l:=(cp X).map encR) ?_).trans hl
    have s1:mSl (mRd 3) mNoP (zec (m1 oNeg (mC (.int 1)))) [.v (.scr ns),.v T,.v (.int n),.v (iL X),.v (.int 0),.no,.no,.no,.no] = .ok (iL X.dropLast):=by
      have:cutD (X.map D.int) none (some (-1))=X.dropLast.map .int:=by rw [cl,List.map_dropLast]
      simp [mSl,mRd,mNoP,zec,mC,iL,this]
    have s2:mSl (mRd 3) (zec (mC (.int 1))) mNoP [.v (.scr ns),.v T,.v (.int n),.v (iL X),.v (.int 0),.no,.no,.no,.no] = .ok (iL (X.drop 1)):=by
      have:cutD (X.map D.int) (some 1) none=(X.drop 1).map .int:=by
        have e:((1:Nat):Int)=1:=rfl
        rw [← e,cd,List.map_drop]
      simp [mSl,mRd,mNoP,zec,mC,iL,this]
    unfold mZip
    simp only [zaa,s1,s2,mNil,PM.R.bind_ok]
    show PM.R.of (some (zipD (X.dropLast.map .int) ((X.drop 1).map .int)))=_
    rw [zpx,zoa]; rfl
  have fl:zc6 [iL X]=some (iL X):=rfl
  have q5:mAsg (mCB zc6 (zaa (mRd 3) mNil)) (zap 7) [.v (.scr ns),.v T,.v (.int n),.v (iL X),.v (.int (path d X)),sv o5,sv o6,.no,.no] = .nx [.v (.scr ns),.v T,.v (.int n),.v (iL X),.v (.int (path d X)),sv o5,sv o6,.v (iL X),.no]:=zax (d:=iL X) (by simp only [mCB,zaa,mNil,mRd,List.getElem?_cons_succ,List.getElem?_cons_zero,R.bind_ok,fl,R.of_some]) rfl
  have s6:∀ δ:En,δ[1]?=some (.v T)→δ[7]?=some (.v (iL X))→mLst (zaa (zag za2 (zaa (mVar 1) (zaa (mVar 7) mNil))) mNil) δ = .ok (iL [path d X]):=fun δ h1 h2=>by
    have:zag za2 (zaa (mVar 1) (zaa (mVar 7) mNil)) δ = .ok (.int (path d X)):=zeB (by simp only [mVar,h1]) (by simp only [mVar,h2]) wl
    simp only [mLst,zaa,mNil,this,R.bind_ok]
    exact zaX (show 1 ≤ sizeLine by decide)
  have q6:mAsg (mLst (zaa (zag za2 (zaa (mVar 1) (zaa (mVar 7) mNil))) mNil)) (zap 8) [.v (.scr ns),.v T,.v (.int n),.v (iL X),.v (.int (path d X)),sv o5,sv o6,.v (iL X),.no] = .nx [.v (.scr ns),.v T,.v (.int n),.v (iL X),.v (.int (path d X)),sv o5,sv o6,.v (iL X),.v (iL [path d X])]:=zax (d:=iL [path d X]) (s6 _ rfl rfl) rfl
  obtain ⟨δ8,e8⟩:∃ δ8:En,δ8 = [.v (.scr ns),.v T,.v (.int n),.v (iL X),.v (.int (path d X)),sv o5,sv o6,.v (iL X),.v (iL [path d X])]:=⟨_,rfl⟩
  have n1:=zbL (l:=[path d X]) (by simp)
  have n2:=zbL (l:=[cyc d X]) (by simp)
  have q7:mIfS (mOr (zar (m2 oNeD (mRd 8) (mLst (zaa (mVar 4) mNil)))) (mOr (mNot (zar (zag zaw (zaa (mVar 8) mNil)))) (zar (m2 oNeD (mRd 7) (mRd 3))))) (mRet (mC (.bl false))) zbv δ8 = .nx δ8:=by
    have l4:mLst (zaa (mVar 4) mNil) δ8 = .ok (iL [path d X]):=by
      rw [e8]
      simp only [mLst,zaa,mNil,mVar,List.getElem?_cons_succ,List.getElem?_cons_zero,R.bind_ok]
      exact zaX (show 1 ≤ sizeLine by decide)
    have g8:mRd 8 δ8 = .ok (iL [path d X]):=by rw [e8]; rfl
    have g7:mRd 7 δ8 = .ok (iL X):=by rw [e8]; rfl
    have g3:mRd 3 δ8 = .ok (iL X):=by rw [e8]; rfl
    have t1:zar (m2 oNeD (mRd 8) (mLst (zaa (mVar 4) mNil))) δ8 = .ok false:=by
      unfold zar
      rw [zb6]
      simp only [g8,l4,R.bind_ok,zjv (zbe [path d X] 7) (zbe [path d X] 7) rfl,R.of_some]; rfl
    have t2:zar (zag zaw (zaa (mVar 8) mNil)) δ8 = .ok true:=by
      unfold zar
      rw [zbn (x:=iL [path d X]) (by rw [e8]; rfl) n1]; rfl
    have t3:zar (m2 oNeD (mRd 7) (mRd 3)) δ8 = .ok false:=by
      simp only [zar,zb6,g7,g3,R.bind_ok,zjv (zbe X 7) (zbe X 7) rfl,R.of_some]; rfl
    rw [zbP (by simp only [mOr,mNot,t1,t2,t3,R.bind_ok]; rfl)]; rfl
  have s8:∀ δ:En,δ[1]?=some (.v T)→δ[7]?=some (.v (iL X))→mLst (zaa (zag za9 (zaa (mVar 1) (zaa (mVar 7) mNil))) mNil) δ = .ok (iL [cyc d X]):=fun δ h1 h2=>by
    have:zag za9 (zaa (mVar 1) (zaa (mVar 7) mNil)) δ = .ok (.int (cyc d X)):=zeB (by simp only [mVar,h1]) (by simp only [mVar,h2]) rl
    simp only [mLst,zaa,mNil,this,R.bind_ok]
    exact zaX (show 1 ≤ sizeLine by decide)
  obtain ⟨δ9,e9⟩:∃ δ9:En,δ9 = [.v (.scr ns),.v T,.v (.int n),.v (iL X),.v (.int (path d X)),sv o5,sv o6,.v (iL X),.v (iL [cyc d X])]:=⟨_,rfl⟩
  have q8:mAsg (mLst (zaa (zag za9 (zaa (mVar 1) (zaa (mVar 7) mNil))) mNil)) (zap 8) δ8 = .nx δ9:=by
    rw [e8,e9]
    exact zax (d:=iL [cyc d X]) (s8 _ rfl rfl) rfl
  rw [← e8] at q6
  refine (zah q1).trans ((zah q2).trans ((zah q3).trans ((zah q4).trans ((zah q5).trans ((zah q6).trans ((zah q7).trans ((zah q8).trans ?_)))))))
  have g8:mRd 8 δ9 = .ok (iL [cyc d X]):=by rw [e9]; rfl
  have g7:mRd 7 δ9 = .ok (iL X):=by rw [e9]; rfl
  have g4:mRd 4 δ9 = .ok (.int (path d X)):=by rw [e9]; rfl
  have g3:mRd 3 δ9 = .ok (iL X):=by rw [e9]; rfl
  have g1:mRd 1 δ9 = .ok T:=by rw [e9]; rfl
  have l4:mLst (zaa (m2 oAdd (mRd 4) (m2 oIxL (m2 oIxL (mRd 1) (m2 oIxL (mRd 3) (m1 oNeg (mC (.int 1))))) (m2 oIxL (mRd 3) (mC (.int 0))))) mNil) δ9 = .ok (iL [cyc d X]):=by
    simp only [mLst,zaa,mNil,zb6,zp6,g1,g3,g4,mC,R.bind_ok,zob,R.of_some,i0,i1,tw,rw',zik]
    rw [cy]
    exact zaX (show 1 ≤ sizeLine by decide)
  have b1:m2 oEqD (mRd 8) (mLst (zaa (m2 oAdd (mRd 4) (m2 oIxL (m2 oIxL (mRd 1) (m2 oIxL (mRd 3) (m1 oNeg (mC (.int 1))))) (m2 oIxL (mRd 3) (mC (.int 0))))) mNil)) δ9 = .ok (.bl true):=by
    rw [zb6]
    simp only [g8,l4,R.bind_ok,ziI (zbe [cyc d X] 7) (zbe [cyc d X] 7) rfl,R.of_some]
  have b2:zag zaw (zaa (mVar 8) mNil) δ9 = .ok (.bl true):=zbn (x:=iL [cyc d X]) (by rw [e9]; rfl) n2
  have b3:m2 oEqD (mRd 7) (mRd 3) δ9 = .ok (.bl true):=by
    simp only [zb6,g7,g3,R.bind_ok,ziI (zbe X 7) (zbe X 7) rfl,R.of_some]
  simp only [mRet,zks,b1,b2,b3,R.bind_ok]
  rfl
theorem ok1:LenOk 1 0 (fun _ _=>0):=⟨fun _ _ _ _ _ _=>by omega,fun _ _ _=>rfl,fun _ _ _ _ _ _=>rfl,fun _ _ _ _ _ _ _ _ _=>by omega⟩
def d3 (a b:Int):Int:=if a=b then 0 else 3
theorem ok2:LenOk 2 3 d3:=by
  unfold d3
  refine ⟨fun a b _ _ _ _=>?_,fun a _ _=>if_pos rfl,fun a b _ _ _ _=>?_,fun a b c _ _ _ _ _ _=>?_⟩
  · split <;> omega
  · by_cases h:a=b
    · rw [if_pos h,if_pos h.symm]
    · rw [if_neg h,if_neg fun z=>h z.symm]
  · split <;> split <;> split <;> omega
theorem tab1:tabD (tabF 1 (fun _ _=>0)) = .lst [.lst [.int 0]]:=rfl
theorem tab2:tabD (tabF 2 d3) = .lst [.lst [.int 0,.int 3],.lst [.int 3,.int 0]]:=rfl
theorem zpa:zaU [.lst [.lst [.int 0]]] = .ok (iL [0]):=by
  obtain ⟨W,h,st,_⟩:=ze9 ok1 (by decide) (by decide)
  rw [tab1] at h
  have st':Steps [] [] ([] ++ [0]) W:=st
  generalize eQ:([]:List Int) ++ [0]=Q at st'
  cases st' with
  | done=>cases eQ
  | @step W Q p W' h2 =>
    have:p=0:=by
      have:=congrArg List.getLast? eQ
      simpa using this.symm
    have eq:Q = []:=by
      have:=congrArg List.length eQ
      simp at this
      exact this
    subst this eq
    generalize eZ:([]:List Int) ++ kids [].reverse 0=Z at h2
    cases h2 with
    | done=>exact h
    | step=>simp [kids] at eZ
theorem zoR:zav [.lst [.lst [.int 0]]] = .ok (iL [0]):=by
  obtain ⟨P,W,pp,_,_,h,_,h0,h1,_,per⟩:=zcT ok1 (by decide) (by decide)
  rw [tab1] at h
  have eR:stR 1 (fun _ _=>(0:Int)) (1 - 1) = []:=rfl
  rw [eR] at pp per
  have eP:P = []:=by
    cases P with
    | nil=>rfl
    | cons p P =>
      have:=pp.length_eq
      simp [ends,oddL,zaC] at this
  subst eP
  have l:=per.length_eq
  rw [zgX] at l
  simp at l
  cases W with
  | nil=>cases h0
  | cons a W =>
    have:W = []:=List.length_eq_zero_iff.mp (by simp at l; omega)
    subst this
    have:a=0:=by simpa using h0
    subst this
    exact h
theorem zmN:zav [.lst [.lst [.int 0,.int 3],.lst [.int 3,.int 0]]] = .ok (iL [0,1,0]):=by
  obtain ⟨P,W,pp,_,_,h,_,h0,h1,_,per⟩:=zcT ok2 (by decide) (by decide)
  rw [tab2] at h
  have nt:=ziU (n:=2) (d:=d3) (W:=stW 2 d3 0) (zf2 2 d3 0) (by rw [zcZ]; decide)
  obtain ⟨_,_,hi,ho,hw⟩:=nt
  have eR:stR 2 d3 (2 - 1) = [(0,1)]:=by
    show stR 2 d3 1=_
    rw [stR]
    have a:nI 2 d3 (stW 2 d3 0)=0:=by simpa [stW] using hi
    have b:nO 2 d3 (stW 2 d3 0)=1:=by
      have:nO 2 d3 (stW 2 d3 0) ≠ 0:=by simpa [stW] using hw
      omega
    rw [a,b]; rfl
  rw [eR] at pp per
  have eO:oddL [(0,1)] = [0,1]:=by decide
  rw [eO] at pp
  have lp:=pp.length_eq
  cases P with
  | nil=>simp [ends] at lp
  | cons q P =>
    have:P = []:=by
      cases P with
      | nil=>rfl
      | cons _ _=>simp [ends] at lp
    subst this
    have eq:nrm q=(0,1):=by
      obtain ⟨x,y⟩:=q
      have ee:ends [(x,y)] = [x,y]:=rfl
      rw [ee] at pp
      have nd:=pp.nodup_iff.mpr (by decide)
      have mx:x ∈ [0,1]:=pp.mem_iff.mp (by simp)
      have my:y ∈ [0,1]:=pp.mem_iff.mp (by simp)
      simp at mx my nd
      rcases mx with rfl | rfl <;> rcases my with rfl | rfl
      · exact absurd rfl nd
      · rfl
      · rfl
      · exact absurd rfl nd
    have l:=per.length_eq
    rw [zgX] at l
    simp at l
    match W,l,h0,h1,per,h with
    | [a,b,c],_,h0,h1,per,h =>
      have ha:a=0:=by simpa using h0
      have hc:c=0:=by simpa using h1
      subst ha hc
      have m:nrm (0,b) ∈ ([(0,1),q].map nrm):=per.mem_iff.mpr (by show nrm (0,b) ∈ nrm (0,b) :: _; simp)
      have e:nrm (0,b)=nrm (0,1):=by
        rcases List.mem_cons.mp m with e | e
        · exact e
        · rw [List.mem_singleton.mp e,eq]; rfl
      have:b=1:=by
        rcases zfE e with ⟨_,z⟩ | ⟨z,z'⟩
        · exact z
        · cases z
      subst this
      exact h
theorem zoT:zaV [.lst [.lst [.int 0,.int 3],.lst [.int 3,.int 0]]] = .ok (iL [0,1]):=by
  have h:=zdE (n:=2) (d:=d3) (W:=[0,1,0]) (by decide) (by rw [tab2]; exact zmN)
  rw [tab2] at h
  exact h
end My
namespace My
open PySem L2 PM
theorem zki (n:Nat) (d:Int→Int→Int):zaG 8 (tabD (tabF n d))=true:=by
  unfold tabD tabF
  simp only [zaG,List.map_map,List.all_map]
  simp [iL,zaG]
theorem zcW {ml:En→R (List D)} {δ:En} {l:List D} (h:ml δ = .ok l) (hl:l.length ≤ 100000):mLst ml δ = .ok (.lst l):=by
  unfold mLst
  rw [h,R.bind_ok]
  exact zaX (zp4 hl)
theorem ne_f {a b:En→R D} {δ:En} {x:D} (ha:a δ = .ok x) (hb:b δ = .ok x) (p:zaG 8 x=true):zar (m2 oNeD a b) δ = .ok false:=by
  unfold zar
  rw [zb6,ha,R.bind_ok,hb,R.bind_ok,zjv p p rfl]; rfl
theorem law_true (ns:List Int) (h:ns.length ≤ 63):zqb [.scr ns] = .ok (.bl true):=by
  obtain ⟨n,d,⟨n1,n12⟩,ok,hlen⟩:=zke ns (most:=500000000000000000) (by decide) (by decide)
  have hn0:0 < n:=by omega
  obtain ⟨W,hW,st,wl⟩:=ze9 ok hn0 (by omega)
  obtain ⟨P,C,pp,eP,lp,cw,cl,c0,c1,cmem,per⟩:=zcT ok hn0 (by omega)
  have hF:=zdE cl cw
  have fl:=zc7 C
  have tree:=zdf ok hn0 (by omega)
  have sl:=zhp n d (n - 1)
  have oe:=zfN (R:=stR n d (n - 1)) (by omega)
  have pl:P.length ≤ 100:=by
    have a:=per.length_eq
    rw [List.length_map,List.length_append,zgX] at a
    omega
  have hws:=zhb (by omega) st wl
  have hon:=zi6 (E:=stR n d (n - 1) ++ P) (by rw [List.length_append]; have a:=per.length_eq; rw [List.length_map,List.length_append,zgX] at a; omega) c0 c1 per
  have hfc:=zhB (W:=C) (by omega)
  have hwy:=zjo ns ok hn0 (by omega)
  have nW:=zbL (l:=W) (by omega)
  have nF:=zbL (l:=zaC C) (by omega)
  obtain ⟨F,eF⟩:∃ F,F=zaC C:=⟨_,rfl⟩
  rw [← eF] at hF hfc nF
  obtain ⟨RR,eRR⟩:∃ RR,RR=stR n d (n - 1):=⟨_,rfl⟩
  rw [← eRR] at tree oe lp hws hon sl
  obtain ⟨Ro,eRo⟩:∃ Ro,Ro=D.lst (RR.map encR):=⟨_,rfl⟩
  obtain ⟨Bo,eBo⟩:∃ Bo,Bo=D.lst ((RR ++ P).map encR):=⟨_,rfl⟩
  obtain ⟨Od,eOd⟩:∃ Od,Od=iL (srt (oddL RR)):=⟨_,rfl⟩
  have ct:oCat Ro (.lst (P.map encR))=some Bo:=by
    rw [eRo,eBo]
    unfold oCat
    simp only
    rw [zaX (by rw [List.length_map,List.length_map]; exact Nat.le_trans (show RR.length + P.length ≤ 200 by omega) (by decide)),List.map_append]
  obtain ⟨T,eT⟩:∃ T,T=tabD (tabF n d):=⟨_,rfl⟩
  rw [← eT] at hlen hW hF tree lp cw hwy
  rw [← eRo] at tree oe hws
  rw [← eOd] at oe lp
  rw [← eBo] at hon
  have pT:=zki n d
  rw [← eT] at pT
  have p17:oPow (.int 10) (.int 17)=some (.int 100000000000000000):=zop ⟨by decide,by decide,by decide⟩
  have f5:Fit 5:=fitN 10 (by decide)
  have fp:Fit 100000000000000000:=fitN (10 ^ 17) (by decide)
  refine zcG ?_
  show mSeq _ _ [.v (.scr ns),.no,.no,.no,.no,.no,.no,.no,.no]=_
  have q1:mAsg (zag zbu (zaa (mVar 0) (zaa (m2 oMul (mC (.int 5)) (m2 oPow (mC (.int 10)) (mC (.int 17)))) mNil))) (zap 1) [.v (.scr ns),.no,.no,.no,.no,.no,.no,.no,.no] = .nx [.v (.scr ns),.v T,.no,.no,.no,.no,.no,.no,.no]:=zax (d:=T) (by simp [zag,zaa,mNil,mVar,mC,p17,zd2 f5 fp,hlen]) rfl
  have q2:mAsg zog (zap 2) [.v (.scr ns),.v T,.no,.no,.no,.no,.no,.no,.no] = .nx [.v (.scr ns),.v T,.v T,.no,.no,.no,.no,.no,.no]:=by
    refine zax (d:=T) ?_ rfl
    rw [eT]
    refine zcf (l:=(tabF n d).map iL) (r:=(tabF n d).map iL) (by simp [mItL,mRd,tabD]) (by simp [tabF,zaZ]; omega) ?_
    refine zbQ iL iL _ fun l _=>?_
    have:zc6 [iL l]=some (iL l):=rfl
    simp [zdZ,zaO,zbi,mCB,zaa,mNil,mRd,this]
  have q3:mAsg (zag zaY (zaa (mVar 1) mNil)) (zap 3) [.v (.scr ns),.v T,.v T,.no,.no,.no,.no,.no,.no] = .nx [.v (.scr ns),.v T,.v T,.v Ro,.no,.no,.no,.no,.no]:=zax (d:=Ro) (zbn rfl tree) rfl
  have q4:mAsg (m2 oCat (mRd 3) (zag zaD (zaa (mVar 1) (zaa (zag zba (zaa (mVar 3) mNil)) mNil)))) (zap 4) [.v (.scr ns),.v T,.v T,.v Ro,.no,.no,.no,.no,.no] = .nx [.v (.scr ns),.v T,.v T,.v Ro,.v Bo,.no,.no,.no,.no]:=by
    have c:zag zaD (zaa (mVar 1) (zaa (zag zba (zaa (mVar 3) mNil)) mNil)) [.v (.scr ns),.v T,.v T,.v Ro,.no,.no,.no,.no,.no] = .ok (.lst (P.map encR)):=zeB rfl (zbn rfl oe) lp
    exact zax (d:=Bo) (by simp only [zb6,c,mRd,List.getElem?_cons_succ,List.getElem?_cons_zero,R.bind_ok,ct,R.of_some]) rfl
  have q5:mAsg (zag zaU (zaa (mVar 2) mNil)) (zap 5) [.v (.scr ns),.v T,.v T,.v Ro,.v Bo,.no,.no,.no,.no] = .nx [.v (.scr ns),.v T,.v T,.v Ro,.v Bo,.v (iL W),.no,.no,.no]:=zax (d:=iL W) (zbn rfl hW) rfl
  have q6:mAsg (zag zav (zaa (mVar 2) mNil)) (zap 6) [.v (.scr ns),.v T,.v T,.v Ro,.v Bo,.v (iL W),.no,.no,.no] = .nx [.v (.scr ns),.v T,.v T,.v Ro,.v Bo,.v (iL W),.v (iL C),.no,.no]:=zax (d:=iL C) (zbn rfl cw) rfl
  have q7:mAsg (zag zaV (zaa (mVar 2) mNil)) (zap 7) [.v (.scr ns),.v T,.v T,.v Ro,.v Bo,.v (iL W),.v (iL C),.no,.no] = .nx [.v (.scr ns),.v T,.v T,.v Ro,.v Bo,.v (iL W),.v (iL C),.v (iL F),.no]:=zax (d:=iL F) (zbn rfl hF) rfl
  have q8:mIfS (mOr (mNot (zar (zag zaw (zaa (mVar 5) mNil)))) (mOr (zar (m2 oNeD (mRd 5) (zag zbD (zaa (mVar 3) mNil)))) (mNot (zar (zag zb8 (zaa (mVar 6) (zaa (mVar 4) mNil))))))) (mRet (mC (.bl false))) zbv [.v (.scr ns),.v T,.v T,.v Ro,.v Bo,.v (iL W),.v (iL C),.v (iL F),.no] = .nx [.v (.scr ns),.v T,.v T,.v Ro,.v Bo,.v (iL W),.v (iL C),.v (iL F),.no]:=by
    have t0:zar (zag zaw (zaa (mVar 5) mNil)) [.v (.scr ns),.v T,.v T,.v Ro,.v Bo,.v (iL W),.v (iL C),.v (iL F),.no] = .ok true:=by unfold zar; rw [zbn rfl nW]; rfl
    have t1:zar (m2 oNeD (mRd 5) (zag zbD (zaa (mVar 3) mNil))) [.v (.scr ns),.v T,.v T,.v Ro,.v Bo,.v (iL W),.v (iL C),.v (iL F),.no] = .ok false:=by exact ne_f rfl (zbn rfl hws) (zbe W 7)
    have t2:zar (zag zb8 (zaa (mVar 6) (zaa (mVar 4) mNil))) [.v (.scr ns),.v T,.v T,.v Ro,.v Bo,.v (iL W),.v (iL C),.v (iL F),.no] = .ok true:=by unfold zar; rw [zeB rfl rfl hon]; rfl
    rw [zbP (by simp only [mOr,mNot,t0,t1,t2,R.bind_ok]; rfl)]; rfl
  have q9:mIfS (mOr (mNot (zar (zag zaw (zaa (mVar 7) mNil)))) (mOr (zar (m2 oNeD (mRd 7) (zag za7 (zaa (mVar 6) mNil)))) (zar (m2 oNeD (mRd 2) (mRd 1))))) (mRet (mC (.bl false))) zbv [.v (.scr ns),.v T,.v T,.v Ro,.v Bo,.v (iL W),.v (iL C),.v (iL F),.no] = .nx [.v (.scr ns),.v T,.v T,.v Ro,.v Bo,.v (iL W),.v (iL C),.v (iL F),.no]:=by
    have t0:zar (zag zaw (zaa (mVar 7) mNil)) [.v (.scr ns),.v T,.v T,.v Ro,.v Bo,.v (iL W),.v (iL C),.v (iL F),.no] = .ok true:=by unfold zar; rw [zbn rfl nF]; rfl
    have t1:zar (m2 oNeD (mRd 7) (zag za7 (zaa (mVar 6) mNil))) [.v (.scr ns),.v T,.v T,.v Ro,.v Bo,.v (iL W),.v (iL C),.v (iL F),.no] = .ok false:=by exact ne_f rfl (zbn rfl hfc) (zbe F 7)
    have t2:zar (m2 oNeD (mRd 2) (mRd 1)) [.v (.scr ns),.v T,.v T,.v Ro,.v Bo,.v (iL W),.v (iL C),.v (iL F),.no] = .ok false:=by exact ne_f rfl rfl pT
    rw [zbP (by simp only [mOr,mNot,t0,t1,t2,R.bind_ok]; rfl)]; rfl
  have fW:zc6 [iL W]=some (iL W):=rfl
  have fC:zc6 [iL C]=some (iL C):=rfl
  have fF:zc6 [iL F]=some (iL F):=rfl
  have q10:mAsg (mLst (zaa (mCB zc6 (zaa (mRd 5) mNil)) (zaa (mCB zc6 (zaa (mRd 6) mNil)) (zaa (mCB zc6 (zaa (mRd 7) mNil)) mNil)))) (zap 8) [.v (.scr ns),.v T,.v T,.v Ro,.v Bo,.v (iL W),.v (iL C),.v (iL F),.no] = .nx [.v (.scr ns),.v T,.v T,.v Ro,.v Bo,.v (iL W),.v (iL C),.v (iL F),.v (.lst [iL W,iL C,iL F])]:=zax (d:=.lst [iL W,iL C,iL F]) (zcW (by simp only [mCB,zaa,mNil,mRd,List.getElem?_cons_succ,List.getElem?_cons_zero,R.bind_ok,fW,fC,fF,R.of_some]) (show 3 ≤ 100000 by decide)) rfl
  have q11:mIfS (mOr (zar (m2 oNeD (zag zav (zaa (mVar 1) mNil)) (mRd 6))) (mOr (zar (m2 oNeD (zag zaU (zaa (mLst (zaa (mLst (zaa (mC (.int 0)) mNil)) mNil)) mNil)) (mLst (zaa (mC (.int 0)) mNil)))) (zar (m2 oNeD (zag zav (zaa (mLst (zaa (mLst (zaa (mC (.int 0)) mNil)) mNil)) mNil)) (mLst (zaa (mC (.int 0)) mNil)))))) (mRet (mC (.bl false))) zbv [.v (.scr ns),.v T,.v T,.v Ro,.v Bo,.v (iL W),.v (iL C),.v (iL F),.v (.lst [iL W,iL C,iL F])] = .nx [.v (.scr ns),.v T,.v T,.v Ro,.v Bo,.v (iL W),.v (iL C),.v (iL F),.v (.lst [iL W,iL C,iL F])]:=by
    have t0:zar (m2 oNeD (zag zav (zaa (mVar 1) mNil)) (mRd 6)) [.v (.scr ns),.v T,.v T,.v Ro,.v Bo,.v (iL W),.v (iL C),.v (iL F),.v (.lst [iL W,iL C,iL F])] = .ok false:=by exact ne_f (zbn rfl cw) rfl (zbe C 7)
    have t1:zar (m2 oNeD (zag zaU (zaa (mLst (zaa (mLst (zaa (mC (.int 0)) mNil)) mNil)) mNil)) (mLst (zaa (mC (.int 0)) mNil))) [.v (.scr ns),.v T,.v T,.v Ro,.v Bo,.v (iL W),.v (iL C),.v (iL F),.v (.lst [iL W,iL C,iL F])] = .ok false:=by exact ne_f (x:=iL [0]) (zbn (zcW (l:=[.lst [.int 0]]) (by simp [mLst,zaa,mNil,mC,sizeLine]) (by decide)) zpa) (zcW (l:=[.int 0]) (by simp [zaa,mNil,mC]) (by decide)) (zbe [0] 7)
    have t2:zar (m2 oNeD (zag zav (zaa (mLst (zaa (mLst (zaa (mC (.int 0)) mNil)) mNil)) mNil)) (mLst (zaa (mC (.int 0)) mNil))) [.v (.scr ns),.v T,.v T,.v Ro,.v Bo,.v (iL W),.v (iL C),.v (iL F),.v (.lst [iL W,iL C,iL F])] = .ok false:=by exact ne_f (x:=iL [0]) (zbn (zcW (l:=[.lst [.int 0]]) (by simp [mLst,zaa,mNil,mC,sizeLine]) (by decide)) zoR) (zcW (l:=[.int 0]) (by simp [zaa,mNil,mC]) (by decide)) (zbe [0] 7)
    rw [zbP (by simp only [mOr,mNot,t0,t1,t2,R.bind_ok]; rfl)]; rfl
  have q12:mIfS (mOr (zar (m2 oNeD (zag zaV (zaa (mLst (zaa (mLst (zaa (mC (.int 0)) (zaa (mC (.int 3)) mNil))) (zaa (mLst (zaa (mC (.int 3)) (zaa (mC (.int 0)) mNil))) mNil))) mNil)) (mLst (zaa (mC (.int 0)) (zaa (mC (.int 1)) mNil))))) (zar (m2 oNeD (zag zav (zaa (mLst (zaa (mLst (zaa (mC (.int 0)) (zaa (mC (.int 3)) mNil))) (zaa (mLst (zaa (mC (.int 3)) (zaa (mC (.int 0)) mNil))) mNil))) mNil)) (mLst (zaa (mC (.int 0)) (zaa (mC (.int 1)) (zaa (mC (.int 0)) mNil))))))) (mRet (mC (.bl false))) zbv [.v (.scr ns),.v T,.v T,.v Ro,.v Bo,.v (iL W),.v (iL C),.v (iL F),.v (.lst [iL W,iL C,iL F])] = .nx [.v (.scr ns),.v T,.v T,.v Ro,.v Bo,.v (iL W),.v (iL C),.v (iL F),.v (.lst [iL W,iL C,iL F])]:=by
    have t0:zar (m2 oNeD (zag zaV (zaa (mLst (zaa (mLst (zaa (mC (.int 0)) (zaa (mC (.int 3)) mNil))) (zaa (mLst (zaa (mC (.int 3)) (zaa (mC (.int 0)) mNil))) mNil))) mNil)) (mLst (zaa (mC (.int 0)) (zaa (mC (.int 1)) mNil)))) [.v (.scr ns),.v T,.v T,.v Ro,.v Bo,.v (iL W),.v (iL C),.v (iL F),.v (.lst [iL W,iL C,iL F])] = .ok false:=by exact ne_f (x:=iL [0,1]) (zbn (zcW (l:=[.lst [.int 0,.int 3],.lst [.int 3,.int 0]]) (by simp [mLst,zaa,mNil,mC,sizeLine]) (by decide)) zoT) (zcW (l:=[.int 0,.int 1]) (by simp [zaa,mNil,mC]) (by decide)) (zbe [0,1] 7)
    have t1:zar (m2 oNeD (zag zav (zaa (mLst (zaa (mLst (zaa (mC (.int 0)) (zaa (mC (.int 3)) mNil))) (zaa (mLst (zaa (mC (.int 3)) (zaa (mC (.int 0)) mNil))) mNil))) mNil)) (mLst (zaa (mC (.int 0)) (zaa (mC (.int 1)) (zaa (mC (.int 0)) mNil))))) [.v (.scr ns),.v T,.v T,.v Ro,.v Bo,.v (iL W),.v (iL C),.v (iL F),.v (.lst [iL W,iL C,iL F])] = .ok false:=by exact ne_f (x:=iL [0,1,0]) (zbn (zcW (l:=[.lst [.int 0,.int 3],.lst [.int 3,.int 0]]) (by simp [mLst,zaa,mNil,mC,sizeLine]) (by decide)) zmN) (zcW (l:=[.int 0,.int 1,.int 0]) (by simp [zaa,mNil,mC]) (by decide)) (zbe [0,1,0] 7)
    rw [zbP (by simp only [mOr,mNot,t0,t1,R.bind_ok]; rfl)]; rfl
  refine (zah q1).trans ((zah q2).trans ((zah q3).trans ((zah q4).trans ((zah q5).trans ((zah q6).trans ((zah q7).trans ((zah q8).trans ((zah q9).trans ((zah q10).trans ((zah q11).trans ((zah q12).trans ?_)))))))))))
  have pk:zaG 8 (.lst [iL W,iL C,iL F])=true:=by
    show [iL W,iL C,iL F].all (zaG 7)=true
    simp [zbe W 6,zbe C 6,zbe F 6]
  have b1:m2 oEqD (mLst (zaa (mVar 5) (zaa (mVar 6) (zaa (mVar 7) mNil)))) (mRd 8) [.v (.scr ns),.v T,.v T,.v Ro,.v Bo,.v (iL W),.v (iL C),.v (iL F),.v (.lst [iL W,iL C,iL F])] = .ok (.bl true):=by
    have a:mLst (zaa (mVar 5) (zaa (mVar 6) (zaa (mVar 7) mNil))) [.v (.scr ns),.v T,.v T,.v Ro,.v Bo,.v (iL W),.v (iL C),.v (iL F),.v (.lst [iL W,iL C,iL F])] = .ok (.lst [iL W,iL C,iL F]):=zcW rfl (show 3 ≤ 100000 by decide)
    rw [zb6,a,R.bind_ok]
    show ((R.ok (D.lst [iL W,iL C,iL F])).bind _)=_
    rw [R.bind_ok,ziI pk pk rfl]; rfl
  have b2:zag zcv (zaa (mVar 0) (zaa (mVar 1) mNil)) [.v (.scr ns),.v T,.v T,.v Ro,.v Bo,.v (iL W),.v (iL C),.v (iL F),.v (.lst [iL W,iL C,iL F])] = .ok (.bl true):=zeB rfl rfl hwy
  simp only [mRet,zks,b1,b2,R.bind_ok]
  rfl
end My
namespace My
open PySem L2 PM PyProof.Rows
def top (i:Nat):Stmt:=PySem.Challenge.pw_goodenough_k18_walks.main.body.getD i (.Pass ⟨0,0,0,0⟩)
abbrev XO0:XOT:=fun _ _ _ _ _=>False
structure Adr where
  KnownPairs:Addr
def caT (ad:Adr):Nat→Addr
  | 2=>ad.KnownPairs
  | _=>0
def caF (ad:Adr) (c:Nat):Addr:=caT ad (c % 16)
def anT:Nat→Str
  | _=>Str.empty
def anF (c:Nat):Str:=anT (c % 16)
abbrev KX (K:PySem.W.Frag) (ad:Adr):Kx:=⟨K,caF ad,anF⟩
def zj5 (K:PySem.W.Frag):Sp:=fun vs H Q _=>∃ (a:Addr) (ns:List Int),vs = [.ref a]∧SqL K H a (ns.map V.int)∧ns.length ≤ 63∧∀ H',Q (.bl true) H'
structure Txt (K:PySem.W.Frag) (mg:Str→Option Value) (ad:Adr):Prop where
  len:mg "len"=none
  abs:mg "abs"=none
  isinstance:mg "isinstance"=none
  list:mg "list"=none
  sum:mg "sum"=none
  int:mg "int"=none
  bool:mg "bool"=none
  tuple:mg "tuple"=none
  range:mg "range"=none
  enumerate:mg "enumerate"=none
  reversed:mg "reversed"=none
  max:mg "max"=none
  min:mg "min"=none
  sorted:mg "sorted"=none
  zip:mg "zip"=none
  m_KnownPairs:mg "KnownPairs"=some (.ref ad.KnownPairs)
  cl_KnownPairs:Cls K ad.KnownPairs
  na_KnownPairs_known:NoAttr K ad.KnownPairs "known"
  na_KnownPairs_lengths:NoAttr K ad.KnownPairs "lengths"
section
variable {P:Program} {w:World} {K:PySem.W.Frag} {mg:Str→Option Value} {base:Heap} {ad:Adr}
theorem zqX (T:Txt K mg ad):∀ c,znJ c=true→Cls (KX K ad).f ((KX K ad).ca c)∧NoAttr (KX K ad).f ((KX K ad).ca c) "known":=by
  intro c h
  match c,h with
  | 2,_=>exact ⟨T.cl_KnownPairs,T.na_KnownPairs_known⟩
theorem zjm (T:Txt K mg ad):Cls (KX K ad).f ((KX K ad).ca 2)∧NoAttr (KX K ad).f ((KX K ad).ca 2) "known":=⟨T.cl_KnownPairs,T.na_KnownPairs_known⟩
theorem zpL (T:Txt K mg ad):∀ c,zkY c=true→Cls (KX K ad).f ((KX K ad).ca c)∧NoAttr (KX K ad).f ((KX K ad).ca c) "lengths":=by
  intro c h
  match c,h with
  | 2,_=>exact ⟨T.cl_KnownPairs,T.na_KnownPairs_lengths⟩
theorem zh7 (T:Txt K mg ad):Cls (KX K ad).f ((KX K ad).ca 2)∧NoAttr (KX K ad).f ((KX K ad).ca 2) "lengths":=⟨T.cl_KnownPairs,T.na_KnownPairs_lengths⟩
abbrev zdd:Stmt:=top 22
theorem zgw:FnScope ["_law_script","_law_k"] ["_law_script","_law_k"] (zau zdd):=⟨rfl,rfl,rfl,by decide +kernel,rfl,by decide +kernel,by decide +kernel⟩
theorem zgz {f:Addr} {fd:FuncData} (F:Fun K "_law_cell_at" "_law_cell_at" zdd f fd) (T:Txt K mg ad)  : FnOk P w K mg base CX0 1 f fd ["_law_script","_law_k"] (spM (KX K ad) XO0 zaJ):=by
  refine F.ok zgw (fun vs H Q E h=>zcH h) (fun cdv A outer s H vs Q E hr h=>?_)
  have hu:=zb5 hr
  exact ⟨_,(zaf (zcx (zaM zqr (pv 1) (zaB zaA (by rfl) T.len PySem.boot_len (zab (pv 0) zae)) (za4 _))
      (zan (zaW (zaS zay (pv 0) (pv 1) (fun _ _=>rfl))))
      zbg)
      (zan (zaW zak))),zft (K:=(KX K ad)) (XO:=XO0) (E:=E) (np:=2) (nv:=0) (m:=zcr)
      (zas (zcU (zaI (zal zqE zac ((zb4 zb0 (zaz zac zaK))).r))
      (zbH (zal zaL zac zac))
      zbs)
      (zbH se_int)) rfl h⟩
abbrev zdH:Stmt:=top 23
theorem sc_law_number:FnScope ["_law_script","_law_k","_law_top","_law_cell","_law_high","_law_low"] ["_law_script","_law_k","_law_top"] (zau zdH):=⟨rfl,rfl,rfl,by decide +kernel,rfl,by decide +kernel,by decide +kernel⟩
theorem zhI {f:Addr} {fd:FuncData} (F:Fun K "_law_number" "_law_number" zdH f fd) (T:Txt K mg ad) (G_law_cell_at:Has P w K mg base CX0 1 "_law_cell_at" ["_law_script","_law_k"] (spM (KX K ad) XO0 zaJ)):FnOk P w K mg base CX0 2 f fd ["_law_script","_law_k","_law_top"] (spM (KX K ad) XO0 zaH):=by
  refine F.ok sc_law_number (fun vs H Q E h=>zcH h) (fun cdv A outer s H vs Q E hr h=>?_)
  have hu:=zb5 hr
  exact ⟨_,(zaf (zaE (i:=3) sc_law_number.nd rfl (by first | exact Or.inl rfl | exact Or.inr rfl) (zaP zeJ (zaN G_law_cell_at (hr.mono (by decide)) (by rfl) zbb (zab (pv 0) (zab (pv 1) zae))) (zaP zox zak zak)))
      (zaf (zaE (i:=4) sc_law_number.nd rfl (by first | exact Or.inl rfl | exact Or.inr rfl) (zaP zeJ (zaP zbm (zaP zcE (pv 3) zak) (zaP zcE (zaP zcE (zaP zbm (pv 1) zak) (zaP zbm (pv 1) zak)) zak)) zak))
      (zaf (zaE (i:=5) sc_law_number.nd rfl (by first | exact Or.inl rfl | exact Or.inr rfl) (zaP zeJ (zaP zbm (zaP zbm (zaP zcE (pv 3) zak) (zaP zcE (zaP zcE (pv 1) (pv 1)) zak)) zak) zak))
      (zan (zaW (zaP zeJ (zaP zbm (zaP zcE (pv 4) zak) (pv 5)) (zaP zbm (pv 2) zak))))))),zft (K:=(KX K ad)) (XO:=XO0) (E:=E) (np:=3) (nv:=3) (m:=zfg)
      (zas (za1 (zal zex ((za6 (zad zam (zad zam zao)))).r ((zal zn5 (se_int).r (se_int).r)).r) zat)
      (zas (za1 (zal zex ((zal zbr ((zal zdS zac (se_int).r)).r ((zal zdS ((zal zdS ((zal zbr zac (se_int).r)).r ((zal zbr zac (se_int).r)).r)).r (se_int).r)).r)).r (se_int).r) zat)
      (zas (za1 (zal zex ((zal zbr ((zal zbr ((zal zdS zac (se_int).r)).r ((zal zdS ((zal zdS zac zac)).r (se_int).r)).r)).r (se_int).r)).r (se_int).r) zat)
      (zbH (zal zex ((zal zbr ((zal zdS zac (se_int).r)).r zac)).r ((zal zbr zac (se_int).r)).r))))) rfl h⟩
abbrev zc3:Stmt:=top 24
theorem sc_law_grid:FnScope ["_law_script","_law_many","_law_top","_law_spots","_law_lengths_here","_law_x","_law_y"] ["_law_script","_law_many","_law_top"] (zau zc3):=⟨rfl,rfl,rfl,by decide +kernel,rfl,by decide +kernel,by decide +kernel⟩
theorem ziP {f:Addr} {fd:FuncData} (F:Fun K "_law_grid" "_law_grid" zc3 f fd) (T:Txt K mg ad) (G_law_number:Has P w K mg base CX0 2 "_law_number" ["_law_script","_law_k","_law_top"] (spM (KX K ad) XO0 zaH)):FnOk P w K mg base CX0 3 f fd ["_law_script","_law_many","_law_top"] (spO (KX K ad) XO0 zb1):=by
  refine F.ok sc_law_grid (fun vs H Q E h=>zcw h) (fun cdv A outer s H vs Q E hr h=>?_)
  have hu:=zb5 hr
  exact ⟨_,(zaf (zf9 (i:=3) sc_law_grid.nd rfl (by first | exact Or.inl rfl | exact Or.inr rfl) rfl (za0 rfl T.range (zab (pv 1) zae)) (zdk (zau zc3) ["_law_script","_law_many","_law_top","_law_spots","_law_lengths_here","_law_x","_law_y"] ["_law_script","_law_top","_law_k"] [0,2] 1 rfl rfl rfl (by decide +kernel) (by decide +kernel) (by decide +kernel) rfl (by decide +kernel) (fun cl C s H fp pins=>(zaF (i:=2) (show List.Nodup (["_law_script","_law_top","_law_k"]:List Str) by decide +kernel) rfl (Or.inl rfl))) (fun cl C s H fp pins=>(zdx (zab (zaN G_law_number (hr.mono (by decide)) (by rfl) zbb (zab (pv 0) (zab (zaP zbm zak (zaP zcE zak (pv 2))) (zab (pv 1) zae)))) (zab (zaN G_law_number (hr.mono (by decide)) (by rfl) zbb (zab (pv 0) (zab (zaP zbm zak (zaP zcE zak (pv 2))) (zab (pv 1) zae)))) zae)))) (Or.inl ⟨rfl,rfl⟩)) rfl)
      (zaf (zaE (i:=4) sc_law_grid.nd rfl (by first | exact Or.inl rfl | exact Or.inr rfl) (za8 zae))
      (zaf (zbG PassesOwn.never rfl (zcy (pv 3)) (zij rfl (zcc (zaF (i:=5) sc_law_grid.nd rfl (by first | exact Or.inl rfl | exact Or.inr rfl)) (zcc (zaF (i:=6) sc_law_grid.nd rfl (by first | exact Or.inl rfl | exact Or.inr rfl)) zgi)))
      (zan (zbV (zeV PySem.F.plainAttrs_list PySem.F.slot_list_append PySem.F.type_list_append zbC (pv 4) (zab (zeh rfl (zcy (pv 3)) (zdk (zau zc3) ["_law_script","_law_many","_law_top","_law_spots","_law_lengths_here","_law_x","_law_y"] ["_law_x","_law_y","_law_other"] [5,6] 1 rfl rfl rfl (by decide +kernel) (by decide +kernel) (by decide +kernel) rfl (by decide +kernel) (fun cl C s H fp pins=>(zaF (i:=2) (show List.Nodup (["_law_x","_law_y","_law_other"]:List Str) by decide +kernel) rfl (Or.inl rfl))) (fun cl C s H fp pins=>(zaP zbm (zaB zj1 (by rfl) (by exact T.abs) boot_abs (zab (zaP ziB (pv 0) (zaS zcq (pv 2) zak (fun _ _=>rfl))) zae)) (zaB zj1 (by rfl) (by exact T.abs) boot_abs (zab (zaP ziB (pv 1) (zaS zcq (pv 2) zak (fun _ _=>rfl))) zae)))) (Or.inl ⟨rfl,rfl⟩))) zae)))))
      (zan (zaW (pv 4)))))),zdw (K:=(KX K ad)) (XO:=XO0) (E:=E) (np:=3) (nv:=4) (m:=zgL)
      (zas (za1 ((zcb (za3 len1 (zad zam zao)).c (by decide) zbM zcm (Or.inl ⟨rfl,rfl⟩) (zgr (zad (za6 (zad zam (zad (zal zbr (se_int).r ((zal zdS (se_int).r zac)).r) (zad zam zao)))) (zad (za6 (zad zam (zad (zal zbr (se_int).r ((zal zdS (se_int).r zac)).r) (zad zam zao)))) zao))))).e zat)
      (zas (zcj (zaR zao))
      (zas (zbI (zeX zam) (zhU (zb9 zat (zb9 zat zgl)))
      (zbR ((zcb (zeA zac) (by decide) zbM zcm (Or.inl ⟨rfl,rfl⟩) (zal zbr ((zb4 zoz (zaz ((zal zis zac ((zal zcp zac (se_int).r)).r)).r zaK))).r ((zb4 zoz (zaz ((zal zis zac ((zal zcp zac (se_int).r)).r)).r zaK))).r))).e))
      zeY))) rfl h⟩
abbrev zcV:Stmt:=top 25
theorem sc_law_shortest:FnScope ["_law_lengths_here","_law_amid","_law_one","_law_other","_law_both"] ["_law_lengths_here"] (zau zcV):=⟨rfl,rfl,rfl,by decide +kernel,rfl,by decide +kernel,by decide +kernel⟩
theorem zfI {f:Addr} {fd:FuncData} (F:Fun K "_law_shortest" "_law_shortest" zcV f fd) (T:Txt K mg ad)  : FnOk P w K mg base CX0 1 f fd ["_law_lengths_here"] (spT (KX K ad) XO0 zbj):=by
  refine F.ok sc_law_shortest (fun vs H Q E h=>zo1 h) (fun cdv A outer s H vs Q E hr h=>?_)
  have hu:=zb5 hr
  exact ⟨_,(zaf (zbG PassesOwn.never rfl (za0 rfl T.range (zab (zaB zaA (by rfl) T.len PySem.boot_len (zab (pv 0) zae)) zae)) (zaF (i:=1) sc_law_shortest.nd rfl (by first | exact Or.inl rfl | exact Or.inr rfl))
      (zan (zbG PassesOwn.never rfl (za0 rfl T.range (zab (zaB zaA (by rfl) T.len PySem.boot_len (zab (pv 0) zae)) zae)) (zaF (i:=2) sc_law_shortest.nd rfl (by first | exact Or.inl rfl | exact Or.inr rfl))
      (zan (zbG PassesOwn.never rfl (za0 rfl T.range (zab (zaB zaA (by rfl) T.len PySem.boot_len (zab (pv 0) zae)) zae)) (zaF (i:=3) sc_law_shortest.nd rfl (by first | exact Or.inl rfl | exact Or.inr rfl))
      (zaf (zaE (i:=4) sc_law_shortest.nd rfl (by first | exact Or.inl rfl | exact Or.inr rfl) (zaP zbm (zaS zay (zaS zay (pv 0) (pv 2) (fun _ _=>rfl)) (pv 1) (fun _ _=>rfl)) (zaS zay (zaS zay (pv 0) (pv 1) (fun _ _=>rfl)) (pv 3) (fun _ _=>rfl))))
      (zan (zl0 (zaB (zic rfl) (by rfl) T.min boot_min (zab (zaS zay (zaS zay (pv 0) (pv 2) (fun _ _=>rfl)) (pv 3) (fun _ _=>rfl)) (zab (pv 4) zae))) (zk7 (zaS zay (pv 0) (pv 2) (fun _ _=>rfl)) (pv 3) zg6)))))))))
      (zan (zaW (pv 0)))),zqt (K:=(KX K ad)) (XO:=XO0) (E:=E) (nv:=4) (m:=zcd)
      (zas (zbI (za3 len1 (zad (zfS (zb4 zb0 (zaz zac zaK))) zao)) zat
      (zbI (za3 len1 (zad (zfS (zb4 zb0 (zaz zac zaK))) zao)) zat
      (zbI (za3 len1 (zad (zfS (zb4 zb0 (zaz zac zaK))) zao)) zat
      (zas (za1 (zfS (zal zbr ((zal zaL ((zal zaL zac zac)).r zac)).r ((zal zaL ((zal zaL zac zac)).r zac)).r)) zat)
      (zji zam zam (zfS (zb4 zlR (zaz ((zal zaL ((zal zaL zac zac)).r zac)).r (zaz zac zaK)))))))))
      zmL) rfl h⟩
abbrev zbW:Stmt:=top 26
theorem sc_law_lengths:FnScope ["_law_script","_law_most","_law_head","_law_many","_law_way","_law_top","_law_lengths_here","_law_one","_law_other","_law_number_here"] ["_law_script","_law_most"] (zau zbW):=⟨rfl,rfl,rfl,by decide +kernel,rfl,by decide +kernel,by decide +kernel⟩
theorem zgy {f:Addr} {fd:FuncData} (F:Fun K "_law_lengths" "_law_lengths" zbW f fd) (T:Txt K mg ad) (G_law_cell_at:Has P w K mg base CX0 1 "_law_cell_at" ["_law_script","_law_k"] (spM (KX K ad) XO0 zaJ)) (G_law_number:Has P w K mg base CX0 2 "_law_number" ["_law_script","_law_k","_law_top"] (spM (KX K ad) XO0 zaH)) (G_law_grid:Has P w K mg base CX0 3 "_law_grid" ["_law_script","_law_many","_law_top"] (spO (KX K ad) XO0 zb1)) (G_law_shortest:Has P w K mg base CX0 1 "_law_shortest" ["_law_lengths_here"] (spT (KX K ad) XO0 zbj)):FnOk P w K mg base CX0 4 f fd ["_law_script","_law_most"] (spO (KX K ad) XO0 zbu):=by
  refine F.ok sc_law_lengths (fun vs H Q E h=>zcw h) (fun cdv A outer s H vs Q E hr h=>?_)
  have hu:=zb5 hr
  exact ⟨_,(zaf (zaE (i:=2) sc_law_lengths.nd rfl (by first | exact Or.inl rfl | exact Or.inr rfl) (zaN G_law_cell_at (hr.mono (by decide)) (by rfl) zbb (zab (pv 0) (zab zak zae))))
      (zaf (zaE (i:=3) sc_law_lengths.nd rfl (by first | exact Or.inl rfl | exact Or.inr rfl) (zaP zbm zak (zaP zeJ (pv 2) zak)))
      (zaf (zcx (zaM zhA (zaP zeJ (zaP zep (pv 2) zak) zak) zak (za4 _))
      (zan (zaE (i:=3) sc_law_lengths.nd rfl (by first | exact Or.inl rfl | exact Or.inr rfl) (zaP zbm zak (zaP zeJ (zaP zep (pv 2) zak) zak))))
      zbg)
      (zaf (zaE (i:=4) sc_law_lengths.nd rfl (by first | exact Or.inl rfl | exact Or.inr rfl) (zaP zeJ (zaP zep (pv 2) zak) zak))
      (zaf (zaE (i:=5) sc_law_lengths.nd rfl (by first | exact Or.inl rfl | exact Or.inr rfl) (zaS zay (za8 (zab zak (zab zak (zab (pv 1) zae)))) (zaP zeJ (zaP zep (pv 2) zak) zak) (fun _ _=>rfl)))
      (zaf (zcx (zaM zhA (pv 4) zak (za4 _))
      (zan (zaW (zaN G_law_grid (hr.mono (by decide)) (by rfl) zbb (zab (pv 0) (zab (pv 3) (zab (pv 5) zae))))))
      zbg)
      (zaf (zf9 (i:=6) sc_law_lengths.nd rfl (by first | exact Or.inl rfl | exact Or.inr rfl) rfl (za0 rfl T.range (zab (pv 3) zae)) (zdk (zau zbW) ["_law_script","_law_most","_law_head","_law_many","_law_way","_law_top","_law_lengths_here","_law_one","_law_other","_law_number_here"] ["_law_many","_law_one"] [3] 1 rfl rfl rfl (by decide +kernel) (by decide +kernel) (by decide +kernel) rfl (by decide +kernel) (fun cl C s H fp pins=>(zaF (i:=1) (show List.Nodup (["_law_many","_law_one"]:List Str) by decide +kernel) rfl (by first | exact Or.inl rfl | exact Or.inr rfl))) (fun cl C s H fp pins=>(zeh rfl (za0 (by rfl) (by exact T.range) (zab (pv 0) zae)) (zdk (znE _ (zau zbW)) ["_law_many","_law_one"] ["_law_other"] [] 1 rfl rfl rfl (by decide +kernel) (by decide +kernel) (by decide +kernel) rfl (by decide +kernel) (fun cl C s H fp pins=>(zaF (i:=0) (show List.Nodup (["_law_other"]:List Str) by decide +kernel) rfl (Or.inl rfl))) (fun cl C s H fp pins=>zak) (Or.inl ⟨rfl,rfl⟩)))) (Or.inl ⟨rfl,rfl⟩)) rfl)
      (zaf (zbG PassesOwn.never rfl (za0 rfl T.range (zab (pv 3) zae)) (zaF (i:=7) sc_law_lengths.nd rfl (by first | exact Or.inl rfl | exact Or.inr rfl))
      (zan (zbG PassesOwn.never rfl (za0 rfl T.range (zab (pv 7) zae)) (zaF (i:=8) sc_law_lengths.nd rfl (by first | exact Or.inl rfl | exact Or.inr rfl))
      (zaf (zaE (i:=9) sc_law_lengths.nd rfl (by first | exact Or.inl rfl | exact Or.inr rfl) (zaN G_law_number (hr.mono (by decide)) (by rfl) zbb (zab (pv 0) (zab (zaP zbm (zaP zbm zak (zaP zep (zaP zcE (pv 7) (zaP ziB (pv 7) zak)) zak)) (pv 8)) (zab (pv 5) zae)))))
      (zaf (zcx (zaM zhA (pv 4) zak (za4 _))
      (zan (zaE (i:=9) sc_law_lengths.nd rfl (by first | exact Or.inl rfl | exact Or.inr rfl) (zaP zbm (pv 9) (pv 5))))
      zbg)
      (zaf (zl0 (pv 9) (zk7 (zaS zay (pv 6) (pv 7) (fun _ _=>rfl)) (pv 8) zg6))
      (zan (zl0 (pv 9) (zk7 (zaS zay (pv 6) (pv 8) (fun _ _=>rfl)) (pv 7) zg6)))))))))
      (zaf (zcx (zaM zhA (pv 4) zak (za4 _))
      (zan (zaW (zaN G_law_shortest (hr.mono (by decide)) (by rfl) zbb (zab (pv 6) zae))))
      zbg)
      (zan (zaW (pv 6)))))))))))),zdw (K:=(KX K ad)) (XO:=XO0) (E:=E) (np:=2) (nv:=8) (m:=zeG)
      (zas (za1 (za6 (zad zam (zad se_int zao))) zat)
      (zas (za1 (zal zbr (se_int).r ((zal zex zac (se_int).r)).r) zat)
      (zas (zcU (zaI (zal zhD ((zal zex ((zal zil zac (se_int).r)).r (se_int).r)).r (se_int).r))
      (za1 (zal zbr (se_int).r ((zal zex ((zal zil zac (se_int).r)).r (se_int).r)).r) zat)
      zbs)
      (zas (za1 (zal zex ((zal zil zac (se_int).r)).r (se_int).r) zat)
      (zas (za1 (zal zaL ((zaR (zad se_int (zad se_int (zad zam zao))))).e.r ((zal zex ((zal zil zac (se_int).r)).r (se_int).r)).r) zat)
      (zas (zcU (zaI (zal zhD zac (se_int).r))
      (zf7 (zaQ (zad zam (zad zam (zad zam zao)))))
      zbs)
      (zas (zpz (znv (za3 len1 (zad zam zao)).c (by decide) zbM zcm (zcb (za3 len1 (zad zam zao)).c (by decide) zbM zcm (Or.inl ⟨rfl,rfl⟩) se_int)))
      (zas (zbI (za3 len1 (zad zam zao)) zat
      (zbI (za3 len1 (zad zam zao)) zat
      (zas (za1 (za6 (zad zam (zad (zal zbr ((zal zbr (se_int).r ((zal zil ((zal zdS zac ((zal zis zac (se_int).r)).r)).r (se_int).r)).r)).r zac) (zad zam zao)))) zat)
      (zas (zcU (zaI (zal zhD zac (se_int).r))
      (za1 (zal zbr zac zac) zat)
      zbs)
      (zas (zji zam zam zam)
      (zji zam zam zam))))))
      (zas (zcU (zaI (zal zhD zac (se_int).r))
      znb
      zbs)
      zmL))))))))) rfl h⟩
abbrev zgg:Stmt:=top 4
theorem sc_look_at:FnScope ["lengths","count","a","b","c"] ["lengths"] (zau zgg):=⟨rfl,rfl,rfl,by decide +kernel,rfl,by decide +kernel,by decide +kernel⟩
theorem zkg {f:Addr} {fd:FuncData} (F:Fun K "look_at" "look_at" zgg f fd) (T:Txt K mg ad)  : FnOk P w K mg base CX0 1 f fd ["lengths"] (spM (KX K ad) XO0 zbX):=by
  refine F.ok sc_look_at (fun vs H Q E h=>zcH h) (fun cdv A outer s H vs Q E hr h=>?_)
  have hu:=zb5 hr
  exact ⟨_,(zaf (zaE (i:=1) sc_look_at.nd rfl (by first | exact Or.inl rfl | exact Or.inr rfl) (zaB zaA (by rfl) T.len PySem.boot_len (zab (pv 0) zae)))
      (zaf (zbG PassesOwn.never rfl (za0 rfl T.range (zab (pv 1) zae)) (zaF (i:=2) sc_look_at.nd rfl (by first | exact Or.inl rfl | exact Or.inr rfl))
      (zan (zcx (zaM zmy (zaS zay (zaS zay (pv 0) (pv 2) (fun _ _=>rfl)) (pv 2) (fun _ _=>rfl)) zak (za4 _))
      (zan zg5)
      zbg)))
      (zaf (zbG PassesOwn.never rfl (za0 rfl T.range (zab (pv 1) zae)) (zaF (i:=2) sc_look_at.nd rfl (by first | exact Or.inl rfl | exact Or.inr rfl))
      (zan (zbG PassesOwn.never rfl (za0 rfl T.range (zab (pv 2) zae)) (zaF (i:=3) sc_look_at.nd rfl (by first | exact Or.inl rfl | exact Or.inr rfl))
      (zan (zcx (zaM zmy (zaS zay (zaS zay (pv 0) (pv 2) (fun _ _=>rfl)) (pv 3) (fun _ _=>rfl)) (zaS zay (zaS zay (pv 0) (pv 3) (fun _ _=>rfl)) (pv 2) (fun _ _=>rfl)) (za4 _))
      (zan zg5)
      zbg)))))
      (zan (zbG PassesOwn.never rfl (za0 rfl T.range (zab (pv 1) zae)) (zaF (i:=2) sc_look_at.nd rfl (by first | exact Or.inl rfl | exact Or.inr rfl))
      (zan (zbG PassesOwn.never rfl (za0 rfl T.range (zab (pv 1) zae)) (zaF (i:=3) sc_look_at.nd rfl (by first | exact Or.inl rfl | exact Or.inr rfl))
      (zan (zbG PassesOwn.never rfl (za0 rfl T.range (zab (pv 1) zae)) (zaF (i:=4) sc_look_at.nd rfl (by first | exact Or.inl rfl | exact Or.inr rfl))
      (zan (zcx (zaM zqr (zaP zbm (zaS zay (zaS zay (pv 0) (pv 2) (fun _ _=>rfl)) (pv 3) (fun _ _=>rfl)) (zaS zay (zaS zay (pv 0) (pv 3) (fun _ _=>rfl)) (pv 4) (fun _ _=>rfl))) (zaS zay (zaS zay (pv 0) (pv 2) (fun _ _=>rfl)) (pv 4) (fun _ _=>rfl)) (za4 _))
      (zan zg5)
      zbg))))))))))),zft (K:=(KX K ad)) (XO:=XO0) (E:=E) (np:=1) (nv:=4) (m:=zih)
      (zas (za1 (zb4 zb0 (zaz zac zaK)) zat)
      (zas (zbI (za3 len1 (zad zam zao)) zat
      (zcU (zaI (zal zma ((zal zaL ((zal zaL zac zac)).r zac)).r (se_int).r))
      zhh
      zbs))
      (zas (zbI (za3 len1 (zad zam zao)) zat
      (zbI (za3 len1 (zad zam zao)) zat
      (zcU (zaI (zal zma ((zal zaL ((zal zaL zac zac)).r zac)).r ((zal zaL ((zal zaL zac zac)).r zac)).r))
      zhh
      zbs)))
      (zbI (za3 len1 (zad zam zao)) zat
      (zbI (za3 len1 (zad zam zao)) zat
      (zbI (za3 len1 (zad zam zao)) zat
      (zcU (zaI (zal zqE ((zal zbr ((zal zaL ((zal zaL zac zac)).r zac)).r ((zal zaL ((zal zaL zac zac)).r zac)).r)).r ((zal zaL ((zal zaL zac zac)).r zac)).r))
      zhh
      zbs))))))) rfl h⟩
abbrev zcI:Stmt:=top 12
theorem sc_shortest_road:FnScope ["lengths","within","without","offers","outer","inner","least"] ["lengths","within","without"] (zau zcI):=⟨rfl,rfl,rfl,by decide +kernel,rfl,by decide +kernel,by decide +kernel⟩
theorem zfq {f:Addr} {fd:FuncData} (F:Fun K "shortest_road" "shortest_road" zcI f fd) (T:Txt K mg ad)  : FnOk P w K mg base CX0 1 f fd ["lengths","within","without"] (spM (KX K ad) XO0 zbq):=by
  refine F.ok sc_shortest_road (fun vs H Q E h=>zcH h) (fun cdv A outer s H vs Q E hr h=>?_)
  have hu:=zb5 hr
  exact ⟨_,(zaf (zaE (i:=3) sc_shortest_road.nd rfl (by first | exact Or.inl rfl | exact Or.inr rfl) (za8 zae))
      (zaf (zbG PassesOwn.never rfl (zcy (pv 2)) (zaF (i:=4) sc_shortest_road.nd rfl (by first | exact Or.inl rfl | exact Or.inr rfl))
      (zan (zbG PassesOwn.never rfl (zcy (pv 1)) (zaF (i:=5) sc_shortest_road.nd rfl (by first | exact Or.inl rfl | exact Or.inr rfl))
      (zan (zbV (zeV PySem.F.plainAttrs_list PySem.F.slot_list_append PySem.F.type_list_append zbC (pv 3) (zab (zdx (zab (zaS zay (zaS zay (pv 0) (pv 5) (fun _ _=>rfl)) (pv 4) (fun _ _=>rfl)) (zab (pv 4) (zab (pv 5) zae)))) zae)))))))
      (zaf (zaE (i:=6) sc_shortest_road.nd rfl (by first | exact Or.inl rfl | exact Or.inr rfl) (zaB (zlS hr.units rfl) (by rfl) T.min boot_min (zab (pv 3) zae)))
      (zan (zaW (zdx (zab (zaS zcq (pv 6) zak (fun _ _=>rfl)) (zab (zaS zcq (pv 6) zak (fun _ _=>rfl)) zae)))))))),zft (K:=(KX K ad)) (XO:=XO0) (E:=E) (np:=3) (nv:=4) (m:=zdA)
      (zas (zcj (zaR zao))
      (zas (zbI (zeX zam) zat
      (zbI (zeX zam) zat
      (zbR (zgr (zad (zal zaL ((zal zaL zac zac)).r zac) (zad zam (zad zam zao)))))))
      (zas (za1 (zb4 zoI (zaz zac zaK)) zat)
      (zbH (zgr (zad (zal zcp zac (se_int).r) (zad (zal zcp zac (se_int).r) zao))))))) rfl h⟩
abbrev zdQ:Stmt:=top 13
theorem sc_least_tree:FnScope ["lengths","within","without","tree","road"] ["lengths"] (zau zdQ):=⟨rfl,rfl,rfl,by decide +kernel,rfl,by decide +kernel,by decide +kernel⟩
theorem zhg {f:Addr} {fd:FuncData} (F:Fun K "least_tree" "least_tree" zdQ f fd) (T:Txt K mg ad) (G_look_at:Has P w K mg base CX0 1 "look_at" ["lengths"] (spM (KX K ad) XO0 zbX)) (G_shortest_road:Has P w K mg base CX0 1 "shortest_road" ["lengths","within","without"] (spM (KX K ad) XO0 zbq)):FnOk P w K mg base CX0 2 f fd ["lengths"] (spO (KX K ad) XO0 zaY):=by
  refine F.ok sc_least_tree (fun vs H Q E h=>zcw h) (fun cdv A outer s H vs Q E hr h=>?_)
  have hu:=zb5 hr
  exact ⟨_,(zaf (zbV (zaN G_look_at (hr.mono (by decide)) (by rfl) zbb (zab (pv 0) zae)))
      (zaf (zaE (i:=1) sc_least_tree.nd rfl (by first | exact Or.inl rfl | exact Or.inr rfl) (za8 (zab zak zae)))
      (zaf (zaE (i:=2) sc_least_tree.nd rfl (by first | exact Or.inl rfl | exact Or.inr rfl) (zbK (zi5 rfl) (by rfl) T.list boot_list (zab (zoG (by rfl) T.range (zab zak (zab (zaB zaA (by rfl) T.len PySem.boot_len (zab (pv 0) zae)) zae))) zae)))
      (zaf (zaE (i:=3) sc_least_tree.nd rfl (by first | exact Or.inl rfl | exact Or.inr rfl) (za8 zae))
      (zaf (zfw PassesOwn.never (zaM zmY (zaB zaA (by rfl) T.len PySem.boot_len (zab (pv 2) zae)) zak (za4 _))
      (zaf (zaE (i:=4) sc_least_tree.nd rfl (by first | exact Or.inl rfl | exact Or.inr rfl) (zaN G_shortest_road (hr.mono (by decide)) (by rfl) zbb (zab (pv 0) (zab (pv 1) (zab (pv 2) zae)))))
      (zaf (zbV (zeV PySem.F.plainAttrs_list PySem.F.slot_list_append PySem.F.type_list_append zbC (pv 3) (zab (pv 4) zae)))
      (zaf (zbV (zeV PySem.F.plainAttrs_list PySem.F.slot_list_append PySem.F.type_list_append zbC (pv 1) (zab (zaS zcq (pv 4) zak (fun _ _=>rfl)) zae)))
      (zan (zbV (zeV PySem.F.plainAttrs_list PySem.F.slot_list_remove PySem.F.type_list_remove zkC (pv 2) (zab (zaS zcq (pv 4) zak (fun _ _=>rfl)) zae))))))))
      (zan (zaW (pv 3)))))))),zdw (K:=(KX K ad)) (XO:=XO0) (E:=E) (np:=1) (nv:=4) (m:=zfa)
      (zas (zli (za6 (zad zam zao)))
      (zas (zcj (zaR (zad se_int zao)))
      (zas (zcj (zkP (zad se_int (zad (zb4 zb0 (zaz zac zaK)) zao))))
      (zas (zcj (zaR zao))
      (zas (zfD (zaI (zal zm0 ((zb4 zb0 (zaz zac zaK))).r (se_int).r))
      (zas (za1 (zjz (zjF zam (zi1 (zi1 zk6)))) zat)
      (zas (zbR zam)
      (zas (zbR (zal zcp zac (se_int).r))
      (zlD (zal zcp zac (se_int).r))))))
      zeY))))) rfl h⟩
abbrev zdX:Stmt:=top 8
theorem sc_odd_ends:FnScope ["roads","odd","road","place"] ["roads"] (zau zdX):=⟨rfl,rfl,rfl,by decide +kernel,rfl,by decide +kernel,by decide +kernel⟩
theorem ziX {f:Addr} {fd:FuncData} (F:Fun K "odd_ends" "odd_ends" zdX f fd) (T:Txt K mg ad)  : FnOk P w K mg base CX0 1 f fd ["roads"] (spO (KX K ad) XO0 zba):=by
  refine F.ok sc_odd_ends (fun vs H Q E h=>zcw h) (fun cdv A outer s H vs Q E hr h=>?_)
  have hu:=zb5 hr
  exact ⟨_,(zaf (zaE (i:=1) sc_odd_ends.nd rfl (by first | exact Or.inl rfl | exact Or.inr rfl) zj2)
      (zaf (zbG PassesOwn.never rfl (zcy (pv 0)) (zaF (i:=2) sc_odd_ends.nd rfl (by first | exact Or.inl rfl | exact Or.inr rfl))
      (zan (zbG PassesOwn.never rfl (zpQ (pv 2)) (zaF (i:=3) sc_odd_ends.nd rfl (by first | exact Or.inl rfl | exact Or.inr rfl))
      (zan (ziM hu (pv 1) (pv 3) (zpV (znS hu (pv 1) (pv 3) zf5 (zri))) rfl)))))
      (zan (zaW (zaB zfX (by rfl) T.sorted boot_sorted (zab (zeh rfl (zpG (zqJ (pv 1))) (zdk (zau zdX) ["roads","odd","road","place"] ["odd","place"] [1] 1 rfl rfl rfl (by decide +kernel) (by decide +kernel) (by decide +kernel) rfl (by decide +kernel) (fun cl C s H fp pins=>(zaF (i:=1) (show List.Nodup (["odd","place"]:List Str) by decide +kernel) rfl (Or.inl rfl))) (fun cl C s H fp pins=>(pv 1)) (Or.inr ⟨_,_,rfl,rfl,fun cl C s H fp pins=>(zeC (zje (by exact hu) (pv 0) (pv 1) (fun _ _=>rfl)))⟩))) zae)))))),zdw (K:=(KX K ad)) (XO:=XO0) (E:=E) (np:=1) (nv:=3) (m:=zg1)
      (zas (zcj zj7)
      (zas (zbI (zeX zam) zat
      (zbI (zqM zam) zat
      (zlI zam (zqg (zoQ zac zam zfV)))))
      (zl5 (zf7 (zgs zlL (zaz ((zcb (zpm zam).c (by decide) zbM zcm (Or.inr ⟨_,_,rfl,rfl,(st_b (zpi zam zam))⟩) zam)).e.r zaK)))))) rfl h⟩
abbrev zbE:Stmt:=ziT (top 9) 0
theorem zdr:FnScope ["self","lengths"] ["self","lengths"] (zau zbE):=⟨rfl,rfl,rfl,by decide +kernel,rfl,by decide +kernel,by decide +kernel⟩
abbrev zbc:Stmt:=ziT (top 9) 1
theorem zcM:FnScope ["self","rest"] ["self","rest"] (zau zbc):=⟨rfl,rfl,rfl,by decide +kernel,rfl,by decide +kernel,by decide +kernel⟩
abbrev zbf:Stmt:=ziT (top 9) 2
theorem sc_KnownPairs_best_with:FnScope ["self","rest","k","others","pair"] ["self","rest","k"] (zau zbf):=⟨rfl,rfl,rfl,by decide +kernel,rfl,by decide +kernel,by decide +kernel⟩
theorem zpy {f:Addr} {fd:FuncData} (F:Fun K "__init__" "KnownPairs.__init__" zbE f fd) (T:Txt K mg ad):FnOk P w K mg base CX0 1 f fd ["self","lengths"] (spIu (KX K ad) 2 ()):=by
  refine F.ok zdr (fun vs H Q E h=>by obtain ⟨d,L,x,dx,F,Hb,lv,rfl,_⟩:=h; rfl) (fun cdv A outer s H vs Q E hr h=>?_)
  have hu:=zb5 hr
  obtain ⟨d,L,h⟩:=h
  exact ⟨_,zaf (zn7 (pv 0) (pv 1) rfl) (zan (zn7 (pv 0) (zn2 (Nat.lt_of_succ_lt hu) (zdx zae) (zdx (zab zak (zab (zdx zae) zae)))) rfl)),i_ok (K:=KX K ad) (c:=2) T.cl_KnownPairs T.na_KnownPairs_lengths T.na_KnownPairs_known h⟩
theorem znc {f:Addr} {fd:FuncData} (F:Fun K "best" "KnownPairs.best" zbc f fd) (T:Txt K mg ad):FnOk P w K mg base CX0 1 f fd ["self","rest"] (spBm (KX K ad) 2 0):=by
  refine F.ok zcM (fun vs H Q E h=>by obtain ⟨d,L,x,kp,dx,r,lv,F,kvs,rest,rfl,_⟩:=h; rfl) (fun cdv A outer s H vs Q E hr h=>?_)
  have hu:=zb5 hr
  obtain ⟨d,L,h⟩:=h
  exact ⟨_,zaf (zcx (zoj (zix hu (pv 1) (zgJ (pv 0) rfl))) zmE zbg) (zan (zaW (zje hu (zgJ (pv 0) rfl) (pv 1) (fun _ _=>rfl)))),zqY (K:=KX K ad) (c:=2) T.cl_KnownPairs T.na_KnownPairs_known h⟩
theorem zpE {f:Addr} {fd:FuncData} {m n:Nat} (hm:m ≤ 6) (F:Fun K "best_with" "KnownPairs.best_with" zbf f fd) (T:Txt K mg ad) (G:HasM P w K mg base CX0 n "best" ad.KnownPairs ["self","rest"] (spBm (KX K ad) 2 m)):FnOk P w K mg base CX0 (n + 1) f fd ["self","rest","k"] (spWm (KX K ad) 2 m):=by
  refine F.ok sc_KnownPairs_best_with (fun vs H Q E h=>by obtain ⟨d,L,x,kp,dx,r,lv,F,kvs,rest,k,rfl,_⟩:=h; rfl) (fun cdv A outer s H vs Q E hr h=>?_)
  obtain ⟨d,L,h⟩:=h
  have G':=G.imp (sp':=spKB (KX K ad) 2 d L m) fun _ _ _ _ z=>⟨d,L,z⟩
  exact ⟨_,zaf (zaE (i:=3) sc_KnownPairs_best_with.nd rfl (by first | exact Or.inl rfl | exact Or.inr rfl) (zjn G' hr zbb (pv 0) (zab (zaP zl7 (zfC zow (pv 1) (zgv zak) (zgv (pv 2))) (zfC zow (pv 1) (zgv (zaP zbm (pv 2) zak)) ziQ)) zae)))
    (zaf (zaE (i:=4) sc_KnownPairs_best_with.nd rfl (by first | exact Or.inl rfl | exact Or.inr rfl) (zdx (zab (zaS zcq (pv 1) zak (fun _ _=>rfl)) (zab (zaS zcq (pv 1) (pv 2) (fun _ _=>rfl)) zae))))
    (zan (zaW (zdx (zab (zaP zbm (zaS zay (zaS zay (zgJ (pv 0) rfl) (zaS zcq (pv 4) zak (fun _ _=>rfl)) (fun _ _=>rfl)) (zaS zcq (pv 4) zak (fun _ _=>rfl)) (fun _ _=>rfl)) (zaS zcq (pv 3) zak (fun _ _=>rfl))) (zab (zaP zl7 (zdx (zab (pv 4) zae)) (zaS zcq (pv 3) zak (fun _ _=>rfl))) zae)))))),
    zrb (K:=KX K ad) (c:=2) T.cl_KnownPairs T.na_KnownPairs_lengths hm h⟩
theorem zoS {f:Addr} {fd:FuncData} {m n:Nat} (hm:m ≤ 6) (F:Fun K "best" "KnownPairs.best" zbc f fd) (T:Txt K mg ad) (G:HasM P w K mg base CX0 n "best_with" ad.KnownPairs ["self","rest","k"] (spWm (KX K ad) 2 m)):FnOk P w K mg base CX0 (n + 1) f fd ["self","rest"] (spBm (KX K ad) 2 (m + 1)):=by
  refine F.ok zcM (fun vs H Q E h=>by obtain ⟨d,L,x,kp,dx,r,lv,F,kvs,rest,rfl,_⟩:=h; rfl) (fun cdv A outer s H vs Q E hr h=>?_)
  have hu:=zb5 hr
  obtain ⟨d,L,h⟩:=h
  have G':=G.imp (sp':=spKW (KX K ad) 2 d L m) fun _ _ _ _ z=>⟨d,L,z⟩
  exact ⟨_,zaf (zcx (zoj (zix hu (pv 1) (zgJ (pv 0) rfl))) (zan (ziM hu (zgJ (pv 0) rfl) (pv 1) (zaB (zlY (ca:=(KX K ad).ca) (an:=(KX K ad).an) hr.units rfl) (by rfl) T.min boot_min (zab (zeh rfl (zlT rfl T.range (zab zak (zab (zaB zaA (by rfl) T.len PySem.boot_len (zab (pv 1) zae)) zae)))
      (zdk (zau zbc) ["self","rest"] ["self","rest","k"] [0,1] 1 rfl rfl rfl (by decide +kernel) (by decide +kernel) (by decide +kernel) rfl (by decide +kernel) (fun cl C s H fp pins=>(zaF (i:=2) (show List.Nodup (["self","rest","k"]:List Str) by decide +kernel) rfl (Or.inl rfl))) (fun cl C s H fp pins=>(zjn (by exact G') (by exact hr) zbb (pv 0) (zab (pv 1) (zab (pv 2) zae)))) (Or.inl ⟨rfl,rfl⟩))) zae)) rfl)) zbg)
    (zan (zaW (zje hu (zgJ (pv 0) rfl) (pv 1) (fun _ _=>rfl)))),b_ok (K:=KX K ad) (c:=2) T.cl_KnownPairs T.na_KnownPairs_known hm h⟩
theorem zq3 {fb fw:Addr} {gb gw:FuncData} (Mb:MethAt K ad.KnownPairs "best" "KnownPairs.best" zbc fb gb) (Mw:MethAt K ad.KnownPairs "best_with" "KnownPairs.best_with" zbf fw gw) (T:Txt K mg ad):HasM P w K mg base CX0 13 "best" ad.KnownPairs ["self","rest"] (spBu (KX K ad) 2 ()):=by
  have bb:=Mb.fn.binds (ps:=["self","rest"]) fun _ _ _ _ _ _ us hl=>match us,hl with | [_,_],_=>rfl
  have bw:=Mw.fn.binds (ps:=["self","rest","k"]) fun _ _ _ _ _ _ us hl=>match us,hl with | [_,_,_],_=>rfl
  have key:∀ m,m ≤ 6→FnOk P w K mg base CX0 (1 + 2 * m) fb gb ["self","rest"] (spBm (KX K ad) 2 m):=by
    intro m
    induction m with
    | zero=>exact fun _=>znc Mb.fn T
    | succ m ih =>
      intro hm
      have Gb:=Mb.hasM T.cl_KnownPairs (ih (by omega)) bb
      have Gw:=Mw.hasM T.cl_KnownPairs (zpE (by omega) Mw.fn T Gb) bw
      exact (zoS (by omega) Mb.fn T Gw).mono (by omega)
  refine Mb.hasM T.cl_KnownPairs ⟨fun vs H Q E h=>?_,fun A outer s H args us vs Q E hr e b v h=>?_⟩ bb
  · obtain ⟨m,hm,h⟩:=h
    exact (key m hm).len vs H Q E h
  · obtain ⟨m,hm,h⟩:=h
    exact ((key m hm).mono (by omega)).run A outer s H args us vs Q E hr e b v h
abbrev zcC:Stmt:=top 10
theorem zfv:FnScope ["lengths","some"] ["lengths","some"] (zau zcC):=⟨rfl,rfl,rfl,by decide +kernel,rfl,by decide +kernel,by decide +kernel⟩
theorem zfu {f:Addr} {fd:FuncData} (F:Fun K "least_pairing" "least_pairing" zcC f fd) (T:Txt K mg ad) (G_look_at:Has P w K mg base CX0 1 "look_at" ["lengths"] (spM (KX K ad) XO0 zbX)) (G_KnownPairs___init__:HasC P w K mg base CX0 1 "KnownPairs" ad.KnownPairs ["self","lengths"] (spIu (KX K ad) 2 ())) (G_KnownPairs_best:HasM P w K mg base CX0 13 "best" ad.KnownPairs ["self","rest"] (spBu (KX K ad) 2 ())):FnOk P w K mg base CX0 14 f fd ["lengths","some"] (spO (KX K ad) XO0 zaD):=by
  refine F.ok zfv (fun vs H Q E h=>zcw h) (fun cdv A outer s H vs Q E hr h=>?_)
  have hu:=zb5 hr
  exact ⟨_,(zaf (zbV (zaN G_look_at (hr.mono (by decide)) (by rfl) zbb (zab (pv 0) zae)))
      (zan (zaW (zbK zbA (by rfl) T.list boot_list (zab (zaS zcq (zjn G_KnownPairs_best (hr.mono (by decide)) zbb (zoN G_KnownPairs___init__ (hr.mono (by decide)) (by rfl) zbb (zab (pv 0) zae)) (zab (zbK zhw (by rfl) T.tuple boot_tuple (zab (zaB zfX (by rfl) T.sorted boot_sorted (zab (pv 1) zae)) zae)) zae)) zak (fun _ _=>rfl)) zae))))),zdw (K:=(KX K ad)) (XO:=XO0) (E:=E) (np:=2) (nv:=0) (m:=zdR)
      (zas (zli (za6 (zad zam zao)))
      (zf7 (zmw (K:=KX K ad) (c:=2)))) rfl h⟩
abbrev zc1:Stmt:=top 14
theorem sc_walked_round:FnScope ["lengths","tree","walked","waiting","place","inner","outer"] ["lengths"] (zau zc1):=⟨rfl,rfl,rfl,by decide +kernel,rfl,by decide +kernel,by decide +kernel⟩
theorem zfJ {f:Addr} {fd:FuncData} (F:Fun K "walked_round" "walked_round" zc1 f fd) (T:Txt K mg ad) (G_least_tree:Has P w K mg base CX0 2 "least_tree" ["lengths"] (spO (KX K ad) XO0 zaY)):FnOk P w K mg base CX0 3 f fd ["lengths"] (spO (KX K ad) XO0 zaU):=by
  refine F.ok sc_walked_round (fun vs H Q E h=>zcw h) (fun cdv A outer s H vs Q E hr h=>?_)
  have hu:=zb5 hr
  exact ⟨_,(zaf (zaE (i:=1) sc_walked_round.nd rfl (by first | exact Or.inl rfl | exact Or.inr rfl) (zaN G_least_tree (hr.mono (by decide)) (by rfl) zbb (zab (pv 0) zae)))
      (zaf (zaE (i:=2) sc_walked_round.nd rfl (by first | exact Or.inl rfl | exact Or.inr rfl) (za8 zae))
      (zaf (zaE (i:=3) sc_walked_round.nd rfl (by first | exact Or.inl rfl | exact Or.inr rfl) (za8 (zab zak zae)))
      (zaf (zfw PassesOwn.never (zaM zmY (zaB zaA (by rfl) T.len PySem.boot_len (zab (pv 3) zae)) zak (za4 _))
      (zaf (zaE (i:=4) sc_walked_round.nd rfl (by first | exact Or.inl rfl | exact Or.inr rfl) (zlO PySem.F.plainAttrs_list PySem.F.slot_list_pop PySem.F.type_list_pop zmO (pv 3)))
      (zaf (zbV (zeV PySem.F.plainAttrs_list PySem.F.slot_list_append PySem.F.type_list_append zbC (pv 2) (zab (pv 4) zae)))
      (zan (zbG PassesOwn.never rfl (zpR rfl T.reversed (zab (pv 1) zae)) (zij rfl (zcc (zaF (i:=5) sc_walked_round.nd rfl (by first | exact Or.inl rfl | exact Or.inr rfl)) (zcc (zaF (i:=6) sc_walked_round.nd rfl (by first | exact Or.inl rfl | exact Or.inr rfl)) zgi)))
      (zan (zcx (zaM zhA (pv 5) (pv 4) (za4 _))
      (zan (zbV (zeV PySem.F.plainAttrs_list PySem.F.slot_list_append PySem.F.type_list_append zbC (pv 3) (zab (pv 6) zae))))
      zbg)))))))
      (zan (zaW (pv 2))))))),zdw (K:=(KX K ad)) (XO:=XO0) (E:=E) (np:=1) (nv:=6) (m:=zd4)
      (zas (za1 ((zaQ (zad zam zao))).e zat)
      (zas (zcj (zaR zao))
      (zas (zcj (zaR (zad se_int zao)))
      (zas (zfD (zaI (zal zm0 ((zb4 zb0 (zaz zac zaK))).r (se_int).r))
      (zas (zlk zat)
      (zas (zbR zam)
      (zbI (zqf (zad zam zao)) (zhU (zb9 zat (zb9 zat zgl)))
      (zcU (zaI (zal zhD zac zac))
      (zbR zam)
      zbs)))))
      zeY)))) rfl h⟩
abbrev zgo:Stmt:=top 16
theorem sc_road_at:FnScope ["roads","place","number","road"] ["roads","place"] (zau zgo):=⟨rfl,rfl,rfl,by decide +kernel,rfl,by decide +kernel,by decide +kernel⟩
theorem zkN {f:Addr} {fd:FuncData} (F:Fun K "road_at" "road_at" zgo f fd) (T:Txt K mg ad)  : FnOk P w K mg base CX0 1 f fd ["roads","place"] (spM (KX K ad) XO0 zch):=by
  refine F.ok sc_road_at (fun vs H Q E h=>zcH h) (fun cdv A outer s H vs Q E hr h=>?_)
  have hu:=zb5 hr
  exact ⟨_,(zaf (zbG PassesOwn.never rfl (zps rfl T.enumerate (zab (pv 0) zae)) (zij rfl (zcc (zaF (i:=2) sc_road_at.nd rfl (by first | exact Or.inl rfl | exact Or.inr rfl)) (zcc (zaF (i:=3) sc_road_at.nd rfl (by first | exact Or.inl rfl | exact Or.inr rfl)) zgi)))
      (zan (zcx (zaM zlc (pv 1) (pv 3) (by with_unfolding_all rfl))
      (zan (zaW (pv 2)))
      zbg)))
      (zan (zaW zoc))),zft (K:=(KX K ad)) (XO:=XO0) (E:=E) (np:=2) (nv:=2) (m:=zin)
      (zas (zbI (zpb (zad zam zao)) (zhU (zb9 zat (zb9 zat zgl)))
      (zcU (zaI (zal zqZ zac zac))
      (zbH zam)
      zbs))
      (zbH zoy)) rfl h⟩
abbrev zeg:Stmt:=top 17
theorem zhQ:FnScope ["road","place"] ["road","place"] (zau zeg):=⟨rfl,rfl,rfl,by decide +kernel,rfl,by decide +kernel,by decide +kernel⟩
theorem ziC {f:Addr} {fd:FuncData} (F:Fun K "other_end" "other_end" zeg f fd) (T:Txt K mg ad)  : FnOk P w K mg base CX0 1 f fd ["road","place"] (spM (KX K ad) XO0 zb3):=by
  refine F.ok zhQ (fun vs H Q E h=>zcH h) (fun cdv A outer s H vs Q E hr h=>?_)
  have hu:=zb5 hr
  exact ⟨_,(zan (zaW (zm7 (zaM zhA (zaS zcq (pv 0) zak (fun _ _=>rfl)) (pv 1) (za4 _)) (zaS zcq (pv 0) zak (fun _ _=>rfl)) (zaS zcq (pv 0) zak (fun _ _=>rfl))))),zft (K:=(KX K ad)) (XO:=XO0) (E:=E) (np:=2) (nv:=0) (m:=zdb)
      (zbH (zrh (zaI (zal zhD ((zal zcp zac (se_int).r)).r zac)) (zal zcp zac (se_int).r) (zal zcp zac (se_int).r))) rfl h⟩
abbrev zdO:Stmt:=top 18
theorem sc_walk_along:FnScope ["roads","left","going","walk","place","number","road"] ["roads"] (zau zdO):=⟨rfl,rfl,rfl,by decide +kernel,rfl,by decide +kernel,by decide +kernel⟩
theorem zhC {f:Addr} {fd:FuncData} (F:Fun K "walk_along" "walk_along" zdO f fd) (T:Txt K mg ad) (G_road_at:Has P w K mg base CX0 1 "road_at" ["roads","place"] (spM (KX K ad) XO0 zch)) (G_other_end:Has P w K mg base CX0 1 "other_end" ["road","place"] (spM (KX K ad) XO0 zb3)):FnOk P w K mg base CX0 2 f fd ["roads"] (spO (KX K ad) XO0 zbO):=by
  refine F.ok sc_walk_along (fun vs H Q E h=>zcw h) (fun cdv A outer s H vs Q E hr h=>?_)
  have hu:=zb5 hr
  exact ⟨_,(zaf (zaE (i:=1) sc_walk_along.nd rfl (by first | exact Or.inl rfl | exact Or.inr rfl) (zbK zbA (by rfl) T.list boot_list (zab (pv 0) zae)))
      (zaf (zaE (i:=2) sc_walk_along.nd rfl (by first | exact Or.inl rfl | exact Or.inr rfl) (za8 (zab zak zae)))
      (zaf (zaE (i:=3) sc_walk_along.nd rfl (by first | exact Or.inl rfl | exact Or.inr rfl) (za8 zae))
      (zaf (zfw PassesOwn.never (zaM zmY (zaB zaA (by rfl) T.len PySem.boot_len (zab (pv 2) zae)) zak (za4 _))
      (zaf (zaE (i:=4) sc_walk_along.nd rfl (by first | exact Or.inl rfl | exact Or.inr rfl) (zaS zay (pv 2) (zkU zgP zak) (fun _ _=>rfl)))
      (zaf (zaE (i:=5) sc_walk_along.nd rfl (by first | exact Or.inl rfl | exact Or.inr rfl) (zaN G_road_at (hr.mono (by decide)) (by rfl) zbb (zab (pv 1) (zab (pv 4) zae))))
      (zan (zcx (zaM zp0 (pv 5) zoc (za4 _))
      (zan (zbV (zeV PySem.F.plainAttrs_list PySem.F.slot_list_append PySem.F.type_list_append zbC (pv 3) (zab (zlO PySem.F.plainAttrs_list PySem.F.slot_list_pop PySem.F.type_list_pop zmO (pv 2)) zae))))
      (zaf (zaE (i:=6) sc_walk_along.nd rfl (by first | exact Or.inl rfl | exact Or.inr rfl) (zeV PySem.F.plainAttrs_list PySem.F.slot_list_pop PySem.F.type_list_pop zn1 (pv 1) (zab (pv 5) zae)))
      (zan (zbV (zeV PySem.F.plainAttrs_list PySem.F.slot_list_append PySem.F.type_list_append zbC (pv 2) (zab (zaN G_other_end (hr.mono (by decide)) (by rfl) zbb (zab (pv 6) (zab (pv 4) zae))) zae))))))))))
      (zan (zaW (pv 3))))))),zdw (K:=(KX K ad)) (XO:=XO0) (E:=E) (np:=1) (nv:=6) (m:=ze8)
      (zas (zcj (zgs zeW (zaz zac zaK)))
      (zas (zcj (zaR (zad se_int zao)))
      (zas (zcj (zaR zao))
      (zas (zfD (zaI (zal zm0 ((zb4 zb0 (zaz zac zaK))).r (se_int).r))
      (zas (za1 (zal zaL zac ((zkk zg2 (se_int).r)).r) zat)
      (zas (za1 (zjz (zi1 (zjF zam zk6))) zat)
      (zcU (zaI (zal zq8 zac (zoy).r))
      zkK
      (zas (zo2 zam zat)
      (zbR (za6 (zad zam (zad zam zao)))))))))
      zeY)))) rfl h⟩
abbrev zdh:Stmt:=top 19
theorem sc_closed_walk:FnScope ["lengths","tree"] ["lengths"] (zau zdh):=⟨rfl,rfl,rfl,by decide +kernel,rfl,by decide +kernel,by decide +kernel⟩
theorem zgD {f:Addr} {fd:FuncData} (F:Fun K "closed_walk" "closed_walk" zdh f fd) (T:Txt K mg ad) (G_least_tree:Has P w K mg base CX0 2 "least_tree" ["lengths"] (spO (KX K ad) XO0 zaY)) (G_odd_ends:Has P w K mg base CX0 1 "odd_ends" ["roads"] (spO (KX K ad) XO0 zba)) (G_least_pairing:Has P w K mg base CX0 14 "least_pairing" ["lengths","some"] (spO (KX K ad) XO0 zaD)) (G_walk_along:Has P w K mg base CX0 2 "walk_along" ["roads"] (spO (KX K ad) XO0 zbO)):FnOk P w K mg base CX0 15 f fd ["lengths"] (spO (KX K ad) XO0 zav):=by
  refine F.ok sc_closed_walk (fun vs H Q E h=>zcw h) (fun cdv A outer s H vs Q E hr h=>?_)
  have hu:=zb5 hr
  exact ⟨_,(zaf (zaE (i:=1) sc_closed_walk.nd rfl (by first | exact Or.inl rfl | exact Or.inr rfl) (zaN G_least_tree (hr.mono (by decide)) (by rfl) zbb (zab (pv 0) zae)))
      (zan (zaW (zaN G_walk_along (hr.mono (by decide)) (by rfl) zbb (zab (zaP zjg (pv 1) (zaN G_least_pairing (hr.mono (by decide)) (by rfl) zbb (zab (pv 0) (zab (zaN G_odd_ends (hr.mono (by decide)) (by rfl) zbb (zab (pv 1) zae)) zae)))) zae))))),zdw (K:=(KX K ad)) (XO:=XO0) (E:=E) (np:=1) (nv:=1) (m:=zeD)
      (zas (za1 ((zaQ (zad zam zao))).e zat)
      (zf7 (zaQ (zad ((zlg zlv zac ((zaQ (zad zam (zad ((zaQ (zad zam zao))).e zao)))).e.r)).e zao)))) rfl h⟩
abbrev zcQ:Stmt:=top 20
theorem sc_paired_round:FnScope ["lengths","first_come","place"] ["lengths"] (zau zcQ):=⟨rfl,rfl,rfl,by decide +kernel,rfl,by decide +kernel,by decide +kernel⟩
theorem zgf {f:Addr} {fd:FuncData} (F:Fun K "paired_round" "paired_round" zcQ f fd) (T:Txt K mg ad) (G_closed_walk:Has P w K mg base CX0 15 "closed_walk" ["lengths"] (spO (KX K ad) XO0 zav)):FnOk P w K mg base CX0 16 f fd ["lengths"] (spO (KX K ad) XO0 zaV):=by
  refine F.ok sc_paired_round (fun vs H Q E h=>zcw h) (fun cdv A outer s H vs Q E hr h=>?_)
  have hu:=zb5 hr
  exact ⟨_,(zaf (zaE (i:=1) sc_paired_round.nd rfl (by first | exact Or.inl rfl | exact Or.inr rfl) zj2)
      (zaf (zbG PassesOwn.never rfl (zcy (zaN G_closed_walk (hr.mono (by decide)) (by rfl) zbb (zab (pv 0) zae))) (zaF (i:=2) sc_paired_round.nd rfl (by first | exact Or.inl rfl | exact Or.inr rfl))
      (zan (ziM hu (pv 1) (pv 2) zf5 rfl)))
      (zan (zaW (zbK (zmA rfl) (by rfl) T.list boot_list (zab (pv 1) zae)))))),zdw (K:=(KX K ad)) (XO:=XO0) (E:=E) (np:=1) (nv:=2) (m:=zd6)
      (zas (zcj zj7)
      (zas (zbI (zeX ((zaQ (zad zam zao))).e) zat
      (zlI zam zfV))
      (zf7 (zm1 zac)))) rfl h⟩
abbrev zct:Stmt:=top 27
theorem zgB:FnScope ["_law_found"] ["_law_found"] (zau zct):=⟨rfl,rfl,rfl,by decide +kernel,rfl,by decide +kernel,by decide +kernel⟩
theorem zgx {f:Addr} {fd:FuncData} (F:Fun K "_law_numbers" "_law_numbers" zct f fd) (T:Txt K mg ad)  : FnOk P w K mg base CX0 1 f fd ["_law_found"] (spM (KX K ad) XO0 zaw):=by
  refine F.ok zgB (fun vs H Q E h=>zcH h) (fun cdv A outer s H vs Q E hr h=>?_)
  have hu:=zb5 hr
  exact ⟨_,(zaf (zcx (zgu (zeC (zaB zcJ (by rfl) T.isinstance boot_isinstance (zab (pv 0) (zab (zjp (v:=.ty "list") (by rfl) T.list boot_list rfl) zae)))))
      (zan (zaW zf5))
      zbg)
      (zan (zaW (zhq zhA (zaB zaA (by rfl) T.len PySem.boot_len (zab (zeh rfl (zcy (pv 0)) (zdk (zau zct) ["_law_found"] ["_law_one"] [] 1 rfl rfl rfl (by decide +kernel) (by decide +kernel) (by decide +kernel) rfl (by decide +kernel) (fun cl C s H fp pins=>(zaF (i:=0) (show List.Nodup (["_law_one"]:List Str) by decide +kernel) rfl (Or.inl rfl))) (fun cl C s H fp pins=>(pv 0)) (Or.inr ⟨_,_,rfl,rfl,fun cl C s H fp pins=>((zp8 (zeC (zaB zcJ (by rfl) T.isinstance boot_isinstance (zab (pv 0) (zab (zjp (v:=.ty "int") (by rfl) T.int boot_int rfl) zae)))) (zo0 (zgu (zeC (zaB zcJ (by rfl) T.isinstance boot_isinstance (zab (pv 0) (zab (zjp (v:=.ty "bool") (by rfl) T.bool boot_bool rfl) zae)))))))).pt⟩))) zae)) (zaB zaA (by rfl) T.len PySem.boot_len (zab (pv 0) zae)) (za4 _))))),zft (K:=(KX K ad)) (XO:=XO0) (E:=E) (np:=1) (nv:=0) (m:=zeL)
      (zas (zcU (zgh (st_b (zlj zlJ zac)))
      (zbH zfV)
      zbs)
      (zbH (zal zhD ((zb4 zb0 (zaz ((zcb (zeA zac) (by decide) zbM zcm (Or.inr ⟨_,_,rfl,rfl,(zqz (st_b (zlj znY zac)) (zgh (st_b (zlj zme zac))))⟩) zam)).e.r zaK))).r ((zb4 zb0 (zaz zac zaK))).r))) rfl h⟩
abbrev zcP:Stmt:=top 28
theorem sc_law_walked:FnScope ["_law_roads","_law_due","_law_left","_law_place"] ["_law_roads"] (zau zcP):=⟨rfl,rfl,rfl,by decide +kernel,rfl,by decide +kernel,by decide +kernel⟩
theorem zhm {f:Addr} {fd:FuncData} (F:Fun K "_law_walked" "_law_walked" zcP f fd) (T:Txt K mg ad)  : FnOk P w K mg base CX0 1 f fd ["_law_roads"] (spO (KX K ad) XO0 zbD):=by
  refine F.ok sc_law_walked (fun vs H Q E h=>zcw h) (fun cdv A outer s H vs Q E hr h=>?_)
  have hu:=zb5 hr
  exact ⟨_,(zaf (zaE (i:=1) sc_law_walked.nd rfl (by first | exact Or.inl rfl | exact Or.inr rfl) (za8 zae))
      (zaf (zaE (i:=2) sc_law_walked.nd rfl (by first | exact Or.inl rfl | exact Or.inr rfl) (za8 (zab zak zae)))
      (zaf (zfw PassesOwn.never (zaM zmY (zaB zaA (by rfl) T.len PySem.boot_len (zab (pv 2) zae)) zak (za4 _))
      (zaf (zaE (i:=3) sc_law_walked.nd rfl (by first | exact Or.inl rfl | exact Or.inr rfl) (zlO PySem.F.plainAttrs_list PySem.F.slot_list_pop PySem.F.type_list_pop zmO (pv 2)))
      (zaf (zbV (zeV PySem.F.plainAttrs_list PySem.F.slot_list_append PySem.F.type_list_append zbC (pv 1) (zab (pv 3) zae)))
      (zan (zaE (i:=2) sc_law_walked.nd rfl (by first | exact Or.inl rfl | exact Or.inr rfl) (zaP zjg (pv 2) (zeh rfl (zcy (zoY (pv 0) (zkU zgP zak))) (zdk (zau zcP) ["_law_roads","_law_due","_law_left","_law_place"] ["_law_place","_law_inner","_law_without"] [3] 2 rfl rfl rfl (by decide +kernel) (by decide +kernel) (by decide +kernel) rfl (by decide +kernel) (fun cl C s H fp pins=>(zij rfl (zcc (zaF (i:=1) (show List.Nodup (["_law_place","_law_inner","_law_without"]:List Str) by decide +kernel) rfl (Or.inl rfl)) (zcc (zaF (i:=2) (show List.Nodup (["_law_place","_law_inner","_law_without"]:List Str) by decide +kernel) rfl (Or.inl rfl)) zgi)))) (fun cl C s H fp pins=>(pv 2)) (Or.inr ⟨_,_,rfl,rfl,fun cl C s H fp pins=>(zaM zhA (pv 1) (pv 0) (za4 _))⟩)))))))))
      (zan (zaW (pv 1)))))),zdw (K:=(KX K ad)) (XO:=XO0) (E:=E) (np:=1) (nv:=3) (m:=zfb)
      (zas (zcj (zaR zao))
      (zas (zcj (zaR (zad se_int zao)))
      (zas (zfD (zaI (zal zm0 ((zb4 zb0 (zaz zac zaK))).r (se_int).r))
      (zas (zlk zat)
      (zas (zbR zam)
      (zcj (zlg zlv zac ((zcb (zeA ((znf zac (zkk zg2 (se_int).r))).e.r) (by decide) (zhU (zb9 zbM (zb9 zbM zgl))) (zqw (zjD zcm (zjD zcm zpp))) (Or.inr ⟨_,_,rfl,rfl,(zaI (zal zhD zac zac))⟩) zam)).e.r)))))
      zeY))) rfl h⟩
abbrev zdV:Stmt:=top 29
theorem sc_law_once:FnScope ["_law_walk","_law_roads","_law_left","_law_k","_law_step"] ["_law_walk","_law_roads"] (zau zdV):=⟨rfl,rfl,rfl,by decide +kernel,rfl,by decide +kernel,by decide +kernel⟩
theorem zi9 {f:Addr} {fd:FuncData} (F:Fun K "_law_once" "_law_once" zdV f fd) (T:Txt K mg ad) (G_law_numbers:Has P w K mg base CX0 1 "_law_numbers" ["_law_found"] (spM (KX K ad) XO0 zaw)):FnOk P w K mg base CX0 2 f fd ["_law_walk","_law_roads"] (spM (KX K ad) XO0 zb8):=by
  refine F.ok sc_law_once (fun vs H Q E h=>zcH h) (fun cdv A outer s H vs Q E hr h=>?_)
  have hu:=zb5 hr
  exact ⟨_,(zaf (zf9 (i:=2) sc_law_once.nd rfl (by first | exact Or.inl rfl | exact Or.inr rfl) rfl (zcy (pv 1)) (zdk (zau zdV) ["_law_walk","_law_roads","_law_left","_law_k","_law_step"] ["_law_road"] [] 1 rfl rfl rfl (by decide +kernel) (by decide +kernel) (by decide +kernel) rfl (by decide +kernel) (fun cl C s H fp pins=>(zaF (i:=0) (show List.Nodup (["_law_road"]:List Str) by decide +kernel) rfl (Or.inl rfl))) (fun cl C s H fp pins=>(zdx (zab (zaB (zjh rfl) (by rfl) (by exact T.min) boot_min (zab (pv 0) zae)) (zab (zaB (zi3 rfl) (by rfl) (by exact T.max) boot_max (zab (pv 0) zae)) zae)))) (Or.inl ⟨rfl,rfl⟩)) rfl)
      (zaf (zcx ((zfp (zgu (zeC (zaN G_law_numbers (hr.mono (by decide)) (by rfl) zbb (zab (pv 0) zae)))) (zfp (zaM zmy (zaB zaA (by rfl) T.len PySem.boot_len (zab (pv 0) zae)) (zaP zbm (zaB zaA (by rfl) T.len PySem.boot_len (zab (pv 1) zae)) zak) (za4 _)) (zfp (zaM zmy (zaS zay (pv 0) zak (fun _ _=>rfl)) zak (za4 _)) (zgI (zaM zmy (zaS zay (pv 0) (zkU zgP zak) (fun _ _=>rfl)) zak (za4 _))))))).pt
      (zan (zaW zf5))
      zbg)
      (zaf (zbG PassesOwn.never rfl (za0 rfl T.range (zab (zaB zaA (by rfl) T.len PySem.boot_len (zab (pv 1) zae)) zae)) (zaF (i:=3) sc_law_once.nd rfl (by first | exact Or.inl rfl | exact Or.inr rfl))
      (zaf (zaE (i:=4) sc_law_once.nd rfl (by first | exact Or.inl rfl | exact Or.inr rfl) (zdx (zab (zaB (zic rfl) (by rfl) T.min boot_min (zab (zaS zay (pv 0) (pv 3) (fun _ _=>rfl)) (zab (zaS zay (pv 0) (zaP zbm (pv 3) zak) (fun _ _=>rfl)) zae))) (zab (zaB (zl1 rfl) (by rfl) T.max boot_max (zab (zaS zay (pv 0) (pv 3) (fun _ _=>rfl)) (zab (zaS zay (pv 0) (zaP zbm (pv 3) zak) (fun _ _=>rfl)) zae))) zae))))
      (zaf (zcx (zaM (zmJ hr.units) (pv 4) (pv 2) (by with_unfolding_all rfl))
      (zan (zaW zf5))
      zbg)
      (zan (zbV (zeV PySem.F.plainAttrs_list PySem.F.slot_list_remove PySem.F.type_list_remove (zkO hr.units) (pv 2) (zab (pv 4) zae)))))))
      (zan (zaW zf5))))),zft (K:=(KX K ad)) (XO:=XO0) (E:=E) (np:=2) (nv:=3) (m:=zgU)
      (zas (zcj (zcb (zeA zac) (by decide) zbM zcm (Or.inl ⟨rfl,rfl⟩) (zgr (zad (zb4 zjC (zaz zac zaK)) (zad (zb4 zjC (zaz zac zaK)) zao)))))
      (zas (zcU (zfn (zgh (st_b (za6 (zad zam zao)))) (zfn (zaI (zal zma ((zb4 zb0 (zaz zac zaK))).r ((zal zbr ((zb4 zb0 (zaz zac zaK))).r (se_int).r)).r)) (zfn (zaI (zal zma ((zal zaL zac (se_int).r)).r (se_int).r)) (zaI (zal zma ((zal zaL zac ((zkk zg2 (se_int).r)).r)).r (se_int).r)))))
      (zbH zfV)
      zbs)
      (zas (zbI (za3 len1 (zad (zb4 zb0 (zaz zac zaK)) zao)) zat
      (zas (za1 (zgr (zad (zb4 zlR (zaz ((zal zaL zac zac)).r (zaz ((zal zaL zac ((zal zbr zac (se_int).r)).r)).r zaK))) (zad (zb4 zo8 (zaz ((zal zaL zac zac)).r (zaz ((zal zaL zac ((zal zbr zac (se_int).r)).r)).r zaK))) zao))) zat)
      (zas (zcU (zaI (zal zmz zac zac))
      (zbH zfV)
      zbs)
      (zkz zam))))
      (zbH zfV)))) rfl h⟩
abbrev zck:Stmt:=top 30
theorem sc_law_first_come:FnScope ["_law_walk","_law_due","_law_place"] ["_law_walk"] (zau zck):=⟨rfl,rfl,rfl,by decide +kernel,rfl,by decide +kernel,by decide +kernel⟩
theorem ze1 {f:Addr} {fd:FuncData} (F:Fun K "_law_first_come" "_law_first_come" zck f fd) (T:Txt K mg ad)  : FnOk P w K mg base CX0 1 f fd ["_law_walk"] (spO (KX K ad) XO0 za7):=by
  refine F.ok sc_law_first_come (fun vs H Q E h=>zcw h) (fun cdv A outer s H vs Q E hr h=>?_)
  have hu:=zb5 hr
  exact ⟨_,(zaf (zaE (i:=1) sc_law_first_come.nd rfl (by first | exact Or.inl rfl | exact Or.inr rfl) (za8 zae))
      (zaf (zbG PassesOwn.never rfl (zcy (pv 0)) (zaF (i:=2) sc_law_first_come.nd rfl (by first | exact Or.inl rfl | exact Or.inr rfl))
      (zan (zcx (zaM zid (pv 2) (pv 1) (by with_unfolding_all rfl))
      (zan (zbV (zeV PySem.F.plainAttrs_list PySem.F.slot_list_append PySem.F.type_list_append zbC (pv 1) (zab (pv 2) zae))))
      zbg)))
      (zan (zaW (pv 1))))),zdw (K:=(KX K ad)) (XO:=XO0) (E:=E) (np:=1) (nv:=2) (m:=zdo)
      (zas (zcj (zaR zao))
      (zas (zbI (zeX zam) zat
      (zcU (zaI (zal zm9 zac zac))
      (zbR zam)
      zbs))
      zeY)) rfl h⟩
abbrev zcL:Stmt:=top 5
theorem zhJ:FnScope ["lengths","way"] ["lengths","way"] (zau zcL):=⟨rfl,rfl,rfl,by decide +kernel,rfl,by decide +kernel,by decide +kernel⟩
theorem zhk {f:Addr} {fd:FuncData} (F:Fun K "way_length" "way_length" zcL f fd) (T:Txt K mg ad)  : FnOk P w K mg base CX0 1 f fd ["lengths","way"] (spM (KX K ad) XO0 za2):=by
  refine F.ok zhJ (fun vs H Q E h=>zcH h) (fun cdv A outer s H vs Q E hr h=>?_)
  have hu:=zb5 hr
  exact ⟨_,(zan (zaW (zaB (zhr rfl) (by rfl) T.sum boot_sum (zab (zeh rfl (za0 rfl T.range (zab (zaP ziB (zaB zaA (by rfl) T.len PySem.boot_len (zab (pv 1) zae)) zak) zae)) (zdk (zau zcL) ["lengths","way"] ["lengths","way","k"] [0,1] 1 rfl rfl rfl (by decide +kernel) (by decide +kernel) (by decide +kernel) rfl (by decide +kernel) (fun cl C s H fp pins=>(zaF (i:=2) (show List.Nodup (["lengths","way","k"]:List Str) by decide +kernel) rfl (Or.inl rfl))) (fun cl C s H fp pins=>(zaS zay (zaS zay (pv 0) (zaS zay (pv 1) (pv 2) (fun _ _=>rfl)) (fun _ _=>rfl)) (zaS zay (pv 1) (zaP zbm (pv 2) zak) (fun _ _=>rfl)) (fun _ _=>rfl))) (Or.inl ⟨rfl,rfl⟩))) zae)))),zft (K:=(KX K ad)) (XO:=XO0) (E:=E) (np:=2) (nv:=0) (m:=zff)
      (zbH (zb4 zqo (zaz ((zcb (za3 len1 (zad (zal zis ((zb4 zb0 (zaz zac zaK))).r (se_int).r) zao)).c (by decide) zbM zcm (Or.inl ⟨rfl,rfl⟩) (zal zaL ((zal zaL zac ((zal zaL zac zac)).r)).r ((zal zaL zac ((zal zbr zac (se_int).r)).r)).r))).e.r zaK))) rfl h⟩
abbrev zcY:Stmt:=top 6
theorem zfK:FnScope ["lengths","way"] ["lengths","way"] (zau zcY):=⟨rfl,rfl,rfl,by decide +kernel,rfl,by decide +kernel,by decide +kernel⟩
theorem zgt {f:Addr} {fd:FuncData} (F:Fun K "round_length" "round_length" zcY f fd) (T:Txt K mg ad) (G_way_length:Has P w K mg base CX0 1 "way_length" ["lengths","way"] (spM (KX K ad) XO0 za2)):FnOk P w K mg base CX0 2 f fd ["lengths","way"] (spM (KX K ad) XO0 za9):=by
  refine F.ok zfK (fun vs H Q E h=>zcH h) (fun cdv A outer s H vs Q E hr h=>?_)
  have hu:=zb5 hr
  exact ⟨_,(zaf (zcx (zaM zhA (zaB zaA (by rfl) T.len PySem.boot_len (zab (pv 1) zae)) zak (za4 _))
      (zan (zaW zak))
      zbg)
      (zan (zaW (zaP zbm (zaN G_way_length (hr.mono (by decide)) (by rfl) zbb (zab (pv 0) (zab (pv 1) zae))) (zaS zay (zaS zay (pv 0) (zaS zay (pv 1) (zkU zgP zak) (fun _ _=>rfl)) (fun _ _=>rfl)) (zaS zay (pv 1) zak (fun _ _=>rfl)) (fun _ _=>rfl)))))),zft (K:=(KX K ad)) (XO:=XO0) (E:=E) (np:=2) (nv:=0) (m:=zd5)
      (zas (zcU (zaI (zal zhD ((zb4 zb0 (zaz zac zaK))).r (se_int).r))
      (zbH se_int)
      zbs)
      (zbH (zal zbr ((za6 (zad zam (zad zam zao)))).r ((zal zaL ((zal zaL zac ((zal zaL zac ((zkk zg2 (se_int).r)).r)).r)).r ((zal zaL zac (se_int).r)).r)).r))) rfl h⟩
abbrev zdY:Stmt:=top 31
theorem sc_law_ways:FnScope ["_law_script","_law_lengths_here","_law_many","_law_way","_law_due","_law_one","_law_other","_law_handed","_law_found"] ["_law_script","_law_lengths_here"] (zau zdY):=⟨rfl,rfl,rfl,by decide +kernel,rfl,by decide +kernel,by decide +kernel⟩
theorem ziL {f:Addr} {fd:FuncData} (F:Fun K "_law_ways" "_law_ways" zdY f fd) (T:Txt K mg ad) (G_law_number:Has P w K mg base CX0 2 "_law_number" ["_law_script","_law_k","_law_top"] (spM (KX K ad) XO0 zaH)) (G_law_numbers:Has P w K mg base CX0 1 "_law_numbers" ["_law_found"] (spM (KX K ad) XO0 zaw)) (G_way_length:Has P w K mg base CX0 1 "way_length" ["lengths","way"] (spM (KX K ad) XO0 za2)) (G_round_length:Has P w K mg base CX0 2 "round_length" ["lengths","way"] (spM (KX K ad) XO0 za9)):FnOk P w K mg base CX0 3 f fd ["_law_script","_law_lengths_here"] (spM (KX K ad) XO0 zcv):=by
  refine F.ok sc_law_ways (fun vs H Q E h=>zcH h) (fun cdv A outer s H vs Q E hr h=>?_)
  have hu:=zb5 hr
  exact ⟨_,(zaf (zaE (i:=2) sc_law_ways.nd rfl (by first | exact Or.inl rfl | exact Or.inr rfl) (zaB zaA (by rfl) T.len PySem.boot_len (zab (pv 1) zae)))
      (zaf (zf9 (i:=3) sc_law_ways.nd rfl (by first | exact Or.inl rfl | exact Or.inr rfl) rfl (za0 rfl T.range (zab (zaP zbm zak (zaN G_law_number (hr.mono (by decide)) (by rfl) zbb (zab (pv 0) (zab zak (zab zak zae))))) zae)) (zdk (zau zdY) ["_law_script","_law_lengths_here","_law_many","_law_way","_law_due","_law_one","_law_other","_law_handed","_law_found"] ["_law_script","_law_many","_law_k"] [0,2] 1 rfl rfl rfl (by decide +kernel) (by decide +kernel) (by decide +kernel) rfl (by decide +kernel) (fun cl C s H fp pins=>(zaF (i:=2) (show List.Nodup (["_law_script","_law_many","_law_k"]:List Str) by decide +kernel) rfl (Or.inl rfl))) (fun cl C s H fp pins=>(zaN G_law_number (hr.mono (by decide)) (by rfl) zbb (zab (pv 0) (zab (zaP zbm zak (pv 2)) (zab (zaP ziB (pv 1) zak) zae))))) (Or.inl ⟨rfl,rfl⟩)) rfl)
      (zaf (zaE (i:=4) sc_law_ways.nd rfl (by first | exact Or.inl rfl | exact Or.inr rfl) zak)
      (zaf (zbG PassesOwn.never rfl (zqH rfl T.zip (zab (zfC zlK (pv 3) ziQ (zgv (zkU zgP zak))) (zab (zfC zlK (pv 3) (zgv zak) ziQ) zae))) (zij rfl (zcc (zaF (i:=5) sc_law_ways.nd rfl (by first | exact Or.inl rfl | exact Or.inr rfl)) (zcc (zaF (i:=6) sc_law_ways.nd rfl (by first | exact Or.inl rfl | exact Or.inr rfl)) zgi)))
      (zan (zaE (i:=4) sc_law_ways.nd rfl (by first | exact Or.inl rfl | exact Or.inr rfl) (zaP zbm (pv 4) (zaS zay (zaS zay (pv 1) (pv 5) (fun _ _=>rfl)) (pv 6) (fun _ _=>rfl))))))
      (zaf (zaE (i:=7) sc_law_ways.nd rfl (by first | exact Or.inl rfl | exact Or.inr rfl) (zbK zbA (by rfl) T.list boot_list (zab (pv 3) zae)))
      (zaf (zaE (i:=8) sc_law_ways.nd rfl (by first | exact Or.inl rfl | exact Or.inr rfl) (za8 (zab (zaN G_way_length (hr.mono (by decide)) (by rfl) zbb (zab (pv 1) (zab (pv 7) zae))) zae)))
      (zaf (zcx ((zfp (zaM (zd1 hr.units) (pv 8) (za8 (zab (pv 4) zae)) (za4 _)) (zfp (zgu (zeC (zaN G_law_numbers (hr.mono (by decide)) (by rfl) zbb (zab (pv 8) zae)))) (zgI (zaM (zd1 hr.units) (pv 7) (pv 3) (za4 _)))))).pt
      (zan (zaW zf5))
      zbg)
      (zaf (zaE (i:=8) sc_law_ways.nd rfl (by first | exact Or.inl rfl | exact Or.inr rfl) (za8 (zab (zaN G_round_length (hr.mono (by decide)) (by rfl) zbb (zab (pv 1) (zab (pv 7) zae))) zae)))
      (zan (zaW (zmg (zhq (zmQ hr.units) (pv 8) (za8 (zab (zaP zbm (pv 4) (zaS zay (zaS zay (pv 1) (zaS zay (pv 3) (zkU zgP zak) (fun _ _=>rfl)) (fun _ _=>rfl)) (zaS zay (pv 3) zak (fun _ _=>rfl)) (fun _ _=>rfl))) zae)) (za4 _)) (zmg (zaN G_law_numbers (hr.mono (by decide)) (by rfl) zbb (zab (pv 8) zae)) (zos (zhq (zmQ hr.units) (pv 7) (pv 3) (za4 _))))))))))))))),zft (K:=(KX K ad)) (XO:=XO0) (E:=E) (np:=2) (nv:=7) (m:=zgK)
      (zas (za1 (zb4 zb0 (zaz zac zaK)) zat)
      (zas (za1 ((zcb (za3 len1 (zad (zal zbr (se_int).r ((za6 (zad zam (zad se_int (zad se_int zao))))).r) zao)).c (by decide) zbM zcm (Or.inl ⟨rfl,rfl⟩) (za6 (zad zam (zad (zal zbr (se_int).r zac) (zad (zal zis zac (se_int).r) zao)))))).e zat)
      (zas (za1 se_int zat)
      (zas (zbI (zqK (zad ((ziy zac zpo (zgp (zkk zg2 (se_int).r)))).e (zad ((ziy zac (zgp se_int) zpo)).e zao))) (zhU (zb9 zat (zb9 zat zgl)))
      (za1 (zal zbr zac ((zal zaL ((zal zaL zac zac)).r zac)).r) zat))
      (zas (za1 ((zgs zeW (zaz zac zaK))).e zat)
      (zas (za1 ((zaR (zad (za6 (zad zam (zad zam zao))) zao))).e zat)
      (zas (zcU (zfn (zaI (zal zd3 zac ((zaR (zad zam zao))).e.r)) (zfn (zgh (st_b (za6 (zad zam zao)))) (zaI (zal zd3 zac zac))))
      (zbH zfV)
      zbs)
      (zas (za1 ((zaR (zad (za6 (zad zam (zad zam zao))) zao))).e zat)
      (zbH (zl2 (zal zmt zac ((zaR (zad (zal zbr zac ((zal zaL ((zal zaL zac ((zal zaL zac ((zkk zg2 (se_int).r)).r)).r)).r ((zal zaL zac (se_int).r)).r)).r) zao))).e.r) (zl2 (za6 (zad zam zao)) (zal zmt zac zac)))))))))))) rfl h⟩
abbrev zgF:Stmt:=top 32
theorem sc_law:FnScope ["_law_script","_law_lengths_here","_law_handed","_law_roads","_law_both","_law_first","_law_walk","_law_found","_law_kept"] ["_law_script"] (zau zgF):=⟨rfl,rfl,rfl,by decide +kernel,rfl,by decide +kernel,by decide +kernel⟩
theorem zqQ {f:Addr} {fd:FuncData} (F:Fun K "law" "law" zgF f fd) (T:Txt K mg ad) (G_law_lengths:Has P w K mg base CX0 4 "_law_lengths" ["_law_script","_law_most"] (spO (KX K ad) XO0 zbu)) (G_least_tree:Has P w K mg base CX0 2 "least_tree" ["lengths"] (spO (KX K ad) XO0 zaY)) (G_odd_ends:Has P w K mg base CX0 1 "odd_ends" ["roads"] (spO (KX K ad) XO0 zba)) (G_least_pairing:Has P w K mg base CX0 14 "least_pairing" ["lengths","some"] (spO (KX K ad) XO0 zaD)) (G_walked_round:Has P w K mg base CX0 3 "walked_round" ["lengths"] (spO (KX K ad) XO0 zaU)) (G_closed_walk:Has P w K mg base CX0 15 "closed_walk" ["lengths"] (spO (KX K ad) XO0 zav)) (G_paired_round:Has P w K mg base CX0 16 "paired_round" ["lengths"] (spO (KX K ad) XO0 zaV)) (G_law_numbers:Has P w K mg base CX0 1 "_law_numbers" ["_law_found"] (spM (KX K ad) XO0 zaw)) (G_law_walked:Has P w K mg base CX0 1 "_law_walked" ["_law_roads"] (spO (KX K ad) XO0 zbD)) (G_law_once:Has P w K mg base CX0 2 "_law_once" ["_law_walk","_law_roads"] (spM (KX K ad) XO0 zb8)) (G_law_first_come:Has P w K mg base CX0 1 "_law_first_come" ["_law_walk"] (spO (KX K ad) XO0 za7)) (G_law_ways:Has P w K mg base CX0 3 "_law_ways" ["_law_script","_law_lengths_here"] (spM (KX K ad) XO0 zcv)):FnOk P w K mg base CX0 17 f fd ["_law_script"] (zj5 K):=by
  refine F.ok sc_law (fun vs H Q E h=>?_) (fun cdv A outer s H vs Q E hr h=>?_)
  · obtain ⟨a,ns,rfl,_⟩:=h
    rfl
  · obtain ⟨a,ns,rfl,hS,hlen,hq⟩:=h
    have hu:=zb5 hr
    exact ⟨_,(zaf (zaE (i:=1) sc_law.nd rfl (by first | exact Or.inl rfl | exact Or.inr rfl) (zaN G_law_lengths (hr.mono (by decide)) (by rfl) zbb (zab (pv 0) (zab (zaP zcE zak (zaP zox zak zak)) zae))))
      (zaf (zf9 (i:=2) sc_law.nd rfl (by first | exact Or.inl rfl | exact Or.inr rfl) rfl (zcy (pv 1)) (zdk (zau zgF) ["_law_script","_law_lengths_here","_law_handed","_law_roads","_law_both","_law_first","_law_walk","_law_found","_law_kept"] ["_law_line"] [] 1 rfl rfl rfl (by decide +kernel) (by decide +kernel) (by decide +kernel) rfl (by decide +kernel) (fun cl C s H fp pins=>(zaF (i:=0) (show List.Nodup (["_law_line"]:List Str) by decide +kernel) rfl (Or.inl rfl))) (fun cl C s H fp pins=>(zbK zbA (by rfl) T.list boot_list (zab (pv 0) zae))) (Or.inl ⟨rfl,rfl⟩)) rfl)
      (zaf (zaE (i:=3) sc_law.nd rfl (by first | exact Or.inl rfl | exact Or.inr rfl) (zaN G_least_tree (hr.mono (by decide)) (by rfl) zbb (zab (pv 1) zae)))
      (zaf (zaE (i:=4) sc_law.nd rfl (by first | exact Or.inl rfl | exact Or.inr rfl) (zaP zjg (pv 3) (zaN G_least_pairing (hr.mono (by decide)) (by rfl) zbb (zab (pv 1) (zab (zaN G_odd_ends (hr.mono (by decide)) (by rfl) zbb (zab (pv 3) zae)) zae)))))
      (zaf (zaE (i:=5) sc_law.nd rfl (by first | exact Or.inl rfl | exact Or.inr rfl) (zaN G_walked_round (hr.mono (by decide)) (by rfl) zbb (zab (pv 2) zae)))
      (zaf (zaE (i:=6) sc_law.nd rfl (by first | exact Or.inl rfl | exact Or.inr rfl) (zaN G_closed_walk (hr.mono (by decide)) (by rfl) zbb (zab (pv 2) zae)))
      (zaf (zaE (i:=7) sc_law.nd rfl (by first | exact Or.inl rfl | exact Or.inr rfl) (zaN G_paired_round (hr.mono (by decide)) (by rfl) zbb (zab (pv 2) zae)))
      (zaf (zcx ((zfp (zgu (zeC (zaN G_law_numbers (hr.mono (by decide)) (by rfl) zbb (zab (pv 5) zae)))) (zfp (zaM (zd1 hr.units) (pv 5) (zaN G_law_walked (hr.mono (by decide)) (by rfl) zbb (zab (pv 3) zae)) (za4 _)) (zgI (zgu (zeC (zaN G_law_once (hr.mono (by decide)) (by rfl) zbb (zab (pv 6) (zab (pv 4) zae))))))))).pt
      (zan (zaW zf5))
      zbg)
      (zaf (zcx ((zfp (zgu (zeC (zaN G_law_numbers (hr.mono (by decide)) (by rfl) zbb (zab (pv 7) zae)))) (zfp (zaM (zd1 hr.units) (pv 7) (zaN G_law_first_come (hr.mono (by decide)) (by rfl) zbb (zab (pv 6) zae)) (za4 _)) (zgI (zaM (zd1 hr.units) (pv 2) (pv 1) (za4 _)))))).pt
      (zan (zaW zf5))
      zbg)
      (zaf (zaE (i:=8) sc_law.nd rfl (by first | exact Or.inl rfl | exact Or.inr rfl) (za8 (zab (zbK zbA (by rfl) T.list boot_list (zab (pv 5) zae)) (zab (zbK zbA (by rfl) T.list boot_list (zab (pv 6) zae)) (zab (zbK zbA (by rfl) T.list boot_list (zab (pv 7) zae)) zae)))))
      (zaf (zcx ((zfp (zaM (zd1 hr.units) (zaN G_closed_walk (hr.mono (by decide)) (by rfl) zbb (zab (pv 1) zae)) (pv 6) (za4 _)) (zfp (zaM (zd1 hr.units) (zaN G_walked_round (hr.mono (by decide)) (by rfl) zbb (zab (za8 (zab (za8 (zab zak zae)) zae)) zae)) (za8 (zab zak zae)) (za4 _)) (zgI (zaM (zd1 hr.units) (zaN G_closed_walk (hr.mono (by decide)) (by rfl) zbb (zab (za8 (zab (za8 (zab zak zae)) zae)) zae)) (za8 (zab zak zae)) (za4 _)))))).pt
      (zan (zaW zf5))
      zbg)
      (zaf (zcx ((zfp (zaM (zd1 hr.units) (zaN G_paired_round (hr.mono (by decide)) (by rfl) zbb (zab (za8 (zab (za8 (zab zak (zab zak zae))) (zab (za8 (zab zak (zab zak zae))) zae))) zae)) (za8 (zab zak (zab zak zae))) (za4 _)) (zgI (zaM (zd1 hr.units) (zaN G_closed_walk (hr.mono (by decide)) (by rfl) zbb (zab (za8 (zab (za8 (zab zak (zab zak zae))) (zab (za8 (zab zak (zab zak zae))) zae))) zae)) (za8 (zab zak (zab zak (zab zak zae)))) (za4 _))))).pt
      (zan (zaW zf5))
      zbg)
      (zan (zaW (zmg (zhq (zmQ hr.units) (za8 (zab (pv 5) (zab (pv 6) (zab (pv 7) zae)))) (pv 8) (za4 _)) (zos (zaN G_law_ways (hr.mono (by decide)) (by rfl) zbb (zab (pv 0) (zab (pv 1) zae))))))))))))))))))),zft (K:=(KX K ad)) (XO:=XO0) (E:=E) (np:=1) (nv:=8) (m:=zqP)
      (zas (za1 ((zaQ (zad zam (zad (zal zdS (se_int).r ((zal zn5 (se_int).r (se_int).r)).r) zao)))).e zat)
      (zas (za1 ((zcb (zeA zac) (by decide) zbM zcm (Or.inl ⟨rfl,rfl⟩) ((zgs zeW (zaz zac zaK))).e)).e zat)
      (zas (za1 ((zaQ (zad zam zao))).e zat)
      (zas (za1 ((zlg zlv zac ((zaQ (zad zam (zad ((zaQ (zad zam zao))).e zao)))).e.r)).e zat)
      (zas (za1 ((zaQ (zad zam zao))).e zat)
      (zas (za1 ((zaQ (zad zam zao))).e zat)
      (zas (za1 ((zaQ (zad zam zao))).e zat)
      (zas (zcU (zfn (zgh (st_b (za6 (zad zam zao)))) (zfn (zaI (zal zd3 zac ((zaQ (zad zam zao))).e.r)) (zgh (st_b (za6 (zad zam (zad zam zao)))))))
      (zbH zfV)
      zbs)
      (zas (zcU (zfn (zgh (st_b (za6 (zad zam zao)))) (zfn (zaI (zal zd3 zac ((zaQ (zad zam zao))).e.r)) (zaI (zal zd3 zac zac))))
      (zbH zfV)
      zbs)
      (zas (za1 ((zaR (zad ((zgs zeW (zaz zac zaK))).e (zad ((zgs zeW (zaz zac zaK))).e (zad ((zgs zeW (zaz zac zaK))).e zao))))).e zat)
      (zas (zcU (zfn (zaI (zal zd3 ((zaQ (zad zam zao))).e.r zac)) (zfn (zaI (zal zd3 ((zaQ (zad ((zaR (zad ((zaR (zad se_int zao))).e zao))).e zao))).e.r ((zaR (zad se_int zao))).e.r)) (zaI (zal zd3 ((zaQ (zad ((zaR (zad ((zaR (zad se_int zao))).e zao))).e zao))).e.r ((zaR (zad se_int zao))).e.r))))
      (zbH zfV)
      zbs)
      (zas (zcU (zfn (zaI (zal zd3 ((zaQ (zad ((zaR (zad ((zaR (zad se_int (zad se_int zao)))).e (zad ((zaR (zad se_int (zad se_int zao)))).e zao)))).e zao))).e.r ((zaR (zad se_int (zad se_int zao)))).e.r)) (zaI (zal zd3 ((zaQ (zad ((zaR (zad ((zaR (zad se_int (zad se_int zao)))).e (zad ((zaR (zad se_int (zad se_int zao)))).e zao)))).e zao))).e.r ((zaR (zad se_int (zad se_int (zad se_int zao))))).e.r)))
      (zbH zfV)
      zbs)
      (zbH (zl2 (zal zmt ((zaR (zad zam (zad zam (zad zam zao))))).e.r zac) (za6 (zad zam (zad zam zao))))))))))))))))) rfl (zpT (f:=zqb) (law_true ns hlen) hS hq)⟩
end
theorem all_mk {l:PySem.W.OpenLaw} {w:World} {K:PySem.W.Frag} {h:Heap} {mg:Str→Option Value} {fa:Addr} (X:K.In h) (G:h.Ns mainGlobals mg) (hfa:mg "law"=some (.ref fa))
    (d0:∃ f fd,DefAt K "_law_cell_at" zdd f fd)
    (d1:∃ f fd,DefAt K "_law_number" zdH f fd)
    (d2:∃ f fd,DefAt K "_law_grid" zc3 f fd)
    (d3:∃ f fd,DefAt K "_law_shortest" zcV f fd)
    (d4:∃ f fd,DefAt K "_law_lengths" zbW f fd)
    (d5:∃ f fd,DefAt K "look_at" zgg f fd)
    (d6:∃ f fd,DefAt K "shortest_road" zcI f fd)
    (d7:∃ f fd,DefAt K "least_tree" zdQ f fd)
    (d8:∃ f fd,DefAt K "odd_ends" zdX f fd)
    (d9:∃ f fd,DefAt K "least_pairing" zcC f fd)
    (d10:∃ f fd,DefAt K "walked_round" zc1 f fd)
    (d11:∃ f fd,DefAt K "road_at" zgo f fd)
    (d12:∃ f fd,DefAt K "other_end" zeg f fd)
    (d13:∃ f fd,DefAt K "walk_along" zdO f fd)
    (d14:∃ f fd,DefAt K "closed_walk" zdh f fd)
    (d15:∃ f fd,DefAt K "paired_round" zcQ f fd)
    (d16:∃ f fd,DefAt K "_law_numbers" zct f fd)
    (d17:∃ f fd,DefAt K "_law_walked" zcP f fd)
    (d18:∃ f fd,DefAt K "_law_once" zdV f fd)
    (d19:∃ f fd,DefAt K "_law_first_come" zck f fd)
    (d20:∃ f fd,DefAt K "way_length" zcL f fd)
    (d21:∃ f fd,DefAt K "round_length" zcY f fd)
    (d22:∃ f fd,DefAt K "_law_ways" zdY f fd)
    {fL:Addr} {oc:Value} {od an:Option Addr} {osl:Array (Option Value)} {kV doc pm cdv ct:Value} (aL:PySem.W.nsIn K mainGlobals "law"=some (some (.ref fL)))
    (lL:K.lookup fL=some ⟨oc,od,.func (PySem.W.fnOf "law" "law" (zdK zgF) (zc9 zgF) (zau zgF) .none kV doc pm an cdv ct),osl⟩) (cL:PySem.W.codeIn K cdv "law"=true) (kL:PySem.W.keepIn K (.ref fL)=true)
    (z0:PySem.W.nsIn K mainGlobals "len"=some none)
    (z1:PySem.W.nsIn K mainGlobals "abs"=some none)
    (z2:PySem.W.nsIn K mainGlobals "isinstance"=some none)
    (z3:PySem.W.nsIn K mainGlobals "list"=some none)
    (z4:PySem.W.nsIn K mainGlobals "sum"=some none)
    (z5:PySem.W.nsIn K mainGlobals "int"=some none)
    (z6:PySem.W.nsIn K mainGlobals "bool"=some none)
    (z7:PySem.W.nsIn K mainGlobals "tuple"=some none)
    (z8:PySem.W.nsIn K mainGlobals "range"=some none)
    (z9:PySem.W.nsIn K mainGlobals "enumerate"=some none)
    (z10:PySem.W.nsIn K mainGlobals "reversed"=some none)
    (z11:PySem.W.nsIn K mainGlobals "max"=some none)
    (z12:PySem.W.nsIn K mainGlobals "min"=some none)
    (z13:PySem.W.nsIn K mainGlobals "sorted"=some none)
    (z14:PySem.W.nsIn K mainGlobals "zip"=some none)
    {cKnownPairs:Addr}
    (un_KnownPairs:PySem.W.nsIn K mainGlobals "KnownPairs"=some (some (.ref cKnownPairs)))
    (pzn:PySem.W.specialIn K (.builtin "object.__class__") "__get__"=some (some (.builtin "getset_descriptor.__get__")))
    (pzt:PySem.W.takesIn K (.builtin "object.__class__")=some true)
    (phd_KnownPairs:PySem.W.hasDictIn K cKnownPairs=true)
    (ppg_KnownPairs:PySem.W.plainGet K cKnownPairs Str.empty=true)
    (ppo_KnownPairs:PySem.W.plainOver K cKnownPairs=true)
    (psa_KnownPairs:PySem.W.findIn K (.ref cKnownPairs) "__setattr__"=some (some (.builtin "object.__setattr__")))
    (pna_KnownPairs_known:PySem.W.findIn K (.ref cKnownPairs) "known"=some none)
    (pna_KnownPairs_lengths:PySem.W.findIn K (.ref cKnownPairs) "lengths"=some none)
    (pmk_KnownPairs:PySem.W.makesIn K cKnownPairs=true)
    (pkp_KnownPairs:PySem.W.keepIn K (.ref cKnownPairs)=true)
    (dm_KnownPairs___init__:∃ f fd,MethAt K cKnownPairs "__init__" "KnownPairs.__init__" zbE f fd)
    (dm_KnownPairs_best_with:∃ f fd,MethAt K cKnownPairs "best_with" "KnownPairs.best_with" zbf f fd)
    (dm_KnownPairs_best:∃ f fd,MethAt K cKnownPairs "best" "KnownPairs.best" zbc f fd)
    : ∃ fd:FuncData,(∀ (s:Shared) (v:Value),BindsTo s fd ⟨[v],[]⟩ [("_law_script",v)])∧∀ base:Heap,K.In base→base.Ns mainGlobals mg→FnOk l.prog w K mg base CX0 17 fa fd ["_law_script"] (zj5 K):=by
  have e:=hfa.symm.trans (PySem.W.mg_of X G aL)
  cases e
  let ad:Adr:=⟨cKnownPairs⟩
  have T:Txt K mg ad:=⟨PySem.W.mg_none_of X G z0,PySem.W.mg_none_of X G z1,PySem.W.mg_none_of X G z2,PySem.W.mg_none_of X G z3,PySem.W.mg_none_of X G z4,PySem.W.mg_none_of X G z5,PySem.W.mg_none_of X G z6,PySem.W.mg_none_of X G z7,PySem.W.mg_none_of X G z8,PySem.W.mg_none_of X G z9,PySem.W.mg_none_of X G z10,PySem.W.mg_none_of X G z11,PySem.W.mg_none_of X G z12,PySem.W.mg_none_of X G z13,PySem.W.mg_none_of X G z14,PySem.W.mg_of X G un_KnownPairs,⟨ppg_KnownPairs,phd_KnownPairs,ppo_KnownPairs,psa_KnownPairs⟩,pna_KnownPairs_known,pna_KnownPairs_lengths⟩
  obtain ⟨f0,g0,D0⟩:=d0
  obtain ⟨f1,g1,D1⟩:=d1
  obtain ⟨f2,g2,D2⟩:=d2
  obtain ⟨f3,g3,D3⟩:=d3
  obtain ⟨f4,g4,D4⟩:=d4
  obtain ⟨f5,g5,D5⟩:=d5
  obtain ⟨f6,g6,D6⟩:=d6
  obtain ⟨f7,g7,D7⟩:=d7
  obtain ⟨f8,g8,D8⟩:=d8
  obtain ⟨f9,g9,D9⟩:=d9
  obtain ⟨f10,g10,D10⟩:=d10
  obtain ⟨f11,g11,D11⟩:=d11
  obtain ⟨f12,g12,D12⟩:=d12
  obtain ⟨f13,g13,D13⟩:=d13
  obtain ⟨f14,g14,D14⟩:=d14
  obtain ⟨f15,g15,D15⟩:=d15
  obtain ⟨f16,g16,D16⟩:=d16
  obtain ⟨f17,g17,D17⟩:=d17
  obtain ⟨f18,g18,D18⟩:=d18
  obtain ⟨f19,g19,D19⟩:=d19
  obtain ⟨f20,g20,D20⟩:=d20
  obtain ⟨f21,g21,D21⟩:=d21
  obtain ⟨f22,g22,D22⟩:=d22
  obtain ⟨f_KnownPairs___init__,g_KnownPairs___init__,D_KnownPairs___init__⟩:=dm_KnownPairs___init__
  obtain ⟨f_KnownPairs_best_with,g_KnownPairs_best_with,D_KnownPairs_best_with⟩:=dm_KnownPairs_best_with
  obtain ⟨f_KnownPairs_best,g_KnownPairs_best,D_KnownPairs_best⟩:=dm_KnownPairs_best
  have FL:=zmG (st:=zgF) lL cL kL
  refine ⟨PySem.W.fnOf "law" "law" (zdK zgF) (zc9 zgF) (zau zgF) .none kV doc pm an cdv ct,fun s v=>.of_eq rfl,fun base _ _=>?_⟩
  have G_KnownPairs___init__:HasC l.prog w K mg base CX0 1 "KnownPairs" ad.KnownPairs ["self","lengths"] (spIu (KX K ad) 2 ()):=D_KnownPairs___init__.hasC pmk_KnownPairs pkp_KnownPairs T.m_KnownPairs (zpy D_KnownPairs___init__.fn T) (D_KnownPairs___init__.fn.binds fun _ _ _ _ _ _ us hl=>match us,hl with | [_,_],_=>rfl)
  have G_KnownPairs_best:HasM l.prog w K mg base CX0 13 "best" ad.KnownPairs ["self","rest"] (spBu (KX K ad) 2 ()):=zq3 D_KnownPairs_best D_KnownPairs_best_with T
  have G_law_cell_at:Has l.prog w K mg base CX0 1 "_law_cell_at" ["_law_script","_law_k"] (spM (KX K ad) XO0 zaJ):=D0.has X G (zgz D0.fn T  ) (D0.fn.binds fun _ _ _ _ _ _ us hl=>match us,hl with | [_,_],_=>rfl)
  have G_law_number:Has l.prog w K mg base CX0 2 "_law_number" ["_law_script","_law_k","_law_top"] (spM (KX K ad) XO0 zaH):=D1.has X G (zhI D1.fn T  G_law_cell_at) (D1.fn.binds fun _ _ _ _ _ _ us hl=>match us,hl with | [_,_,_],_=>rfl)
  have G_law_grid:Has l.prog w K mg base CX0 3 "_law_grid" ["_law_script","_law_many","_law_top"] (spO (KX K ad) XO0 zb1):=D2.has X G (ziP D2.fn T  G_law_number) (D2.fn.binds fun _ _ _ _ _ _ us hl=>match us,hl with | [_,_,_],_=>rfl)
  have G_law_shortest:Has l.prog w K mg base CX0 1 "_law_shortest" ["_law_lengths_here"] (spT (KX K ad) XO0 zbj):=D3.has X G (zfI D3.fn T  ) (D3.fn.binds fun _ _ _ _ _ _ us hl=>match us,hl with | [_],_=>rfl)
  have G_law_lengths:Has l.prog w K mg base CX0 4 "_law_lengths" ["_law_script","_law_most"] (spO (KX K ad) XO0 zbu):=D4.has X G (zgy D4.fn T  G_law_cell_at G_law_number G_law_grid G_law_shortest) (D4.fn.binds fun _ _ _ _ _ _ us hl=>match us,hl with | [_,_],_=>rfl)
  have G_look_at:Has l.prog w K mg base CX0 1 "look_at" ["lengths"] (spM (KX K ad) XO0 zbX):=D5.has X G (zkg D5.fn T  ) (D5.fn.binds fun _ _ _ _ _ _ us hl=>match us,hl with | [_],_=>rfl)
  have G_shortest_road:Has l.prog w K mg base CX0 1 "shortest_road" ["lengths","within","without"] (spM (KX K ad) XO0 zbq):=D6.has X G (zfq D6.fn T  ) (D6.fn.binds fun _ _ _ _ _ _ us hl=>match us,hl with | [_,_,_],_=>rfl)
  have G_least_tree:Has l.prog w K mg base CX0 2 "least_tree" ["lengths"] (spO (KX K ad) XO0 zaY):=D7.has X G (zhg D7.fn T  G_look_at G_shortest_road) (D7.fn.binds fun _ _ _ _ _ _ us hl=>match us,hl with | [_],_=>rfl)
  have G_odd_ends:Has l.prog w K mg base CX0 1 "odd_ends" ["roads"] (spO (KX K ad) XO0 zba):=D8.has X G (ziX D8.fn T  ) (D8.fn.binds fun _ _ _ _ _ _ us hl=>match us,hl with | [_],_=>rfl)
  have G_least_pairing:Has l.prog w K mg base CX0 14 "least_pairing" ["lengths","some"] (spO (KX K ad) XO0 zaD):=D9.has X G (zfu D9.fn T  G_look_at G_KnownPairs___init__ G_KnownPairs_best) (D9.fn.binds fun _ _ _ _ _ _ us hl=>match us,hl with | [_,_],_=>rfl)
  have G_walked_round:Has l.prog w K mg base CX0 3 "walked_round" ["lengths"] (spO (KX K ad) XO0 zaU):=D10.has X G (zfJ D10.fn T  G_least_tree) (D10.fn.binds fun _ _ _ _ _ _ us hl=>match us,hl with | [_],_=>rfl)
  have G_road_at:Has l.prog w K mg base CX0 1 "road_at" ["roads","place"] (spM (KX K ad) XO0 zch):=D11.has X G (zkN D11.fn T  ) (D11.fn.binds fun _ _ _ _ _ _ us hl=>match us,hl with | [_,_],_=>rfl)
  have G_other_end:Has l.prog w K mg base CX0 1 "other_end" ["road","place"] (spM (KX K ad) XO0 zb3):=D12.has X G (ziC D12.fn T  ) (D12.fn.binds fun _ _ _ _ _ _ us hl=>match us,hl with | [_,_],_=>rfl)
  have G_walk_along:Has l.prog w K mg base CX0 2 "walk_along" ["roads"] (spO (KX K ad) XO0 zbO):=D13.has X G (zhC D13.fn T  G_road_at G_other_end) (D13.fn.binds fun _ _ _ _ _ _ us hl=>match us,hl with | [_],_=>rfl)
  have G_closed_walk:Has l.prog w K mg base CX0 15 "closed_walk" ["lengths"] (spO (KX K ad) XO0 zav):=D14.has X G (zgD D14.fn T  G_least_tree G_odd_ends G_least_pairing G_walk_along) (D14.fn.binds fun _ _ _ _ _ _ us hl=>match us,hl with | [_],_=>rfl)
  have G_paired_round:Has l.prog w K mg base CX0 16 "paired_round" ["lengths"] (spO (KX K ad) XO0 zaV):=D15.has X G (zgf D15.fn T  G_closed_walk) (D15.fn.binds fun _ _ _ _ _ _ us hl=>match us,hl with | [_],_=>rfl)
  have G_law_numbers:Has l.prog w K mg base CX0 1 "_law_numbers" ["_law_found"] (spM (KX K ad) XO0 zaw):=D16.has X G (zgx D16.fn T  ) (D16.fn.binds fun _ _ _ _ _ _ us hl=>match us,hl with | [_],_=>rfl)
  have G_law_walked:Has l.prog w K mg base CX0 1 "_law_walked" ["_law_roads"] (spO (KX K ad) XO0 zbD):=D17.has X G (zhm D17.fn T  ) (D17.fn.binds fun _ _ _ _ _ _ us hl=>match us,hl with | [_],_=>rfl)
  have G_law_once:Has l.prog w K mg base CX0 2 "_law_once" ["_law_walk","_law_roads"] (spM (KX K ad) XO0 zb8):=D18.has X G (zi9 D18.fn T  G_law_numbers) (D18.fn.binds fun _ _ _ _ _ _ us hl=>match us,hl with | [_,_],_=>rfl)
  have G_law_first_come:Has l.prog w K mg base CX0 1 "_law_first_come" ["_law_walk"] (spO (KX K ad) XO0 za7):=D19.has X G (ze1 D19.fn T  ) (D19.fn.binds fun _ _ _ _ _ _ us hl=>match us,hl with | [_],_=>rfl)
  have G_way_length:Has l.prog w K mg base CX0 1 "way_length" ["lengths","way"] (spM (KX K ad) XO0 za2):=D20.has X G (zhk D20.fn T  ) (D20.fn.binds fun _ _ _ _ _ _ us hl=>match us,hl with | [_,_],_=>rfl)
  have G_round_length:Has l.prog w K mg base CX0 2 "round_length" ["lengths","way"] (spM (KX K ad) XO0 za9):=D21.has X G (zgt D21.fn T  G_way_length) (D21.fn.binds fun _ _ _ _ _ _ us hl=>match us,hl with | [_,_],_=>rfl)
  have G_law_ways:Has l.prog w K mg base CX0 3 "_law_ways" ["_law_script","_law_lengths_here"] (spM (KX K ad) XO0 zcv):=D22.has X G (ziL D22.fn T  G_law_number G_law_numbers G_way_length G_round_length) (D22.fn.binds fun _ _ _ _ _ _ us hl=>match us,hl with | [_,_],_=>rfl)
  exact zqQ FL T G_law_lengths G_least_tree G_odd_ends G_least_pairing G_walked_round G_closed_walk G_paired_round G_law_numbers G_law_walked G_law_once G_law_first_come G_law_ways
theorem walk {l:PySem.W.OpenLaw} {q:Program} {loose:List Str} {XP:(Str→Option Value)→Heap→Prop} {YP:World→Heap→Prop} {d:DefRec} {K:Params→PySem.W.Frag} (hn:l.most=some 63) (hdf:d.params.defaults = [])
    (hY:∀ (w:World) (h:Heap),YP w h→(K w.params).In h) (hT:∀ w:World,tabOf (K w.params)=none)
    (F:∀ (w:World) (mg:Str→Option Value) (fa:Addr) (h:Heap),(K w.params).In h→h.Ns mainGlobals mg→mg d.name=some (.ref fa) →
      ∃ fd:FuncData,(∀ (s:Shared) (u:Value),BindsTo s fd ⟨[u],[]⟩ [("_law_script",u)])∧∀ base:Heap,(K w.params).In base→base.Ns mainGlobals mg→FnOk l.prog w (K w.params) mg base CX0 17 fa fd ["_law_script"] (zj5 (K w.params))) :
    PySem.W.WalkO q loose XP YP l.row.toRowW d [] (fun f vs=>PySem.call f vs) :=
  L2.walk_of (n:=63) (k:=17) (x:="_law_script") (CX:=fun _=>CX0) (sp:=fun w=>zj5 (K w.params)) hn (by decide) hdf ⟨rfl,by decide,by decide⟩ hY hT F (fun _ _ a ns hl _ hS=>⟨a,ns,rfl,hS,hl,fun _=>rfl⟩) fun _ _ _ _ _ z=>z
end My
def PySem.W.Fast.tw17862913583623594332:Nat:=0
def PySem.W.Fast.tw4492121551061255465:Nat:=0
def PySem.W.Fast.tw15050019516085049163:Nat:=0
def PySem.W.Fast.tw13209499969946270881:Nat:=0
def PySem.W.Fast.tw10261678260241208711:Nat:=0
def PySem.W.Fast.tw11429481251206192191:Nat:=0
def PySem.W.Fast.tw5960172790227818225:Nat:=0
def PySem.W.Fast.tw1000512784513109120:Nat:=0
def PySem.W.Fast.tw16502571620419893254:Nat:=0
def PySem.W.Fast.tw3314060828297247593:Nat:=0
open PySem PySem.W PyProof.Rows
set_option maxRecDepth 100000 in
set_option maxHeartbeats 0 in
theorem PySem.Challenge.cw_goodenough_k18_walks_holds : PySem.Challenge.rw_goodenough_k18_walks.Holds := by
  w_on; o_law; k_head; (case hw=>w_witness2)
  k_fill
  refine My.walk (l:=PySem.Challenge.rw_goodenough_k18_walks) rfl rfl (fun w h Y=>by first | exact PySem.W.kIn_of Y | exact PySem.W.km_in_of Y) ?tab ?F
  (case tab=>intro w; kernel_rfl)
  case F =>
    intro w mg fa h KX G hmg
    refine' My.all_mk KX G hmg (L2.defAt_mk ?a0 ?l0 ?c0 ?k0) (L2.defAt_mk ?a1 ?l1 ?c1 ?k1) (L2.defAt_mk ?a2 ?l2 ?c2 ?k2) (L2.defAt_mk ?a3 ?l3 ?c3 ?k3) (L2.defAt_mk ?a4 ?l4 ?c4 ?k4) (L2.defAt_mk ?a5 ?l5 ?c5 ?k5) (L2.defAt_mk ?a6 ?l6 ?c6 ?k6) (L2.defAt_mk ?a7 ?l7 ?c7 ?k7) (L2.defAt_mk ?a8 ?l8 ?c8 ?k8) (L2.defAt_mk ?a9 ?l9 ?c9 ?k9) (L2.defAt_mk ?a10 ?l10 ?c10 ?k10) (L2.defAt_mk ?a11 ?l11 ?c11 ?k11) (L2.defAt_mk ?a12 ?l12 ?c12 ?k12) (L2.defAt_mk ?a13 ?l13 ?c13 ?k13) (L2.defAt_mk ?a14 ?l14 ?c14 ?k14) (L2.defAt_mk ?a15 ?l15 ?c15 ?k15) (L2.defAt_mk ?a16 ?l16 ?c16 ?k16) (L2.defAt_mk ?a17 ?l17 ?c17 ?k17) (L2.defAt_mk ?a18 ?l18 ?c18 ?k18) (L2.defAt_mk ?a19 ?l19 ?c19 ?k19) (L2.defAt_mk ?a20 ?l20 ?c20 ?k20) (L2.defAt_mk ?a21 ?l21 ?c21 ?k21) (L2.defAt_mk ?a22 ?l22 ?c22 ?k22) ?aL ?lL ?cL ?kL ?z0 ?z1 ?z2 ?z3 ?z4 ?z5 ?z6 ?z7 ?z8 ?z9 ?z10 ?z11 ?z12 ?z13 ?z14 ?un_KnownPairs ?pzn ?pzt ?phd_KnownPairs ?ppg_KnownPairs ?ppo_KnownPairs ?psa_KnownPairs ?pna_KnownPairs_known ?pna_KnownPairs_lengths ?pmk_KnownPairs ?pkp_KnownPairs (L2.methAt_mk ?ma0 ?mi0 ?ml0 ?mc0 ?mk0) (L2.methAt_mk ?ma1 ?mi1 ?ml1 ?mc1 ?mk1) (L2.methAt_mk ?ma2 ?mi2 ?ml2 ?mc2 ?mk2)
    (case a0=>k_is); (case l0=>k_is); (case c0=>k_is); (case k0=>k_is)
    (case a1=>k_is); (case l1=>k_is); (case c1=>k_is); (case k1=>k_is)
    (case a2=>k_is); (case l2=>k_is); (case c2=>k_is); (case k2=>k_is)
    (case a3=>k_is); (case l3=>k_is); (case c3=>k_is); (case k3=>k_is)
    (case a4=>k_is); (case l4=>k_is); (case c4=>k_is); (case k4=>k_is)
    (case a5=>k_is); (case l5=>k_is); (case c5=>k_is); (case k5=>k_is)
    (case a6=>k_is); (case l6=>k_is); (case c6=>k_is); (case k6=>k_is)
    (case a7=>k_is); (case l7=>k_is); (case c7=>k_is); (case k7=>k_is)
    (case a8=>k_is); (case l8=>k_is); (case c8=>k_is); (case k8=>k_is)
    (case a9=>k_is); (case l9=>k_is); (case c9=>k_is); (case k9=>k_is)
    (case a10=>k_is); (case l10=>k_is); (case c10=>k_is); (case k10=>k_is)
    (case a11=>k_is); (case l11=>k_is); (case c11=>k_is); (case k11=>k_is)
    (case a12=>k_is); (case l12=>k_is); (case c12=>k_is); (case k12=>k_is)
    (case a13=>k_is); (case l13=>k_is); (case c13=>k_is); (case k13=>k_is)
    (case a14=>k_is); (case l14=>k_is); (case c14=>k_is); (case k14=>k_is)
    (case a15=>k_is); (case l15=>k_is); (case c15=>k_is); (case k15=>k_is)
    (case a16=>k_is); (case l16=>k_is); (case c16=>k_is); (case k16=>k_is)
    (case a17=>k_is); (case l17=>k_is); (case c17=>k_is); (case k17=>k_is)
    (case a18=>k_is); (case l18=>k_is); (case c18=>k_is); (case k18=>k_is)
    (case a19=>k_is); (case l19=>k_is); (case c19=>k_is); (case k19=>k_is)
    (case a20=>k_is); (case l20=>k_is); (case c20=>k_is); (case k20=>k_is)
    (case a21=>k_is); (case l21=>k_is); (case c21=>k_is); (case k21=>k_is)
    (case a22=>k_is); (case l22=>k_is); (case c22=>k_is); (case k22=>k_is)
    (case aL=>k_is); (case lL=>k_is); (case cL=>k_is); (case kL=>k_is)
    (case z0=>k_is)
    (case z1=>k_is)
    (case z2=>k_is)
    (case z3=>k_is)
    (case z4=>k_is)
    (case z5=>k_is)
    (case z6=>k_is)
    (case z7=>k_is)
    (case z8=>k_is)
    (case z9=>k_is)
    (case z10=>k_is)
    (case z11=>k_is)
    (case z12=>k_is)
    (case z13=>k_is)
    (case z14=>k_is)
    (case un_KnownPairs=>k_is)
    (case pzn=>k_is)
    (case pzt=>k_is)
    (case phd_KnownPairs=>k_is)
    (case ppg_KnownPairs=>k_is)
    (case ppo_KnownPairs=>k_is)
    (case psa_KnownPairs=>k_is)
    (case pna_KnownPairs_known=>k_is)
    (case pna_KnownPairs_lengths=>k_is)
    (case pmk_KnownPairs=>k_is)
    (case pkp_KnownPairs=>k_is)
    (case ma0=>k_is); (case mi0=>k_is); (case ml0=>k_is); (case mc0=>k_is); (case mk0=>k_is)
    (case ma1=>k_is); (case mi1=>k_is); (case ml1=>k_is); (case mc1=>k_is); (case mk1=>k_is)
    (case ma2=>k_is); (case mi2=>k_is); (case ml2=>k_is); (case mc2=>k_is); (case mk2=>k_is)
#print axioms PySem.Challenge.cw_goodenough_k18_walks_holds
