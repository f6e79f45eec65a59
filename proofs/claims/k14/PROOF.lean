import PyProof.Rows.All
import Wide.All
import OpenK.AllK
import Wide.FinOn
import Lean
import PyProof.EqAt
import PyProof.EqKinds
import PyProof.TupleCall
import PySem.Challenge.RW_goodenough_k14_lengths_refused
set_option Elab.async false
set_option linter.all false
set_option maxRecDepth 100000
set_option maxHeartbeats 4000000
noncomputable section
namespace L2
open PySem PySem.Spec PyProof.Rows
abbrev Key:=Sum Int Str
def zku:Key→Value→Bool
  | .inl k,v=>Value.isInt k v
  | .inr x,v=>Value.isStrOf x v
def keyH (w:World):Key→Int
  | .inl k=>hashInt k
  | .inr x=>hashStr w x
theorem zbg:∀ {k:Key} {v:Value},zku k v=true→(∃ i t,k=Sum.inl i∧v=Value.int i t)∨(∃ x t,k=Sum.inr x∧v=Value.str x t)
  | .inl i,v,h=>by
    obtain ⟨t,e⟩:=Value.isInt_shape (k:=i) (v:=v) h
    exact .inl ⟨i,t,rfl,e⟩
  | .inr x,v,h=>by
    obtain ⟨t,e⟩:=Value.isStrOf_shape (x:=x) (v:=v) h
    exact .inr ⟨x,t,rfl,e⟩
theorem zmz (i:Int) (t:Tok):zku (.inl i) (.int i t)=true:=by simp [zku,Value.isInt]
theorem zmI (x:Str) (t:Tok):zku (.inr x) (.str x t)=true:=by simp [zku,Value.isStrOf]
theorem zpB (a b:Int):decide ((Sum.inl a:Key)=Sum.inl b)=(a == b):=by
  by_cases e:a=b
  · subst e; simp
  · have h:¬ (Sum.inl a:Key)=Sum.inl b:=fun q=>e (Sum.inl.inj q)
    rw [decide_eq_false h]
    exact (beq_eq_false_iff_ne.mpr e).symm
theorem zqG (a b:Str):decide ((Sum.inr a:Key)=Sum.inr b)=decide (a=b):=by
  by_cases e:a=b
  · subst e; simp
  · have h:¬ (Sum.inr a:Key)=Sum.inr b:=fun q=>e (Sum.inr.inj q)
    rw [decide_eq_false h,decide_eq_false e]
theorem zqf (a:Int) (b:Str):decide ((Sum.inl a:Key)=Sum.inr b)=false:=decide_eq_false (fun q=>nomatch q)
theorem zqB (a:Str) (b:Int):decide ((Sum.inr a:Key)=Sum.inl b)=false:=decide_eq_false (fun q=>nomatch q)
def zbs (prog:Program) (w:World):PySem.KeyKind prog w Key where
  is:=zku
  hash:=keyH w
  inj:=fun v a b ha hb=>by
    rcases zbg ha with ⟨i,t,rfl,rfl⟩ | ⟨x,t,rfl,rfl⟩
    · rcases zbg hb with ⟨j,u,rfl,e⟩ | ⟨y,u,rfl,e⟩
      · injection e with e1 _; rw [e1]
      · exact nomatch e
    · rcases zbg hb with ⟨j,u,rfl,e⟩ | ⟨y,u,rfl,e⟩
      · exact nomatch e
      · injection e with e1 _; rw [e1]
  byValue:=fun k v h=>by
    rcases zbg h with ⟨i,t,rfl,rfl⟩ | ⟨x,t,rfl,rfl⟩ <;> rfl
  pyHash:=fun hv h=>by
    rcases zbg hv with ⟨i,t,rfl,rfl⟩ | ⟨x,t,rfl,rfl⟩
    · exact wpAny_pyHash_int h
    · exact wpAny_pyHash_str h
  eqBool:=fun hu hv h=>by
    rcases zbg hu with ⟨i,t,rfl,rfl⟩ | ⟨x,t,rfl,rfl⟩
    · rcases zbg hv with ⟨j,u,rfl,rfl⟩ | ⟨y,u,rfl,rfl⟩
      · rw [zpB] at h; exact wpAny_eqBool_int h
      · rw [zqf] at h; exact SeqAt.EqAt.int_str i t y u _ _ _ _ h
    · rcases zbg hv with ⟨j,u,rfl,rfl⟩ | ⟨y,u,rfl,rfl⟩
      · rw [zqB] at h; exact SeqAt.EqAt.str_int x t j u _ _ _ _ h
      · rw [zqG] at h; exact wpAny_eqBool_str h
  «strs»:=fun k x t v h=>by
    rcases zbg h with ⟨i,u,rfl,e⟩ | ⟨y,u,rfl,e⟩
    · exact nomatch e
    · injection e with e1 _
      subst e1
      cases v <;> rfl
theorem ziZ (prog:Program) (w:World) (i:Int) (t:Tok):(zbs prog w).is (.inl i) (.int i t)=true:=zmz i t
theorem ziL (prog:Program) (w:World) (x:Str) (t:Tok):(zbs prog w).is (.inr x) (.str x t)=true:=zmI x t
end L2
namespace L2
open PySem PySem.Spec PyProof.Rows
inductive V where
  | non | bl (b:Bool) | int (i:Int) | str (x:Str) | byt (b:Array UInt8) | flt (b:UInt64) | ref (a:Addr) | ty (n:String)
  deriving DecidableEq
def RelV:V→Value→Prop
  | .non,u=>u=Value.none
  | .bl b,u=>u=Value.bool b
  | .int i,u=>∃ t,u=Value.int i t
  | .str x,u=>∃ t,u=Value.str x t
  | .byt b,u=>∃ t,u=Value.bytes b t
  | .flt b,u=>∃ t,u=Value.float b t
  | .ref a,u=>u=Value.ref a
  | .ty n,u=>u=Value.type n
abbrev Vals:List V→List Value→Prop:=Paired RelV
theorem Vals.length {xs:List V} {us:List Value} (r:Vals xs us):xs.length=us.length:=Paired.length r
theorem Vals.get:∀ {xs:List V} {us:List Value} {i:Nat} {x:V},Vals xs us→xs[i]?=some x→∃ u,us[i]?=some u∧RelV x u
  | _,_,_,_,.nil,e=>by simp at e
  | _,_,0,_,.cons r _,e=>by simp at e; subst e; exact ⟨_,rfl,r⟩
  | _,_,i + 1,x,.cons _ t,e=>by
    obtain ⟨u,h1,h2⟩:=Vals.get (i:=i) (x:=x) t (by simpa using e)
    exact ⟨u,by simpa using h1,h2⟩
theorem Vals.set {x:V} {u:Value} (r:RelV x u):∀ {xs:List V} {us:List Value} (i:Nat),Vals xs us→Vals (xs.set i x) (us.set i u)
  | _,_,_,.nil=>.nil
  | _,_,0,.cons _ t=>.cons r t
  | _,_,i + 1,.cons q t=>.cons q (Vals.set r i t)
theorem Vals.append:∀ {xs ys:List V} {us ws:List Value},Vals xs us→Vals ys ws→Vals (xs ++ ys) (us ++ ws)
  | _,_,_,_,.nil,s=>s
  | _,_,_,_,.cons r t,s=>.cons r (Vals.append t s)
theorem Vals.take:∀ {xs:List V} {us:List Value} (n:Nat),Vals xs us→Vals (xs.take n) (us.take n)
  | _,_,0,_=>.nil
  | _,_,_ + 1,.nil=>.nil
  | _,_,n + 1,.cons r t=>.cons r (Vals.take n t)
theorem Vals.drop:∀ {xs:List V} {us:List Value} (n:Nat),Vals xs us→Vals (xs.drop n) (us.drop n)
  | _,_,0,r=>r
  | _,_,_ + 1,.nil=>.nil
  | _,_,n + 1,.cons _ t=>Vals.drop n t
def RelO:Option V→Option Value→Prop
  | some v,some u=>RelV v u
  | none,none=>True
  | _,_=>False
def KV {κ:Type}:List (κ × V)→List (κ × Value)→Prop:=Paired fun (p:κ × V) (q:κ × Value)=>p.1=q.1∧RelV p.2 q.2
def kV:Key→V
  | .inl i=>.int i
  | .inr x=>.str x
inductive HO where
  | lst (xs:List V)
  | tup (xs:List V)
  | dK (kvs:List (Key × V)) | dT (kvs:List (List Key × V))
  | set (S:Int→Bool) (n:Nat)
  | ins (C dx:Addr) (fs:List (Str × V))
  | own (x:Addr)
  | xd (fs:List (Str × V))
  | met (f x:Addr)
  | rng (lo hi:Int)
  | frz (o:Obj) (u:HO)
  | tbl (ps:Array Value)
  | ext (φ:Heap→Prop)
abbrev Hp:=Addr→Option HO
def upd (H:Hp) (a:Addr) (o:HO):Hp:=fun b=>if b=a then some o else H b
theorem zal {H:Hp} {a:Addr} {o:HO}:upd H a o a=some o:=by unfold upd; rw [if_pos rfl]
theorem zag {H:Hp} {a b:Addr} {o:HO} (h:b ≠ a):upd H a o b=H b:=by unfold upd; rw [if_neg h]
theorem zor {H:Hp} {a:Addr} {o u:HO}:upd (upd H a o) a u=upd H a u:=by
  funext b; unfold upd; split <;> rfl
theorem zp0 {H:Hp} {a b:Addr} {o u:HO} (h:H a=some o) (h':H b=some u) (d:o ≠ u):a ≠ b:=by
  intro e; subst e; rw [h] at h'; exact d (Option.some.inj h')
theorem zaq {H:Hp} {a b:Addr} {o:HO} (h:H a=some o) (h':H b=none):a ≠ b:=by
  intro e; subst e; rw [h] at h'; cases h'
def zqc (fd:FuncData):Option Pos :=
  match fd.body with
  | .stmts [.Return (some (.Call _ _ [⟨_,.Lambda _ _ _ pos,_⟩] _)) _]=>some pos
  | _=>none
def tabAt (K:PySem.W.Frag) (v:Value):Option Addr :=
  match v with
  | .ref c=>match K.lookup c with
    | some o=>match o.data with
      | .fields vs=>match (vs[11]?:Option Value) with
        | some (.ref P)=>some P
        | _=>none
      | _=>none
    | _=>none
  | _=>none
def tabOf (K:PySem.W.Frag):Option (Addr × Array Value) :=
  K.findSome? fun p=>match p.2.data with
    | .func fd=>match zqc fd with
      | some pos=>(tabAt K fd.code).map fun P=>(P,#[.str (fd.qualname ++ ".<locals>." ++ "<lambda>") 0,rawInt pos.line,rawInt pos.col])
      | none=>none
    | _=>none
def TblOk (H:Hp) (h:Heap) (a:Addr) (ps:Array Value):Prop :=
  ∃ (q:Str) (t:Tok) (ln cl:Int) (more:List Value) (real:Array Value),ps.toList = .str q t :: rawInt ln :: rawInt cl :: more∧h.get? a=some { cls:=.none,data:=.fields real } ∧
    (real = #[]∨∃ (c:Addr) (o:Obj) (vs:Array Value) (u:Tok),real = #[rawInt ln,rawInt cl,.ref c]∧H c=some (.own a)∧h.get? c=some o∧o.data = .fields vs∧vs[1]?=some (.str q u))
theorem TblOk.lt {H:Hp} {h:Heap} {a:Addr} {ps:Array Value} (x:TblOk H h a ps):a < h.objs.size:=by
  obtain ⟨_,_,_,_,_,_,_,e,_⟩:=x
  exact Heap.lt_size e
theorem TblOk.stay {H H':Hp} {h h':Heap} {a:Addr} {ps:Array Value} (x:TblOk H h a ps) (k:∀ b u,(b=a∨H b=some (.own a))→h.get? b=some u→h'.get? b=some u)
    (ho:∀ b,H b=some (.own a)→H' b=some (.own a)):TblOk H' h' a ps:=by
  obtain ⟨q,t,ln,cl,more,real,e1,e2,e3⟩:=x
  refine ⟨q,t,ln,cl,more,real,e1,k _ _ (.inl rfl) e2,?_⟩
  rcases e3 with e3 | ⟨c,o,vs,u,r1,r2,r3,r4⟩
  · exact .inl e3
  · exact .inr ⟨c,o,vs,u,r1,ho _ r2,k _ _ (.inr r2) r3,r4⟩
def TbAt (K:PySem.W.Frag) (H:Hp):Prop:=∀ t,tabOf K=some t→∃ more,H t.1=some (.tbl (t.2 ++ more))
theorem TbAt.none {K:PySem.W.Frag} {H:Hp} (h:tabOf K = .none):TbAt K H:=fun t e=>by rw [h] at e; cases e
theorem TbAt.grown {K:PySem.W.Frag} {H H':Hp} (x:TbAt K H) (g:∀ b ps,H b=some (.tbl ps)→∃ more,H' b=some (.tbl (ps ++ more))):TbAt K H':=fun t e=>by
  obtain ⟨m1,e1⟩:=x t e
  obtain ⟨m2,e2⟩:=g _ _ e1
  exact ⟨m1 ++ m2,by rw [e2,Array.append_assoc]⟩
section
variable (P:Program) (w:World)
def ObjOk (H:Hp) (h:Heap) (a:Addr):HO→Prop
  | .lst xs=>xs.length ≤ sizeLine∧∃ (its:List Value) (n:Nat),Vals xs its∧h.get? a=some { cls:=.type "list",data:=.seq its.toArray n }
  | .tup xs=>xs.length ≤ sizeLine∧∃ its:List Value,Vals xs its∧IsTup h a its.toArray
  | .dK kvs=>kvs.length ≤ sizeLine∧(a == sysModules)=false∧∃ vs,KV kvs vs∧h.DictOf (zbs P w) a vs
  | .dT kvs=>kvs.length ≤ sizeLine∧(a == sysModules)=false∧∃ xs:List (List Key × Addr × Value),
      Paired (fun (p:List Key × V) (q:List Key × Addr × Value)=>p.1=q.1∧H q.2.1=some (.tup (p.1.map kV))∧RelV p.2 q.2.2) kvs xs ∧
      ∃ o es ep,h.get? a=some o∧o.ExactDict∧o.data = .dict es ep∧es.toList=xs.map (entryOfKey (tupleKind (zbs P w)))∧(xs.map (·.1)).Nodup
  | .set S n=>h.SetOf (intKind P w) a S n
  | .ins C dx fs=>H dx=some (.own a)∧fs.length ≤ 1000∧dx ≠ a∧h.get? a=some (PySem.W.instObj C dx) ∧
      ∃ mA,h.Ns1 dx mA∧(∀ f,RelO (fs.lookup f) (mA f))∧PySem.Within mA (fs.map (·.1))
  | .own _=>∃ o,h.get? a=some o
  | .xd fs=>∃ mA,h.Ns1 a mA∧∀ f,RelO (fs.lookup f) (mA f)
  | .rng lo hi=>∃ t u v,h.get? a=some { cls:=.type "range",data:=.fields #[.int lo t,.int hi u,.int 1 v] }
  | .frz o u=>h.get? a=some o∧ObjOk H h a u
  | .tbl ps=>TblOk H h a ps
  | .met f x=>h.get? a=some (PySem.W.methodObj (.ref f) (.ref x))
  | .ext φ=>φ h∧(∃ o,h.get? a=some o)∧∀ h1 h2:Heap,φ h1→(∀ o,h1.get? a=some o→h2.get? a=some o)→φ h2
def HOk (H:Hp) (h:Heap):Prop:=∀ a o,H a=some o→ObjOk P w H h a o
end
section
variable {P:Program} {w:World} {H H':Hp} {h h':Heap} {a:Addr} {o:HO}
theorem ObjOk.lt (x:ObjOk P w H h a o):a < h.objs.size:=by
  cases o with
  | lst xs=>obtain ⟨_,_,_,_,e⟩:=x; exact Heap.lt_size e
  | tup xs=>obtain ⟨_,_,_,p⟩:=x; exact p.lt
  | dK kvs=>obtain ⟨_,_,_,_,o,_,_,e,_⟩:=x; exact Heap.lt_size e
  | dT kvs=>obtain ⟨_,_,_,_,o,_,_,e,_⟩:=x; exact Heap.lt_size e
  | set S n=>obtain ⟨o,_,_,_,e,_⟩:=x; exact Heap.lt_size e
  | ins C dx fs=>obtain ⟨_,_,_,e,_⟩:=x; exact Heap.lt_size e
  | own y=>obtain ⟨_,e⟩:=x; exact Heap.lt_size e
  | xd fs=>obtain ⟨_,⟨_,_,_,e,_⟩,_⟩:=x; exact Heap.lt_size e
  | rng lo hi=>obtain ⟨_,_,_,e⟩:=x; exact Heap.lt_size e
  | frz ob u=>obtain ⟨e,_⟩:=x; exact Heap.lt_size e
  | tbl ps=>exact TblOk.lt x
  | met f y=>exact Heap.lt_size (show h.get? a=some _ from x)
  | ext φ=>obtain ⟨_,⟨_,e⟩,_⟩:=x; exact Heap.lt_size e
theorem Paired.mapP {α β:Type} {F G:α→β→Prop}:∀ {l₁:List α} {l₂:List β},Paired F l₁ l₂→(∀ a b,F a b→G a b)→Paired G l₁ l₂
  | _,_,.nil,_=>.nil
  | _,_,.cons r t,f=>.cons (f _ _ r) (Paired.mapP t f)
theorem ObjOk.stay (x:ObjOk P w H h a o) (k:∀ b u,(b=a∨H b=some (.own a))→h.get? b=some u→h'.get? b=some u)
    (ho:∀ b,H b=some (.own a)→H' b=some (.own a)) (ht:∀ b xs,H b=some (.tup xs)→H' b=some (.tup xs)):ObjOk P w H' h' a o:=by
  induction o with
  | lst xs=>obtain ⟨z,its,n,r,e⟩:=x; exact ⟨z,its,n,r,k _ _ (.inl rfl) e⟩
  | tup xs=>obtain ⟨z,its,r,ob,e,c⟩:=x; exact ⟨z,its,r,ob,k _ _ (.inl rfl) e,c⟩
  | dK kvs=>obtain ⟨z,y,vs,r,ob,es,ep,e,c⟩:=x; exact ⟨z,y,vs,r,ob,es,ep,k _ _ (.inl rfl) e,c⟩
  | dT kvs =>
    obtain ⟨z,y,xs,r,ob,es,ep,e,c⟩:=x
    exact ⟨z,y,xs,Paired.mapP r fun p q z=>⟨z.1,ht _ _ z.2.1,z.2.2⟩,ob,es,ep,k _ _ (.inl rfl) e,c⟩
  | set S n=>obtain ⟨ob,es,ep,t,e,c⟩:=x; exact ⟨ob,es,ep,t,k _ _ (.inl rfl) e,c⟩
  | ins C dx fs =>
    obtain ⟨d,z,ne,e,mA,⟨od,es,ep,e2,c⟩,r⟩:=x
    exact ⟨ho _ d,z,ne,k _ _ (.inl rfl) e,mA,⟨od,es,ep,k _ _ (.inr d) e2,c⟩,r⟩
  | own y=>obtain ⟨ob,e⟩:=x; exact ⟨ob,k _ _ (.inl rfl) e⟩
  | xd fs=>obtain ⟨mA,⟨od,es,ep,e,c⟩,r⟩:=x; exact ⟨mA,⟨od,es,ep,k _ _ (.inl rfl) e,c⟩,r⟩
  | rng lo hi=>obtain ⟨t,u,v,e⟩:=x; exact ⟨t,u,v,k _ _ (.inl rfl) e⟩
  | frz ob u ih=>obtain ⟨e,q⟩:=x; exact ⟨k _ _ (.inl rfl) e,ih q⟩
  | tbl ps=>exact TblOk.stay x k ho
  | met f y =>
    have e:h.get? a=some (PySem.W.methodObj (.ref f) (.ref y)):=x
    show h'.get? a=some (PySem.W.methodObj (.ref f) (.ref y))
    exact k a _ (.inl rfl) e
  | ext φ=>obtain ⟨p,⟨o,e⟩,st⟩:=x; exact ⟨st _ _ p fun o q=>k _ _ (.inl rfl) q,⟨o,k _ _ (.inl rfl) e⟩,st⟩
theorem HOk.lt (x:HOk P w H h) (e:H a=some o):a < h.objs.size:=(x a o e).lt
theorem HOk.fresh (x:HOk P w H h) (e:h.objs.size ≤ a):H a=none:=by
  cases q:H a with
  | none=>rfl
  | some u=>exact absurd (Nat.lt_of_lt_of_le (x.lt q) e) (Nat.lt_irrefl _)
theorem HOk.kept (x:HOk P w H h) (k:∀ b u,h.get? b=some u→h'.get? b=some u):HOk P w H h':=fun a o e =>
  (x a o e).stay (fun b u _ q=>k b u q) (fun _ q=>q) fun _ _ q=>q
theorem HOk.laid (x:HOk P w H h) (k:∀ b u,h.get? b=some u→h'.get? b=some u) (hp:h.objs.size ≤ a) (new:ObjOk P w (upd H a o) h' a o):HOk P w (upd H a o) h':=fun b u e=>by
  have hn:=x.fresh hp
  by_cases hb:b=a
  · subst hb; rw [zal] at e; cases e; exact new
  · rw [zag hb] at e
    exact (x b u e).stay (fun c v _ q=>k c v q) (fun c q=>by rw [zag (zaq q hn)]; exact q) fun c xs q=>by rw [zag (zaq q hn)]; exact q
end
def Rd (H:Hp) (a:Addr) (u:HO):Prop:=H a=some u∨∃ o,H a=some (.frz o u)
theorem Rd.ok {P:Program} {w:World} {H:Hp} {h:Heap} {a:Addr} {u:HO} (r:Rd H a u) (x:HOk P w H h):ObjOk P w H h a u:=by
  rcases r with r | ⟨o,r⟩
  · exact x a u r
  · obtain ⟨_,q⟩:=x a _ r
    exact q
def Mut:Option HO→Prop
  | some (.lst _)=>True
  | some (.dK _)=>True
  | some (.dT _)=>True
  | some (.set _ _)=>True
  | some (.ins _ _ _)=>True
  | some (.ext _)=>True
  | _=>False
section
variable {P:Program} {w:World} {H:Hp} {h h':Heap} {x e:Addr} {o':HO}
theorem HOk.write (ok:HOk P w H h) (mu:Mut (H x)) (he:e=x∨H e=some (.own x)) (k:∀ b u,b ≠ e→h.get? b=some u→h'.get? b=some u) (heo:∃ u,h'.get? e=some u)
    (new:ObjOk P w (upd H x o') h' x o'):HOk P w (upd H x o') h':=fun b u q=>by
  have nown:∀ c y,H c=some (.own y)→c ≠ x:=fun c y r z=>by subst z; rw [r] at mu; exact mu
  have ntup:∀ c xs,H c=some (.tup xs)→c ≠ x:=fun c xs r z=>by subst z; rw [r] at mu; exact mu
  by_cases hb:b=x
  · subst hb; rw [zal] at q; cases q; exact new
  · rw [zag hb] at q
    by_cases hbe:b=e
    · have q':H b=some (.own x):=by
        rcases he with z | z
        · exact absurd (hbe.trans z) hb
        · rw [hbe]; exact z
      rw [q] at q'; cases q'
      obtain ⟨v,hv⟩:=heo
      exact ⟨v,by rw [hbe]; exact hv⟩
    · refine (ok b u q).stay (fun c v hc r=>k c v ?_ r) (fun c r=>by rw [zag (nown c b r)]; exact r) fun c xs r=>by rw [zag (ntup c xs r)]; exact r
      rcases hc with rfl | hc
      · exact hbe
      · rintro rfl
        rcases he with z | z
        · exact nown c b hc z
        · rw [hc] at z; cases z; exact hb rfl
end
structure Un (fs ex:List Addr) (H H':Hp) (h h':Heap):Prop where
  keep:∀ b o,h.get? b=some o→H b=none→b ∉ fs→b ∉ ex→h'.get? b=some o
  slot:∀ b o,h.get? b=some o→H b=none→b ∈ fs→b ∉ ex→∃ sl,h'.get? b=some { o with slots:=sl }
  free:∀ b o,h.get? b=some o→H b=none→b ∉ ex→H' b=none
  there:∀ b o,h.get? b=some o→b ∉ ex→∃ o',h'.get? b=some o'
  tups:∀ b xs,H b=some (.tup xs)→H' b=some (.tup xs)
  frzs:∀ b o u,H b=some (.frz o u)→H' b=some (.frz o u)
  tbls:∀ b ps,H b=some (.tbl ps)→∃ more,H' b=some (.tbl (ps ++ more))
section
variable {fs fs' ex ex':List Addr} {H H1 H2:Hp} {h h1 h2 h':Heap} {a x e:Addr} {o:HO}
theorem Un.any (u:Un fs ex H H1 h h1) {b:Addr} {ob:Obj} (q:h.get? b=some ob) (n:H b=none) (hx:b ∉ ex):∃ sl,h1.get? b=some { ob with slots:=sl }:=by
  by_cases hb:b ∈ fs
  · exact u.slot b ob q n hb hx
  · exact ⟨ob.slots,u.keep b ob q n hb hx⟩
theorem Un.kept (k:∀ b u,h.get? b=some u→h'.get? b=some u):Un fs ex H H h h' :=
  ⟨fun b ob q _ _ _=>k b ob q,fun b ob q _ _ _=>⟨ob.slots,k b ob q⟩,fun _ _ _ n _=>n,fun b ob q _=>⟨ob,k b ob q⟩,fun _ _ q=>q,fun _ _ _ q=>q,fun _ ps q=>⟨#[],by rw [q]; simp⟩⟩
theorem Un.refl:Un fs ex H H h h:=Un.kept fun _ _ q=>q
theorem Un.laid (k:∀ b u,h.get? b=some u→h'.get? b=some u) (hp:h.objs.size ≤ a) (hn:H a=none):Un fs ex H (upd H a o) h h' where
  keep:=fun b u q _ _ _=>k b u q
  slot:=fun b u q _ _ _=>⟨u.slots,k b u q⟩
  free:=fun b u q n _=>by rw [zag (Nat.ne_of_lt (Nat.lt_of_lt_of_le (Heap.lt_size q) hp))]; exact n
  there:=fun b u q _=>⟨u,k b u q⟩
  tups:=fun b xs q=>by rw [zag (zaq q hn)]; exact q
  frzs:=fun b u xs q=>by rw [zag (zaq q hn)]; exact q
  tbls:=fun b ps q=>⟨#[],by rw [zag (zaq q hn),q]; simp⟩
theorem Un.write (mu:Mut (H x)) (he:e=x∨H e=some (.own x)) (k:∀ b u,b ≠ e→h.get? b=some u→h'.get? b=some u) (heo:∃ u,h'.get? e=some u):Un fs ex H (upd H x o) h h':=by
  have hx:∀ b,H b=none→b ≠ x:=fun b n z=>by subst z; rw [n] at mu; exact mu
  have hb:∀ b,H b=none→b ≠ e:=fun b n z=>by
    subst z
    rcases he with r | r
    · exact hx b n r
    · rw [n] at r; cases r
  have hm:∀ b u,H b=some u→¬ Mut (some u)→b ≠ x:=fun b u q nm z=>by subst z; rw [q] at mu; exact nm mu
  refine ⟨fun b u q n _ _=>k b u (hb b n) q,fun b u q n _ _=>⟨u.slots,k b u (hb b n) q⟩,fun b u q n _=>by rw [zag (hx b n)]; exact n,fun b u q _=>?_,
    fun b xs q=>by rw [zag (hm b _ q fun z=>z)]; exact q,fun b u xs q=>by rw [zag (hm b _ q fun z=>z)]; exact q,fun b ps q=>⟨#[],by rw [zag (hm b _ q fun z=>z),q]; simp⟩⟩
  by_cases hbe:b=e
  · subst hbe; exact heo
  · exact ⟨u,k b u hbe q⟩
end
def trk (h:Heap) (H:Hp):List Addr:=(List.range h.objs.size).filter fun a=>(H a).isSome
def hidT (h:Heap) (H:Hp):Heap:=PySem.W.hideAll h (trk h H)
theorem zl6 (h:Heap) (H:Hp):(hidT h H).objs.size=h.objs.size:=PySem.W.hideAll_size _ _
theorem zmW {h:Heap} {H:Hp} {b:Addr} {o:Obj} (e:h.get? b=some o) (n:H b=none):(hidT h H).get? b=some o :=
  PySem.W.hideAll_get _ e fun hm=>by
    have q:(H b).isSome=true:=(List.mem_filter.mp hm).2
    rw [n] at q; simp at q
theorem zoD {h:Heap} {H:Hp} {b:Addr} {o:Obj} (e:(hidT h H).get? b=some o):h.get? b=some o∧H b=none:=by
  have e':h.get? b=some o:=PySem.W.of_hideAll (trk h H) e
  refine ⟨e',?_⟩
  cases q:H b with
  | none=>rfl
  | some x =>
    have hm:b ∈ trk h H:=List.mem_filter.mpr ⟨List.mem_range.mpr (Heap.lt_size e'),by simp [q]⟩
    have z:(hidT h H).get? b=none:=PySem.W.hideAll_none (trk h H) hm
    rw [z] at e; cases e
def zq2 (g h:Heap) (L:Addr):List (Addr × Obj):=(List.range h.objs.size).filterMap fun a=>if a=L∨(g.get? a).isSome=true then none else (h.get? a).map fun o=>(a,o)
end L2
namespace L2
open PySem PySem.Spec PyProof.Rows
structure Mod (K:PySem.W.Frag) (mg:Str→Option Value) (base:Heap):Prop where
  kin:K.In base
  glob:base.Ns mainGlobals mg
  blt:∃ mb,base.Ns builtinsNs mb∧∀ x:Str,x ≠ "__name__"→mb x=bootBuiltins x
  nolimit:base.NoLimit
structure Cx where
  prog:Program
  w:World
  K:PySem.W.Frag
  mg:Str→Option Value
  base:Heap
  A:Around
  N:List Str
  s₀:Shared
  H₀:Hp
  env:Env
  outer:List Env
  stack:List Env
  ex:List Addr
  fn:Str→Bool
  calm:Bool
  pn:List (Addr × Obj)
  xe:Value→Shared→Prop
def frs (l:List Env):List Addr:=l.filterMap (·.frame)
abbrev Cx.fs (X:Cx):List Addr:=frs X.outer
def Vis (sc:Scope) (x:Str):Prop:=sc.names.lookup x=some .local∨sc.names.lookup x=some .cell∨sc.names.lookup x=some .free
def Loc (sc:Scope) (x:Str):Prop:=sc.names.lookup x=some .local∨sc.names.lookup x=some .cell
def Look (env:Env) (h:Heap) (m:Str→Option Value) (x:Str) (u:Value):Prop :=
  (env.kindOf x=some .local∧m x=some u)∨((env.kindOf x=some .cell∨env.kindOf x=some .free)∧∃ c,env.cells.lookup x=some c∧h.IsCell c (some u))
structure Cx.Ok (X:Cx):Prop where
  mod:Mod X.K X.mg X.base
  kind:X.env.scope.kind = .function
  glob:X.env.globals=mainGlobals
  blt:X.env.builtins=builtinsNs
  above:X.s₀.heap.objs.size ≤ X.env.locals
  inj:∀ x y c,X.env.cells.lookup x=some c→X.env.cells.lookup y=some c→x=y
  has:∀ x,(X.env.kindOf x=some .cell∨X.env.kindOf x=some .free)→∃ c,X.env.cells.lookup x=some c
  cab:∀ x c,X.fn x=true→X.env.cells.lookup x=some c→X.s₀.heap.objs.size ≤ c
  hd:X.calm=true→X.A.handled=none
  frames:X.A.frames=some X.stack
  stk:X.stack=X.outer∨(X.stack=X.env :: X.outer∧X.env.frame=some X.env.locals)
  exf:∀ b ∈ X.ex,b ≠ X.env.locals∧∀ x c,X.env.cells.lookup x=some c→c ≠ b
  bs:∀ b o,X.base.get? b=some o→X.s₀.heap.get? b=some o∧X.H₀ b=none
  bsz:X.base.objs.size ≤ X.s₀.heap.objs.size
  noex:∀ b o,X.base.get? b=some o→b ∉ X.ex
  exfs:∀ b ∈ X.ex,b ∉ X.fs
  funs:X.s₀.heap.FunFrames X.base X.outer
  frf:∀ b ∈ X.fs,X.H₀ b=none
  tb:TbAt X.K X.H₀
structure Inv (X:Cx) (pins:List (Addr × Obj)) (σ:List (Option V)) (H:Hp) (s:Shared):Prop where
  ok:X.Ok
  os:s.os=X.s₀.os
  bare:AllBare s.gens
  base:Un X.fs X.ex X.H₀ H X.s₀.heap s.heap
  loc:∃ m,s.heap.Ns X.env.locals m∧∀ (i:Nat) (x:Str) (v:V),X.N[i]?=some x→σ[i]?=some (some v)→Vis X.env.scope x→∃ u,RelV v u∧Look X.env s.heap m x u
  cell:∀ x c,X.env.cells.lookup x=some c→∃ v,s.heap.IsCell c v
  free:H X.env.locals=none
  freeC:∀ x c,X.env.cells.lookup x=some c→H c=none
  pin:∀ p ∈ X.pn ++ pins,s.heap.get? p.1=some p.2∧H p.1=none∧p.1 ≠ X.env.locals∧p.1 ∉ X.fs∧∀ v,p.2.data ≠ .cell v
  hok:HOk X.prog X.w H s.heap
  len:σ.length=X.N.length
section
variable {X:Cx} {pins:List (Addr × Obj)} {σ:List (Option V)} {H H':Hp} {s:Shared} {h':Heap}
theorem Cx.Ok.nofr (ok:X.Ok) {b:Addr} {o:Obj} (e:X.base.get? b=some o):b ∉ X.fs:=fun hb=>by
  have:=(ok.funs.mem hb).1
  rw [e] at this; cases this
theorem Inv.bs (I:Inv X pins σ H s):∀ b o,X.base.get? b=some o→s.heap.get? b=some o∧H b=none:=fun b o e =>
  ⟨I.base.keep b o (I.ok.bs b o e).1 (I.ok.bs b o e).2 (I.ok.nofr e) (I.ok.noex b o e),I.base.free b o (I.ok.bs b o e).1 (I.ok.bs b o e).2 (I.ok.noex b o e)⟩
theorem Inv.bk (I:Inv X pins σ H s):∀ b o,X.base.get? b=some o→s.heap.get? b=some o:=fun b o e=>(I.bs b o e).1
theorem Inv.mod (I:Inv X pins σ H s):Mod X.K X.mg X.base:=I.ok.mod
theorem Inv.kIn (I:Inv X pins σ H s):X.K.In s.heap:=I.ok.mod.kin.keeps I.bk
theorem Inv.fr (I:Inv X pins σ H s):∃ m,Fr X.base X.env.locals s.heap m :=
  let ⟨m,hn,_⟩:=I.loc
  ⟨m,hn,I.bk,Nat.le_trans I.ok.bsz I.ok.above⟩
theorem Inv.lt (I:Inv X pins σ H s):X.env.locals < s.heap.objs.size:=let ⟨_,hn,_⟩:=I.loc; hn.lt
theorem Inv.sz (I:Inv X pins σ H s):X.s₀.heap.objs.size ≤ s.heap.objs.size:=Nat.le_trans I.ok.above (Nat.le_of_lt I.lt)
theorem Inv.nofs (I:Inv X pins σ H s) {a:Addr} (h:s.heap.objs.size ≤ a):a ∉ X.fs:=fun hb=>by
  obtain ⟨_,o,ho,_⟩:=I.ok.funs.mem hb
  exact absurd (Nat.lt_of_lt_of_le (Heap.lt_size ho) (Nat.le_trans I.sz h)) (Nat.lt_irrefl _)
theorem Inv.cne (I:Inv X pins σ H s):∀ x c,X.env.cells.lookup x=some c→c ≠ X.env.locals:=fun x c e z=>by
  obtain ⟨v,o,ho,hd⟩:=I.cell x c e
  obtain ⟨m,⟨o',es,ep,ho',hd',_⟩,_⟩:=I.loc
  rw [z,ho'] at ho; cases ho; rw [hd'] at hd; cases hd
theorem Inv.funs (I:Inv X pins σ H s):s.heap.FunFrames X.base X.outer:=by
  have all:∀ (l:List Env),(∀ b ∈ frs l,b ∈ X.fs)→X.s₀.heap.FunFrames X.base l→s.heap.FunFrames X.base l:=by
    intro l
    induction l with
    | nil=>intro _ _; trivial
    | cons env r ih =>
      intro hs hl
      obtain ⟨hk,⟨L,o,hf,hn,ho,hd⟩,hr⟩:=hl
      have hL:L ∈ X.fs:=hs L (by unfold frs; rw [List.filterMap_cons,hf]; exact List.mem_cons_self)
      obtain ⟨sl,e⟩:=I.base.slot L o ho (I.ok.frf L hL) hL fun z=>I.ok.exfs L z hL
      exact ⟨hk,⟨L,_,hf,hn,e,hd⟩,ih (fun b hb=>hs b (by unfold frs; rw [List.filterMap_cons,hf]; exact List.mem_cons_of_mem _ hb)) hr⟩
  exact all X.outer (fun _ hb=>hb) I.ok.funs
theorem Inv.stack (I:Inv X pins σ H s):s.heap.FunFrames X.base X.stack:=by
  rcases I.ok.stk with e | ⟨e,hf⟩
  · rw [e]; exact I.funs
  · rw [e]
    obtain ⟨m,hn,_⟩:=I.loc
    refine .cons (by rw [I.ok.kind]; decide) hf hn ?_ I.funs
    exact Heap.get?_none_of_le (Nat.le_trans I.ok.bsz I.ok.above)
theorem Inv.stkSub (I:Inv X pins σ H s):∀ b ∈ frs X.stack,b ∈ X.env.locals :: X.fs:=fun b hb=>by
  rcases I.ok.stk with e | ⟨e,hf⟩
  · rw [e] at hb; exact List.mem_cons_of_mem _ hb
  · rw [e] at hb
    unfold frs at hb
    rw [List.filterMap_cons,hf] at hb
    exact hb
theorem Inv.stkFree (I:Inv X pins σ H s):∀ b ∈ frs X.stack,H b=none:=fun b hb=>by
  rcases List.mem_cons.mp (I.stkSub b hb) with e | hb
  · rw [e]; exact I.free
  · obtain ⟨_,o,ho,_⟩:=I.ok.funs.mem hb
    exact I.base.free b o ho (I.ok.frf b hb) fun z=>I.ok.exfs b z hb
theorem Inv.step {g':Array GenState} {t':Nat} {d':Drawn} {ch:List Addr} (I:Inv X pins σ H s)
    (hch:∀ b ∈ ch,(b ∈ X.ex∨X.s₀.heap.objs.size ≤ b)∧b ≠ X.env.locals∧(∀ x c,X.env.cells.lookup x=some c→c ≠ b)∧∀ p ∈ X.pn ++ pins,p.1 ≠ b)
    (keep:∀ b o,b ≠ X.env.locals→b ∉ X.fs→b ∉ ch→s.heap.get? b=some o→H b=none→h'.get? b=some o)
    (slot:∀ b o,b ≠ X.env.locals→b ∈ X.fs→b ∉ ch→s.heap.get? b=some o→H b=none→∃ sl,h'.get? b=some { o with slots:=sl }) (free:∀ b o,b ∉ ch→s.heap.get? b=some o→H b=none→H' b=none)
    (there:∀ b o,b ∉ ch→s.heap.get? b=some o→∃ o',h'.get? b=some o')
    (tups:∀ b xs,H b=some (.tup xs)→H' b=some (.tup xs)) (frzs:∀ b o u,H b=some (.frz o u)→H' b=some (.frz o u)) (tbls:∀ b ps,H b=some (.tbl ps)→∃ more,H' b=some (.tbl (ps ++ more)))
    (ns:∀ m,s.heap.Ns X.env.locals m→h'.Ns X.env.locals m) (hok:HOk X.prog X.w H' h') (hg:AllBare g') :
    Inv X pins σ H' { s with heap:=h',gens:=g',drawn:=d',toks:=t' }:=by
  have neL:∀ b o,X.s₀.heap.get? b=some o→b ≠ X.env.locals:=fun b o e=>Nat.ne_of_lt (Nat.lt_of_lt_of_le (Heap.lt_size e) I.ok.above)
  have neC:∀ b o,X.s₀.heap.get? b=some o→b ∉ X.ex→b ∉ ch:=fun b o e hx hb=>by
    rcases (hch b hb).1 with z | z
    · exact hx z
    · exact absurd (Nat.lt_of_lt_of_le (Heap.lt_size e) z) (Nat.lt_irrefl _)
  have cellK:∀ x c,X.env.cells.lookup x=some c→∀ v,s.heap.IsCell c v→h'.IsCell c v:=fun x c e v ⟨o,ho,hd⟩=>by
    have nch:c ∉ ch:=fun z=>(hch c z).2.2.1 x c e rfl
    by_cases hc:c ∈ X.fs
    · obtain ⟨sl,q⟩:=slot c o (I.cne x c e) hc nch ho (I.freeC x c e)
      exact ⟨_,q,hd⟩
    · exact ⟨o,keep c o (I.cne x c e) hc nch ho (I.freeC x c e),hd⟩
  refine ⟨I.ok,I.os,hg,⟨fun b o e n hb hx=>?_,fun b o e n hb hx=>?_,fun b o e n hx=>?_,fun b o e hx=>?_,fun b xs e=>tups b xs (I.base.tups b xs e),fun b o xs e=>frzs b o xs (I.base.frzs b o xs e),fun b ps e=>?_⟩,?_,fun x c e=>?_,?_,fun x c e=>?_,fun p hp=>?_,hok,I.len⟩
  · exact keep b o (neL b o e) hb (neC b o e hx) (I.base.keep b o e n hb hx) (I.base.free b o e n hx)
  · obtain ⟨sl,e1⟩:=I.base.slot b o e n hb hx
    obtain ⟨sl',e2⟩:=slot b _ (neL b o e) hb (neC b o e hx) e1 (I.base.free b o e n hx)
    exact ⟨sl',e2⟩
  · obtain ⟨o',e1⟩:=I.base.there b o e hx
    exact free b o' (neC b o e hx) e1 (I.base.free b o e n hx)
  · obtain ⟨o',e1⟩:=I.base.there b o e hx
    exact there b o' (neC b o e hx) e1
  · obtain ⟨m1,e1⟩:=I.base.tbls b ps e
    obtain ⟨m2,e2⟩:=tbls b _ e1
    exact ⟨m1 ++ m2,by rw [e2,Array.append_assoc]⟩
  · obtain ⟨m,hn,hl⟩:=I.loc
    refine ⟨m,ns m hn,fun i x v e1 e2 e3=>?_⟩
    obtain ⟨u,r,l⟩:=hl i x v e1 e2 e3
    refine ⟨u,r,?_⟩
    rcases l with l | ⟨k,c,e,z⟩
    · exact .inl l
    · exact .inr ⟨k,c,e,cellK x c e _ z⟩
  · obtain ⟨v,z⟩:=I.cell x c e
    exact ⟨v,cellK x c e v z⟩
  · obtain ⟨m,⟨o,_,_,ho,_⟩,_⟩:=I.loc
    exact free _ o (fun z=>(hch _ z).2.1 rfl) ho I.free
  · obtain ⟨v,o,ho,hd⟩:=I.cell x c e
    exact free c o (fun z=>(hch c z).2.2.1 x c e rfl) ho (I.freeC x c e)
  · obtain ⟨e,n,ne,nf,d⟩:=I.pin p hp
    have nch:p.1 ∉ ch:=fun z=>(hch p.1 z).2.2.2 p hp rfl
    exact ⟨keep p.1 p.2 ne nf nch e n,free p.1 p.2 nch e n,ne,nf,d⟩
theorem Inv.un {t':Nat} (I:Inv X pins σ H s) (u:Un X.fs [] H H' s.heap h') (hok:HOk X.prog X.w H' h'):Inv X pins σ H' { s with heap:=h',toks:=t' }:=by
  obtain ⟨m,⟨o,es,ep,ho,r⟩,_⟩:=id I.loc
  obtain ⟨sl,hL⟩:=u.any ho I.free (by simp)
  exact I.step (g':=s.gens) (d':=s.drawn) (ch:=[]) (fun _ z=>nomatch z) (fun b o _ hb _ e n=>u.keep b o e n hb (by simp)) (fun b o _ hb _ e n=>u.slot b o e n hb (by simp)) (fun b o _ e n=>u.free b o e n (by simp)) (fun b o _ e=>u.there b o e (by simp)) u.tups u.frzs u.tbls (fun m' hm=>by
    obtain ⟨o',es',ep',ho',r'⟩:=hm
    rw [ho] at ho'; cases ho'
    exact ⟨_,es',ep',hL,r'⟩) hok I.bare
theorem Inv.call {g':Array GenState} {t':Nat} {d':Drawn} {ch:List Addr} (I:Inv X pins σ H s) (u:Un (frs X.stack) ch H H' s.heap h') (hok:HOk X.prog X.w H' h') (hg:AllBare g')
    (hch:∀ b ∈ ch,(b ∈ X.ex∨X.s₀.heap.objs.size ≤ b)∧b ≠ X.env.locals∧(∀ x c,X.env.cells.lookup x=some c→c ≠ b)∧∀ p ∈ X.pn ++ pins,p.1 ≠ b) :
    Inv X pins σ H' { s with heap:=h',gens:=g',drawn:=d',toks:=t' }:=by
  obtain ⟨m,⟨o,es,ep,ho,r⟩,_⟩:=id I.loc
  obtain ⟨sl,hL⟩:=u.any ho I.free fun z=>(hch _ z).2.1 rfl
  exact I.step (ch:=ch) hch (fun b o hL hb hc e n=>u.keep b o e n (fun z=>(List.mem_cons.mp (I.stkSub b z)).elim hL hb) hc) (fun b o _ _ hc e n=>u.any e n hc) (fun b o hc e n=>u.free b o e n hc) (fun b o hc e=>u.there b o e hc) u.tups u.frzs u.tbls (fun m' hm=>by
    obtain ⟨o',es',ep',ho',r'⟩:=hm
    rw [ho] at ho'; cases ho'
    exact ⟨_,es',ep',hL,r'⟩) hok hg
theorem Inv.turned {t':Nat} {it:Addr} (I:Inv X pins σ H s) (k:∀ b o,b ≠ it→s.heap.get? b=some o→h'.get? b=some o) (hn:H it=none) (hL:it ≠ X.env.locals)
    (h1:it ∈ X.ex∨X.s₀.heap.objs.size ≤ it) (h2:∀ x c,X.env.cells.lookup x=some c→c ≠ it) (h3:∀ p ∈ X.pn ++ pins,p.1 ≠ it):Inv X pins σ H { s with heap:=h',toks:=t' }:=by
  have nit:∀ b u,H b=some u→b ≠ it:=fun b u e z=>by rw [z,hn] at e; cases e
  refine I.step (g':=s.gens) (d':=s.drawn) (ch:=[it]) (fun b hb=>?_) (fun b o _ _ hc e _=>k b o (fun z=>hc (by simp [z])) e) (fun b o _ _ hc e _=>⟨o.slots,k b o (fun z=>hc (by simp [z])) e⟩) (fun _ _ _ _ n=>n)
    (fun b o hc e=>⟨o,k b o (fun z=>hc (by simp [z])) e⟩) (fun _ _ e=>e) (fun _ _ _ e=>e) (fun b ps e=>⟨#[],by rw [e]; simp⟩) (fun m hm=>?_) (fun b u e=>?_) I.bare
  · have e:b=it:=by simpa using hb
    subst e
    exact ⟨h1,hL,h2,h3⟩
  · obtain ⟨o,es,ep,ho,r⟩:=hm
    exact ⟨o,es,ep,k _ o (Ne.symm hL) ho,r⟩
  · refine (I.hok b u e).stay (fun c v hc q=>k c v ?_ q) (fun _ q=>q) fun _ _ q=>q
    rcases hc with z | z
    · rw [z]; exact nit b u e
    · exact nit c _ z
theorem Inv.tok (I:Inv X pins σ H s) (t:Nat):Inv X pins σ H { s with toks:=t }:=I.un (h':=s.heap) (t':=t) Un.refl I.hok
theorem Inv.kept {t':Nat} (I:Inv X pins σ H s) (k:∀ b u,s.heap.get? b=some u→h'.get? b=some u):Inv X pins σ H { s with heap:=h',toks:=t' }:=I.un (Un.kept k) (I.hok.kept k)
theorem Inv.laid {a:Addr} {o:HO} {t':Nat} (I:Inv X pins σ H s) (k:∀ b u,s.heap.get? b=some u→h'.get? b=some u) (hp:s.heap.objs.size ≤ a) (new:ObjOk X.prog X.w (upd H a o) h' a o) :
    Inv X pins σ (upd H a o) { s with heap:=h',toks:=t' }:=I.un (Un.laid k hp (I.hok.fresh hp)) (I.hok.laid k hp new)
theorem Inv.write {x e:Addr} {o:HO} {t':Nat} (I:Inv X pins σ H s) (mu:Mut (H x)) (he:e=x∨H e=some (.own x)) (k:∀ b u,b ≠ e→s.heap.get? b=some u→h'.get? b=some u) (heo:∃ u,h'.get? e=some u)
    (new:ObjOk X.prog X.w (upd H x o) h' x o):Inv X pins σ (upd H x o) { s with heap:=h',toks:=t' }:=I.un (Un.write mu he k heo) (I.hok.write mu he k heo new)
theorem Inv.weak {σ':List (Option V)} (I:Inv X pins σ H s) (hl:σ'.length=σ.length) (w:∀ (i:Nat) v,σ'[i]?=some (some v)→σ[i]?=some (some v)):Inv X pins σ' H s :=
  ⟨I.ok,I.os,I.bare,I.base,let ⟨m,hn,hl'⟩:=I.loc; ⟨m,hn,fun i x v e1 e2 e3=>hl' i x v e1 (w i v e2) e3⟩,I.cell,I.free,I.freeC,I.pin,I.hok,hl.trans I.len⟩
theorem Inv.pins_of {pins':List (Addr × Obj)} (I:Inv X pins σ H s) (h:∀ p ∈ pins',s.heap.get? p.1=some p.2∧H p.1=none∧p.1 ≠ X.env.locals∧p.1 ∉ X.fs∧∀ v,p.2.data ≠ .cell v):Inv X pins' σ H s :=
  ⟨I.ok,I.os,I.bare,I.base,I.loc,I.cell,I.free,I.freeC,fun p hp=>(List.mem_append.mp hp).elim (fun z=>I.pin p (List.mem_append_left _ z)) (h p),I.hok,I.len⟩
theorem zhj {N:List Str} (hN:N.Nodup) {i j:Nat} {x:Str} (a:N[i]?=some x) (b:N[j]?=some x):i=j:=by
  obtain ⟨h1,e1⟩:=List.getElem?_eq_some_iff.mp a
  obtain ⟨h2,e2⟩:=List.getElem?_eq_some_iff.mp b
  exact (List.getElem_inj hN).mp (e1.trans e2.symm)
theorem zlh {M:Model} {A:Around} {E:Value→Shared→Prop} {i:Nat} {x:Str} {v:V} {u:Value} {Q:Unit→Shared→Prop} (I:Inv X pins σ H s) (hN:X.N.Nodup) (hi:X.N[i]?=some x) (hx:Loc X.env.scope x) (r:RelV v u)
    (h:∀ s',Inv X pins (σ.set i (some v)) H s'→(∃ a,Heap.SameBut a s.heap s'.heap∧(a=X.env.locals∨X.env.cells.lookup x=some a))→Q () s') (hf:X.fn x=true∨X.env.scope.names.lookup x=some .local:=by first | exact .inl rfl | exact .inr rfl | assumption):wpAny M A (storeName X.env x u) Q E s:=by
  obtain ⟨m,hn,hl⟩:=id I.loc
  have hcls:(X.env.scope.kind == .class || (X.env.scope.kind == .module && X.env.locals != X.env.globals))=false:=by rw [I.ok.kind]; rfl
  have hiσ:i < σ.length:=by rw [I.len]; exact (List.getElem?_eq_some_iff.mp hi).1
  have cne:=I.cne
  have tracked:∀ {a:Addr} {h':Heap},(∃ o,s.heap.get? a=some o∧H a=none)→Heap.SameBut a s.heap h'→HOk X.prog X.w H h':=fun {a h'} ha hs b ob e=>by
    obtain ⟨_,_,hfree⟩:=ha
    refine (I.hok b ob e).stay (fun c w' hc q=>(hs.2 c ?_).trans q) (fun _ q=>q) fun _ _ q=>q
    rintro rfl
    rcases hc with rfl | hc
    · rw [hfree] at e; cases e
    · rw [hfree] at hc; cases hc
  rcases hx with hk | hk
  · refine wpAny_storeName_local hk hn (fun h' hn' hs=>?_) hcls
    obtain ⟨oL,_,_,hoL,_⟩:=id hn
    refine h _ ⟨I.ok,I.os,I.bare,⟨fun b o e n hb hx=>?_,fun b o e n hb hx=>?_,I.base.free,fun b o e hx=>?_,I.base.tups,I.base.frzs,I.base.tbls⟩,⟨_,hn',fun j y v' e1 e2 e3=>?_⟩,fun y c e=>?_,I.free,I.freeC,fun p hp=>?_,tracked ⟨oL,hoL,I.free⟩ hs,by simpa using I.len⟩ ⟨_,hs,.inl rfl⟩
    · exact (hs.2 b (Nat.ne_of_lt (Nat.lt_of_lt_of_le (Heap.lt_size e) I.ok.above))).trans (I.base.keep b o e n hb hx)
    · obtain ⟨sl,e1⟩:=I.base.slot b o e n hb hx
      exact ⟨sl,(hs.2 b (Nat.ne_of_lt (Nat.lt_of_lt_of_le (Heap.lt_size e) I.ok.above))).trans e1⟩
    · obtain ⟨o',e1⟩:=I.base.there b o e hx
      exact ⟨o',(hs.2 b (Nat.ne_of_lt (Nat.lt_of_lt_of_le (Heap.lt_size e) I.ok.above))).trans e1⟩
    · by_cases hj:j=i
      · subst hj
        rw [hi] at e1; cases e1
        rw [List.getElem?_set_self hiσ] at e2
        cases e2
        exact ⟨u,r,.inl ⟨hk,by simp⟩⟩
      · rw [List.getElem?_set_ne (Ne.symm hj)] at e2
        obtain ⟨u',r',q⟩:=hl j y v' e1 e2 e3
        refine ⟨u',r',?_⟩
        rcases q with ⟨k,e⟩ | ⟨k,c,e,z⟩
        · refine .inl ⟨k,?_⟩
          have:y ≠ x:=fun e=>hj (zhj hN e1 (e ▸ hi))
          simp [this,e]
        · exact .inr ⟨k,c,e,z.sameBut hs (cne y c e)⟩
    · obtain ⟨w',z⟩:=I.cell y c e
      exact ⟨w',z.sameBut hs (cne y c e)⟩
    · obtain ⟨e,n,ne,nf,d⟩:=I.pin p hp
      exact ⟨(hs.2 p.1 ne).trans e,n,ne,nf,d⟩
  · have hfn:X.fn x=true:=by
      rcases hf with z | z
      · exact z
      · rw [z] at hk; cases hk
    obtain ⟨c,hc⟩:=I.ok.has x (.inl hk)
    obtain ⟨w',z⟩:=I.cell x c hc
    refine wpAny_storeName_cell I.ok.kind hk hc z (fun h' hc' hs=>?_)
    obtain ⟨oc,hoc,hocd⟩:=id z
    refine h { s with heap:=h' } ⟨I.ok,I.os,I.bare,⟨fun b o e n hb hx=>?_,fun b o e n hb hx=>?_,I.base.free,fun b o e hx=>?_,I.base.tups,I.base.frzs,I.base.tbls⟩,⟨m,hn.sameBut hs (Ne.symm (cne x c hc)),fun j y v' e1 e2 e3=>?_⟩,fun y c' e=>?_,I.free,I.freeC,fun p hp=>?_,tracked ⟨oc,hoc,I.freeC x c hc⟩ hs,by simpa using I.len⟩ ⟨c,hs,.inr hc⟩
    · exact (hs.2 b (Nat.ne_of_lt (Nat.lt_of_lt_of_le (Heap.lt_size e) (I.ok.cab x c hfn hc)))).trans (I.base.keep b o e n hb hx)
    · obtain ⟨sl,e1⟩:=I.base.slot b o e n hb hx
      exact ⟨sl,(hs.2 b (Nat.ne_of_lt (Nat.lt_of_lt_of_le (Heap.lt_size e) (I.ok.cab x c hfn hc)))).trans e1⟩
    · obtain ⟨o',e1⟩:=I.base.there b o e hx
      exact ⟨o',(hs.2 b (Nat.ne_of_lt (Nat.lt_of_lt_of_le (Heap.lt_size e) (I.ok.cab x c hfn hc)))).trans e1⟩
    · by_cases hj:j=i
      · subst hj
        rw [hi] at e1; cases e1
        rw [List.getElem?_set_self hiσ] at e2
        cases e2
        exact ⟨u,r,.inr ⟨.inl hk,c,hc,hc'⟩⟩
      · rw [List.getElem?_set_ne (Ne.symm hj)] at e2
        obtain ⟨u',r',q⟩:=hl j y v' e1 e2 e3
        refine ⟨u',r',?_⟩
        rcases q with q | ⟨k,c',e,z'⟩
        · exact .inl q
        · refine .inr ⟨k,c',e,z'.sameBut hs ?_⟩
          rintro rfl
          exact hj (zhj hN e1 (I.ok.inj _ _ _ e hc ▸ hi))
    · by_cases hcc:c'=c
      · subst hcc; exact ⟨_,hc'⟩
      · obtain ⟨w2,z2⟩:=I.cell y c' e
        exact ⟨w2,z2.sameBut hs hcc⟩
    · obtain ⟨e,n,ne,nf,d⟩:=I.pin p hp
      refine ⟨(hs.2 p.1 ?_).trans e,n,ne,nf,d⟩
      intro q
      rw [q,hoc] at e
      have q':oc=p.2:=Option.some.inj e
      exact d w' (by rw [← q']; exact hocd)
theorem ze1 {M:Model} {A:Around} {E:Value→Shared→Prop} {i:Nat} {x:Str} {v:V} {u:Value} {Q:Unit→Shared→Prop} (I:Inv X pins σ H s) (hN:X.N.Nodup) (hi:X.N[i]?=some x) (hx:Loc X.env.scope x) (r:RelV v u)
    (h:∀ s',Inv X pins (σ.set i (some v)) H s'→Q () s') (hf:X.fn x=true∨X.env.scope.names.lookup x=some .local:=by first | exact .inl rfl | exact .inr rfl | assumption):wpAny M A (storeName X.env x u) Q E s :=
  zlh I hN hi hx r (fun s' I' _=>h s' I') hf
end
abbrev XK:=Value→Option Addr→Hp→Prop
abbrev St:=List (Option V)
abbrev VK:=V→Hp→Prop
abbrev TE:=St→Hp→VK→Prop
abbrev TT:=St→Hp→(Bool→Hp→Prop)→Prop
abbrev TA:=St→Hp→(List V→Hp→Prop)→Prop
structure Ends where
  nx:St→Hp→Prop
  rt:VK
  bk:St→Hp→Prop:=fun _ _=>False
  ct:St→Hp→Prop:=fun _ _=>False
abbrev TS:=Ends→St→Hp→Prop
def EP (X:Cx) (pins:List (Addr × Obj)) (σ:St) (Q:VK) (u:Value) (s':Shared):Prop:=∃ v H',Inv X pins σ H' s'∧RelV v u∧Q v H'
def TP (X:Cx) (pins:List (Addr × Obj)) (σ:St) (Q:Bool→Hp→Prop) (b:Bool) (s':Shared):Prop:=∃ H',Inv X pins σ H' s'∧Q b H'
def AP (X:Cx) (pins:List (Addr × Obj)) (σ:St) (Q:List V→Hp→Prop) (us:List Value) (s':Shared):Prop:=∃ vs H',Inv X pins σ H' s'∧Vals vs us∧Q vs H'
def SP (X:Cx) (pins:List (Addr × Obj)) (D:Ends) (f:Flow) (s':Shared):Prop :=
  match f with
  | .next=>∃ σ' H',Inv X pins σ' H' s'∧D.nx σ' H'
  | .brk=>∃ σ' H',Inv X pins σ' H' s'∧D.bk σ' H'
  | .cont=>∃ σ' H',Inv X pins σ' H' s'∧D.ct σ' H'
  | .ret u=>∃ v σ' H',Inv X pins σ' H' s'∧RelV v u∧D.rt v H'
def PE (X:Cx) (e:Expr) (t:TE):Prop :=
  ∀ (pins:List (Addr × Obj)) (s:Shared) (σ:St) (H:Hp) (Q:VK),Inv X pins σ H s→t σ H Q→wpAny (model X.prog X.w) X.A (eval e X.env) (EP X pins σ Q) X.xe s
def PT (X:Cx) (e:Expr) (t:TT):Prop :=
  ∀ (pins:List (Addr × Obj)) (s:Shared) (σ:St) (H:Hp) (Q:Bool→Hp→Prop),Inv X pins σ H s→t σ H Q→wpAny (model X.prog X.w) X.A (isTrue e X.env (eval e X.env)) (TP X pins σ Q) X.xe s
def PW (X:Cx) (e:Expr) (t:TT):Prop :=
  ∀ (whole:Sem Value) (pins:List (Addr × Obj)) (s:Shared) (σ:St) (H:Hp) (Q:Bool→Hp→Prop),Inv X pins σ H s→t σ H Q→wpAny (model X.prog X.w) X.A (isTrue e X.env whole) (TP X pins σ Q) X.xe s
theorem PW.pt {X:Cx} {e:Expr} {t:TT} (h:PW X e t):PT X e t:=h _
def PA (X:Cx) (es:List Expr) (t:TA):Prop :=
  ∀ (pos:Pos) (pins:List (Addr × Obj)) (s:Shared) (σ:St) (H:Hp) (Q:List V→Hp→Prop),Inv X pins σ H s→t σ H Q→wpAny (model X.prog X.w) X.A (spliced (backTo pos (starEach es X.env))) (AP X pins σ Q) X.xe s
def PS (X:Cx) (st:Stmt) (t:TS):Prop :=
  ∀ (pins:List (Addr × Obj)) (s:Shared) (σ:St) (H:Hp) (D:Ends),Inv X pins σ H s→t D σ H→wpAny (model X.prog X.w) X.A (exec st X.env) (SP X pins D) X.xe s
def PSs (X:Cx) (st:List Stmt) (t:TS):Prop :=
  ∀ (pins:List (Addr × Obj)) (s:Shared) (σ:St) (H:Hp) (D:Ends),Inv X pins σ H s→t D σ H→wpAny (model X.prog X.w) X.A (execs st X.env) (SP X pins D) X.xe s
theorem thn {α:Type} {t:Sem α} {Q Q':α→Shared→Prop} {M:Model} {A:Around} {E:Value→Shared→Prop} {s:Shared} (h:wpAny M A t Q E s) (hQ:∀ a s,Q a s→Q' a s):wpAny M A t Q' E s:=wpAny_mono h hQ fun _ _ x=>x
end L2
namespace L2
open PySem PySem.Spec PyProof.Rows
section
variable {X:Cx}
def tVar (i:Nat):TE:=fun σ H Q=>∃ v,σ[i]?=some (some v)∧Q v H
def tC (v:V):TE:=fun _ H Q=>Q v H
theorem zpE {i:Nat} {x:Str} {pos:Pos} (hN:X.N[i]?=some x) (hv:Vis X.env.scope x) (hd:(x == ("__debug__" : Str))=false:=by decide) (hcd:(x == ("__classdict__" : Str))=false:=by decide):PE X (.Name x pos) (tVar i):=by
  intro pins s σ H Q I h
  obtain ⟨v,e,h⟩:=h
  obtain ⟨m,hn,hl⟩:=I.loc
  obtain ⟨u,r,l⟩:=hl i x v hN e hv
  have fin:EP X pins σ Q u s:=⟨v,H,I,r,h⟩
  rcases l with ⟨hk,hm⟩ | ⟨hk,c,hc,hcell⟩
  · exact wpAny_Name (wpAny_loadName_local I.ok.kind hk hn hm fin) hd
  · rcases hk with hk | hk
    · exact wpAny_Name (wpAny_loadName_cell I.ok.kind hk hc hcell fin) hd
    · exact wpAny_Name (wpAny_loadName_free I.ok.kind hk hc hcell fin hcd) hd
theorem zam {i j pos}:PE X (.Constant (.int i) j pos) (tC (.int i)):=fun _ _ _ H _ I h=>wpAny_Constant_int ⟨.int i,H,I.tok _,⟨_,rfl⟩,h⟩
theorem zgT {b j pos}:PE X (.Constant (.bool b) j pos) (tC (.bl b)):=fun _ _ _ H _ I h=>Constant_bool ⟨.bl b,H,I,rfl,h⟩
theorem ziu {j pos}:PE X (.Constant .none j pos) (tC .non):=fun _ _ _ H _ I h=>Constant_none ⟨.non,H,I,rfl,h⟩
theorem zk1 {x j pos}:PE X (.Constant (.str x) j pos) (tC (.str x)):=fun _ _ _ H _ I h=>Calls.Constant_str ⟨.str x,H,I.tok _,⟨_,rfl⟩,h⟩
def Gl (X:Cx) (x:Str):Prop:=X.env.kindOf x=some .globalImplicit
theorem zeI {E:Value→Shared→Prop} {pins:List (Addr × Obj)} {s:Shared} {σ:St} {H:Hp} {x:Str} {u:Value} {pos:Pos} {Q:Value→Shared→Prop} (I:Inv X pins σ H s) (hg:Gl X x) (hm:X.mg x=some u) (h:Q u s)
    (hd:(x == ("__debug__" : Str))=false:=by decide):wpAny (model X.prog X.w) X.A (eval (.Name x pos) X.env) Q E s :=
  Calls.Name_function_global I.ok.kind hg (Calls.loadGlobal_global (by rw [I.ok.glob]; exact I.mod.glob.keeps I.bk) hm h) hd
theorem zfD {E:Value→Shared→Prop} {pins:List (Addr × Obj)} {s:Shared} {σ:St} {H:Hp} {x:Str} {u:Value} {pos:Pos} {Q:Value→Shared→Prop} (I:Inv X pins σ H s) (hg:Gl X x) (hm:X.mg x=none) (hv:bootBuiltins x=some u) (h:Q u s)
    (hn:x ≠ "__name__":=by decide) (hd:(x == ("__debug__" : Str))=false:=by decide):wpAny (model X.prog X.w) X.A (eval (.Name x pos) X.env) Q E s:=by
  obtain ⟨mb,h1,h2⟩:=I.mod.blt
  exact Calls.Name_function_global I.ok.kind hg (Calls.loadGlobal_builtin (by rw [I.ok.glob]; exact I.mod.glob.keeps I.bk) hm (by rw [I.ok.blt]; exact h1.keeps I.bk) ((h2 x hn).trans hv) h) hd
theorem zgA {x:Str} {v:V} {u:Value} {pos:Pos} (hg:Gl X x) (hm:X.mg x=some u) (r:RelV v u) (hd:(x == ("__debug__" : Str))=false:=by decide):PE X (.Name x pos) (tC v) :=
  fun _ _ _ H _ I h=>zeI I hg hm ⟨v,H,I,r,h⟩ hd
theorem ziN {x:Str} {v:V} {u:Value} {pos:Pos} (hg:Gl X x) (hm:X.mg x=none) (hv:bootBuiltins x=some u) (r:RelV v u) (hn:x ≠ "__name__":=by decide) (hd:(x == ("__debug__" : Str))=false:=by decide):PE X (.Name x pos) (tC v) :=
  fun _ _ _ H _ I h=>zfD I hg hm hv ⟨v,H,I,r,h⟩ hn hd
variable {a b:Expr} {ta tb:TE} {pos:Pos}
def PC (X:Cx) (op:CmpOp) (a b:Expr) (t:TE):Prop :=
  ∀ (pins:List (Addr × Obj)) (s:Shared) (σ:St) (H:Hp) (Q:VK),Inv X pins σ H s→t σ H Q →
    wpAny (model X.prog X.w) X.A (eval a X.env) (fun v s₁=>wpAny (model X.prog X.w) X.A (eval b X.env) (fun u s₂=>wpAny (model X.prog X.w) X.A (compareOp op v u) (EP X pins σ Q) X.xe s₂) X.xe s₁) X.xe s
def tB (t:TE):TT:=fun σ H Q=>t σ H fun x H1=>∃ c,x = .bl c∧Q c H1
theorem znU {op:CmpOp} {t:TE} (h:PC X op a b t) (h1:behindInMarks op b=false:=by first | exact nobehind _ (by decide) (by decide) | rfl):PT X (.Compare a [op] [b] pos) (tB t):=by
  intro pins s σ H Q I hw
  refine wpAny_isTrue_Compare1 (thn (h pins s σ H _ I hw) fun v s1 h1=>thn h1 fun u s2 h2=>thn h2 fun c s3 ⟨x,H1,I1,r1,q1⟩=>?_) h1
  obtain ⟨d,rfl,q⟩:=q1
  cases r1
  exact wpAny_truthy_bool ⟨H1,I1,q⟩
theorem zec {e:Expr} {t:TE} (h:PE X e t) (he:∀ whole,isTrue e X.env whole=(do let v ← whole; standAt e.pos; holding [v] (truthy v)):=by intro _; rfl):PT X e (tB t):=by
  intro pins s σ H Q I hw
  refine isTrue_plain (thn (h pins s σ H _ I hw) fun v s1 ⟨x,H1,I1,r1,q1⟩=>?_) (he _)
  obtain ⟨d,rfl,q⟩:=q1
  cases r1
  exact wpAny_truthy_bool ⟨H1,I1,q⟩
variable {tA tB':TT} {rest:List Expr}
def tAnd (t u:TT):TT:=fun σ H Q=>t σ H fun c H1=>if c=true then u σ H1 Q else Q false H1
def tOr (t u:TT):TT:=fun σ H Q=>t σ H fun c H1=>if c=true then Q true H1 else u σ H1 Q
def tNot (t:TT):TT:=fun σ H Q=>t σ H fun c H1=>Q (!c) H1
theorem zo9 (ha:PT X a tA):PW X (.BoolOp .And [a] pos) tA:=by
  intro wh pins s σ H Q I h
  refine isTrue_and (thn (ha pins s σ H Q I h) fun c s1 e=>?_)
  cases c with
  | true=>exact isTrue_and_nil e
  | false=>exact e
theorem zgX (ha:PT X a tA):PW X (.BoolOp .Or [a] pos) tA:=by
  intro wh pins s σ H Q I h
  refine isTrue_or (thn (ha pins s σ H Q I h) fun c s1 e=>?_)
  cases c with
  | false=>exact isTrue_or_nil e
  | true=>exact e
theorem zpA (ha:PT X a tA) (hb:PW X (.BoolOp .And (b :: rest) pos) tB'):PW X (.BoolOp .And (a :: b :: rest) pos) (tAnd tA tB'):=by
  intro wh pins s σ H Q I h
  refine isTrue_and (thn (ha pins s σ H _ I h) fun c s1 ⟨H1,I1,q1⟩=>?_)
  cases c with
  | true=>exact hb wh pins s1 σ H1 Q I1 q1
  | false=>exact ⟨H1,I1,q1⟩
theorem zhW (ha:PT X a tA) (hb:PW X (.BoolOp .Or (b :: rest) pos) tB'):PW X (.BoolOp .Or (a :: b :: rest) pos) (tOr tA tB'):=by
  intro wh pins s σ H Q I h
  refine isTrue_or (thn (ha pins s σ H _ I h) fun c s1 ⟨H1,I1,q1⟩=>?_)
  cases c with
  | true=>exact ⟨H1,I1,q1⟩
  | false=>exact hb wh pins s1 σ H1 Q I1 q1
theorem zhf (ha:PT X a tA):PT X (.UnaryOp .Not a pos) (tNot tA):=by
  intro pins s σ H Q I h
  exact isTrue_not (ha pins s σ H (fun c H1=>Q (!c) H1) I h)
def zpy (ta tb:TE):TE:=fun σ H Q=>ta σ H fun x H1=>∃ c,x = .bl c∧if c=true then tb σ H1 Q else Q (.bl false) H1
def zp4 (ta:TE):TE:=fun σ H Q=>ta σ H fun x H1=>∃ c,x = .bl c∧Q (.bl (!c)) H1
theorem zn7 {op} {t:TE} (h:PE X a t):PE X (.BoolOp op [a] pos) t:=fun pins s σ H Q I hw=>BoolOp_one (h pins s σ H Q I hw)
theorem zlO (ha:PE X a ta) (hb:PE X (.BoolOp .And (b :: rest) pos) tb):PE X (.BoolOp .And (a :: b :: rest) pos) (zpy ta tb):=by
  intro pins s σ H Q I h
  refine BoolOp_and (thn (ha pins s σ H _ I h) fun v s1 ⟨x,H1,I1,r1,q1⟩=>?_)
  obtain ⟨c,rfl,q1⟩:=q1
  cases r1
  refine wpAny_truthy_bool ?_
  cases c with
  | true=>exact hb pins s1 σ H1 Q I1 q1
  | false=>exact ⟨.bl false,H1,I1,rfl,q1⟩
theorem zk0 (ha:PE X a ta):PE X (.UnaryOp .Not a pos) (zp4 ta):=by
  intro pins s σ H Q I h
  refine UnaryOp_ (thn (ha pins s σ H _ I h) fun v s1 ⟨x,H1,I1,r1,q1⟩=>?_)
  obtain ⟨c,rfl,q1⟩:=q1
  cases r1
  exact not_of (wpAny_truthy_bool ⟨.bl (!c),H1,I1,rfl,q1⟩)
def tIf (t:TT) (ta tb:TE):TE:=fun σ H Q=>t σ H fun c H1=>if c=true then ta σ H1 Q else tb σ H1 Q
theorem znH {c:Expr} (hc:PT X c tA) (ha:PE X a ta) (hb:PE X b tb):PE X (.IfExp c a b pos) (tIf tA ta tb):=by
  intro pins s σ H Q I h
  refine wpAny_IfExp (thn (hc pins s σ H _ I h) fun d s1 ⟨H1,I1,q1⟩=>?_)
  cases d with
  | true=>exact ha pins s1 σ H1 Q I1 q1
  | false=>exact hb pins s1 σ H1 Q I1 q1
end
end L2
namespace L2
open PySem PySem.Spec PyProof.Rows
def SqL (K:PySem.W.Frag) (H:Hp) (a:Addr) (xs:List V):Prop :=
  Rd H a (.lst xs) ∨
    ∃ (o:Obj) (its:Array Value) (n:Nat),K.lookup a=some o∧o.cls = .type "list"∧o.dict=none∧o.data = .seq its n∧its.size ≤ sizeLine∧Vals xs its.toList
def SqT (K:PySem.W.Frag) (H:Hp) (a:Addr) (xs:List V):Prop :=
  Rd H a (.tup xs) ∨
    ∃ (o:Obj) (its:Array Value) (n:Nat),K.lookup a=some o∧o.cls = .type "tuple"∧o.data = .seq its n∧its.size ≤ sizeLine∧Vals xs its.toList
def absV:Value→Option V
  | .none=>some .non
  | .bool b=>some (.bl b)
  | .int i _=>some (.int i)
  | .str x _=>some (.str x)
  | .bytes b _=>some (.byt b)
  | .float b _=>some (.flt b)
  | .ref a=>some (.ref a)
  | .type n=>some (.ty n)
  | _=>none
theorem RelV.abs {x:V} {u:Value} (r:RelV x u):absV u=some x:=by
  cases x with
  | non=>cases r; rfl
  | bl _=>cases r; rfl
  | int _=>obtain ⟨t,rfl⟩:=r; rfl
  | str _=>obtain ⟨t,rfl⟩:=r; rfl
  | byt _=>obtain ⟨t,rfl⟩:=r; rfl
  | flt _=>obtain ⟨t,rfl⟩:=r; rfl
  | ref _=>cases r; rfl
  | ty _=>cases r; rfl
theorem RelV.inj {x y:V} {u:Value} (r:RelV x u) (q:RelV y u):x=y:=Option.some.inj (r.abs.symm.trans q.abs)
theorem Vals.inj:∀ {xs ys:List V} {us:List Value},Vals xs us→Vals ys us→xs=ys
  | _,_,_,.nil,.nil=>rfl
  | _,_,_,.cons r t,.cons r' t'=>by rw [r.inj r',Vals.inj t t']
section
variable {X:Cx} {pins:List (Addr × Obj)} {σ:St} {H:Hp} {s:Shared} {a:Addr} {xs ys:List V}
theorem SqT.of {K:PySem.W.Frag} (h:H a=some (.tup xs)):SqT K H a xs:=.inl (.inl h)
theorem Inv.list (I:Inv X pins σ H s) (h:SqL X.K H a xs):∃ its:List Value,Vals xs its∧PlainL s.heap a its.toArray∧xs.length ≤ sizeLine:=by
  rcases h with h | ⟨o,its,n,hk,hc,hd,hs,hz,r⟩
  · obtain ⟨z,its,n,r,e⟩:=h.ok I.hok
    exact ⟨its,r,⟨_,n,e,rfl,rfl,rfl⟩,z⟩
  · refine ⟨its.toList,r,⟨o,n,I.kIn a o hk,hc,hd,by simpa using hs⟩,?_⟩
    have e:=r.length
    simp only [Array.length_toList] at e
    omega
theorem Inv.tuple (I:Inv X pins σ H s) (h:SqT X.K H a xs):∃ its:List Value,Vals xs its∧IsTup s.heap a its.toArray∧xs.length ≤ sizeLine:=by
  rcases h with h | ⟨o,its,n,hk,hc,hs,hz,r⟩
  · obtain ⟨z,its,r,p⟩:=h.ok I.hok
    exact ⟨its,r,p,z⟩
  · refine ⟨its.toList,r,⟨o,I.kIn a o hk,hc,n,by simpa using hs⟩,?_⟩
    have e:=r.length
    simp only [Array.length_toList] at e
    omega
theorem Inv.list_inj (I:Inv X pins σ H s) (h:SqL X.K H a xs) (h':SqL X.K H a ys):xs=ys:=by
  obtain ⟨its,r,⟨o,n,e,_,_,d⟩,_⟩:=I.list h
  obtain ⟨its',r',⟨o',n',e',_,_,d'⟩,_⟩:=I.list h'
  rw [e] at e'; cases e'
  rw [d] at d'
  injection d' with d1 _
  have:its=its':=by simpa using congrArg Array.toList d1
  subst this
  exact r.inj r'
theorem Inv.tuple_inj (I:Inv X pins σ H s) (h:SqT X.K H a xs) (h':SqT X.K H a ys):xs=ys:=by
  obtain ⟨its,r,⟨o,e,_,n,d⟩,_⟩:=I.tuple h
  obtain ⟨its',r',⟨o',e',_,n',d'⟩,_⟩:=I.tuple h'
  rw [e] at e'; cases e'
  rw [d] at d'
  injection d' with d1 _
  have:its=its':=by simpa using congrArg Array.toList d1
  subst this
  exact r.inj r'
end
abbrev Cx.wish (X:Cx) (E:Value→Shared→Prop):Cx:={ X with xe:=E }
abbrev Cx.nox (X:Cx):Cx:=X.wish fun _ _=>False
theorem Cx.Ok.wish {X:Cx} (ok:X.Ok) (E:Value→Shared→Prop):(X.wish E).Ok :=
  ⟨ok.mod,ok.kind,ok.glob,ok.blt,ok.above,ok.inj,ok.has,ok.cab,ok.hd,ok.frames,ok.stk,ok.exf,ok.bs,ok.bsz,ok.noex,ok.exfs,ok.funs,ok.frf,ok.tb⟩
theorem Cx.Ok.unwish {X:Cx} {E:Value→Shared→Prop} (ok:(X.wish E).Ok):X.Ok :=
  ⟨ok.mod,ok.kind,ok.glob,ok.blt,ok.above,ok.inj,ok.has,ok.cab,ok.hd,ok.frames,ok.stk,ok.exf,ok.bs,ok.bsz,ok.noex,ok.exfs,ok.funs,ok.frf,ok.tb⟩
section
variable {X:Cx} {pins:List (Addr × Obj)} {σ:St} {H:Hp} {s:Shared} {E:Value→Shared→Prop}
theorem Inv.wish (I:Inv X pins σ H s) (E:Value→Shared→Prop):Inv (X.wish E) pins σ H s:=⟨I.ok.wish E,I.os,I.bare,I.base,I.loc,I.cell,I.free,I.freeC,I.pin,I.hok,I.len⟩
theorem Inv.unwish (I:Inv (X.wish E) pins σ H s):Inv X pins σ H s:=⟨I.ok.unwish,I.os,I.bare,I.base,I.loc,I.cell,I.free,I.freeC,I.pin,I.hok,I.len⟩
theorem SP.unwish {D:Ends} {f:Flow} {s':Shared} (h:SP (X.wish E) pins D f s'):SP X pins D f s':=by
  cases f with
  | next=>obtain ⟨σ',H',I,q⟩:=h; exact ⟨σ',H',I.unwish,q⟩
  | brk=>obtain ⟨σ',H',I,q⟩:=h; exact ⟨σ',H',I.unwish,q⟩
  | cont=>obtain ⟨σ',H',I,q⟩:=h; exact ⟨σ',H',I.unwish,q⟩
  | ret u=>obtain ⟨v,σ',H',I,r,q⟩:=h; exact ⟨v,σ',H',I.unwish,r,q⟩
theorem PSs.nox {st:List Stmt} {t:TS} (h:PSs X.nox st t):PSs X st t:=fun pins s σ H D I hw =>
  wpAny_mono (h pins s σ H D (I.wish _) hw) (fun _ _ q=>q.unwish) fun _ _ z=>False.elim z
end
section
variable {X:Cx} {st:Stmt} {rest:List Stmt} {t u:TS} {e:Expr} {te:TE} {pos:Pos}
def zmY:TS:=fun D σ H=>D.nx σ H
def tSeq (t u:TS):TS:=fun D σ H=>t { D with nx:=u D } σ H
theorem zbf:PSs X [] zmY:=fun _ _ σ H _ I h=>wpAny_execs_nil ⟨σ,H,I,h⟩
theorem zaf (h1:PS X st t) (h2:PSs X rest u):PSs X (st :: rest) (tSeq t u):=by
  intro pins s σ H D I h
  refine wpAny_execs_cons (thn (h1 pins s σ H { D with nx:=u D } I h) fun f s1 q=>?_)
  cases f with
  | next =>
    obtain ⟨σ',H',I',q⟩:=q
    exact h2 pins s1 σ' H' D I' q
  | ret v=>exact q
  | brk=>exact q
  | cont=>exact q
theorem zah (h1:PS X st t):PSs X [st] t:=by
  intro pins s σ H D I h
  refine wpAny_execs_cons (thn (h1 pins s σ H D I h) fun f s1 q=>?_)
  cases f with
  | next=>exact wpAny_execs_nil q
  | ret v=>exact q
  | brk=>exact q
  | cont=>exact q
theorem Inv.quiet {pins:List (Addr × Obj)} {σ:St} {H:Hp} {s:Shared} (I:Inv X pins σ H s):interactive X.env=false:=by simp [interactive,I.ok.kind]
def zmy (te:TE):TS:=fun D σ H=>te σ H fun _ H1=>D.nx σ H1
theorem zbl (he:PE X e te) (hs:swapsWith e none pos.line X.env=pure false:=by rfl):PS X (.Expr e pos) (zmy te):=by
  intro pins s σ H D I h
  exact wpAny_Expr_any (thn (he pins s σ H _ I h) fun v s1 ⟨x,H1,I1,r1,q1⟩=>⟨σ,H1,I1,q1⟩) I.quiet hs
def tRet (te:TE):TS:=fun D σ H=>te σ H D.rt
theorem zaN (he:PE X e te):PS X (.Return (some e) pos) (tRet te):=by
  intro pins s σ H D I h
  exact wpAny_Return_some (thn (he pins s σ H _ I h) fun v s1 ⟨x,H1,I1,r1,q1⟩=>⟨x,σ,H1,I1,r1,q1⟩)
def tIfS (c:TT) (t u:TS):TS:=fun D σ H=>c σ H fun b H1=>if b=true then t D σ H1 else u D σ H1
theorem zcg {c:Expr} {a b:List Stmt} {tc:TT} (hc:PT X c tc) (ha:PSs X a t) (hb:PSs X b u):PS X (.If c a b pos) (tIfS tc t u):=by
  intro pins s σ H D I h
  refine wpAny_If (thn (hc pins s σ H _ I h) fun d s1 ⟨H1,I1,q1⟩=>?_)
  cases d with
  | true=>exact ha pins s1 σ H1 D I1 q1
  | false=>exact hb pins s1 σ H1 D I1 q1
def znV:TS:=fun _ _ _=>False
theorem zmf {sts:List Stmt}:PSs X sts znV:=fun _ _ _ _ _ _ h=>h.elim
end
abbrev TG:=V→St→Hp→(St→Hp→Prop)→Prop
abbrev TGs:=List V→St→Hp→(St→Hp→Prop)→Prop
def PG (X:Cx) (target:Expr) (t:TG):Prop :=
  ∀ (pins:List (Addr × Obj)) (s:Shared) (σ:St) (H:Hp) (v:V) (u:Value) (Q:St→Hp→Prop),Inv X pins σ H s→RelV v u→t v σ H Q →
    wpAny (model X.prog X.w) X.A (assign target X.env u) (fun _ s'=>∃ σ' H',Inv X pins σ' H' s'∧Q σ' H') X.xe s
def PGs (X:Cx) (ts:List Expr) (t:TGs):Prop :=
  ∀ (pins:List (Addr × Obj)) (s:Shared) (σ:St) (H:Hp) (vs:List V) (us:List Value) (Q:St→Hp→Prop),Inv X pins σ H s→Vals vs us→t vs σ H Q →
    wpAny (model X.prog X.w) X.A (assignInOrder ((assignEach ts X.env).map (·.2)) us) (fun _ s'=>∃ σ' H',Inv X pins σ' H' s'∧Q σ' H') X.xe s
abbrev TSet:=V→V→V→Hp→(Hp→Prop)→Prop
def PSet (X:Cx) (t:TSet):Prop :=
  ∀ (pins:List (Addr × Obj)) (s:Shared) (σ:St) (H:Hp) (o i v:V) (ov iv u:Value) (Q:Hp→Prop),Inv X pins σ H s→RelV o ov→RelV i iv→RelV v u→t o i v H Q →
    wpAny (model X.prog X.w) X.A (setItem ov iv u) (fun _ s'=>∃ H',Inv X pins σ H' s'∧Q H') X.xe s
section
variable {X:Cx} {pos:Pos}
def zfu (i:Nat):TG:=fun v σ H Q=>Q (σ.set i (some v)) H
theorem zay {i:Nat} {x:Str} (hN:X.N.Nodup) (hi:X.N[i]?=some x) (hx:Loc X.env.scope x) (hf:X.fn x=true∨X.env.scope.names.lookup x=some .local:=by first | exact .inl rfl | exact .inr rfl | assumption):PG X (.Name x pos) (zfu i):=by
  intro pins s σ H v u Q I r h
  exact wpAny_assign_Name (ze1 I hN hi hx r (fun s' I'=>⟨_,H,I',h⟩) hf)
def gNil:TGs:=fun vs σ H Q=>vs = []∧Q σ H
def zqj (t:TG) (u:TGs):TGs:=fun vs σ H Q=>∃ v r,vs=v :: r∧t v σ H fun σ' H'=>u r σ' H' Q
theorem zgq:PGs X [] gNil:=by
  intro pins s σ H vs us Q I r h
  obtain ⟨e,h⟩:=h
  subst e
  cases r
  exact assignInOrder_nil ⟨σ,H,I,h⟩
theorem zb0 {e:Expr} {es:List Expr} {t:TG} {u:TGs} (h1:PG X e t) (h2:PGs X es u)
    (hs:(assignEach (e :: es) X.env).map (·.2)=assign e X.env :: (assignEach es X.env).map (·.2):=by rfl):PGs X (e :: es) (zqj t u):=by
  intro pins s σ H vs us Q I r h
  obtain ⟨v,vr,e1,h⟩:=h
  subst e1
  cases r with
  | cons r rr =>
    rw [hs]
    refine assignInOrder_cons (thn (h1 pins s σ H _ _ _ I r h) fun _ s1 ⟨σ1,H1,I1,q1⟩=>?_)
    exact h2 pins s1 σ1 H1 _ _ Q I1 rr q1
def gTup (K:PySem.W.Frag) (n:Nat) (t:TGs):TG:=fun v σ H Q=>∃ a xs,v = .ref a∧SqT K H a xs∧xs.length=n∧t xs σ H Q
theorem zjR {es:List Expr} {k:Nat} {t:TGs} {n:Nat} (hc:X.calm=true) (h:PGs X es t)
    (hn:(assignEach es X.env).length=n:=by rfl) (hst:(assignEach es X.env).findIdx? (·.1)=none:=by rfl):PG X (.Tuple es k pos) (gTup X.K n t):=by
  intro pins s σ H v u Q I r hw
  obtain ⟨a,xs,e1,hq,hl,hw⟩:=hw
  subst e1
  cases r
  obtain ⟨its,rv,ht,hz⟩:=I.tuple hq
  refine assign_Tuple_tuple (I.ok.hd hc) ht (by simp [hn,← hl,rv.length]) hst fun h' hx=>?_
  have I1:Inv X pins σ H { s with heap:=h' }:=I.kept (t':=s.toks) fun b o e=>hx b o (Nat.ne_of_lt (Heap.lt_size e)) e
  exact h pins _ σ H xs _ Q I1 (by simpa using rv) hw
def gSub (to ti:TE) (t:TSet):TG:=fun v σ H Q=>to σ H fun o H1=>ti σ H1 fun i H2=>t o i v H2 fun H3=>Q σ H3
theorem zgh {o i:Expr} {to ti:TE} {t:TSet} (ho:PE X o to) (hi:PE X i ti) (hs:PSet X t)
    (ha:∀ v,assign (.Subscript o i pos) X.env v=(do
      let ov ← holding [v] (eval o X.env)
      let iv ← holding [v,ov] (eval i X.env)
      standAt pos
      holding [v,ov,iv] (setItem ov iv v)
      release [v,ov,iv] []):=by intro _; rfl):PG X (.Subscript o i pos) (gSub to ti t):=by
  intro pins s σ H v u Q I r h
  rw [ha]
  refine wpAny_bind (wpAny_holding (thn (ho pins s σ H _ I h) fun ov s1 ⟨x,H1,I1,r1,q1⟩=>?_))
  refine wpAny_bind (wpAny_holding (thn (hi pins s1 σ H1 _ I1 q1) fun iv s2 ⟨y,H2,I2,r2,q2⟩=>?_))
  refine wpAny_bind (wpAny_standAt (wpAny_bind (wpAny_holding (thn (hs pins s2 σ H2 x y v ov iv u _ I2 r1 r2 r q2) fun _ s3 ⟨H3,I3,q3⟩=>?_))))
  exact wpAny_release ⟨σ,H3,I3,q3⟩
def tAsg (te:TE) (g:TG):TS:=fun D σ H=>te σ H fun x H1=>g x σ H1 D.nx
theorem zfJ {tg e:Expr} {te:TE} {g:TG} (he:PE X e te) (hg:PG X tg g) (hs:swapsWithSole [tg] e pos.line X.env=pure false:=by rfl) (hw:swappedStores [tg] e X.env=pure none:=by rfl)
    (h1:(assignEach [tg] X.env).map (·.2) = [assign tg X.env]:=by rfl):PS X (.Assign [tg] e pos) (tAsg te g):=by
  intro pins s σ H D I h
  refine wpAny_Assign_stores (thn (he pins s σ H _ I h) fun v s1 ⟨x,H1,I1,r1,q1⟩=>?_) hs hw
  rw [h1]
  exact thn (hg pins s1 σ H1 x v _ I1 r1 q1) fun _ s2 q=>q
theorem zaL {i:Nat} {x:Str} {e:Expr} {te:TE} {pos':Pos} (hN:X.N.Nodup) (hi:X.N[i]?=some x) (hx:Loc X.env.scope x) (he:PE X e te) (hs:swapsWith e (some (.Name x pos')) pos.line X.env=pure false:=by rfl) (hf:X.fn x=true∨X.env.scope.names.lookup x=some .local:=by first | exact .inl rfl | exact .inr rfl | assumption) :
    PS X (.Assign [.Name x pos'] e pos) (tAsg te (zfu i)):=by
  intro pins s σ H D I h
  refine wpAny_Assign_Name (thn (he pins s σ H _ I h) fun v s1 ⟨y,H1,I1,r1,q1⟩=>?_) hs
  exact ze1 I1 hN hi hx r1 (fun s2 I2=>⟨_,H1,I2,q1⟩) hf
end
section
variable {X:Cx} {pos:Pos}
def znS (c:TT) (tb:TS):TS:=fun D σ H=>∃ W:Nat→St→Hp→Prop,(∃ m,W m σ H)∧∀ m σ H,W m σ H →
  c σ H fun b H1=>if b=true then ∃ N:St→Hp→Prop,(∀ σ' H',N σ' H'→∃ m',m' < m∧W m' σ' H')∧tb { D with nx:=N,ct:=N,bk:=D.nx } σ H1 else D.nx σ H1
theorem zhJ {c:Expr} {body:List Stmt} {tc:TT} {tb:TS} (hp:PassesOwn (model X.prog X.w) X.A X.env X.xe) (hc:PT X c tc) (hb:PSs X body tb):PS X (.While c body [] pos) (znS tc tb):=by
  intro pins s σ H D I h
  obtain ⟨W,⟨m0,w0⟩,turn⟩:=h
  refine wpAny_While (codeAny_whileLoop (fun n s'=>∃ σ' H',Inv X pins σ' H' s'∧W n σ' H') ?_ m0 ⟨σ,H,I,w0⟩)
  rintro n s1 ⟨σ1,H1,I1,w1⟩
  refine wpAny_passesOwn hp (thn (hc pins s1 σ1 H1 _ I1 (turn n σ1 H1 w1)) fun b s2 ⟨H2,I2,q2⟩=>?_)
  cases b with
  | true =>
    obtain ⟨N,hN,q2⟩:=q2
    rw [if_pos rfl]
    refine wpAny_passesOwn hp (thn (hb pins s2 σ1 H2 _ I2 q2) fun f s3 q3=>?_)
    cases f with
    | next =>
      obtain ⟨σ3,H3,I3,n3⟩:=q3
      obtain ⟨m',hm,w3⟩:=hN σ3 H3 n3
      exact ⟨m',hm,σ3,H3,I3,w3⟩
    | cont =>
      obtain ⟨σ3,H3,I3,n3⟩:=q3
      obtain ⟨m',hm,w3⟩:=hN σ3 H3 n3
      exact ⟨m',hm,σ3,H3,I3,w3⟩
    | brk=>exact q3
    | ret v=>exact q3
  | false =>
    rw [if_neg Bool.false_ne_true]
    exact wpAny_execs_nil ⟨σ1,H2,I2,q2⟩
end
structure It where
  go:Nat→Hp→Prop
  yld:Nat→Hp→V→Hp→Prop
  stop:Nat→Hp→Prop
def FpOk (X:Cx) (pins:List (Addr × Obj)) (H:Hp) (b:Addr):Prop :=
  H b=none∧b ≠ X.env.locals∧b ∉ X.fs∧(b ∈ X.ex∨X.s₀.heap.objs.size ≤ b)∧(∀ x c,X.env.cells.lookup x=some c→c ≠ b)∧∀ p ∈ X.pn ++ pins,p.1 ≠ b
theorem Inv.fpOk {X:Cx} {pins:List (Addr × Obj)} {σ:St} {H H':Hp} {s:Shared} {b:Addr} (I:Inv X pins σ H s) (hb:s.heap.objs.size ≤ b) (hn:H' b=none):FpOk X pins H' b:=by
  refine ⟨hn,Nat.ne_of_gt (Nat.lt_of_lt_of_le I.lt hb),I.nofs hb,.inr (Nat.le_trans I.sz hb),fun x c e z=>?_,fun p hp z=>?_⟩
  · obtain ⟨v,q⟩:=I.cell x c e
    exact absurd (Nat.lt_of_lt_of_le q.lt (by rw [z]; exact hb)) (Nat.lt_irrefl _)
  · exact absurd (Nat.lt_of_lt_of_le (Heap.lt_size (I.pin p hp).1) (by rw [z]; exact hb)) (Nat.lt_irrefl _)
structure Turn (P:Program) (w:World) (K:PySem.W.Frag) (tg:Expr) (J:It) (fp:List Addr) (it:Addr) (tn:Nat→Heap→Prop):Prop where
  mem:it ∈ fp
  obj:∀ i h,tn i h→∀ b ∈ fp,∃ o,h.get? b=some o∧∀ v,o.data ≠ .cell v
  keep:∀ i h h',tn i h→(∀ b ∈ fp,∀ o,h.get? b=some o→h'.get? b=some o)→tn i h'
  item:∀ (X:Cx),X.prog=P→X.w=w→X.K=K→X.calm=true→∀ (i:Nat) (pins:List (Addr × Obj)) (s:Shared) (σ:St) (H:Hp) (E:Value→Shared→Prop),Inv X pins σ H s→(∀ b ∈ fp,FpOk X pins H b)→tn i s.heap→J.go i H →
    wpAny (model P w) X.A (pyNext (.ref it)) (fun r s1=>∃ u,r=some u ∧
      wpAny (model P w) X.A (letOwnedTupleGo tg (.ref it) u) (fun _ s2=>∃ x H',Inv X pins σ H' s2∧RelV x u∧J.yld i H x H'∧tn (i + 1) s2.heap∧∀ b ∈ fp,H' b=none) E s1) E s
  done:∀ (X:Cx),X.prog=P→X.w=w→X.K=K→X.calm=true→∀ (i:Nat) (pins:List (Addr × Obj)) (s:Shared) (σ:St) (H:Hp) (E:Value→Shared→Prop),Inv X pins σ H s→(∀ b ∈ fp,FpOk X pins H b)→tn i s.heap→J.stop i H →
    wpAny (model P w) X.A (pyNext (.ref it)) (fun r s1=>r=none∧Inv X pins σ H s1) E s
  self:∀ (A:Around) (i:Nat) (s:Shared) (Q:Value→Shared→Prop) (E:Value→Shared→Prop),tn i s.heap→Q (.ref it) s→wpAny (model P w) A (pyIter (.ref it)) Q E s
abbrev TI:=St→Hp→(It→Hp→Prop)→Prop
def PIE (X:Cx) (pins:List (Addr × Obj)) (σ:St) (tg:Expr) (R:It→Hp→Prop) (itv:Value) (s2:Shared):Prop :=
  ∃ (it:Addr) (fp:List Addr) (tn:Nat→Heap→Prop) (J:It) (H':Hp),itv = .ref it∧Inv X pins σ H' s2∧Turn X.prog X.w X.K tg J fp it tn∧tn 0 s2.heap∧(∀ b ∈ fp,FpOk X pins H' b)∧R J H'
def PI (X:Cx) (tg iter:Expr) (wi:TI):Prop :=
  ∀ (pins:List (Addr × Obj)) (s:Shared) (σ:St) (H:Hp) (R:It→Hp→Prop),Inv X pins σ H s→wi σ H R →
    wpAny (model X.prog X.w) X.A (eval iter X.env) (fun v s1=>wpAny (model X.prog X.w) X.A (pyIter v) (PIE X pins σ tg R) X.xe s1) X.xe s
theorem zlt {M:Model} {A:Around} {E:Value→Shared→Prop} {s:Shared} {tg:Expr} {it:Addr} {u:Value} {o:Obj} {n:String} {vs:Array Value} {Q:Unit→Shared→Prop} (ho:s.heap.get? it=some o) (hc:o.cls = .type n) (hd:o.data = .fields vs)
    (hn : ["enumerate","zip","dict_itemiterator","dict_reverseitemiterator","odict_iterator","itertools.zip_longest","itertools.pairwise"].contains n=false) (hQ:Q () s):wpAny M A (letOwnedTupleGo tg (.ref it) u) Q E s:=by
  unfold letOwnedTupleGo
  cases tg <;> first
    | exact wpAny_pure hQ
    | (cases u <;> first
        | exact wpAny_pure hQ
        | (refine wpAny_bind (wpAny_load ho ?_)
           rw [hc,hd]
           show wpAny M A (if (["enumerate","zip","dict_itemiterator","dict_reverseitemiterator","odict_iterator","itertools.zip_longest","itertools.pairwise"].contains n && vs[0]? == some (rawInt _))=true then _ else _) Q E s
           rw [if_neg (by intro h; rw [hn,Bool.false_and] at h; cases h)]
           exact wpAny_pure hQ))
def Itl (K:PySem.W.Frag) (a:Addr):It :=
  ⟨fun i H=>∃ xs x,SqL K H a xs∧xs[i]?=some x,fun i H x H'=>H'=H∧∀ xs,SqL K H a xs→xs[i]?=some x,fun i H=>∃ xs,SqL K H a xs∧xs.length ≤ i⟩
def Itt (K:PySem.W.Frag) (a:Addr):It :=
  ⟨fun i H=>∃ xs x,SqT K H a xs∧xs[i]?=some x,fun i H x H'=>H'=H∧∀ xs,SqT K H a xs→xs[i]?=some x,fun i H=>∃ xs,SqT K H a xs∧xs.length ≤ i⟩
def Itr (lo:Int) (n:Nat):It:=⟨fun i _=>i < n,fun i H x H'=>H'=H∧x = .int (lo + i),fun i _=>n ≤ i⟩
theorem zmb {P:Program} {w:World} {K:PySem.W.Frag} {tg:Expr} (a it:Addr):Turn P w K tg (Itl K a) [it] it (fun i h=>h.IsListIter it a i) where
  mem:=by simp
  obj:=fun i h st b hb=>by
    have e:b=it:=by simpa using hb
    subst e
    obtain ⟨o,e,c,d⟩:=st
    exact ⟨o,e,fun v z=>by rw [d] at z; cases z⟩
  keep:=fun i h h' st k=>st.at fun o e=>k it (by simp) o e
  item:=by
    intro X hP hw hK hc i pins s σ H E I hf st hg
    subst hP hw hK
    obtain ⟨xs,x,hq,hx⟩:=hg
    obtain ⟨its,rv,p,hz⟩:=I.list hq
    obtain ⟨u,hu,ru⟩:=rv.get hx
    obtain ⟨f0,f1,f2,f3,f4,f5⟩:=hf it (by simp)
    refine wpAny_pyNext_list_item st p.isList (x:=u) (by simpa using hu) fun h' st' sb=>?_
    have I1:Inv X pins σ H { s with heap:=h' }:=I.turned (t':=s.toks) (fun b o hb e=>(sb.2 b hb).trans e) f0 f1 f3 f4 f5
    obtain ⟨o,e,c,d⟩:=id st'
    exact ⟨u,rfl,zlt (s:={ s with heap:=h' }) e c d (by decide) ⟨x,H,I1,ru,⟨rfl,fun ys hy=>by rw [I.list_inj hy hq]; exact hx⟩,st',fun b hb=>(hf b hb).1⟩⟩
  done:=by
    intro X hP hw hK hc i pins s σ H E I hf st hg
    subst hP hw hK
    obtain ⟨xs,hq,hx⟩:=hg
    obtain ⟨its,rv,p,hz⟩:=I.list hq
    obtain ⟨f0,f1,f2,f3,f4,f5⟩:=hf it (by simp)
    have hl:=rv.length
    exact wpAny_pyNext_list_end (I.ok.hd hc) st p.isList (by simp; omega) fun h' eb=>⟨rfl,I.turned (t':=s.toks) (fun b o hb e=>eb b o hb e) f0 f1 f3 f4 f5⟩
  self:=fun _ _ _ _ _ st h=>wpAny_pyIter_listiter st h
theorem zkt {P:Program} {w:World} {K:PySem.W.Frag} {tg:Expr} (a it:Addr):Turn P w K tg (Itt K a) [it] it (fun i h=>h.IsTupleIter it a i) where
  mem:=by simp
  obj:=fun i h st b hb=>by
    have e:b=it:=by simpa using hb
    subst e
    obtain ⟨o,e,c,d⟩:=st
    exact ⟨o,e,fun v z=>by rw [d] at z; cases z⟩
  keep:=fun i h h' st k=>st.at fun o e=>k it (by simp) o e
  item:=by
    intro X hP hw hK hc i pins s σ H E I hf st hg
    subst hP hw hK
    obtain ⟨xs,x,hq,hx⟩:=hg
    obtain ⟨its,rv,p,hz⟩:=I.tuple hq
    obtain ⟨u,hu,ru⟩:=rv.get hx
    obtain ⟨f0,f1,f2,f3,f4,f5⟩:=hf it (by simp)
    refine wpAny_pyNext_tuple_item st (show s.heap.IsTuple a its.toArray from p) (x:=u) (by simpa using hu) fun h' st' sb=>?_
    have I1:Inv X pins σ H { s with heap:=h' }:=I.turned (t':=s.toks) (fun b o hb e=>(sb.2 b hb).trans e) f0 f1 f3 f4 f5
    obtain ⟨o,e,c,d⟩:=id st'
    exact ⟨u,rfl,zlt (s:={ s with heap:=h' }) e c d (by decide) ⟨x,H,I1,ru,⟨rfl,fun ys hy=>by rw [I.tuple_inj hy hq]; exact hx⟩,st',fun b hb=>(hf b hb).1⟩⟩
  done:=by
    intro X hP hw hK hc i pins s σ H E I hf st hg
    subst hP hw hK
    obtain ⟨xs,hq,hx⟩:=hg
    obtain ⟨its,rv,p,hz⟩:=I.tuple hq
    obtain ⟨f0,f1,f2,f3,f4,f5⟩:=hf it (by simp)
    have hl:=rv.length
    exact wpAny_pyNext_tuple_end (I.ok.hd hc) st (show s.heap.IsTuple a its.toArray from p) (by simp; omega) fun h' eb=>⟨rfl,I.turned (t':=s.toks) (fun b o hb e=>eb b o hb e) f0 f1 f3 f4 f5⟩
  self:=fun _ _ _ _ _ st h=>wpAny_pyIter_tupleiter st h
theorem zkp {P:Program} {w:World} {K:PySem.W.Frag} {tg:Expr} (it:Addr) (lo:Int) (n:Nat):Turn P w K tg (Itr lo n) [it] it (fun i h=>IsRangeIter h it (lo + (i:Nat) * 1) ((n:Int) - (i:Nat)) 1) where
  mem:=by simp
  obj:=fun i h st b hb=>by
    have e:b=it:=by simpa using hb
    subst e
    exact ⟨_,st,fun v z=>by
      have z':Data.fields _=Data.cell v:=z
      cases z'⟩
  keep:=fun i h h' st k=>k it (by simp) _ st
  item:=by
    intro X hP hw hK hc i pins s σ H E I hf st hg
    subst hP hw hK
    obtain ⟨f0,f1,f2,f3,f4,f5⟩:=hf it (by simp)
    have W:=Walks.range (prog:=X.prog) (w:=X.w) (I.ok.hd hc) it lo 1 n
    refine W.item i s _ _ hg st fun v h' tk hv st' kk=>?_
    obtain ⟨t,rfl⟩:=hv
    have I1:Inv X pins σ H { s with heap:=h',toks:=tk }:=I.turned (fun b o hb e=>kk b o (by simpa using hb) e) f0 f1 f3 f4 f5
    refine ⟨_,rfl,zlt (s:={ s with heap:=h',toks:=tk }) (n:="range_iterator") st' rfl rfl (by decide) ⟨.int (lo + i),H,I1,⟨t,?_⟩,⟨rfl,rfl⟩,st',fun b hb=>(hf b hb).1⟩⟩
    rw [Int.mul_one]
  done:=by
    intro X hP hw hK hc i pins s σ H E I hf st hg
    subst hP hw hK
    obtain ⟨f0,f1,f2,f3,f4,f5⟩:=hf it (by simp)
    exact wpAny_pyNext_range_end (I.ok.hd hc) st (by have:n ≤ i:=hg; omega) fun h' eb=>⟨rfl,I.turned (t':=s.toks) (fun b o hb e=>eb b o hb e) f0 f1 f3 f4 f5⟩
  self:=fun _ _ _ _ _ st h=>wpAny_pyIter_rangeiter st h
end L2
namespace L2
open PySem PySem.Spec PyProof.Rows
section
variable {X:Cx} {tg:Expr}
def zoq (K:PySem.W.Frag) (tl:TE):TI:=fun σ H R=>tl σ H fun x H1=>∃ a,x = .ref a∧(∃ xs,SqL K H1 a xs)∧R (Itl K a) H1
def iTup (K:PySem.W.Frag) (tl:TE):TI:=fun σ H R=>tl σ H fun x H1=>∃ a,x = .ref a∧(∃ xs,SqT K H1 a xs)∧R (Itt K a) H1
theorem zdk {l:Expr} {tl:TE} (hl:PE X l tl):PI X tg l (zoq X.K tl):=by
  intro pins s σ H R I h
  refine thn (hl pins s σ H _ I h) fun v s1 ⟨x,H1,I1,r1,q1⟩=>?_
  obtain ⟨a,e,⟨xs,hq⟩,q⟩:=q1
  subst e
  cases r1
  obtain ⟨its,rv,p,hz⟩:=I1.list hq
  refine wpAny_pyIter_list p.isList ?_
  refine ⟨s1.heap.objs.size,[s1.heap.objs.size],_,_,H1,rfl,I1.kept (t':=s1.toks) fun b o e=>Heap.get?_push_of_some _ e,zmb a _,⟨_,Heap.get?_push_size _ rfl,rfl,rfl⟩,fun b hb=>?_,q⟩
  have e:b=s1.heap.objs.size:=by simpa using hb
  subst e
  exact I1.fpOk (Nat.le_refl _) (I1.hok.fresh (Nat.le_refl _))
theorem zpR {l:Expr} {tl:TE} (hl:PE X l tl):PI X tg l (iTup X.K tl):=by
  intro pins s σ H R I h
  refine thn (hl pins s σ H _ I h) fun v s1 ⟨x,H1,I1,r1,q1⟩=>?_
  obtain ⟨a,e,⟨xs,hq⟩,q⟩:=q1
  subst e
  cases r1
  obtain ⟨its,rv,p,hz⟩:=I1.tuple hq
  refine wpAny_pyIter_tuple (show s1.heap.IsTuple a its.toArray from p) ?_
  refine ⟨s1.heap.objs.size,[s1.heap.objs.size],_,_,H1,rfl,I1.kept (t':=s1.toks) fun b o e=>Heap.get?_push_of_some _ e,zkt a _,⟨_,Heap.get?_push_size _ rfl,rfl,rfl⟩,fun b hb=>?_,q⟩
  have e:b=s1.heap.objs.size:=by simpa using hb
  subst e
  exact I1.fpOk (Nat.le_refl _) (I1.hok.fresh (Nat.le_refl _))
theorem zjt {pins:List (Addr × Obj)} {σ:St} {H:Hp} {s:Shared} {R:It→Hp→Prop} {E:Value→Shared→Prop} {lo hi:Int} {t u v:Tok} {tk:Nat} (I:Inv X pins σ H s) (h1 : -(2 ^ 62) ≤ lo) (h2:lo < 2 ^ 62) (h3 : -(2 ^ 62) ≤ hi) (h4:hi < 2 ^ 62)
    (q:R (Itr lo (hi - lo).toNat) H):wpAny (model X.prog X.w) X.A (pyIter (.ref s.heap.objs.size)) (PIE X pins σ tg R) E { s with heap:=s.heap.push { cls:=.type "range",data:=.fields #[.int lo t,.int hi u,.int 1 v] },toks:=tk }:=by
  refine wpAny_pyIter_range (IsRange.new ..) (small_one h1 h2 h3 h4) ?_
  have I1:Inv X pins σ H { s with heap:=s.heap.push { cls:=.type "range",data:=.fields #[.int lo t,.int hi u,.int 1 v] },toks:=tk }:=I.kept fun b o e=>Heap.get?_push_of_some _ e
  refine ⟨(s.heap.push { cls:=.type "range",data:=.fields #[.int lo t,.int hi u,.int 1 v] }).objs.size,[(s.heap.push { cls:=.type "range",data:=.fields #[.int lo t,.int hi u,.int 1 v] }).objs.size],_,_,H,rfl,
    I1.kept (t':=tk) fun b o e=>Heap.get?_push_of_some _ e,zkp _ lo (hi - lo).toNat,?_,fun b hb=>?_,q⟩
  · have e1:lo + ((0:Nat):Int) * 1=lo:=by simp
    have e2:(((hi - lo).toNat:Nat):Int) - ((0:Nat):Int)=Builtin.Range.rangeSize lo hi 1:=by rw [rangeSize_one]; split <;> omega
    show IsRangeIter _ _ (lo + ((0:Nat):Int) * 1) ((((hi - lo).toNat:Nat):Int) - ((0:Nat):Int)) 1
    rw [e1,e2]
    exact Heap.get?_push_size _ rfl
  · have e:b=(s.heap.push { cls:=.type "range",data:=.fields #[.int lo t,.int hi u,.int 1 v] }).objs.size:=by simpa using hb
    subst e
    exact I1.fpOk (Nat.le_refl _) (I1.hok.fresh (Nat.le_refl _))
def zqs (ta:TA):TI:=fun σ H R=>ta σ H fun vs H1=>∃ j:Int,vs = [.int j]∧-(2 ^ 62) ≤ j∧j < 2 ^ 62∧R (Itr 0 j.toNat) H1
def zp9 (ta:TA):TI:=fun σ H R=>ta σ H fun vs H1=>∃ i j:Int,vs = [.int i,.int j]∧(-(2 ^ 62) ≤ i∧i < 2 ^ 62∧-(2 ^ 62) ≤ j∧j < 2 ^ 62)∧R (Itr i (j - i).toNat) H1
theorem zaR {a:Expr} {ta:TA} {p pos:Pos} (hg:Gl X "range") (hm:X.mg "range"=none) (ha:PA X [a] ta) (hs:starEach [a] X.env = [(false,eval a X.env)]:=by rfl):PI X tg (.Call (.Name "range" p) [a] [] pos) (zqs ta):=by
  intro pins s σ H R I h
  refine Call_ (zfD I hg hm boot_range (PyProof.Rows.callWith_type1 (thn (ha pos pins s σ H _ I h) fun us s1 ⟨vs,H1,I1,r1,q1⟩=>?_) hs rfl))
  obtain ⟨j,e,q1,q2,q⟩:=q1
  subst e
  cases r1 with
  | cons r rr =>
    cases rr
    obtain ⟨t,rfl⟩:=r
    exact call_range_1 (zjt I1 (by omega) (by omega) q1 q2 (by simpa using q))
theorem zmk {a b:Expr} {ta:TA} {p pos:Pos} (hg:Gl X "range") (hm:X.mg "range"=none) (ha:PA X [a,b] ta) (hs:starEach [a,b] X.env = [(false,eval a X.env),(false,eval b X.env)]:=by rfl) (hs2:starEach [b] X.env = [(false,eval b X.env)]:=by rfl) :
    PI X tg (.Call (.Name "range" p) [a,b] [] pos) (zp9 ta):=by
  intro pins s σ H R I h
  refine Call_ (zfD I hg hm boot_range (PyProof.Rows.callWith_type1 (thn (ha pos pins s σ H _ I h) fun us s1 ⟨vs,H1,I1,r1,q1⟩=>?_) (by rw [hs,hs2]) (by rw [hs2]; rfl)))
  obtain ⟨i,j,e,⟨q1,q2,q3,q4⟩,q⟩:=q1
  subst e
  cases r1 with
  | cons r rr =>
    cases rr with
    | cons r' rr =>
      cases rr
      obtain ⟨t,rfl⟩:=r
      obtain ⟨t',rfl⟩:=r'
      exact call_range_2 (zjt I1 q1 q2 q3 q4 q)
def tFor (wi:TI) (g:TG) (tb:TS):TS:=fun D σ H=>wi σ H fun J H1=>∃ W:Nat→Nat→St→Hp→Prop,(∃ m,W 0 m σ H1)∧∀ i m σ H,W i m σ H →
  (J.stop i H∧D.nx σ H)∨(J.go i H∧∃ N:St→Hp→Prop,(∀ σ' H',N σ' H'→∃ m',m' < m∧W (i + 1) m' σ' H')∧∀ x H',J.yld i H x H'→g x σ H' fun σ2 H2=>tb { D with nx:=N,ct:=N,bk:=D.nx } σ2 H2)
def zgZ (fp:List Addr) (h:Heap):List (Addr × Obj):=fp.filterMap fun b=>(h.get? b).map fun o=>(b,o)
theorem zds {fp:List Addr} {h:Heap} {b:Addr} {o:Obj} (hb:b ∈ fp) (e:h.get? b=some o):(b,o) ∈ zgZ fp h:=List.mem_filterMap.mpr ⟨b,hb,by rw [e]; rfl⟩
theorem zlF {fp:List Addr} {h:Heap} {p:Addr × Obj} (hp:p ∈ zgZ fp h):p.1 ∈ fp∧h.get? p.1=some p.2:=by
  obtain ⟨b,hb,e⟩:=List.mem_filterMap.mp hp
  cases q:h.get? b with
  | none=>rw [q] at e; cases e
  | some o =>
    rw [q] at e
    have e':(b,o)=p:=Option.some.inj e
    subst e'
    exact ⟨hb,q⟩
theorem Inv.pinned {pins:List (Addr × Obj)} {σ:St} {H:Hp} {s:Shared} {fp:List Addr} (I:Inv X pins σ H s) (hf:∀ b ∈ fp,FpOk X pins H b) (ho:∀ b ∈ fp,∃ o,s.heap.get? b=some o∧∀ v,o.data ≠ .cell v):Inv X (pins ++ zgZ fp s.heap) σ H s :=
  I.pins_of fun p hp=>(List.mem_append.mp hp).elim (fun z=>I.pin p (List.mem_append_right _ z)) fun z=>by
    obtain ⟨hb,e⟩:=zlF z
    obtain ⟨f0,f1,f2,_⟩:=hf p.1 hb
    obtain ⟨o,e',d⟩:=ho p.1 hb
    rw [e] at e'; cases e'
    exact ⟨e,f0,f1,f2,d⟩
theorem Inv.unpinned {pins pl:List (Addr × Obj)} {σ:St} {H:Hp} {s:Shared} (I:Inv X (pins ++ pl) σ H s):Inv X pins σ H s:=I.pins_of fun p hp=>I.pin p (List.mem_append_right _ (List.mem_append_left _ hp))
theorem zbM {iter:Expr} {body:List Stmt} {wi:TI} {g:TG} {tb:TS} {pos:Pos} (hp:PassesOwn (model X.prog X.w) X.A X.env X.xe) (hc:X.calm=true) (hi:PI X tg iter wi) (hg:PG X tg g) (hb:PSs X body tb)
    (hs:∀ x,foldedSetIterable iter X.env x=pure x:=by intro _; rfl):PS X (.For tg iter body [] pos) (tFor wi g tb):=by
  intro pins s σ H D I h
  refine wpAny_For (thn (hi pins s σ H _ I h) fun v s1 h1=>thn h1 fun itv s2 h2=>?_) hs
  obtain ⟨it,fp,tn,J,H2,e,I2,T,st2,f2,W,⟨m0,w0⟩,turn⟩:=h2
  subst e
  -- what stays true of the iterator's objects through the loop
  have stat:∀ {H':Hp},(∀ b ∈ fp,H' b=none)→∀ b ∈ fp,FpOk X pins H' b:=fun hn b hb=>⟨hn b hb,(f2 b hb).2⟩
  refine codeAny_forLoop_any (fun n s'=>∃ i σ' H',Inv X pins σ' H' s'∧tn i s'.heap∧(∀ b ∈ fp,H' b=none)∧W i n σ' H') ?_ m0 ⟨0,σ,H2,I2,st2,fun b hb=>(f2 b hb).1,w0⟩
  rintro n s3 ⟨i,σ3,H3,I3,st3,fr3,w3⟩
  rcases turn i n σ3 H3 w3 with ⟨stop,qn⟩ | ⟨go,N,hN,step⟩
  · refine wpAny_passesOwn hp (thn (T.done X rfl rfl rfl hc i pins s3 σ3 H3 X.xe I3 (stat fr3) st3 stop) fun r s4 ⟨hr,I4⟩=>?_)
    subst hr
    exact wpAny_execs_nil ⟨σ3,H3,I4,qn⟩
  · refine wpAny_passesOwn hp (thn (T.item X rfl rfl rfl hc i pins s3 σ3 H3 X.xe I3 (stat fr3) st3 go) fun r s4 ⟨u,hr,h4⟩=>?_)
    subst hr
    refine wpAny_passesOwn hp (thn h4 fun _ s5 ⟨x,H5,I5,r5,y5,st5,fr5⟩=>?_)
    have I5':=I5.pinned (stat fr5) (T.obj _ _ st5)
    refine wpAny_passesOwn hp (thn (hg _ s5 σ3 H5 x u _ I5' r5 (step x H5 y5)) fun _ s6 ⟨σ6,H6,I6,q6⟩=>?_)
    refine wpAny_passesOwn hp (thn (hb _ s6 σ6 H6 _ I6 q6) fun f s7 q7=>?_)
    have again:∀ {σ7:St} {H7:Hp},Inv X (pins ++ zgZ fp s5.heap) σ7 H7 s7→N σ7 H7→∃ m,m < n∧∃ i σ' H',Inv X pins σ' H' s7∧tn i s7.heap∧(∀ b ∈ fp,H' b=none)∧W i m σ' H':=fun {σ7 H7} I7 n7=>by
      obtain ⟨m',hm,w7⟩:=hN σ7 H7 n7
      refine ⟨m',hm,i + 1,σ7,H7,I7.unpinned,T.keep _ _ _ st5 fun b hb o e=>(I7.pin (b,o) (List.mem_append_right _ (List.mem_append_right _ (zds hb e)))).1,fun b hb=>?_,w7⟩
      obtain ⟨o,e,d⟩:=T.obj _ _ st5 b hb
      exact (I7.pin (b,o) (List.mem_append_right _ (List.mem_append_right _ (zds hb e)))).2.1
    cases f with
    | next=>obtain ⟨σ7,H7,I7,n7⟩:=q7; exact again I7 n7
    | cont=>obtain ⟨σ7,H7,I7,n7⟩:=q7; exact again I7 n7
    | brk=>obtain ⟨σ7,H7,I7,q7⟩:=q7; exact ⟨σ7,H7,I7.unpinned,q7⟩
    | ret v=>obtain ⟨x7,σ7,H7,I7,r7,q7⟩:=q7; exact ⟨x7,σ7,H7,I7.unpinned,r7,q7⟩
end
end L2
namespace L2
open PySem PySem.Spec PyProof.Rows
abbrev R2:=V→V→Hp→VK→Prop
def OpR (X:Cx) (f:Value→Value→Sem Value) (r:R2):Prop :=
  ∀ (pins:List (Addr × Obj)) (s:Shared) (σ:St) (H:Hp) (x y:V) (v u:Value) (Q:VK),Inv X pins σ H s→RelV x v→RelV y u→r x y H Q →
    wpAny (model X.prog X.w) X.A (f v u) (EP X pins σ Q) X.xe s
def UnR (X:Cx) (f:Value→Sem Value) (r:V→Hp→VK→Prop):Prop :=
  ∀ (pins:List (Addr × Obj)) (s:Shared) (σ:St) (H:Hp) (x:V) (v:Value) (Q:VK),Inv X pins σ H s→RelV x v→r x H Q →
    wpAny (model X.prog X.w) X.A (f v) (EP X pins σ Q) X.xe s
def zey (X:Cx) (f:Value) (r:List V→Hp→VK→Prop):Prop :=
  ∀ (pins:List (Addr × Obj)) (s:Shared) (σ:St) (H:Hp) (xs:List V) (us:List Value) (Q:VK),Inv X pins σ H s→Vals xs us→r xs H Q →
    wpAny (model X.prog X.w) X.A (call f us) (EP X pins σ Q) X.xe s
def tOp (r:R2) (ta tb:TE):TE:=fun σ H Q=>ta σ H fun x H1=>tb σ H1 fun y H2=>r x y H2 Q
def tUn (r:V→Hp→VK→Prop) (ta:TE):TE:=fun σ H Q=>ta σ H fun x H1=>r x H1 Q
def rI (C:Int→Int→Prop) (g:Int→Int→V):R2:=fun x y H Q=>∃ i j,x = .int i∧y = .int j∧C i j∧Q (g i j) H
def rI0 (g:Int→Int→V):R2:=fun x y H Q=>∃ i j,x = .int i∧y = .int j∧Q (g i j) H
def rU (g:Int→V):V→Hp→VK→Prop:=fun x H Q=>∃ i,x = .int i∧Q (g i) H
section
variable {X:Cx} {a b c:Expr} {ta tb tc:TE} {pos:Pos}
theorem binT (ha:PE X a ta) (hb:PE X b tb) {pins:List (Addr × Obj)} {s:Shared} {σ:St} {H:Hp} {R:V→V→Hp→Prop} (I:Inv X pins σ H s)
    (h:ta σ H fun x H1=>tb σ H1 fun y H2=>R x y H2) {Q:Value→Shared→Prop} {f:Value→Value→Sem Value}
    (hf:∀ v u s2 x y H2,Inv X pins σ H2 s2→RelV x v→RelV y u→R x y H2→wpAny (model X.prog X.w) X.A (f v u) Q X.xe s2) :
    wpAny (model X.prog X.w) X.A (eval a X.env) (fun v s₁=>wpAny (model X.prog X.w) X.A (eval b X.env) (fun u s₂=>wpAny (model X.prog X.w) X.A (f v u) Q X.xe s₂) X.xe s₁) X.xe s:=by
  refine thn (ha pins s σ H _ I h) fun v s1 ⟨x,H1,I1,r1,q1⟩=>?_
  refine thn (hb pins s1 σ H1 _ I1 q1) fun u s2 ⟨y,H2,I2,r2,q2⟩=>?_
  exact hf v u s2 x y H2 I2 r1 r2 q2
theorem zaA {op:Operator} {r:R2} (ho:OpR X (binaryOp op) r) (ha:PE X a ta) (hb:PE X b tb):PE X (.BinOp a op b pos) (tOp r ta tb):=by
  intro pins s σ H Q I h
  exact wpAny_BinOp (binT ha hb I h fun v u s2 x y H2 I2 rx ry q=>ho pins s2 σ H2 x y v u Q I2 rx ry q)
theorem zqS {op:UnaryOp} {r:V→Hp→VK→Prop} (ho:UnR X (unaryOp op) r) (ha:PE X a ta):PE X (.UnaryOp op a pos) (tUn r ta):=by
  intro pins s σ H Q I h
  exact UnaryOp_ (thn (ha pins s σ H _ I h) fun v s1 ⟨x,H1,I1,r1,q1⟩=>ho pins s1 σ H1 x v Q I1 r1 q1)
theorem opI {f:Value→Value→Sem Value} {C:Int→Int→Prop} {g:Int→Int→Int}
    (rule:∀ (i j:Int) (t u:Tok) (s:Shared) (Q:Value→Shared→Prop) (E:Value→Shared→Prop),C i j→Q (.int (g i j) s.toks) { s with toks:=s.toks + 1 }→wpAny (model X.prog X.w) X.A (f (.int i t) (.int j u)) Q E s) :
    OpR X f (rI C fun i j=>.int (g i j)):=by
  intro pins s σ H x y v u Q I rx ry h
  obtain ⟨i,j,rfl,rfl,hc,q⟩:=h
  obtain ⟨t,rfl⟩:=rx
  obtain ⟨t',rfl⟩:=ry
  exact rule i j t t' s _ _ hc ⟨.int (g i j),H,I.tok _,⟨_,rfl⟩,q⟩
theorem opI0 {f:Value→Value→Sem Value} {g:Int→Int→Int}
    (rule:∀ (i j:Int) (t u:Tok) (s:Shared) (Q:Value→Shared→Prop) (E:Value→Shared→Prop),Q (.int (g i j) s.toks) { s with toks:=s.toks + 1 }→wpAny (model X.prog X.w) X.A (f (.int i t) (.int j u)) Q E s) :
    OpR X f (rI0 fun i j=>.int (g i j)):=by
  intro pins s σ H x y v u Q I rx ry h
  obtain ⟨i,j,rfl,rfl,q⟩:=h
  obtain ⟨t,rfl⟩:=rx
  obtain ⟨t',rfl⟩:=ry
  exact rule i j t t' s _ _ ⟨.int (g i j),H,I.tok _,⟨_,rfl⟩,q⟩
theorem opB0 {f:Value→Value→Sem Value} {g:Int→Int→Bool}
    (rule:∀ (i j:Int) (t u:Tok) (s:Shared) (Q:Value→Shared→Prop) (E:Value→Shared→Prop),Q (.bool (g i j)) s→wpAny (model X.prog X.w) X.A (f (.int i t) (.int j u)) Q E s) :
    OpR X f (rI0 fun i j=>.bl (g i j)):=by
  intro pins s σ H x y v u Q I rx ry h
  obtain ⟨i,j,rfl,rfl,q⟩:=h
  obtain ⟨t,rfl⟩:=rx
  obtain ⟨t',rfl⟩:=ry
  exact rule i j t t' s _ _ ⟨.bl (g i j),H,I,rfl,q⟩
def CPow (i j:Int):Prop:=0 ≤ j∧j ≤ 1000000∧i.natAbs < 2 ^ 64
theorem zbh:OpR X (binaryOp .Add) (rI0 fun i j=>.int (i + j)):=opI0 fun _ _ _ _ _ _ _ q=>add_int q
theorem zg4:OpR X (binaryOp .Sub) (rI0 fun i j=>.int (i - j)):=opI0 fun _ _ _ _ _ _ _ q=>sub_int q
theorem zcE:OpR X (binaryOp .Mod) (rI (fun _ j=>0 < j) fun i j=>.int (i % j)):=opI fun i j _ _ _ _ _ hc q=>by
  have h1:(0:Int) < j:=hc
  exact mod_int' (by omega) (by rw [Int.fmod_eq_emod_of_nonneg i (by omega)]; exact q)
theorem zjY:OpR X (binaryOp .Pow) (rI CPow fun i j=>.int (i ^ j.toNat)):=opI fun _ _ _ _ _ _ _ hc q=>pow_int_small hc.1 hc.2.1 hc.2.2 q
theorem unI {f:Value→Sem Value} {g:Int→Int}
    (rule:∀ (i:Int) (t:Tok) (s:Shared) (Q:Value→Shared→Prop) (E:Value→Shared→Prop),Q (.int (g i) s.toks) { s with toks:=s.toks + 1 }→wpAny (model X.prog X.w) X.A (f (.int i t)) Q E s) :
    UnR X f (rU fun i=>.int (g i)):=by
  intro pins s σ H x v Q I rx h
  obtain ⟨i,rfl,q⟩:=h
  obtain ⟨t,rfl⟩:=rx
  exact rule i t s _ _ ⟨.int (g i),H,I.tok _,⟨_,rfl⟩,q⟩
theorem zqv:UnR X (unaryOp .USub) (rU fun i=>.int (-i)):=unI fun _ _ _ _ _ q=>neg_int q
end
def scal:V→V→Bool
  | .non,.non=>true | .non,.int _=>true | .int _,.non=>true | .non,.bl _=>true | .bl _,.non=>true | .non,.str _=>true | .str _,.non=>true
  | .int _,.int _=>true | .bl _,.bl _=>true | .str _,.str _=>true | .byt _,.byt _=>true
  | .int _,.str _=>true | .str _,.int _=>true | .bl _,.str _=>true | .str _,.bl _=>true
  | _,_=>false
def rEq:R2:=fun x y H Q=>scal x y=true∧Q (.bl (decide (x=y))) H
def rNe:R2:=fun x y H Q=>scal x y=true∧Q (.bl (!decide (x=y))) H
theorem zmC {i j:Int}:decide (V.int i=V.int j)=(i == j):=by
  rw [Bool.eq_iff_iff]
  simp
theorem znW {i j:Bool}:decide (V.bl i=V.bl j)=(i == j):=by
  rw [Bool.eq_iff_iff]
  simp
theorem zlu {i j:Str}:decide (V.str i=V.str j)=(i == j):=by
  rw [Bool.eq_iff_iff]
  simp
theorem zmL {i j:Array UInt8}:decide (V.byt i=V.byt j)=(i.toList == j.toList):=by
  rw [Bool.eq_iff_iff]
  cases i
  cases j
  simp
section
variable {X:Cx} {a b c:Expr} {ta tb tc:TE} {pos:Pos}
theorem za1 {pins:List (Addr × Obj)} {σ:St} {H:Hp} {s:Shared} {Q:VK} {k k':Bool} (I:Inv X pins σ H s) (q:Q (.bl k) H) (e:k=k'):EP X pins σ Q (.bool k') s:=by
  subst e
  exact ⟨.bl k,H,I,rfl,q⟩
theorem zd3:OpR X (compareOp .Eq) rEq:=by
  intro pins s σ H x y v u Q I rx ry h
  obtain ⟨hs,q⟩:=h
  cases x with
  | non =>
    cases rx
    cases y with
    | non=>cases ry; exact PySem.EqNone.eq_none_none (za1 I q (by simp))
    | bl j=>cases ry; exact PySem.EqNone.eq_none_bool (za1 I q (by simp))
    | int j=>obtain ⟨t',rfl⟩:=ry; exact PySem.EqNone.eq_none_int (za1 I q (by simp))
    | str j=>obtain ⟨t',rfl⟩:=ry; exact PySem.EqNone.eq_none_str (za1 I q (by simp))
    | _=>exact absurd (show false=true from hs) Bool.false_ne_true
  | bl i =>
    cases rx
    cases y with
    | non=>cases ry; exact PySem.EqNone.eq_bool_none (za1 I q (by simp))
    | bl j=>cases ry; exact eq_bool (za1 I q znW)
    | str j=>obtain ⟨t',rfl⟩:=ry; exact PySem.EqMixed.eq_bool_str (za1 I q (by simp))
    | _=>exact absurd (show false=true from hs) Bool.false_ne_true
  | int i =>
    obtain ⟨t,rfl⟩:=rx
    cases y with
    | non=>cases ry; exact PySem.EqNone.eq_int_none (za1 I q (by simp))
    | int j=>obtain ⟨t',rfl⟩:=ry; exact eq_int (za1 I q zmC)
    | str j=>obtain ⟨t',rfl⟩:=ry; exact PySem.EqMixed.eq_int_str (za1 I q (by simp))
    | _=>exact absurd (show false=true from hs) Bool.false_ne_true
  | str i =>
    obtain ⟨t,rfl⟩:=rx
    cases y with
    | non=>cases ry; exact PySem.EqNone.eq_str_none (za1 I q (by simp))
    | bl j=>cases ry; exact PySem.EqMixed.eq_str_bool (za1 I q (by simp))
    | int j=>obtain ⟨t',rfl⟩:=ry; exact PySem.EqMixed.eq_str_int (za1 I q (by simp))
    | str j=>obtain ⟨t',rfl⟩:=ry; exact eq_str (za1 I q zlu)
    | _=>exact absurd (show false=true from hs) Bool.false_ne_true
  | byt i =>
    obtain ⟨t,rfl⟩:=rx
    cases y with
    | byt j=>obtain ⟨t',rfl⟩:=ry; exact PySem.W.eq_bytes (za1 I q zmL)
    | _=>exact absurd (show false=true from hs) Bool.false_ne_true
  | _=>cases y <;> exact absurd (show false=true from hs) Bool.false_ne_true
theorem zly:OpR X (compareOp .NotEq) rNe:=by
  intro pins s σ H x y v u Q I rx ry h
  obtain ⟨hs,q⟩:=h
  cases x with
  | non =>
    cases rx
    cases y with
    | non=>cases ry; exact PySem.EqNone.ne_none_none (za1 I q (by simp))
    | bl j=>cases ry; exact PySem.EqNone.ne_none_bool (za1 I q (by simp))
    | int j=>obtain ⟨t',rfl⟩:=ry; exact PySem.EqNone.ne_none_int (za1 I q (by simp))
    | str j=>obtain ⟨t',rfl⟩:=ry; exact PySem.EqNone.ne_none_str (za1 I q (by simp))
    | _=>exact absurd (show false=true from hs) Bool.false_ne_true
  | bl i =>
    cases rx
    cases y with
    | non=>cases ry; exact PySem.EqNone.ne_bool_none (za1 I q (by simp))
    | bl j=>cases ry; exact ne_bool (za1 I q (congrArg not znW))
    | str j=>obtain ⟨t',rfl⟩:=ry; exact PySem.EqMixed.ne_bool_str (za1 I q (by simp))
    | _=>exact absurd (show false=true from hs) Bool.false_ne_true
  | int i =>
    obtain ⟨t,rfl⟩:=rx
    cases y with
    | non=>cases ry; exact PySem.EqNone.ne_int_none (za1 I q (by simp))
    | int j=>obtain ⟨t',rfl⟩:=ry; exact ne_int (za1 I q (congrArg not zmC))
    | str j=>obtain ⟨t',rfl⟩:=ry; exact PySem.EqMixed.ne_int_str (za1 I q (by simp))
    | _=>exact absurd (show false=true from hs) Bool.false_ne_true
  | str i =>
    obtain ⟨t,rfl⟩:=rx
    cases y with
    | non=>cases ry; exact PySem.EqNone.ne_str_none (za1 I q (by simp))
    | bl j=>cases ry; exact PySem.EqMixed.ne_str_bool (za1 I q (by simp))
    | int j=>obtain ⟨t',rfl⟩:=ry; exact PySem.EqMixed.ne_str_int (za1 I q (by simp))
    | str j=>obtain ⟨t',rfl⟩:=ry; exact ne_str (za1 I q (congrArg not zlu))
    | _=>exact absurd (show false=true from hs) Bool.false_ne_true
  | byt i =>
    obtain ⟨t,rfl⟩:=rx
    cases y with
    | byt j=>obtain ⟨t',rfl⟩:=ry; exact PySem.W.ne_bytes (za1 I q (congrArg not zmL))
    | _=>exact absurd (show false=true from hs) Bool.false_ne_true
  | _=>cases y <;> exact absurd (show false=true from hs) Bool.false_ne_true
theorem zp1:OpR X (compareOp .Lt) (rI0 fun i j=>.bl (decide (i < j))):=opB0 fun _ _ _ _ _ _ _ q=>lt_int q
theorem zoR:OpR X (compareOp .Gt) (rI0 fun i j=>.bl (decide (j < i))):=opB0 fun _ _ _ _ _ _ _ q=>gt_int q
theorem zog:OpR X (compareOp .Is) (fun x y H Q=>y = .non∧Q (.bl (decide (x = .non))) H):=by
  intro pins s σ H x y v u Q I rx ry h
  obtain ⟨rfl,q⟩:=h
  cases ry
  refine is_none_gen (za1 I q ?_)
  cases x <;> first
    | (cases rx; rfl)
    | (obtain ⟨t,rfl⟩:=rx; rfl)
theorem zpi:OpR X (compareOp .IsNot) (fun x y H Q=>y = .non∧Q (.bl (!decide (x = .non))) H):=by
  intro pins s σ H x y v u Q I rx ry h
  obtain ⟨rfl,q⟩:=h
  cases ry
  refine isnot_none_gen (za1 I q ?_)
  cases x <;> first
    | (cases rx; rfl)
    | (obtain ⟨t,rfl⟩:=rx; rfl)
theorem za3 (b:Expr) {op:CmpOp} (h:op ≠ .In:=by decide) (h2:op ≠ .NotIn:=by decide):behindInMarks op b=false:=by
  have e1:(op == CmpOp.In)=false:=by cases op <;> first | rfl | exact absurd rfl h
  have e2:(op == CmpOp.NotIn)=false:=by cases op <;> first | rfl | exact absurd rfl h2
  cases b <;> simp [behindInMarks,e1,e2]
theorem zhg {op:CmpOp} {r:R2} (ho:OpR X (compareOp op) r) (ha:PE X a ta) (hb:PE X b tb) (hm:behindInMarks op b=false):PE X (.Compare a [op] [b] pos) (tOp r ta tb):=by
  intro pins s σ H Q I h
  exact wpAny_Compare1 (binT ha hb I h fun v u s2 x y H2 I2 rx ry q=>ho pins s2 σ H2 x y v u Q I2 rx ry q) hm
def zqH (t:TE):TT:=fun σ H Q=>t σ H fun x H'=>∃ k,x = .bl k∧Q k H'
theorem zaP {op:CmpOp} {r:R2} (ho:OpR X (compareOp op) r) (ha:PE X a ta) (hb:PE X b tb) (hm:behindInMarks op b=false):PT X (.Compare a [op] [b] pos) (zqH (tOp r ta tb)):=by
  intro pins s σ H Q I h
  refine wpAny_isTrue_Compare1 (thn (ha pins s σ H _ I h) fun v s1 ⟨x,H1,I1,r1,q1⟩=>thn (hb pins s1 σ H1 _ I1 q1) fun u s2 ⟨y,H2,I2,r2,q2⟩ =>
    thn (ho pins s2 σ H2 x y v u _ I2 r1 r2 q2) fun c s3 ⟨z,H3,I3,r3,k,e,q3⟩=>?_) hm
  subst e
  cases r3
  exact wpAny_truthy_bool ⟨H3,I3,q3⟩
theorem zjv:(sizeLine:Nat) < 2 ^ 63:=by rw [sizeLine_eq]; decide
theorem zfn {x:V} {us:List Value} (r:Vals [x] us):∃ u,us = [u]∧RelV x u:=by
  cases r with
  | cons r1 r2=>cases r2; exact ⟨_,rfl,r1⟩
theorem znF {x y:V} {us:List Value} (r:Vals [x,y] us):∃ u w',us = [u,w']∧RelV x u∧RelV y w':=by
  cases r with
  | cons r1 r2 =>
    cases r2 with
    | cons r3 r4=>cases r4; exact ⟨_,_,rfl,r1,r3⟩
theorem zjW:zey X (.builtin "abs") (fun xs H Q=>∃ i,xs = [.int i]∧Q (.int (if i < 0 then -i else i)) H):=by
  intro pins s σ H xs us Q I r h
  obtain ⟨i,rfl,q⟩:=h
  obtain ⟨u,rfl,t,rfl⟩:=zfn r
  exact call_abs_int fun u tk=>⟨.int (if i < 0 then -i else i),H,I.tok _,⟨_,rfl⟩,q⟩
theorem zlk (hc:X.calm=true):zey X (.builtin "min") (fun xs H Q=>∃ i j,xs = [.int i,.int j]∧Q (.int (if j < i then j else i)) H):=by
  intro pins s σ H xs us Q I r h
  obtain ⟨i,j,rfl,q⟩:=h
  obtain ⟨u,w',rfl,⟨t,rfl⟩,⟨t',rfl⟩⟩:=znF r
  refine min_two_ints (I.ok.hd hc) fun h' tk k=>⟨_,H,I.kept k,?_,q⟩
  by_cases hj:j < i
  · rw [if_pos hj,if_pos hj]; exact ⟨_,rfl⟩
  · rw [if_neg hj,if_neg hj]; exact ⟨_,rfl⟩
end
end L2
namespace L2
open PySem PySem.Spec PyProof.Rows
structure ObjM (h:Heap) (x dx C:Addr) (mA:Str→Option Value):Prop where
  obj:h.get? x=some (PySem.W.instObj C dx)
  ns:h.Ns1 dx mA
  ne:dx ≠ x
theorem zlL {h:Heap} {dx:Addr} {mA:Str→Option Value} (n:h.Ns1 dx mA):∃ od,h.get? dx=some od∧∀ name,PySem.W.lookIn name od=some (mA name):=by
  obtain ⟨o,es,ep,ho,hd,hk,_,hm⟩:=n
  refine ⟨o,ho,fun name=>?_⟩
  have e:=hm name
  unfold nsFind findBy at e
  rw [← Array.find?_toList] at e
  unfold PySem.W.lookIn
  rw [hd]
  dsimp only
  split
  · rename_i y q
    rw [q] at e
    exact congrArg some e
  · rename_i q
    rw [q] at e
    have a:es.toList.any (·.refKey)=false:=by
      rw [List.any_eq_false]
      intro y hy
      obtain ⟨z,t,hkey⟩:=hk y (Array.mem_toList_iff.mp hy)
      simp [DictEntry.refKey,hkey]
    have a':¬ es.toList.any (·.refKey)=true:=by rw [a]; exact Bool.false_ne_true
    rw [if_neg a']
    exact congrArg some e
theorem ObjM.look {h:Heap} {x dx C:Addr} {mA:Str→Option Value} (I:ObjM h x dx C mA):∃ od,PySem.W.InstAt h x (PySem.W.instObj C dx) C (some od)∧∀ name,PySem.W.lookIn name od=some (mA name) :=
  let ⟨od,ho,hl⟩:=zlL I.ns
  ⟨od,⟨I.obj,rfl,rfl,ho⟩,hl⟩
section
variable {prog:Program} {w:World} {A:Around} {E:Value→Shared→Prop} {s:Shared} {K:PySem.W.Frag} {x dx C f:Addr} {mA:Str→Option Value} {name:Str} {v:Value}
theorem get_map {expr:Bool} {Q:Value→Shared→Prop} (X:K.In s.heap) (I:ObjM s.heap x dx C mA) (hg:PySem.W.plainGet K C name=true) (hh:PySem.W.hasDictIn K C=true)
    (ha:PySem.W.findIn K (.ref C) name=some none) (hv:mA name=some v) (hv':PySem.W.handedIn v=true) (h:Q v { s with toks:=s.toks + 1 }) :
    wpAny (model prog w) A (getAttr (.ref x) name expr) Q E s:=by
  obtain ⟨od,J,hl⟩:=I.look
  exact PySem.W.get_value X J (PySem.W.plainGet_of hg).1 (PySem.W.findObj_own hh ha rfl (by rw [hl,hv])) hv' h
theorem zmS {pl:Sem Bool} {Q:Value × List Value→Shared→Prop} (X:K.In s.heap) (I:ObjM s.heap x dx C mA) (hg:PySem.W.plainGet K C name=true)
    (hf:PySem.W.findIn K (.ref C) name=some (some (.ref f))) (ht:PySem.W.isFn K (.ref f)=true) (hv:mA name=none) (h:Q (.ref f,[.ref x]) s) :
    wpAny (model prog w) A (getMethod (.ref x) name pl) Q E s:=by
  obtain ⟨od,J,hl⟩:=I.look
  exact PySem.W.method_fn X J (PySem.W.plainGet_of hg).1 (PySem.W.plainGet_of hg).2 hf (beq_iff_eq.mp ht) (by show (PySem.W.lookIn name od).map (·.isSome)=some false; rw [hl,hv]; rfl) h
theorem zom {ns:List Str} {Q:Unit→Shared→Prop} (X:K.In s.heap) (I:ObjM s.heap x dx C mA)
    (hs:PySem.W.findIn K (.ref C) "__setattr__"=some (some (.builtin "object.__setattr__"))) (hp:PySem.W.plainOver K C=true) (ht:PySem.W.takerIn K C name=some none) (hh:PySem.W.hasDictIn K C=true)
    (hw:PySem.Within mA ns) (hsz:ns.length ≤ sizeLine)
    (h:∀ h',ObjM h' x dx C (fun y=>if y=name then some v else mA y)→Heap.SameBut dx s.heap h'→Q () { s with heap:=h',toks:=s.toks + 2 }) :
    wpAny (model prog w) A (setAttr (.ref x) name v) Q E s:=by
  obtain ⟨od,J,hl⟩:=I.look
  refine PySem.W.set_plain X J hs (PySem.W.osa_open (s:={ s with toks:=s.toks + 1 }) (r:=none) X J hp ht fun b=>?_)
  obtain ⟨cd,hc,hd'⟩:=PySem.W.any_some hh
  have hx:s.heap.get? x=some ⟨.ref C,some dx,.plain,#[]⟩:=I.obj
  refine wpAny_bind (wpAny_pure (wpAny_bind (wpAny_bind (wpAny_loadPart hx (wpAny_bind (PySem.W.Looks.here (s:={ s with toks:=s.toks + 1 }) (PySem.W.looks_clsIn X hc) ?_))))))
  rw [hd']
  refine wpAny_pure (a:=some dx) (wpAny_bind (wpAny_pure (wpAny_bind ?_)))
  refine wpAny_nsSet1 (s:={ s with toks:=s.toks + 1 }) I.ns fun h' hn2 hs2=>?_
  obtain ⟨oD,esD,epD,hoD,hdD,hcD⟩:=hn2.count (PySem.Within.cons name v hw)
  refine wpAny_bind (wpAny_lookBehind hoD (by rw [hdD]; exact pastItsLine_dict (Nat.le_trans hcD (by rw [List.length_cons]; omega))) ?_)
  exact wpAny_pure (h _ ⟨(hs2.2 _ (Ne.symm I.ne)).trans I.obj,hn2,I.ne⟩ hs2)
theorem zny {R:Result→Shared→Prop} {vs:List Value} {kw:List (Str × Value)} (X:K.In s.heap) (hm:PySem.W.makesIn K C=true)
    (hi:PySem.W.findIn K (.ref C) "__init__"=some (some (.ref f))) (hf:PySem.W.typeIn K (.ref f)=some (.type "function"))
    (h:codeAny (model prog w) (A.under (.builtin "type.__call__" ⟨.ref C :: vs,kw⟩)) (.call (.ref f) ⟨.ref (s.heap.objs.size + 1) :: vs,kw⟩) (PySem.W.InitBack (s.heap.objs.size + 1) R)
      { s with heap:=(s.heap.push PySem.W.emptyDict).push (PySem.W.instObj C s.heap.objs.size) }) :
    codeAny (model prog w) A (.call (.ref C) ⟨vs,kw⟩) R s:=by
  obtain ⟨hh,g,d,t,os⟩:=s
  exact PySem.W.make_core (PySem.W.makes_of X hm) (PySem.W.looks_findIn X hi) (fun self=>PySem.W.bind_fn X self hf) (.inl rfl) h
end
def putF (f:Str) (v:V):List (Str × V)→List (Str × V)
  | []=>[(f,v)]
  | (g,x) :: r=>if g=f then (g,v) :: r else (g,x) :: putF f v r
theorem zgu (f g:Str) (v:V):∀ fs:List (Str × V),(putF f v fs).lookup g=if g=f then some v else fs.lookup g
  | []=>by
    show List.lookup g [(f,v)]=_
    by_cases h:g=f
    · have hb:(g == f)=true:=beq_iff_eq.mpr h
      simp only [List.lookup,hb,if_pos h]
    · have hb:(g == f)=false:=beq_eq_false_iff_ne.mpr h
      simp only [List.lookup,hb,if_neg h]
  | (k,x) :: r=>by
    have ih:=zgu f g v r
    rw [show putF f v ((k,x) :: r)=(if k=f then (k,v) :: r else (k,x) :: putF f v r) from rfl]
    by_cases hk:k=f
    · rw [if_pos hk]
      by_cases h:g=k
      · have hb:(g == k)=true:=beq_iff_eq.mpr h
        simp only [List.lookup,hb,if_pos (h.trans hk)]
      · have hb:(g == k)=false:=beq_eq_false_iff_ne.mpr h
        simp only [List.lookup,hb,if_neg (fun e:g=f=>h (e.trans hk.symm))]
    · rw [if_neg hk]
      by_cases h:g=k
      · have hb:(g == k)=true:=beq_iff_eq.mpr h
        simp only [List.lookup,hb,if_neg (fun e:g=f=>hk (h.symm.trans e))]
      · have hb:(g == k)=false:=beq_eq_false_iff_ne.mpr h
        simp only [List.lookup,hb]
        exact ih
theorem zgr (f:Str) (v:V):∀ fs:List (Str × V),f ∈ (putF f v fs).map (·.1)∧∀ g,g ∈ fs.map (·.1)→g ∈ (putF f v fs).map (·.1)
  | []=>⟨by simp [putF],fun g h=>by simp at h⟩
  | (k,x) :: r=>by
    obtain ⟨i1,i2⟩:=zgr f v r
    rw [show putF f v ((k,x) :: r)=(if k=f then (k,v) :: r else (k,x) :: putF f v r) from rfl]
    by_cases hk:k=f
    · rw [if_pos hk]
      subst hk
      exact ⟨by simp,fun g h=>by simpa using h⟩
    · rw [if_neg hk]
      refine ⟨?_,fun g h=>?_⟩
      · rw [List.map_cons]
        exact List.mem_cons_of_mem _ i1
      · rw [List.map_cons] at h ⊢
        rcases List.mem_cons.mp h with e | e
        · exact List.mem_cons.mpr (.inl e)
        · exact List.mem_cons_of_mem _ (i2 g e)
theorem zgb (f:Str) (v:V):∀ fs:List (Str × V),(putF f v fs).length ≤ fs.length + 1
  | []=>by simp [putF]
  | (k,x) :: r=>by
    have ih:=zgb f v r
    rw [show putF f v ((k,x) :: r)=(if k=f then (k,v) :: r else (k,x) :: putF f v r) from rfl]
    by_cases hk:k=f
    · rw [if_pos hk,List.length_cons,List.length_cons]; omega
    · rw [if_neg hk,List.length_cons,List.length_cons]; omega
theorem RelO.some_of {v:V} {o:Option Value} (r:RelO (some v) o):∃ u,o=some u∧RelV v u:=by
  cases o with
  | none=>exact (show False from r).elim
  | some u=>exact ⟨u,rfl,r⟩
theorem RelO.none_of {o:Option Value} (r:RelO none o):o=none:=by
  cases o with
  | none=>rfl
  | some u=>exact (show False from r).elim
theorem zmH {v:V} {u:Value} (r:RelV v u):PySem.W.handedIn u=true:=by
  cases v with
  | non=>cases (show u=Value.none from r); rfl
  | bl b=>cases (show u=Value.bool b from r); rfl
  | int i=>obtain ⟨t,e⟩:=(show ∃ t,u=Value.int i t from r); cases e; rfl
  | str x=>obtain ⟨t,e⟩:=(show ∃ t,u=Value.str x t from r); cases e; rfl
  | byt b=>obtain ⟨t,e⟩:=(show ∃ t,u=Value.bytes b t from r); cases e; rfl
  | flt b=>obtain ⟨t,e⟩:=(show ∃ t,u=Value.float b t from r); cases e; rfl
  | ref a=>cases (show u=Value.ref a from r); rfl
  | ty n=>cases (show u=Value.type n from r); rfl
section
variable {P:Program} {w:World} {H H':Hp} {h h':Heap} {a C dx:Addr} {fs fs':List (Str × V)}
theorem zhq (hok:HOk P w H h) (e:H a=some (.ins C dx fs)):∃ mA,ObjM h a dx C mA∧(∀ f,RelO (fs.lookup f) (mA f))∧PySem.Within mA (fs.map (·.1))∧fs.length ≤ 1000∧H dx=some (.own a):=by
  obtain ⟨d,z,ne,ob,mA,n,r,q⟩:=(show ObjOk P w H h a (.ins C dx fs) from hok a _ e)
  exact ⟨mA,⟨ob,n,ne⟩,r,q,z,d⟩
end
structure Cls (K:PySem.W.Frag) (C:Addr):Prop where
  pg:PySem.W.plainGet K C Str.empty=true
  hd:PySem.W.hasDictIn K C=true
  po:PySem.W.plainOver K C=true
  sa:PySem.W.findIn K (.ref C) "__setattr__"=some (some (.builtin "object.__setattr__"))
theorem Cls.get {K:PySem.W.Frag} {C:Addr} (c:Cls K C) (f:Str):PySem.W.plainGet K C f=true:=c.pg
def NoAttr (K:PySem.W.Frag) (C:Addr) (f:Str):Prop:=PySem.W.findIn K (.ref C) f=some none
theorem NoAttr.taker {K:PySem.W.Frag} {C:Addr} {f:Str} (n:NoAttr K C f):PySem.W.takerIn K C f=some none:=by
  unfold PySem.W.takerIn
  rw [show PySem.W.findIn K (.ref C) f=some none from n]
  rfl
structure Meth (K:PySem.W.Frag) (C:Addr) (m:Str) (f:Addr):Prop where
  at_:PySem.W.findIn K (.ref C) m=some (some (.ref f))
  fn:PySem.W.isFn K (.ref f)=true
  kp:PySem.W.keepIn K (.ref f)=true
section
variable {X:Cx} {pins:List (Addr × Obj)} {σ:St} {H:Hp} {s:Shared} {a C dx:Addr} {fs:List (Str × V)} {f:Str} {v:V} {A:Around} {E:Value→Shared→Prop}
theorem zkc {b:Bool} {Q:Value→Shared→Prop} (I:Inv X pins σ H s) (e:H a=some (.ins C dx fs)) (c:Cls X.K C) (n:NoAttr X.K C f) (l:fs.lookup f=some v)
    (h:∀ u s',Inv X pins σ H s'→RelV v u→Q u s'):wpAny (model X.prog X.w) A (getAttr (.ref a) f b) Q E s:=by
  obtain ⟨mA,O,r,_,_,_⟩:=zhq I.hok e
  obtain ⟨u,hu,ru⟩:=RelO.some_of (v:=v) (o:=mA f) (by rw [← l]; exact r f)
  exact get_map I.kIn O (c.get f) c.hd n hu (zmH ru) (h u _ (I.tok _) ru)
theorem zky {m:Str} {g:Addr} {pl:Sem Bool} {Q:Value × List Value→Shared→Prop} (I:Inv X pins σ H s) (e:H a=some (.ins C dx fs)) (c:Cls X.K C) (k:Meth X.K C m g) (l:fs.lookup m=none)
    (h:Q (.ref g,[.ref a]) s):wpAny (model X.prog X.w) A (getMethod (.ref a) m pl) Q E s:=by
  obtain ⟨mA,O,r,_,_,_⟩:=zhq I.hok e
  have hn:mA m=none:=RelO.none_of (by rw [← l]; exact r m)
  exact zmS I.kIn O (c.get m) k.at_ k.fn hn h
theorem zke {y:V} {u:Value} {Q:Unit→Shared→Prop} (I:Inv X pins σ H s) (e:H a=some (.ins C dx fs)) (c:Cls X.K C) (n:NoAttr X.K C f) (hl:fs.length < 1000) (ry:RelV y u)
    (h:∀ s',Inv X pins σ (upd H a (.ins C dx (putF f y fs))) s'→Q () s'):wpAny (model X.prog X.w) A (setAttr (.ref a) f u) Q E s:=by
  obtain ⟨mA,O,r,wi,_,ho⟩:=zhq I.hok e
  have hz:(fs.map (·.1)).length ≤ sizeLine:=by rw [List.length_map,sizeLine_eq]; omega
  refine zom I.kIn O c.sa c.po n.taker c.hd wi hz fun h' O' sb=>h _ ?_
  have hd:∃ o,h'.get? dx=some o:=let ⟨o,_,_,e',_⟩:=O'.ns; ⟨o,e'⟩
  refine I.write (x:=a) (e:=dx) (by rw [e]; exact True.intro) (.inr ho) (fun b q hb z=>(sb.2 b hb).trans z) hd ?_
  refine ⟨by rw [zag O.ne]; exact ho,?_,O.ne,O'.obj,_,O'.ns,fun g=>?_,fun g hg=>?_⟩
  · have:=zgb f y fs; omega
  · show RelO ((putF f y fs).lookup g) (if g=f then some u else mA g)
    rw [zgu]
    by_cases q:g=f
    · rw [if_pos q,if_pos q]; exact ry
    · rw [if_neg q,if_neg q]; exact r g
  · by_cases q:g=f
    · rw [q]; exact (zgr f y fs).1
    · refine (zgr f y fs).2 g (wi g fun z=>hg ?_)
      show (if g=f then some u else mA g)=none
      rw [if_neg q]; exact z
theorem Inv.made (I:Inv X pins σ H s):Inv X pins σ (upd (upd H s.heap.objs.size (.own (s.heap.objs.size + 1))) (s.heap.objs.size + 1) (.ins C s.heap.objs.size []))
    { s with heap:=(s.heap.push PySem.W.emptyDict).push (PySem.W.instObj C s.heap.objs.size) }:=by
  have e1:(s.heap.push PySem.W.emptyDict).get? s.heap.objs.size=some PySem.W.emptyDict:=Heap.get?_push_size s.heap rfl
  have e2:((s.heap.push PySem.W.emptyDict).push (PySem.W.instObj C s.heap.objs.size)).get? (s.heap.objs.size + 1)=some (PySem.W.instObj C s.heap.objs.size):=by
    have:=Heap.get?_push_size (s.heap.push PySem.W.emptyDict) (o:=PySem.W.instObj C s.heap.objs.size) rfl
    rwa [Heap.size_push] at this
  have e3:(s.heap.push PySem.W.emptyDict).Ns s.heap.objs.size (fun _=>none):=⟨PySem.W.emptyDict,#[],_,e1,rfl,(fun e he=>absurd he (by simp)),fun _=>rfl⟩
  have I1:=I.laid (a:=s.heap.objs.size) (o:=.own (s.heap.objs.size + 1)) (h':=s.heap.push PySem.W.emptyDict) (t':=s.toks) (fun b u q=>Heap.get?_push_of_some _ q) (Nat.le_refl _) ⟨_,e1⟩
  refine I1.laid (a:=s.heap.objs.size + 1) (o:=.ins C s.heap.objs.size []) (t':=s.toks) (fun b u q=>Heap.get?_push_of_some _ q) (Nat.le_of_eq (Heap.size_push _ _)) ?_
  have ne:s.heap.objs.size ≠ s.heap.objs.size + 1:=Nat.ne_of_lt (Nat.lt_succ_self _)
  refine ⟨by rw [zag ne,zal],Nat.zero_le _,ne,e2,fun _=>none,(Heap.Ns1.of_empty e3).at fun o q=>Heap.get?_push_of_some _ q,fun _=>True.intro,fun y hy=>absurd rfl hy⟩
theorem zoz {prog:Program} {w:World} {env:Env} {e:Expr} {f:Str} {pos:Pos} {s:Shared} {Q:Value→Shared→Prop} (hb:attributeBase e f env (eval e env)=eval e env)
    (h:wpAny (model prog w) A (eval e env) (fun o s₁=>wpAny (model prog w) A (getAttr o f true) Q E s₁) E s):wpAny (model prog w) A (eval (.Attribute e f pos) env) Q E s :=
  Attribute_any_ h (by rw [arm_eval_Attribute,hb])
end
def tFld (K:PySem.W.Frag) (ta:TE) (f:Str):TE:=fun σ H Q=>ta σ H fun x H1=>∃ a C dx fs v,x = .ref a∧H1 a=some (.ins C dx fs)∧Cls K C∧NoAttr K C f∧fs.lookup f=some v∧Q v H1
def sFld (K:PySem.W.Frag) (ta tv:TE) (f:Str):TS:=fun D σ H=>tv σ H fun y H1=>ta σ H1 fun x H2=>∃ a C dx fs,x = .ref a∧H2 a=some (.ins C dx fs)∧Cls K C∧NoAttr K C f∧fs.length < 1000 ∧
  D.nx σ (upd H2 a (.ins C dx (putF f y fs)))
section
variable {X:Cx} {o e value:Expr} {f:Str} {pos pos' tpos:Pos} {ta tv:TE}
theorem zgW (he:PE X e ta) (hb:attributeBase e f X.env (eval e X.env)=eval e X.env):PE X (.Attribute e f pos) (tFld X.K ta f):=by
  intro pins s σ H Q I h
  refine zoz hb (thn (he pins s σ H _ I h) fun u s1 ⟨x,H1,I1,rx,a,C,dx,fs,v,ex,ea,c,n,l,q⟩=>?_)
  subst ex
  obtain rfl:u=Value.ref a:=rx
  exact zkc I1 ea c n l fun u' s2 I2 ru=>⟨v,H1,I2,ru,q⟩
theorem zn8 (ha:PE X o ta) (hv:PE X value tv) (hs:swapsWith value (some (.Attribute o f pos')) pos.line X.env=pure false):PS X (.Assign [.Attribute o f pos'] value pos) (sFld X.K ta tv f):=by
  intro pins s σ H D I h
  refine plainObj_wpAny_Assign_Attribute (thn (hv pins s σ H _ I h) fun u s1 ⟨y,H1,I1,ry,q⟩=>thn (ha pins s1 σ H1 _ I1 q) fun ov s2 ⟨x,H2,I2,rx,a,C,dx,fs,ex,ea,c,n,l,q2⟩=>?_) hs
  subst ex
  obtain rfl:ov=Value.ref a:=rx
  exact zke I2 ea c n l ry fun s3 I3=>⟨σ,_,I3,q2⟩
end
section
variable {X:Cx} {pins:List (Addr × Obj)} {σ:St} {H:Hp} {s:Shared} {A:Around} {E:Value→Shared→Prop} {Q:Value→Shared→Prop} {c:Value} {b:Bool}
inductive TyOf (K:PySem.W.Frag) (H:Hp):V→Value→Prop where
  | non:TyOf K H .non (.type "NoneType")
  | bl (x:Bool):TyOf K H (.bl x) (.type "bool")
  | int (i:Int):TyOf K H (.int i) (.type "int")
  | str (x:Str):TyOf K H (.str x) (.type "str")
  | flt (x:UInt64):TyOf K H (.flt x) (.type "float")
  | lst {a:Addr} {xs:List V} (e:H a=some (.lst xs)):TyOf K H (.ref a) (.type "list")
  | frz {a:Addr} {o:Obj} {xs:List V} (e:H a=some (.frz o (.lst xs))):TyOf K H (.ref a) (.type "list")
  | tup {a:Addr} {xs:List V} (e:H a=some (.tup xs)):TyOf K H (.ref a) (.type "tuple")
  | dK {a:Addr} {kvs:List (Key × V)} (e:H a=some (.dK kvs)):TyOf K H (.ref a) (.type "dict")
  | dT {a:Addr} {kvs:List (List Key × V)} (e:H a=some (.dT kvs)):TyOf K H (.ref a) (.type "dict")
  | ins {a C dx:Addr} {fs:List (Str × V)} (e:H a=some (.ins C dx fs)) (cl:Cls K C) (ha:PySem.W.findIn K (.ref C) "__class__"=some (some (.builtin "object.__class__")))
      (hn:PySem.W.specialIn K (.builtin "object.__class__") "__get__"=some (some (.builtin "getset_descriptor.__get__"))) (htk:PySem.W.takesIn K (.builtin "object.__class__")=some true)
      (hm:PySem.W.mroIn K C (.type "object")=some true):TyOf K H (.ref a) (.ref C)
theorem zk4 {x:V} {u t:Value} (I:Inv X pins σ H s) (rx:RelV x u) (ty:TyOf X.K H x t) (e:PySem.W.kitOne X.K t c=some b) (h:∀ tk,Q (.bool b) { s with toks:=tk }) :
    wpAny (model X.prog X.w) A (call (.builtin "isinstance") [u,c]) Q E s:=by
  cases ty with
  | non=>cases (show u=Value.none from rx); exact PySem.W.kia_one PySem.W.kitx_none I.kIn True.intro e (fun z=>nomatch z) h
  | bl y=>cases (show u=Value.bool y from rx); exact PySem.W.kia_one PySem.W.kitx_bool I.kIn True.intro e (fun z=>nomatch z) h
  | int i=>obtain ⟨t,q⟩:=(show ∃ t,u=Value.int i t from rx); cases q; exact PySem.W.kia_one PySem.W.kitx_int I.kIn True.intro e (fun z=>nomatch z) h
  | str y=>obtain ⟨t,q⟩:=(show ∃ t,u=Value.str y t from rx); cases q; exact PySem.W.kia_one PySem.W.kitx_str I.kIn True.intro e (fun z=>nomatch z) h
  | flt y=>obtain ⟨t,q⟩:=(show ∃ t,u=Value.float y t from rx); cases q; exact PySem.W.kia_one PySem.W.kitx_float I.kIn True.intro e (fun z=>nomatch z) h
  | @lst a xs ea =>
    cases (show u=Value.ref a from rx)
    obtain ⟨_,_,n,_,h1⟩:=(show ObjOk X.prog X.w H s.heap a (.lst xs) from I.hok a _ ea)
    exact PySem.W.kia_one PySem.W.kitx_list I.kIn ⟨_,h1,rfl⟩ e (fun z=>nomatch z) h
  | @frz a ob xs ea =>
    cases (show u=Value.ref a from rx)
    obtain ⟨_,_,_,n,_,h1⟩:=(show ObjOk X.prog X.w H s.heap a (.frz ob (.lst xs)) from I.hok a _ ea)
    exact PySem.W.kia_one PySem.W.kitx_list I.kIn ⟨_,h1,rfl⟩ e (fun z=>nomatch z) h
  | @tup a xs ea =>
    cases (show u=Value.ref a from rx)
    obtain ⟨_,_,_,p⟩:=(show ObjOk X.prog X.w H s.heap a (.tup xs) from I.hok a _ ea)
    obtain ⟨o,h1,h2,_⟩:=p
    exact PySem.W.kia_one PySem.W.kitx_tuple I.kIn ⟨o,h1,h2⟩ e (fun z=>nomatch z) h
  | @dK a kvs ea =>
    cases (show u=Value.ref a from rx)
    obtain ⟨_,_,vs,_,p⟩:=(show ObjOk X.prog X.w H s.heap a (.dK kvs) from I.hok a _ ea)
    obtain ⟨o,es,ep,h1,h2,_⟩:=p
    exact PySem.W.kia_one PySem.W.kitx_dict I.kIn ⟨o,h1,h2.1⟩ e (fun z=>nomatch z) h
  | @dT a kvs ea =>
    cases (show u=Value.ref a from rx)
    obtain ⟨_,_,xs,_,o,es,ep,h1,h2,_⟩:=(show ObjOk X.prog X.w H s.heap a (.dT kvs) from I.hok a _ ea)
    exact PySem.W.kia_one PySem.W.kitx_dict I.kIn ⟨o,h1,h2.1⟩ e (fun z=>nomatch z) h
  | @ins a C dx fs ea cl ha hn htk hm =>
    cases (show u=Value.ref a from rx)
    obtain ⟨mA,O,_⟩:=zhq I.hok ea
    obtain ⟨od,J,_⟩:=O.look
    exact PySem.W.kia_one (PySem.W.kitx_own (cl.get _) cl.hd ha hn htk hm) I.kIn J e (fun z=>nomatch z) h
end
end L2
namespace L2
open PySem PySem.Spec PyProof.Rows
structure Room (k:Nat) (A:Around):Prop where
  hd:A.handled=none
  dp:A.depth + 3 * k + 5 < recursionLimit
  un:A.units + 16 * k + 200 < cLine
theorem Room.mono {j k:Nat} {A:Around} (r:Room k A) (h:j ≤ k):Room j A:=⟨r.hd,by have:=r.dp; omega,by have:=r.un; omega⟩
theorem Room.deeper {k:Nat} {A:Around} (r:Room (k + 1) A) (env:Env):Room k (A.deeper env) :=
  ⟨r.hd,by have:=r.dp; show A.depth + 1 + 3 * k + 5 < _; omega,by have:=r.un; show A.units + 3 + 16 * k + 200 < _; omega⟩
theorem zkA {A:Around} {C:Addr} {us:List Value} {kw:List (Str × Value)}:(A.under (.builtin "type.__call__" ⟨.ref C :: us,kw⟩)).depth=A.depth + 1:=by
  first | rfl | simp [Around.under,Code.weight,Code.isCreation,Code.isGuard,Code.isCaller,Code.frames,Code.isFrame,guardIds]
theorem zkC {A:Around} {C:Addr} {us:List Value} {kw:List (Str × Value)}:(A.under (.builtin "type.__call__" ⟨.ref C :: us,kw⟩)).units=A.units + 1:=by
  first | rfl | simp [Around.under,Code.cUnits,Code.frames,Code.isFrame]
theorem Room.make {k:Nat} {A:Around} (r:Room (k + 1) A) (C:Addr) (us:List Value) (kw:List (Str × Value)):Room k (A.under (.builtin "type.__call__" ⟨.ref C :: us,kw⟩)) :=
  ⟨r.hd,by have:=r.dp; rw [zkA]; omega,by have:=r.un; rw [zkC]; omega⟩
theorem Room.depth {k:Nat} {A:Around} (r:Room k A):A.depth < recursionLimit:=by have:=r.dp; omega
theorem Room.units {k:Nat} {A:Around} (r:Room k A):A.units + 64 < cLine:=by have:=r.un; omega
def tNil:TA:=fun _ H Q=>Q [] H
def zbx (ta:TE) (tr:TA):TA:=fun σ H Q=>ta σ H fun x H1=>tr σ H1 fun xs H2=>Q (x :: xs) H2
section
variable {X:Cx} {e:Expr} {es:List Expr} {te:TE} {t:TA} {pos:Pos}
theorem zae:PA X [] tNil:=fun _ _ _ _ H Q I h=>Calls.spliced_nil ⟨[],H,I,.nil,h⟩
theorem zab (ha:PE X e te) (hr:PA X es t) (hs:starEach (e :: es) X.env=(false,eval e X.env) :: starEach es X.env:=by rfl):PA X (e :: es) (zbx te t):=by
  intro pos pins s σ H Q I h
  rw [hs]
  show wpAny _ _ (spliced ((false,eval e X.env) :: backTo pos (starEach es X.env))) _ _ s
  refine Calls.spliced_cons (thn (ha pins s σ H _ I h) fun u s1 ⟨x,H1,I1,r1,q1⟩=>?_)
  exact thn (hr pos pins s1 σ H1 _ I1 q1) fun us s2 ⟨xs,H2,I2,r2,q2⟩=>⟨x :: xs,H2,I2,.cons r1 r2,q2⟩
def tTup (t:TA):TE:=fun σ H Q=>t σ H fun xs H1=>xs.length ≤ sizeLine∧∀ p,H1 p=none→Q (.ref p) (upd H1 p (.tup xs))
def tLst (t:TA):TE:=fun σ H Q=>t σ H fun xs H1=>xs.length ≤ sizeLine∧∀ p,H1 p=none→Q (.ref p) (upd H1 p (.lst xs))
theorem zem {x1} (h:PA X es t):PE X (.Tuple es x1 pos) (tTup t):=by
  intro pins s σ H Q I hq
  refine wpAny_Tuple_spliced (thn (h pos pins s σ H _ I hq) fun us s1 ⟨xs,H1,I1,r,z,q⟩=>⟨by rw [← r.length]; exact z,?_⟩)
  have hf:H1 s1.heap.objs.size=none:=I1.hok.fresh (Nat.le_refl _)
  refine ⟨.ref s1.heap.objs.size,upd H1 s1.heap.objs.size (.tup xs),I1.laid (t':=s1.toks) (fun b u e=>Heap.get?_push_of_some _ e) (Nat.le_refl _) ?_,rfl,q _ hf⟩
  exact ⟨z,us,r,⟨_,Heap.get?_push_size _ rfl,rfl,_,rfl⟩⟩
theorem zcY (h:PA X es t):PE X (.List es pos) (tLst t):=by
  intro pins s σ H Q I hq
  refine wpAny_List_spliced (thn (h pos pins s σ H _ I hq) fun us s1 ⟨xs,H1,I1,r,z,q⟩=>⟨by rw [← r.length]; exact z,?_⟩)
  have hf:H1 s1.heap.objs.size=none:=I1.hok.fresh (Nat.le_refl _)
  refine ⟨.ref s1.heap.objs.size,upd H1 s1.heap.objs.size (.lst xs),I1.laid (t':=s1.toks) (fun b u e=>Heap.get?_push_of_some _ e) (Nat.le_refl _) ?_,rfl,q _ hf⟩
  exact ⟨z,us,0,r,Heap.get?_push_size _ rfl⟩
end
abbrev Sp:=List V→Hp→VK→XK→Prop
abbrev CXT:=List Env→Hp→Shared→XK→Value→Shared→Prop
structure Env0 (P:Program) (w:World) (K:PySem.W.Frag) (mg:Str→Option Value) (base:Heap) (A:Around) (outer:List Env) (s:Shared) (H:Hp):Prop where
  frames:A.frames=some outer
  mod:Mod K mg base
  bs:∀ b o,base.get? b=some o→s.heap.get? b=some o∧H b=none
  bsz:base.objs.size ≤ s.heap.objs.size
  funs:s.heap.FunFrames base outer
  frf:∀ b ∈ frs outer,H b=none
  hok:HOk P w H s.heap
  bare:AllBare s.gens
  tb:TbAt K H
def CE (outer:List Env) (P:Program) (w:World) (H:Hp) (s:Shared) (Q:VK) (u:Value) (s':Shared):Prop :=
  ∃ v H',s'.os=s.os∧AllBare s'.gens∧Un (frs outer) [] H H' s.heap s'.heap∧HOk P w H' s'.heap∧RelV v u∧Q v H'
def CR (CX:CXT) (outer:List Env) (P:Program) (w:World) (H:Hp) (s:Shared) (Q:VK) (E:XK) (r:Result) (s':Shared):Prop :=
  match r with
  | .ok (.ret u)=>CE outer P w H s Q u s'
  | .ok _=>False
  | .error e=>CX outer H s E e s'
structure FnOk (P:Program) (w:World) (K:PySem.W.Frag) (mg:Str→Option Value) (base:Heap) (CX:CXT) (k:Nat) (f:Addr) (fd:FuncData) (ps:List Str) (sp:Sp):Prop where
  len:∀ vs H Q E,sp vs H Q E→vs.length=ps.length
  run:∀ (A:Around) (outer:List Env) (s:Shared) (H:Hp) (args:Args) (us:List Value) (vs:List V) (Q:VK) (E:XK),Room k A→Env0 P w K mg base A outer s H→BindsTo s fd args (ps.zip us)→Vals vs us→sp vs H Q E →
    codeAny (model P w) A (.call (.ref f) args) (CR CX outer P w H s Q E) s
theorem FnOk.mono {P:Program} {w:World} {K:PySem.W.Frag} {mg:Str→Option Value} {base:Heap} {CX:CXT} {j k:Nat} {f:Addr} {fd:FuncData} {ps:List Str} {sp:Sp} (F:FnOk P w K mg base CX j f fd ps sp) (h:j ≤ k) :
    FnOk P w K mg base CX k f fd ps sp:=⟨F.len,fun A outer s H args us vs Q E hr=>F.run A outer s H args us vs Q E (hr.mono h)⟩
theorem FnOk.imp {P:Program} {w:World} {K:PySem.W.Frag} {mg:Str→Option Value} {base:Heap} {CX:CXT} {k:Nat} {f:Addr} {fd:FuncData} {ps:List Str} {sp sp':Sp} (F:FnOk P w K mg base CX k f fd ps sp)
    (h:∀ vs H Q E,sp' vs H Q E→sp vs H Q E):FnOk P w K mg base CX k f fd ps sp' :=
  ⟨fun vs H Q E q=>F.len vs H Q E (h _ _ _ _ q),fun A outer s H args us vs Q E hr he hb hv hs=>F.run A outer s H args us vs Q E hr he hb hv (h _ _ _ _ hs)⟩
theorem Env0.make {P:Program} {w:World} {K:PySem.W.Frag} {mg:Str→Option Value} {base:Heap} {A:Around} {outer:List Env} {s:Shared} {H:Hp} (e:Env0 P w K mg base A outer s H) (C:Addr) (us:List Value) (kw:List (Str × Value)) :
    Env0 P w K mg base (A.under (.builtin "type.__call__" ⟨.ref C :: us,kw⟩)) outer s H:=⟨by first | exact e.frames | (simpa [Around.under,Code.envs,Code.isFrame,pushEnvs] using e.frames),e.mod,e.bs,e.bsz,e.funs,e.frf,e.hok,e.bare,e.tb⟩
section
variable {X:Cx} {pins:List (Addr × Obj)} {σ:St} {H:Hp} {s s':Shared}
theorem Inv.env0 (I:Inv X pins σ H s):Env0 X.prog X.w X.K X.mg X.base X.A X.stack s H :=
  ⟨I.ok.frames,I.ok.mod,I.bs,Nat.le_trans I.ok.bsz I.sz,I.stack,I.stkFree,I.hok,I.bare,I.ok.tb.grown I.base.tbls⟩
theorem Inv.after {Q:VK} {u:Value} (I:Inv X pins σ H s) (h:CE X.stack X.prog X.w H s Q u s'):EP X pins σ Q u s':=by
  obtain ⟨v,H',os,bare,un,hok,r,q⟩:=h
  obtain ⟨hh,g,d,t,os'⟩:=s'
  obtain rfl:os'=s.os:=os
  exact ⟨v,H',I.call (h':=hh) (g':=g) (d':=d) (t':=t) (ch:=[]) un hok bare (fun b z=>absurd z (by simp)),r,q⟩
end
def zkm (sp:Sp) (dvs:List V) (E:XK) (t:TA):TE:=fun σ H Q=>t σ H fun vs H1=>sp (vs ++ dvs) H1 Q E
def zlY (C:Addr) (m:Str) (sp:Sp) (dvs:List V) (E:XK) (ta:TE) (t:TA):TE:=fun σ H Q=>ta σ H fun x H1=>∃ a dx fs,x = .ref a∧H1 a=some (.ins C dx fs)∧fs.lookup m=none ∧
  t σ H1 fun vs H2=>sp (x :: (vs ++ dvs)) H2 Q E
def zoB (C:Addr) (sp:Sp) (dvs:List V) (E:XK) (t:TA):TE:=fun σ H Q=>t σ H fun vs H1=>∀ x dx,H1 x=none→H1 dx=none→dx ≠ x →
  sp (.ref x :: (vs ++ dvs)) (upd (upd H1 dx (.own x)) x (.ins C dx [])) (fun v H2=>v = .non∧Q (.ref x) H2) E
def Binds (K:PySem.W.Frag) (fd:FuncData) (ps:List Str) (ds:List Value):Prop :=
  ∀ (s:Shared) (us:List Value),K.In s.heap→(us ++ ds).length=ps.length→BindsTo s fd ⟨us,[]⟩ (ps.zip (us ++ ds))
theorem Binds.all {K:PySem.W.Frag} {fd:FuncData} {ps:List Str} (h:∀ us:List Value,us.length=ps.length→bindArgs fd ⟨us,[]⟩=pure (ps.zip us)):Binds K fd ps []:=fun s us _ hl=>by
  rw [List.append_nil] at hl ⊢
  exact .of_eq (h us hl)
def zez (CX:CXT) (X:Cx) (E:XK):Prop:=∀ (pins:List (Addr × Obj)) (σ:St) (H:Hp) (s:Shared) (e:Value) (s':Shared),Inv X pins σ H s→CX X.stack H s E e s'→X.xe e s'
section
variable {X:Cx} {CX:CXT} {k:Nat} {f C:Addr} {fd:FuncData} {ps:List Str} {sp:Sp} {dvs:List V} {ds:List Value} {E:XK} {x m:Str} {p pos apos:Pos} {e o:Expr} {es:List Expr} {ta:TE} {t:TA}
theorem znY {pins:List (Addr × Obj)} {σ:St} {H:Hp} {s:Shared} {Q:VK} {us:List Value} {vs:List V} (F:FnOk X.prog X.w X.K X.mg X.base CX k f fd ps sp) (hr:Room k X.A) (hb:Binds X.K fd ps ds) (hd:Vals dvs ds) (hx:zez CX X E)
    (I:Inv X pins σ H s) (r:Vals vs us) (h:sp (vs ++ dvs) H Q E):wpAny (model X.prog X.w) X.A (call (.ref f) us) (EP X pins σ Q) X.xe s:=by
  have r2:Vals (vs ++ dvs) (us ++ ds):=r.append hd
  have hl:(us ++ ds).length=ps.length:=by rw [← r2.length]; exact F.len _ _ _ _ h
  refine wpAny_call (codeAny_mono (F.run X.A X.stack s H ⟨us,[]⟩ (us ++ ds) (vs ++ dvs) Q E hr I.env0 (hb s us I.kIn hl) r2 h) fun r s' hq=>?_)
  cases r with
  | error e=>exact hx pins σ H s e s' I hq
  | ok fl =>
    cases fl with
    | ret u=>exact I.after hq
    | next=>exact False.elim hq
    | brk=>exact False.elim hq
    | cont=>exact False.elim hq
theorem zpp (F:FnOk X.prog X.w X.K X.mg X.base CX k f fd ps sp) (hr:Room k X.A) (hg:Gl X x) (hm:X.mg x=some (.ref f)) (hk:PySem.W.keepIn X.K (.ref f)=true) (hb:Binds X.K fd ps ds) (hd:Vals dvs ds) (hx:zez CX X E)
    (ha:PA X (e :: es) t) (hdb:(x == ("__debug__" : Str))=false:=by decide) (he:starEach (e :: es) X.env=(false,eval e X.env) :: starEach es X.env:=by rfl) (hpl:(backTo pos (starEach es X.env)).any (·.1)=false:=by rfl) :
    PE X (.Call (.Name x p) (e :: es) [] pos) (zkm sp dvs E t):=by
  intro pins s σ H Q I h
  refine wpAny_Call_Name_kw (zeI I hg hm ?_ hdb)
  refine PySem.W.callWith_K (h₀:=X.base) I.ok.mod.kin hk (thn (ha pos pins s σ H _ I h) fun us s1 ⟨vs,H1,I1,r,q⟩=>⟨I1.kIn,?_⟩) he hpl
  exact znY F hr hb hd hx I1 r q
theorem zoJ {pl:Sem Bool} (he:PE X o ta) (c:Cls X.K C) (hm:Meth X.K C m f) (F:FnOk X.prog X.w X.K X.mg X.base CX k f fd ps sp) (hr:Room k X.A) (hb:Binds X.K fd ps ds) (hd:Vals dvs ds) (hx:zez CX X E) (ha:PA X (e :: es) t)
    (hst:starEach (e :: es) X.env=(false,eval e X.env) :: starEach es X.env:=by rfl) (hpl:(backTo pos (starEach es X.env)).any (·.1)=false:=by rfl)
    (ht:eval (.Call (.Attribute o m apos) (e :: es) [] pos) X.env=(do
      let ov ← eval o X.env
      standAt apos.atName
      let (f,first) ← holding [ov] (getMethod ov m pl)
      callWith pos f first (backTo pos (starEach (e :: es) X.env)) (backToKw pos (keywordEach [] X.env))):=by rfl) :
    PE X (.Call (.Attribute o m apos) (e :: es) [] pos) (zlY C m sp dvs E ta t):=by
  intro pins s σ H Q I h
  refine PySem.W.methodCall_KW (pl:=pl) (thn (he pins s σ H _ I h) fun u s1 ⟨x,H1,I1,rx,a,dx,fs,ex,ea,l,q⟩=>?_) ht
  subst ex
  obtain rfl:u=Value.ref a:=rx
  refine zky I1 ea c hm l ?_
  refine PySem.W.callWith_K (first:=[.ref a]) (h₀:=X.base) I.ok.mod.kin hm.kp (thn (ha pos pins s1 σ H1 _ I1 q) fun us s2 ⟨vs,H2,I2,r,q2⟩=>⟨I2.kIn,?_⟩) hst hpl
  exact znY (us:=.ref a :: us) (vs:=.ref a :: vs) F hr hb hd hx I2 (.cons rfl r) q2
structure Mk (K:PySem.W.Frag) (C f:Addr):Prop where
  makes:PySem.W.makesIn K C=true
  init:PySem.W.findIn K (.ref C) "__init__"=some (some (.ref f))
  fn:PySem.W.isFn K (.ref f)=true
  kp:PySem.W.keepIn K (.ref C)=true
theorem znv {pins:List (Addr × Obj)} {σ:St} {H:Hp} {s:Shared} {Q:VK} {us:List Value} {vs:List V} (M:Mk X.K C f) (F:FnOk X.prog X.w X.K X.mg X.base CX k f fd ps sp) (hr:Room (k + 1) X.A) (hb:Binds X.K fd ps ds) (hd:Vals dvs ds)
    (hx:zez CX X E) (I:Inv X pins σ H s) (r:Vals vs us)
    (h:∀ x dx,H x=none→H dx=none→dx ≠ x→sp (.ref x :: (vs ++ dvs)) (upd (upd H dx (.own x)) x (.ins C dx [])) (fun v H2=>v = .non∧Q (.ref x) H2) E) :
    wpAny (model X.prog X.w) X.A (call (.ref C) us) (EP X pins σ Q) X.xe s:=by
  have hq:=h (s.heap.objs.size + 1) s.heap.objs.size (I.hok.fresh (Nat.le_succ _)) (I.hok.fresh (Nat.le_refl _)) (Nat.ne_of_lt (Nat.lt_succ_self _))
  have I2:=Inv.made (C:=C) I
  have r2:Vals (V.ref (s.heap.objs.size + 1) :: (vs ++ dvs)) (Value.ref (s.heap.objs.size + 1) :: (us ++ ds)):=.cons rfl (r.append hd)
  have hl:(Value.ref (s.heap.objs.size + 1) :: us ++ ds).length=ps.length:=by
    have e:=r2.length
    rw [F.len _ _ _ _ hq] at e
    exact e.symm
  refine wpAny_call (zny (f:=f) I.kIn M.makes M.init (beq_iff_eq.mp M.fn) (codeAny_mono (F.run _ X.stack _ _ ⟨Value.ref (s.heap.objs.size + 1) :: us,[]⟩ (Value.ref (s.heap.objs.size + 1) :: (us ++ ds)) _ _ E (hr.make C us [])
    (I2.env0.make C us []) (hb _ (Value.ref (s.heap.objs.size + 1) :: us) I2.kIn hl) r2 hq) fun r s' hq'=>?_))
  cases r with
  | error e=>exact hx pins σ _ _ e s' I2 hq'
  | ok fl =>
    cases fl with
    | ret u =>
      obtain ⟨v,H',I3,rv,ev,q3⟩:=I2.after hq'
      subst ev
      exact ⟨rv,⟨V.ref (s.heap.objs.size + 1),H',I3,rfl,q3⟩⟩
    | next=>exact False.elim hq'
    | brk=>exact False.elim hq'
    | cont=>exact False.elim hq'
theorem zoQ (M:Mk X.K C f) (F:FnOk X.prog X.w X.K X.mg X.base CX k f fd ps sp) (hr:Room (k + 1) X.A) (hg:Gl X x) (hm:X.mg x=some (.ref C)) (hb:Binds X.K fd ps ds) (hd:Vals dvs ds) (hx:zez CX X E)
    (ha:PA X (e :: es) t) (hdb:(x == ("__debug__" : Str))=false:=by decide) (he:starEach (e :: es) X.env=(false,eval e X.env) :: starEach es X.env:=by rfl) (hpl:(backTo pos (starEach es X.env)).any (·.1)=false:=by rfl) :
    PE X (.Call (.Name x p) (e :: es) [] pos) (zoB C sp dvs E t):=by
  intro pins s σ H Q I h
  refine wpAny_Call_Name_kw (zeI I hg hm ?_ hdb)
  refine PySem.W.callWith_K (h₀:=X.base) I.ok.mod.kin M.kp (thn (ha pos pins s σ H _ I h) fun us s1 ⟨vs,H1,I1,r,q⟩=>⟨I1.kIn,?_⟩) he hpl
  exact znv M F hr hb hd hx I1 r q
end
section
variable {X:Cx} {CX:CXT} {k:Nat} {f C:Addr} {fd:FuncData} {ps ks:List Str} {sp:Sp} {E:XK} {x m:Str} {p pos apos kpos:Pos} {e o:Expr} {es:List Expr} {kws:List Keyword} {te ta:TE} {t tk:TA} {nm:Option Str}
variable {g:List Value→List Value→List Value} {gV:List V→List V→List V}
end
structure FnScope (N P:List Str) (sc:Scope):Prop where
  kind:sc.kind = .function
  co:sc.isCoroutine=false
  gen:sc.isGenerator=false
  nd:N.Nodup
  pre:N.take P.length=P
  par:∀ x ∈ P,sc.names.lookup x=some .local∨sc.names.lookup x=some .cell
  nofree:∀ y ∈ sc.names,y.2 ≠ .free
theorem zis {kindOf:Str→Option NameKind} {x:Str}:∀ {binds:List (Str × Value)} {m:Str→Option Value},(∀ v,(x,v) ∉ binds)→bindL kindOf binds m x=m x
  | [],_,_=>rfl
  | (n,v) :: r,m,h=>by
    unfold bindL
    rw [zis fun w hw=>h w (List.mem_cons_of_mem _ hw)]
    split
    · have:x ≠ n:=by rintro rfl; exact h v List.mem_cons_self
      simp [this]
    · rfl
theorem zh2 {kindOf:Str→Option NameKind} {x:Str}:∀ {binds:List (Str × Value)} {m:Str→Option Value},(∀ v,(x,v) ∉ binds)→bindC kindOf binds m x=m x
  | [],_,_=>rfl
  | (n,v) :: r,m,h=>by
    unfold bindC
    rw [zh2 fun w hw=>h w (List.mem_cons_of_mem _ hw)]
    split
    · rfl
    · have:x ≠ n:=by rintro rfl; exact h v List.mem_cons_self
      simp [this]
theorem zhR {kindOf:Str→Option NameKind} {x:Str} {v:Value}:∀ {P:List Str} {vs:List Value} {i:Nat} {m:Str→Option Value},P.Nodup→P[i]?=some x→vs[i]?=some v→kindOf x=some .local →
    bindL kindOf (P.zip vs) m x=some v
  | [],_,_,_,_,h,_,_=>by simp at h
  | _ :: _,[],_,_,_,_,h,_=>by simp at h
  | p :: P,w :: vs,0,m,nd,h1,h2,hk=>by
    simp at h1 h2; subst h1; subst h2
    show bindL kindOf ((p,w) :: P.zip vs) m p=_
    unfold bindL
    rw [zis fun v hv=>(List.nodup_cons.mp nd).1 (List.of_mem_zip hv).1,if_pos hk]
    simp
  | p :: P,w :: vs,i + 1,m,nd,h1,h2,hk=>by
    show bindL kindOf ((p,w) :: P.zip vs) m x=_
    unfold bindL
    exact zhR (i:=i) (List.nodup_cons.mp nd).2 (by simpa using h1) (by simpa using h2) hk
theorem zib {kindOf:Str→Option NameKind} {x:Str} {v:Value}:∀ {P:List Str} {vs:List Value} {i:Nat} {m:Str→Option Value},P.Nodup→P[i]?=some x→vs[i]?=some v→kindOf x ≠ some .local →
    bindC kindOf (P.zip vs) m x=some v
  | [],_,_,_,_,h,_,_=>by simp at h
  | _ :: _,[],_,_,_,_,h,_=>by simp at h
  | p :: P,w :: vs,0,m,nd,h1,h2,hk=>by
    simp at h1 h2; subst h1; subst h2
    show bindC kindOf ((p,w) :: P.zip vs) m p=_
    unfold bindC
    rw [zh2 fun v hv=>(List.nodup_cons.mp nd).1 (List.of_mem_zip hv).1,if_neg hk]
    simp
  | p :: P,w :: vs,i + 1,m,nd,h1,h2,hk=>by
    show bindC kindOf ((p,w) :: P.zip vs) m x=_
    unfold bindC
    exact zib (i:=i) (List.nodup_cons.mp nd).2 (by simpa using h1) (by simpa using h2) hk
def start (N:List Str) (vs:List V):St:=vs.map some ++ List.replicate (N.length - vs.length) none
def cxOf (CX:CXT) (P:Program) (w:World) (K:PySem.W.Frag) (mg:Str→Option Value) (base:Heap) (N:List Str) (qual:Str) (scope:Scope) (f:Addr) (cd:Value) (A:Around) (outer:List Env) (s:Shared) (H:Hp) (E:XK):Cx where
  prog:=P
  w:=w
  K:=K
  mg:=mg
  base:=base
  A:=A.deeper (envOfC qual scope s.heap.objs.size f cd)
  N:=N
  s₀:=s
  H₀:=H
  env:=envOfC qual scope s.heap.objs.size f cd
  outer:=outer
  stack:=envOfC qual scope s.heap.objs.size f cd :: outer
  ex:=[]
  calm:=true
  fn:=fun _=>true
  pn:=[]
  xe:=fun e s'=>wpAny (model P w) (A.deeper (envOfC qual scope s.heap.objs.size f cd)) (leaving (envOfC qual scope s.heap.objs.size f cd) e) (fun _ s''=>CX outer H s E e s'') (fun e' s''=>CX outer H s E e' s'') s'
theorem zjP {sc:Scope} {n:Nat} {x:Str} (h:sc.names.lookup x=some .cell):∃ c,(cellsFrom n sc.names []).lookup x=some c:=by
  have q:=PySem.W.cellsFrom_some sc.names n [] (.inl h)
  exact Option.isSome_iff_exists.mp q
theorem zmq {CX:CXT} {P:Program} {w:World} {K:PySem.W.Frag} {mg:Str→Option Value} {base:Heap} {N ps:List Str} {qual:Str} {scope:Scope} {f:Addr} {cd:Value} {A:Around} {outer:List Env} {s s1:Shared} {H:Hp} {E:XK} {us:List Value} {vs:List V}
    (S:FnScope N ps scope) (hd:A.handled=none) (e0:Env0 P w K mg base A outer s H) (hl:vs.length=ps.length) (r:Vals vs us)
    (x:InCallC s s.heap.objs.size (bindL (envOfC qual scope s.heap.objs.size f cd).kindOf (ps.zip us) fun _=>none) (cellsFrom (s.heap.objs.size + 1) scope.names []) (bindC (envOfC qual scope s.heap.objs.size f cd).kindOf (ps.zip us) fun _=>none) s1) :
    Inv (cxOf CX P w K mg base N qual scope f cd A outer s H E) [] (start N vs) H s1:=by
  have hpl:ps.length ≤ N.length:=by have:=congrArg List.length S.pre; rw [List.length_take] at this; omega
  obtain ⟨h1,tk,rfl,hk⟩:=x.done
  have noA:∀ b:Addr,b ∉ (cxOf CX P w K mg base N qual scope f cd A outer s H E).ex:=fun b z=>absurd (show b ∈ ([]:List Addr) from z) (by simp)
  refine ⟨⟨e0.mod,S.kind,rfl,rfl,Nat.le_refl _,fun y z c h1 h2=>?_,fun y hy=>?_,fun y c _ h=>?_,fun _=>hd,Around.frames_deeper e0.frames,.inr ⟨rfl,rfl⟩,fun b z=>absurd z (noA b),e0.bs,e0.bsz,fun b _ _=>noA b,fun b z=>absurd z (noA b),e0.funs,e0.frf,e0.tb⟩,
    rfl,e0.bare,Un.kept hk,⟨_,x.toInCall.ns,fun i y v h1 h2 h3=>?_⟩,fun y c h=>⟨_,x.cell y c h⟩,e0.hok.fresh (Nat.le_refl _),fun y c h=>?_,fun p hp=>absurd (show p ∈ ([]:List (Addr × Obj)) from hp) (by simp),e0.hok.kept hk,?_⟩
  · exact name_of_addr x.apart (PySem.mem_of_lookup h1) (PySem.mem_of_lookup h2)
  · have hy:scope.names.lookup y=some .cell∨scope.names.lookup y=some .free:=hy
    rcases hy with hy | hy
    · exact zjP hy
    · exact absurd rfl (S.nofree _ (PySem.mem_of_lookup hy))
  · exact Nat.le_of_lt (x.above y c (PySem.mem_of_lookup h))
  · have hi:i < vs.length:=by
      unfold start at h2
      by_cases hi:i < vs.length
      · exact hi
      · rw [List.getElem?_append_right (by simpa using hi)] at h2
        rw [List.getElem?_replicate] at h2
        split at h2 <;> cases h2
    have ha:vs[i]?=some v:=by
      unfold start at h2
      rw [List.getElem?_append_left (by simpa using hi),List.getElem?_map] at h2
      cases e:vs[i]? with
      | none=>rw [e] at h2; cases h2
      | some a=>rw [e] at h2; cases h2; rfl
    obtain ⟨u,hu,rv⟩:=r.get ha
    have hp:ps[i]?=some y:=by
      rw [← S.pre,List.getElem?_take_of_lt (by omega)]; exact h1
    have ndP:ps.Nodup:=by rw [← S.pre]; exact S.nd.sublist (List.take_sublist _ _)
    refine ⟨u,rv,?_⟩
    rcases S.par y (List.mem_of_getElem? hp) with k | k
    · exact .inl ⟨k,zhR ndP hp hu k⟩
    · obtain ⟨c,e⟩:=zjP (n:=s.heap.objs.size + 1) k
      refine .inr ⟨.inl k,c,e,?_⟩
      have q:=x.cell y c e
      rw [zib ndP hp hu (by show scope.names.lookup y ≠ _; rw [k]; decide)] at q
      exact q
  · exact e0.hok.fresh (Nat.le_of_lt (x.above y c (PySem.mem_of_lookup h)))
  · unfold start
    show _=N.length
    rw [List.length_append,List.length_map,List.length_replicate]
    omega
theorem zqb {CX:CXT} {P:Program} {w:World} {K:PySem.W.Frag} {mg:Str→Option Value} {base:Heap} {k:Nat} {f:Addr} {name qual:Str} {params:Arguments} {body:List Stmt} {scope:Scope} {dV kV doc pm cdv ct oc:Value} {an od:Option Addr}
    {osl:Array (Option Value)} {N ps:List Str} {sp:Sp} (lk:K.lookup f=some ⟨oc,od,.func (PySem.W.fnOf name qual params body scope dV kV doc pm an cdv ct),osl⟩) (hcd:PySem.W.codeIn K cdv qual=true) (S:FnScope N ps scope)
    (len:∀ vs H Q E,sp vs H Q E→vs.length=ps.length)
    (hbody:∀ (A:Around) (outer:List Env) (s:Shared) (H:Hp) (vs:List V) (Q:VK) (E:XK),Room k (A.deeper (envOfC qual scope s.heap.objs.size f cdv))→sp vs H Q E →
      ∃ t,PSs (cxOf CX P w K mg base N qual scope f cdv A outer s H E) body t∧t { nx:=fun _ H'=>Q .non H',rt:=Q } (start N vs) H) :
    FnOk P w K mg base CX (k + 1) f (PySem.W.fnOf name qual params body scope dV kV doc pm an cdv ct) ps sp:=by
  refine ⟨len,fun A outer s H args us vs Q E hr e0 hb r hsp=>?_⟩
  have hl:=len _ _ _ _ hsp
  have KX:K.In s.heap:=e0.mod.kin.keeps fun b o e=>(e0.bs b o e).1
  have lim:s.heap.NoLimit:=e0.mod.nolimit.keeps fun b o e=>(e0.bs b o e).1
  have hkind:∀ y ∈ ps.zip us,scope.names.lookup y.1=some .local∨(scope.names.lookup y.1=some .cell∧((cellsFrom (s.heap.objs.size + 1) scope.names []).lookup y.1).isSome=true):=fun ⟨n,v⟩ hy=>by
    rcases S.par n (List.of_mem_zip hy).1 with q | q
    · exact .inl q
    · exact .inr ⟨q,PySem.W.cellsFrom_some _ _ _ (.inl q)⟩
  refine codeAny_call_function hr.depth (KX _ _ lk) rfl S.co S.gen rfl (PySem.W.codeRec_of KX hcd) (hb _ _ _ _ ?_)
  refine wpAny_newFunctionEnv_cells S.kind hkind fun env he s1 x=>?_
  subst he
  refine ⟨lim.keeps x.toInCall.keep,codeAny_func ?_⟩
  obtain ⟨t,ht,hq⟩:=hbody A outer s H vs Q E (hr.deeper _) hsp
  have I:Inv (cxOf CX P w K mg base N qual scope f cdv A outer s H E) [] (start N vs) H s1:=zmq S hr.hd e0 hl r x
  refine wpAny_mono (ht [] s1 (start N vs) H _ I hq) (fun fl s' hs=>?_) fun e s' hs=>hs
  have fin:∀ {σ':St} {H':Hp} {v:V} {u:Value},Inv (cxOf CX P w K mg base N qual scope f cdv A outer s H E) [] σ' H' s'→RelV v u→Q v H'→CE outer P w H s Q u s' :=
    fun {σ' H' v u} J rv q=>⟨v,H',J.os,J.bare,J.base,J.hok,rv,q⟩
  cases fl with
  | ret u =>
    obtain ⟨v,σ',H',J,rv,q⟩:=hs
    exact fin J rv q
  | next =>
    obtain ⟨σ',H',J,q⟩:=hs
    exact fin (v:=V.non) (u:=Value.none) J rfl q
  | brk =>
    obtain ⟨_,_,_,q⟩:=hs
    exact False.elim q
  | cont =>
    obtain ⟨_,_,_,q⟩:=hs
    exact False.elim q
end L2
namespace L2
open PySem PySem.Spec PyProof.Rows
section
variable {X:Cx} {x:Str} {p pos:Pos} {e:Expr} {es:List Expr} {t:TA} {id T:String} {r:List V→Hp→VK→Prop}
def tCB (r:List V→Hp→VK→Prop) (t:TA):TE:=fun σ H Q=>t σ H fun vs H1=>r vs H1 Q
theorem zax (hc:zey X (.builtin id) r) (hg:Gl X x) (hm:X.mg x=none) (hv:bootBuiltins x=some (.builtin id)) (ha:PA X (e :: es) t) (hn:x ≠ "__name__":=by decide) (hdb:(x == ("__debug__" : Str))=false:=by decide)
    (he:starEach (e :: es) X.env=(false,eval e X.env) :: starEach es X.env:=by rfl) (hpl:(backTo pos (starEach es X.env)).any (·.1)=false:=by rfl):PE X (.Call (.Name x p) (e :: es) [] pos) (tCB r t):=by
  intro pins s σ H Q I h
  refine wpAny_Call_Name_kw (zfD I hg hm hv ?_ hn hdb)
  exact PyProof.Rows.callWith_builtin1 (thn (ha pos pins s σ H _ I h) fun us s1 ⟨vs,H1,I1,r1,q1⟩=>hc pins s1 σ H1 vs us Q I1 r1 q1) he hpl
theorem zcv (hc:zey X (.type T) r) (hg:Gl X x) (hm:X.mg x=none) (hv:bootBuiltins x=some (.type T)) (ha:PA X (e :: es) t) (hn:x ≠ "__name__":=by decide) (hdb:(x == ("__debug__" : Str))=false:=by decide)
    (he:starEach (e :: es) X.env=(false,eval e X.env) :: starEach es X.env:=by rfl) (hpl:(backTo pos (starEach es X.env)).any (·.1)=false:=by rfl):PE X (.Call (.Name x p) (e :: es) [] pos) (tCB r t):=by
  intro pins s σ H Q I h
  refine wpAny_Call_Name_kw (zfD I hg hm hv ?_ hn hdb)
  exact PyProof.Rows.callWith_type1 (thn (ha pos pins s σ H _ I h) fun us s1 ⟨vs,H1,I1,r1,q1⟩=>hc pins s1 σ H1 vs us Q I1 r1 q1) he hpl
end
end L2
namespace HT
open PySem PyProof.Rows
def lexLt:List Int→List Int→Bool
  | [],[]=>false
  | [],_ :: _=>true
  | _ :: _,[]=>false
  | x :: xs,y :: ys=>if x=y then lexLt xs ys else decide (x < y)
section
open PySem.SeqAt
open PySem.AutoSeq1 (wpAny_loadPart')
open PySem.MeetsSeq PySem.MeetsSeq2 PySem.MeetsSeq3
end
section
variable {prog:Program} {w:World} {A:Around} {E:Value→Shared→Prop} {s:Shared}
theorem cat_tup {t b:Addr} {vs ws:List Value} {Q:Value→Shared→Prop} (ht:IsTup s.heap t vs.toArray) (hb:IsTup s.heap b ws.toArray) (hv:vs ≠ [])
    (h1:ws = []→Q (.ref t) s) (h2:ws ≠ []→Q (.ref s.heap.objs.size) { s with heap:=s.heap.push { cls:=.type "tuple",data:=.seq (vs ++ ws).toArray } })
    (hsz:vs.length + ws.length ≤ sizeLine):wpAny (model prog w) A (binaryOp .Add (.ref t) (.ref b)) Q E s:=by
  obtain ⟨⟨cls,dd,data,sl⟩,ho,hc,n,hd⟩:=id ht
  obtain ⟨⟨cls2,dd2,data2,sl2⟩,ho2,hc2,n2,hd2⟩:=id hb
  simp only at hc hd hc2 hd2
  subst hc hd hc2 hd2
  have e:vs.toArray ++ ws.toArray=(vs ++ ws).toArray:=by simp
  by_cases hw:ws = []
  · exact concat_meets ⟨_,ho,rfl⟩ ⟨_,ho2,rfl⟩ noFill_tuple_add seq_tuple_add PySem.F.slot_tuple_add PySem.F.entry_tuple_add (PySem.F.args_tuple_add_2 _ _)
      (tuple_addW1 t b vs.toArray ws.toArray n n2 dd dd2 sl sl2 (by simpa using hv) (by simp [hw])) ⟨ho,ho2,h1 hw⟩
  · refine concat_meets ⟨_,ho,rfl⟩ ⟨_,ho2,rfl⟩ noFill_tuple_add seq_tuple_add PySem.F.slot_tuple_add PySem.F.entry_tuple_add (PySem.F.args_tuple_add_2 _ _)
      (tuple_addW2 t b vs.toArray ws.toArray n n2 dd dd2 sl sl2 (by simpa using hv) (by simpa using hw) (by rw [List.size_toArray,List.size_toArray]; exact hsz)) ⟨ho,ho2,?_⟩
    rw [e]
    exact h2 hw
def sIx (n d:Nat):Option Int→Nat
  | none=>d
  | some v=>if v < 0 then (v + (n:Int)).toNat else min v.toNat n
theorem zqo (n d:Nat) (hd:d ≤ n) (o:Option Int):sIx n d o ≤ n:=by
  cases o with
  | none=>exact hd
  | some v =>
    show (if v < 0 then (v + (n:Int)).toNat else min v.toNat n) ≤ n
    by_cases hv:v < 0
    · rw [if_pos hv]; omega
    · rw [if_neg hv]; exact Nat.min_le_right _ _
theorem zml (v:Int) (n d:Nat):(if v < 0 then max (v + (n:Int)) 0 else min v (n:Int))=((sIx n d (some v):Nat):Int):=by
  show (if v < 0 then max (v + (n:Int)) 0 else min v (n:Int))=(((if v < 0 then (v + (n:Int)).toNat else min v.toNat n):Nat):Int)
  by_cases hv:v < 0
  · simp only [if_pos hv]; omega
  · simp only [if_neg hv]; omega
theorem zj5 (lo hi:Option Int) (n:Nat):Builtin.Slice.sliceAdjust lo hi 1 (n:Int)=(((sIx n 0 lo:Nat):Int),((sIx n n hi:Nat):Int)):=by
  have h1:¬ ((1:Int) < 0):=by omega
  unfold Builtin.Slice.sliceAdjust
  simp only [h1,if_false]
  refine Prod.ext ?_ ?_
  · cases lo with
    | none=>rfl
    | some v=>exact zml v n 0
  · cases hi with
    | none=>rfl
    | some v=>exact zml v n n
theorem zj9 (i j:Nat):Builtin.Slice.slicePlaces (i:Int) (j:Int) 1=j - i:=by
  unfold Builtin.Slice.slicePlaces
  have h1:(1:Int) > 0:=by omega
  simp only [h1,if_true,Int.ediv_one]
  split <;> omega
theorem zg3 {v:Value} {o:Option Int} {Q:Option Int→Shared→Prop} (p:IsPart v o) (h:Q o s):wpAny (model prog w) A (Builtin.Slice.slicePartIndex v) Q E s:=by
  cases p with
  | none=>exact slicePart_none h
  | int i t=>exact slicePart_int h
theorem zfP {sl:Addr} {vl vu:Value} {lo hi:Option Int} {n:Nat} {Q:Int × Int × Nat→Shared→Prop} (hs:s.heap.IsSliceOf sl vl vu .none) (pl:IsPart vl lo) (pu:IsPart vu hi)
    (h:Q (((sIx n 0 lo:Nat):Int),1,sIx n n hi - sIx n 0 lo) s):wpAny (model prog w) A (Builtin.Slice.sliceApplied (.ref sl) (pure (n:Int))) Q E s:=by
  obtain ⟨os,hos,hcs,hds⟩:=id hs
  unfold Builtin.Slice.sliceApplied Builtin.Slice.sliceFields
  refine wpAny_bind (wpAny_bind (wpAny_field hos hds (x:=vl) rfl (wpAny_bind (wpAny_field hos hds (x:=vu) rfl (wpAny_bind (wpAny_field hos hds (x:=.none) rfl (wpAny_pure ?_)))))))
  refine wpAny_bind (slicePart_none ?_)
  show wpAny _ _ (if ((1:Int) == 0)=true then _ else _) _ _ s
  rw [if_neg (by decide)]
  refine wpAny_bind (zg3 pl (wpAny_bind (zg3 pu (wpAny_bind (wpAny_pure ?_)))))
  show wpAny _ _ (match Builtin.Slice.sliceAdjust lo hi 1 (n:Int) with | (lo,hi)=>pure (lo,(1:Int),Builtin.Slice.slicePlaces lo hi 1)) _ _ s
  rw [zj5 lo hi n]
  show wpAny _ _ (pure (((sIx n 0 lo:Nat):Int),(1:Int),Builtin.Slice.slicePlaces ((sIx n 0 lo:Nat):Int) ((sIx n n hi:Nat):Int) 1)) _ _ s
  rw [zj9]
  exact wpAny_pure h
theorem znw (xs:Array Value) (i k:Nat):((List.range k).filterMap fun (m:Nat)=>xs[((i:Int) + (m:Int) * 1).toNat]?).toArray=((xs.toList.drop i).take k).toArray:=by
  have e:(fun (m:Nat)=>xs[((i:Int) + (m:Int) * 1).toNat]?)=fun m=>xs[i + m]?:=by
    funext m
    have:((i:Int) + (m:Int) * 1).toNat=i + m:=by omega
    rw [this]
  rw [e]
  have:=pick_run xs i k
  rw [List.filterMap_map] at this
  have e2:((fun x=>xs[x]?) ∘ fun x=>i + x)=fun m=>xs[i + m]?:=rfl
  rw [e2] at this
  rw [this]
theorem getItem_tuple_cut {t sl:Addr} {items:Array Value} {vl vu:Value} {lo hi:Option Int} {Q:Value→Shared→Prop} (ht:IsTup s.heap t items) (hs:s.heap.IsSliceOf sl vl vu .none) (pl:IsPart vl lo) (pu:IsPart vu hi)
    (hw:¬ (sIx items.size 0 lo=0∧sIx items.size items.size hi=items.size))
    (h:Q (.ref s.heap.objs.size) { s with heap:=s.heap.push { cls:=.type "tuple",data:=.seq ((items.toList.drop (sIx items.size 0 lo)).take (sIx items.size items.size hi - sIx items.size 0 lo)).toArray } })
    (hsz:items.size ≤ sizeLine):wpAny (model prog w) A (getItem (.ref t) (.ref sl)) Q E s:=by
  have htake:sizeOk (.seq ((items.toList.drop (sIx items.size 0 lo)).take (sIx items.size items.size hi - sIx items.size 0 lo)).toArray):=by
    show ((items.toList.drop (sIx items.size 0 lo)).take (sIx items.size items.size hi - sIx items.size 0 lo)).toArray.size ≤ sizeLine
    rw [List.size_toArray,List.length_take,List.length_drop,Array.length_toList]
    omega
  have hj:sIx items.size items.size hi ≤ items.size:=zqo _ _ (Nat.le_refl _) hi
  obtain ⟨os,hos,hcs,hds⟩:=id hs
  have hTs:s.TypeIs (.ref sl) "slice":=⟨os,hos,hcs⟩
  unfold getItem
  try with_reducible refine wpAny_holding ?_
  first | refine wpAny_bind (wpAny_pure ?_) | skip
  refine wpAny_bind (wpAny_sequenceKey ht.typeIs (by decide) ?_)
  refine wpAny_bind (wpAny_callSpecial?_slot (name:=Str.ofString "__getitem__") ht.typeIs PyProof.Rows.slot_tuple_getitem
    (wpAny_call_entry PyProof.Rows.slot_tuple_getitem ht.typeIs entry_tuple_getitem ?_ (args_tuple_getitem _ _)))
  show wpAny _ _ (Builtin.Tuple.tupleItemsOf (.ref t) >>= _) _ _ s
  refine wpAny_bind (tupleItemsOf_ ht ?_)
  refine wpAny_bind (wpAny_typeOf hTs ?_)
  rw [if_pos (by decide)]
  refine wpAny_bind (zfP hs pl pu ?_)
  have hno:¬ ((((sIx items.size 0 lo:Nat):Int) == 0 && (1:Int) == 1 && (sIx items.size items.size hi - sIx items.size 0 lo) == items.size)=true):=by
    intro q
    rw [Bool.and_eq_true,Bool.and_eq_true] at q
    have q1:((sIx items.size 0 lo:Nat):Int)=0:=eq_of_beq q.1.1
    have q2:sIx items.size items.size hi - sIx items.size 0 lo=items.size:=eq_of_beq q.2
    exact hw ⟨by omega,by omega⟩
  show wpAny _ _ (if (((sIx items.size 0 lo:Nat):Int) == 0 && (1:Int) == 1 && (sIx items.size items.size hi - sIx items.size 0 lo) == items.size)=true then _ else _) _ _ s
  rw [if_neg hno,znw]
  first
    | exact wpAny_bind (m:=Builtin.Tuple.tupleExact _) (wpAny_newObj_type (wpAny_pure ⟨_,rfl,wpAny_pure h⟩) htake)
    | exact wpAny_bind (m:=Builtin.Tuple.tupleExact _) (wpAny_newObj_type (wpAny_bind (wpAny_pure (wpAny_pure ⟨_,rfl,wpAny_pure h⟩))) htake)
    | exact wpAny_bind (wpAny_bind (m:=Builtin.Tuple.tupleExact _) (wpAny_newObj_type (wpAny_pure (wpAny_pure ⟨_,rfl,wpAny_pure h⟩)) htake))
    | exact wpAny_bind (wpAny_bind (m:=Builtin.Tuple.tupleExact _) (wpAny_newObj_type (wpAny_pure ⟨_,rfl,wpAny_pure h⟩) htake))
end
end HT
namespace L2
open PySem PySem.Spec PyProof.Rows
abbrev TO:=St→Hp→(Option Int→Hp→Prop)→Prop
def PO (X:Cx) (e:Option Expr) (t:TO):Prop :=
  ∀ (pins:List (Addr × Obj)) (s:Shared) (σ:St) (H:Hp) (Q:Option Int→Hp→Prop),Inv X pins σ H s→t σ H Q →
    wpAny (model X.prog X.w) X.A (evalPart e X.env) (fun u s'=>∃ o H',Inv X pins σ H' s'∧IsPart u o∧Q o H') X.xe s
def zjo:TO:=fun _ H Q=>Q none H
def zll (t:TE):TO:=fun σ H Q=>t σ H fun x H1=>∃ i,x = .int i∧Q (some i) H1
section
variable {X:Cx} {e:Expr} {te:TE} {lo hi:Option Expr} {tl th:TO} {pos p2:Pos}
theorem zph:PO X none zjo:=by
  intro pins s σ H Q I h
  rw [evalPart_none]
  exact wpAny_pure ⟨none,H,I,.none,h⟩
theorem ziQ (h:PE X e te):PO X (some e) (zll te):=by
  intro pins s σ H Q I hw
  rw [evalPart_some]
  refine thn (h pins s σ H _ I hw) fun u s1 ⟨x,H1,I1,r1,q1⟩=>?_
  obtain ⟨i,rfl,q⟩:=q1
  obtain ⟨t,rfl⟩:=r1
  exact ⟨some i,H1,I1,.int i t,q⟩
def SlR (X:Cx) (r:V→Option Int→Option Int→Hp→VK→Prop):Prop :=
  ∀ (pins:List (Addr × Obj)) (s:Shared) (σ:St) (H:Hp) (x:V) (v vl vu:Value) (lo hi:Option Int) (sl:Addr) (Q:VK),Inv X pins σ H s→RelV x v→s.heap.IsSliceOf sl vl vu .none→IsPart vl lo→IsPart vu hi→r x lo hi H Q →
    ∃ T id,typeLookup (.type T) "__getitem__"=pure (some (.builtin id))∧s.TypeIs v T∧wpAny (model X.prog X.w) X.A (getItem v (.ref sl)) (EP X pins σ Q) X.xe s
def tSl (r:V→Option Int→Option Int→Hp→VK→Prop) (te:TE) (tl th:TO):TE:=fun σ H Q=>te σ H fun x H1=>tl σ H1 fun l H2=>th σ H2 fun u H3=>r x l u H3 Q
theorem zjB {r:V→Option Int→Option Int→Hp→VK→Prop} (hr:SlR X r) (he:PE X e te) (hl:PO X lo tl) (hu:PO X hi th):PE X (.Subscript e (.Slice lo hi none p2) pos) (tSl r te tl th):=by
  intro pins s σ H Q I h
  refine Subscript_ (thn (he pins s σ H _ I h) fun v s1 ⟨x,H1,I1,r1,q1⟩=>?_)
  refine wpAny_Slice (thn (hl pins s1 σ H1 _ I1 q1) fun vl s2 ⟨l,H2,I2,pl,q2⟩=>thn (hu pins s2 σ H2 _ I2 q2) fun vu s3 ⟨u,H3,I3,pu,q3⟩=>?_)
  rw [evalPart_none]
  refine wpAny_pure ?_
  have I4:Inv X pins σ H3 { s3 with heap:=s3.heap.push { cls:=.type "slice",data:=.fields #[vl,vu,.none] } }:=I3.kept (t':=s3.toks) fun b ob q=>Heap.get?_push_of_some _ q
  obtain ⟨T,id,hT,ht,hg⟩:=hr pins { s3 with heap:=s3.heap.push { cls:=.type "slice",data:=.fields #[vl,vu,.none] } } σ H3 x v vl vu l u s3.heap.objs.size Q I4 r1 (Heap.IsSliceOf.new ..) pl pu q3
  show wpAny (model X.prog X.w) X.A (subscriptTail e (.Slice lo hi none p2) v (.ref s3.heap.objs.size)) (EP X pins σ Q) X.xe { s3 with heap:=s3.heap.push { cls:=.type "slice",data:=.fields #[vl,vu,.none] } }
  exact tail_any (ops:=[.ref s3.heap.objs.size,v]) ht hT hg (by with_unfolding_all rfl)
def cutV (xs:List V) (lo hi:Option Int):List V:=(xs.drop (HT.sIx xs.length 0 lo)).take (HT.sIx xs.length xs.length hi - HT.sIx xs.length 0 lo)
theorem zi7 (xs:List V) (lo hi:Option Int):(cutV xs lo hi).length ≤ xs.length:=by
  unfold cutV
  rw [List.length_take,List.length_drop]
  omega
def rSlT (K:PySem.W.Frag):V→Option Int→Option Int→Hp→VK→Prop:=fun x lo hi H Q=>∃ a xs,x = .ref a∧SqT K H a xs ∧
  ¬ (HT.sIx xs.length 0 lo=0∧HT.sIx xs.length xs.length hi=xs.length)∧∀ p,H p=none→Q (.ref p) (upd H p (.tup (cutV xs lo hi)))
theorem znO:SlR X (rSlT X.K):=by
  intro pins s σ H x v vl vu lo hi sl Q I rx hs pl pu h
  obtain ⟨a,xs,rfl,hx,hw,q⟩:=h
  cases rx
  obtain ⟨its,r,ht,hz⟩:=I.tuple hx
  have hlen:its.toArray.size=xs.length:=by rw [List.size_toArray]; exact r.length.symm
  refine ⟨"tuple",_,PyProof.Rows.slot_tuple_getitem.lookup,ht.typeIs,?_⟩
  refine HT.getItem_tuple_cut ht hs pl pu (by rw [hlen]; exact hw) ?_ (by rw [hlen]; exact hz)
  rw [hlen]
  refine ⟨.ref s.heap.objs.size,_,I.laid (t':=s.toks) (o:=.tup (cutV xs lo hi)) (fun b ob q=>Heap.get?_push_of_some _ q) (Nat.le_refl _) ?_,rfl,q _ (I.hok.fresh (Nat.le_refl _))⟩
  exact ⟨Nat.le_trans (zi7 xs lo hi) hz,_,(r.drop (HT.sIx xs.length 0 lo)).take (HT.sIx xs.length xs.length hi - HT.sIx xs.length 0 lo),IsTup.new _ _⟩
def zqV (K:PySem.W.Frag):R2:=fun x y H Q=>∃ a b xs ys,x = .ref a∧y = .ref b∧SqT K H a xs∧SqT K H b ys∧xs ≠ []∧xs.length + ys.length ≤ sizeLine ∧
  (ys = []→Q (.ref a) H)∧(ys ≠ []→∀ p,H p=none→Q (.ref p) (upd H p (.tup (xs ++ ys))))
theorem Vals.nil_iff {xs:List V} {us:List Value} (r:Vals xs us):us = [] ↔ xs = []:=by
  cases r with
  | nil=>simp
  | cons _ _=>simp
theorem zo6:OpR X (binaryOp .Add) (zqV X.K):=by
  intro pins s σ H x y v u Q I rx ry h
  obtain ⟨a,b,xs,ys,rfl,rfl,ha,hb,hx,hz,q1,q2⟩:=h
  cases rx
  cases ry
  obtain ⟨its,r1,p1,_⟩:=I.tuple ha
  obtain ⟨its2,r2,p2,_⟩:=I.tuple hb
  refine HT.cat_tup p1 p2 (fun z=>hx (r1.nil_iff.mp z)) (fun z=>⟨.ref a,H,I,rfl,q1 (r2.nil_iff.mp z)⟩) (fun z=>?_) (by rw [← r1.length,← r2.length]; exact hz)
  refine ⟨.ref s.heap.objs.size,_,I.laid (t':=s.toks) (o:=.tup (xs ++ ys)) (fun b ob q=>Heap.get?_push_of_some _ q) (Nat.le_refl _) ?_,rfl,q2 (fun w=>z (r2.nil_iff.mpr w)) _ (I.hok.fresh (Nat.le_refl _))⟩
  exact ⟨by rw [List.length_append]; exact hz,_,r1.append r2,IsTup.new _ _⟩
end
end L2
namespace L2
open PySem PySem.Spec PyProof.Rows
def ixN (n:Nat) (i:Int):Option Nat:=if 0 ≤ i then (if i < n then some i.toNat else none) else if -(n:Int) ≤ i then some (i + n).toNat else none
def atI {α:Type} (xs:List α) (i:Int):Option α:=(ixN xs.length i).bind fun j=>xs[j]?
theorem zl3 {n:Nat} {i:Int} {j:Nat} (h:ixN n i=some j):seqIndex? i n=some j∧j < n∧-(n:Int) ≤ i∧i < n:=by
  unfold ixN at h
  by_cases h0:0 ≤ i
  · rw [if_pos h0] at h
    by_cases h1:i < n
    · rw [if_pos h1] at h
      have e:i.toNat=j:=Option.some.inj h
      exact ⟨by rw [seqIndex_of h0 h1,e],by omega,by omega,h1⟩
    · rw [if_neg h1] at h; cases h
  · rw [if_neg h0] at h
    by_cases h1 : -(n:Int) ≤ i
    · rw [if_pos h1] at h
      have e:(i + n).toNat=j:=Option.some.inj h
      exact ⟨by rw [seqIndex_neg (by omega) h1,e],by omega,h1,by omega⟩
    · rw [if_neg h1] at h; cases h
theorem zlI {α:Type} {xs:List α} {i:Int} {v:α} (h:atI xs i=some v):∃ j,seqIndex? i xs.length=some j∧xs[j]?=some v∧j < xs.length∧-(xs.length:Int) ≤ i∧i < xs.length:=by
  unfold atI at h
  cases e:ixN xs.length i with
  | none=>rw [e] at h; cases h
  | some j =>
    rw [e] at h
    obtain ⟨h1,h2,h3,h4⟩:=zl3 e
    exact ⟨j,h1,h,h2,h3,h4⟩
theorem atI_nat {α:Type} {xs:List α} {j:Nat} {v:α} (h:xs[j]?=some v):atI xs (j:Int)=some v:=by
  have hj:j < xs.length:=(List.getElem?_eq_some_iff.mp h).1
  have e:ixN xs.length (j:Int)=some j:=by
    unfold ixN
    rw [if_pos (by omega),if_pos (by omega)]; simp
  unfold atI; rw [e]; exact h
def zoH (b:Expr):Prop:=∀ o i,subscripted b false o i=operate [o,i] (getItem o i)
def IxR (X:Cx) (r:R2):Prop :=
  ∀ (value slice:Expr) (pins:List (Addr × Obj)) (s:Shared) (σ:St) (H:Hp) (x y:V) (v u:Value) (Q:VK),Inv X pins σ H s→RelV x v→RelV y u→r x y H Q →
    subscripted slice false v u=operate [v,u] (getItem v u)→wpAny (model X.prog X.w) X.A (subscriptTail value slice v u) (EP X pins σ Q) X.xe s
def MtR (X:Cx) (id:String) (r:V→List V→Hp→VK→Prop):Prop :=
  ∀ (pins:List (Addr × Obj)) (s:Shared) (σ:St) (H:Hp) (x:V) (xs:List V) (v:Value) (us:List Value) (Q:VK),Inv X pins σ H s→RelV x v→Vals xs us→r x xs H Q →
    wpAny (model X.prog X.w) X.A (call (.builtin id) (v :: us)) (EP X pins σ Q) X.xe s
section
variable {X:Cx} {a b:Expr} {ta tb:TE} {pos:Pos}
theorem zaH {r:R2} (hr:IxR X r) (ha:PE X a ta) (hb:PE X b tb) (hs:zoH b):PE X (.Subscript a b pos) (tOp r ta tb):=by
  intro pins s σ H Q I h
  exact Subscript_ (binT ha hb I h fun v u s2 x y H2 I2 rx ry q=>hr a b pins s2 σ H2 x y v u Q I2 rx ry q (hs _ _))
def rIxL (K:PySem.W.Frag):R2:=fun x y H Q=>∃ p xs i v,x = .ref p∧y = .int i∧SqL K H p xs∧atI xs i=some v∧Q v H
def rIxT (K:PySem.W.Frag):R2:=fun x y H Q=>∃ p xs i v,x = .ref p∧y = .int i∧SqT K H p xs∧atI xs i=some v∧Q v H
theorem zav:IxR X (rIxL X.K):=by
  intro value slice pins s σ H x y v u Q I rx ry h hs
  obtain ⟨p,xs,i,z,rfl,rfl,hq,he,q⟩:=h
  cases rx
  obtain ⟨t,rfl⟩:=ry
  obtain ⟨its,r,pl,hz⟩:=I.list hq
  obtain ⟨j,h1,h2,h3,h4,h5⟩:=zlI he
  obtain ⟨w,ew,rw'⟩:=r.get h2
  have hl:=r.length
  have hn:=zjv
  have fin:EP X pins σ Q w s:=⟨z,H,I,rw',q⟩
  by_cases h0:0 ≤ i
  · have hj:i.toNat=j:=by
      rw [seqIndex_of h0 h5] at h1
      exact Option.some.inj h1
    exact item_listR pl.isList h0 (by omega) (by rw [hj]; simpa using ew) fin hs
  · have hj:(i + (its.toArray.size:Int)).toNat=j:=by
      rw [seqIndex_neg (by omega) h4] at h1
      rw [List.size_toArray,← hl]
      exact Option.some.inj h1
    exact subscriptTail_builtinR (x:=w) pl.isList.typeIs slot_list_getitem.lookup
      (wpAny_getItem_list_neg (Q:=fun r s'=>r=w∧EP X pins σ Q r s') pl.isList (by omega) (by rw [List.size_toArray] <;> omega) (by omega) (by rw [hj]; simpa using ew) ⟨rfl,fin⟩) hs
theorem zcH:IxR X (rIxT X.K):=by
  intro value slice pins s σ H x y v u Q I rx ry h hs
  obtain ⟨p,xs,i,z,rfl,rfl,hq,he,q⟩:=h
  cases rx
  obtain ⟨t,rfl⟩:=ry
  obtain ⟨its,r,pl,hz⟩:=I.tuple hq
  obtain ⟨j,h1,h2,h3,h4,h5⟩:=zlI he
  obtain ⟨w,ew,rw'⟩:=r.get h2
  have hl:=r.length
  have hn:=zjv
  have fin:EP X pins σ Q w s:=⟨z,H,I,rw',q⟩
  exact subscriptTail_builtinR (x:=w) pl.typeIs slot_tuple_getitem.lookup
    (getItem_tuple (j:=j) (Q:=fun r s'=>r=w∧EP X pins σ Q r s') pl (by omega) (by omega) (by rw [List.size_toArray,← hl]; exact h1) (by simpa using ew) ⟨rfl,fin⟩) hs
theorem zkH (its:List Value) (n j:Nat) (u:Value):Obj.mapSeq (·.setIfInBounds j u) { cls:=.type "list",data:=.seq its.toArray n } = { cls:=.type "list",data:=.seq (its.set j u).toArray n }:=by
  simp [Obj.mapSeq]
theorem Inv.lst {pins:List (Addr × Obj)} {σ:St} {H:Hp} {s:Shared} {p:Addr} {xs:List V} (I:Inv X pins σ H s) (h:H p=some (.lst xs)) :
    ∃ (its:List Value) (n:Nat),Vals xs its∧s.heap.get? p=some { cls:=.type "list",data:=.seq its.toArray n }∧xs.length ≤ sizeLine:=by
  obtain ⟨z,its,n,r,e⟩:=I.hok p _ h
  exact ⟨its,n,r,e,z⟩
theorem Inv.lstUpd {pins:List (Addr × Obj)} {σ:St} {H:Hp} {s:Shared} {p:Addr} {xs ys:List V} {its its':List Value} {n n':Nat} {f:Obj→Obj} (I:Inv X pins σ H s) (h:H p=some (.lst xs))
    (ho:s.heap.get? p=some { cls:=.type "list",data:=.seq its.toArray n }) (hf:f { cls:=.type "list",data:=.seq its.toArray n } = { cls:=.type "list",data:=.seq its'.toArray n' }) (r:Vals ys its') (hz:ys.length ≤ sizeLine) (t:Nat) :
    Inv X pins σ (upd H p (.lst ys)) { s with heap:=s.heap.update p f,toks:=t }:=by
  have e:(s.heap.update p f).get? p=some { cls:=.type "list",data:=.seq its'.toArray n' }:=by
    rw [Heap.get?_update_self f ho (by rw [hf] <;> rfl),hf]
  refine I.write (x:=p) (e:=p) (by rw [h]; trivial) (.inl rfl) (fun b u hb q=>(Heap.get?_update_other _ _ (Ne.symm hb)).trans q) ⟨_,e⟩ ?_
  exact ⟨hz,its',n',r,e⟩
def zqg:V→V→V→Hp→(Hp→Prop)→Prop:=fun o i v H Q=>∃ p xs k j,o = .ref p∧i = .int k∧H p=some (.lst xs)∧ixN xs.length k=some j∧Q (upd H p (.lst (xs.set j v)))
theorem zdv:PSet X zqg:=by
  intro pins s σ H o i v ov iv u Q I ro ri rv h
  obtain ⟨p,xs,k,j,rfl,rfl,hp,hj,q⟩:=h
  cases ro
  obtain ⟨t,rfl⟩:=ri
  obtain ⟨its,n,r,ho,hz⟩:=I.lst hp
  obtain ⟨h1,h2,h3,h4⟩:=zl3 hj
  have hl:=r.length
  have hn:=zjv
  have I':Inv X pins σ (upd H p (.lst (xs.set j v))) { s with heap:=s.heap.update p (Obj.mapSeq (·.setIfInBounds j u)) } :=
    I.lstUpd hp ho (zkH its n j u) (r.set rv j) (by rw [List.length_set]; exact hz) s.toks
  by_cases h0:0 ≤ k
  · have hk:k.toNat=j:=by
      rw [seqIndex_of h0 h4] at h1
      exact Option.some.inj h1
    exact PySem.W.ki_setAt ho h0 (by omega) (by rw [List.size_toArray,← hl]; exact h4) (by rw [hk]; exact ⟨_,I',q⟩)
  · have hk:(k + (its.toArray.size:Int)).toNat=j:=by
      rw [seqIndex_neg (by omega) h3] at h1
      rw [List.size_toArray,← hl]
      exact Option.some.inj h1
    exact PySem.W.ki_setBack ho (by omega) (by rw [List.size_toArray,← hl]; exact h3) (by omega) (by rw [hk]; exact ⟨_,I',q⟩)
def zhP:V→Bool
  | .non=>true
  | .bl _=>true
  | .int _=>true
  | .str _=>true
  | _=>false
def eqV:V→V→Bool
  | .non,.non=>true
  | .bl a,.bl b=>a == b
  | .bl a,.int b=>(if a then 1 else 0) == b
  | .int a,.bl b=>a == (if b then 1 else 0)
  | .int a,.int b=>a == b
  | .str a,.str b=>a == b
  | _,_=>false
theorem zqI {A:Around} {s:Shared} {y x:V} {u v:Value} (ry:RelV y u) (rx:RelV x v) (fy:zhP y=true) (fx:zhP x=true):SeqAt.EqAt A s u v (eqV y x):=by
  cases y with
  | non =>
    cases ry
    cases x with
    | non=>cases rx; exact SeqAt.EqAt.same _
    | bl b=>cases rx; exact SeqAt.EqAt.none_bool b
    | int b=>obtain ⟨t,rfl⟩:=rx; exact SeqAt.EqAt.none_int b t
    | str b=>obtain ⟨t,rfl⟩:=rx; exact SeqAt.EqAt.none_str b t
    | _=>exact absurd (show false=true from fx) Bool.false_ne_true
  | bl a =>
    cases ry
    cases x with
    | non=>cases rx; exact SeqAt.EqAt.bool_none a
    | bl b=>cases rx; exact SeqAt.EqAt.bool_bool a b
    | int b=>obtain ⟨t,rfl⟩:=rx; exact SeqAt.EqAt.bool_int a b t
    | str b=>obtain ⟨t,rfl⟩:=rx; exact SeqAt.EqAt.bool_str a b t
    | _=>exact absurd (show false=true from fx) Bool.false_ne_true
  | int a =>
    obtain ⟨t',rfl⟩:=ry
    cases x with
    | non=>cases rx; exact SeqAt.EqAt.int_none a t'
    | bl b=>cases rx; exact SeqAt.EqAt.int_bool a t' b
    | int b=>obtain ⟨t,rfl⟩:=rx; exact SeqAt.EqAt.int_int a t' b t
    | str b=>obtain ⟨t,rfl⟩:=rx; exact SeqAt.EqAt.int_str a t' b t
    | _=>exact absurd (show false=true from fx) Bool.false_ne_true
  | str a =>
    obtain ⟨t',rfl⟩:=ry
    cases x with
    | non=>cases rx; exact SeqAt.EqAt.str_none a t'
    | bl b=>cases rx; exact SeqAt.EqAt.str_bool a t' b
    | int b=>obtain ⟨t,rfl⟩:=rx; exact SeqAt.EqAt.str_int a t' b t
    | str b=>obtain ⟨t,rfl⟩:=rx; exact SeqAt.EqAt.str_str a t' b t
    | _=>exact absurd (show false=true from fx) Bool.false_ne_true
  | _=>exact absurd (show false=true from fy) Bool.false_ne_true
def eqU (x:V) (u:Value):Bool:=match u with
  | .none=>eqV .non x
  | .bool b=>eqV (.bl b) x
  | .int i _=>eqV (.int i) x
  | .str z _=>eqV (.str z) x
  | _=>false
theorem znQ {x y:V} {u:Value} (r:RelV y u) (f:zhP y=true):eqU x u=eqV y x:=by
  cases y with
  | non=>cases r; rfl
  | bl b=>cases r; rfl
  | int i=>obtain ⟨t,rfl⟩:=r; rfl
  | str z=>obtain ⟨t,rfl⟩:=r; rfl
  | _=>exact absurd (show false=true from f) Bool.false_ne_true
theorem zjm {x:V}:∀ {xs:List V} {us:List Value},Vals xs us→xs.all zhP=true→us.any (eqU x)=xs.any fun y=>eqV y x
  | _,_,.nil,_=>rfl
  | y :: xs,u :: us,.cons r t,f=>by
    rw [List.all_cons,Bool.and_eq_true] at f
    rw [List.any_cons,List.any_cons,znQ r f.1,zjm t f.2]
theorem zhp {A:Around} {s:Shared} {x:V} {v:Value} (rx:RelV x v) (fx:zhP x=true):∀ {xs:List V} {us:List Value},Vals xs us→xs.all zhP=true→∀ u ∈ us,SeqAt.EqAt A s u v (eqU x u)
  | _,_,.nil,_=>fun u hu=>by cases hu
  | y :: xs,u :: us,.cons r t,f=>fun u' hu=>by
    rw [List.all_cons,Bool.and_eq_true] at f
    rcases List.mem_cons.mp hu with rfl | hu
    · rw [znQ r f.1]; exact zqI r rx f.1 fx
    · exact zhp rx fx t f.2 u' hu
def inV (x:V) (xs:List V):Bool:=xs.any fun y=>eqV y x
def rIn (K:PySem.W.Frag) (neg:Bool):R2:=fun x y H Q=>∃ p xs,y = .ref p∧(SqL K H p xs∨SqT K H p xs)∧zhP x=true∧xs.all zhP=true∧Q (.bl (if neg then !inV x xs else inV x xs)) H
theorem zmK:OpR X (compareOp .In) (rIn X.K false):=by
  intro pins s σ H x y v u Q I rx ry h
  obtain ⟨p,xs,rfl,hq,fx,fs,q⟩:=h
  cases ry
  rcases hq with hq | hq
  · obtain ⟨its,r,pl,hz⟩:=I.list hq
    refine SeqAt.in_listAt (eqU x) pl.isList (fun w hw=>zhp rx fx r fs w (by simpa using hw)) ⟨.bl _,H,I,rfl,?_⟩
    rw [show its.toArray.any (eqU x)=its.any (eqU x) by simp,zjm r fs]
    exact q
  · obtain ⟨its,r,pl,hz⟩:=I.tuple hq
    refine SeqAt.in_tupleAt (eqU x) pl (fun w hw=>zhp rx fx r fs w (by simpa using hw)) ⟨.bl _,H,I,rfl,?_⟩
    rw [show its.toArray.any (eqU x)=its.any (eqU x) by simp,zjm r fs]
    exact q
theorem zaI:zey X (.builtin "len") (fun xs H Q=>∃ p ys,xs = [.ref p]∧(SqL X.K H p ys∨SqT X.K H p ys)∧Q (.int ys.length) H):=by
  intro pins s σ H xs us Q I r h
  obtain ⟨p,ys,rfl,hq,q⟩:=h
  obtain ⟨u,rfl,rx⟩:=zfn r
  cases rx
  have hn:=zjv
  rcases hq with hq | hq
  · obtain ⟨its,r',pl,hz⟩:=I.list hq
    have hlen:=r'.length
    exact Calls.call_len_list pl.isList (by simp only [List.size_toArray] <;> omega) ⟨.int ys.length,H,I.tok _,⟨s.toks + 1,by rw [List.size_toArray,hlen]⟩,q⟩
  · obtain ⟨its,r',pl,hz⟩:=I.tuple hq
    have hlen:=r'.length
    exact len_tuple pl (by simp only [List.size_toArray] <;> omega) ⟨.int ys.length,H,I.tok _,⟨s.toks + 1,by rw [List.size_toArray,hlen]⟩,q⟩
theorem zcs:zey X (.type "list") (fun xs H Q=>∃ p ys,xs = [.ref p]∧(SqL X.K H p ys∨SqT X.K H p ys)∧∀ l,H l=none→Q (.ref l) (upd H l (.lst ys))):=by
  intro pins s σ H xs us Q I r h
  obtain ⟨p,ys,rfl,hq,q⟩:=h
  obtain ⟨u,rfl,rx⟩:=zfn r
  cases rx
  have fin:∀ (its:List Value),Vals ys its→ys.length ≤ sizeLine→∀ (h':Heap) (c':Nat),(∀ b o',s.heap.get? b=some o'→h'.get? b=some o') →
      h'.get? s.heap.objs.size=some { cls:=.type "list",dict:=none,data:=.seq its.toArray c',slots:=#[] }→EP X pins σ Q (.ref s.heap.objs.size) { s with heap:=h' }:=fun its r' hz h' c' kp e =>
    ⟨.ref s.heap.objs.size,_,I.laid (t':=s.toks) kp (Nat.le_refl _) (show ObjOk X.prog X.w _ h' _ (.lst ys) from ⟨hz,its,c',r',e⟩),rfl,q _ (I.hok.fresh (Nat.le_refl _))⟩
  rcases hq with hq | hq
  · obtain ⟨its,r',pl,hz⟩:=I.list hq
    have hlen:=r'.length
    obtain ⟨o,ho,hc,n,hd⟩:=pl.isList
    exact call_list_seq p (.inl rfl) ho hc hd (fun h' c' kp e=>fin its r' hz h' c' kp e) (by simp only [List.size_toArray] <;> omega)
  · obtain ⟨its,r',pl,hz⟩:=I.tuple hq
    have hlen:=r'.length
    obtain ⟨o,ho,hc,n,hd⟩:=pl
    exact call_list_seq p (.inr rfl) ho hc hd (fun h' c' kp e=>fin its r' hz h' c' kp e) (by simp only [List.size_toArray] <;> omega)
theorem zht:zey X (.type "tuple") (fun xs H Q=>∃ p ys,xs = [.ref p]∧((SqL X.K H p ys∧∀ l,H l=none→Q (.ref l) (upd H l (.tup ys)))∨(SqT X.K H p ys∧Q (.ref p) H))):=by
  intro pins s σ H xs us Q I r h
  obtain ⟨p,ys,rfl,h⟩:=h
  obtain ⟨u,rfl,rx⟩:=zfn r
  cases rx
  rcases h with ⟨hq,q⟩ | ⟨hq,q⟩
  · obtain ⟨its,r',pl,hz⟩:=I.list hq
    have hlen:=r'.length
    refine call_tuple_list pl.isList (fun h' kp=>?_) (by simp only [List.size_toArray] <;> omega)
    have I1:Inv X pins σ H { s with heap:=h' }:=I.kept (t':=s.toks) kp
    have I2:Inv X pins σ (upd H h'.objs.size (.tup ys)) { s with heap:=h'.push { cls:=.type "tuple",data:=.seq its.toArray } } :=
      I1.laid (t':=s.toks) (fun b o e=>Heap.get?_push_of_some _ e) (Nat.le_refl _) (show ObjOk X.prog X.w _ _ _ (.tup ys) from ⟨hz,its,r',IsTup.new _ _⟩)
    exact ⟨.ref h'.objs.size,_,I2,rfl,q _ (I1.hok.fresh (Nat.le_refl _))⟩
  · obtain ⟨its,r',pl,hz⟩:=I.tuple hq
    exact call_tuple_same pl ⟨.ref p,H,I,rfl,q⟩
def tyV (K:PySem.W.Frag) (T:String) (x:V) (H:Hp):Prop:=match x with
  | .str _=>T = "str"
  | .int _=>T = "int"
  | .ref p=>(T = "list"∧∃ xs,SqL K H p xs)∨(T = "tuple"∧∃ o,K.lookup p=some o∧o.cls = .type "tuple"∧o.dict=none) ∨
      (T = "dict"∧((∃ kvs,H p=some (.dK kvs))∨∃ kvs,H p=some (.dT kvs)))∨(T = "set"∧∃ S n,H p=some (.set S n))
  | _=>False
theorem zoj {pins:List (Addr × Obj)} {σ:St} {H:Hp} {s:Shared} {T:String} {x:V} {v:Value} (I:Inv X pins σ H s) (r:RelV x v) (ty:tyV X.K T x H) :
    s.TypeIs v T∧∀ a,v = .ref a→∃ ob,s.heap.get? a=some ob∧ob.dict=none:=by
  cases x with
  | str z =>
    obtain ⟨t,rfl⟩:=r
    cases (show T = "str" from ty)
    exact ⟨typeIs_str s z t,fun _ e=>nomatch e⟩
  | int i =>
    obtain ⟨t,rfl⟩:=r
    cases (show T = "int" from ty)
    exact ⟨typeIs_int s i t,fun _ e=>nomatch e⟩
  | ref p =>
    cases r
    rcases ty with ⟨rfl,xs,hq⟩ | ⟨rfl,o,hk,hc,hd⟩ | ⟨rfl,hk⟩ | ⟨rfl,S,n,hk⟩
    · obtain ⟨its,_,pl,_⟩:=I.list hq
      refine ⟨pl.isList.typeIs,fun a e=>?_⟩
      cases e
      obtain ⟨o,n,e,c,hd,_⟩:=pl
      exact ⟨o,e,hd⟩
    · refine ⟨⟨o,I.kIn p o hk,hc⟩,fun a e=>?_⟩
      cases e
      exact ⟨o,I.kIn _ o hk,hd⟩
    · have z:∃ o,s.heap.get? p=some o∧o.ExactDict:=by
        rcases hk with ⟨kvs,hk⟩ | ⟨kvs,hk⟩
        · obtain ⟨_,_,_,_,o,_,_,e,ex,_⟩:=I.hok p _ hk
          exact ⟨o,e,ex⟩
        · obtain ⟨_,_,_,_,o,_,_,e,ex,_⟩:=I.hok p _ hk
          exact ⟨o,e,ex⟩
      obtain ⟨o,e,ex⟩:=z
      refine ⟨⟨o,e,ex.1⟩,fun a e2=>?_⟩
      cases e2
      exact ⟨o,e,ex.2.1⟩
    · obtain ⟨o,_,_,_,e,ex,_⟩:=I.hok p _ hk
      refine ⟨⟨o,e,ex.1⟩,fun a e2=>?_⟩
      cases e2
      exact ⟨o,e,ex.2.1⟩
  | _=>exact False.elim ty
def tBM0 (K:PySem.W.Frag) (T:String) (r:V→List V→Hp→VK→Prop) (to:TE):TE:=fun σ H Q=>to σ H fun x H1=>tyV K T x H1∧r x [] H1 Q
def tBM (K:PySem.W.Frag) (T:String) (r:V→List V→Hp→VK→Prop) (to:TE) (t:TA):TE:=fun σ H Q=>to σ H fun x H1=>tyV K T x H1∧t σ H1 fun xs H2=>r x xs H2 Q
variable {o e:Expr} {es:List Expr} {to:TE} {t:TA} {name:Str} {apos cpos:Pos} {T id:String} {r:V→List V→Hp→VK→Prop}
theorem zoh (pa:PlainAttrs T) (slot:Slot T name id) (hty:typeOf (.builtin id)=pure (.type "method_descriptor")) (hm:MtR X id r) (ho:PE X o to)
    (hbase:attributeBase o name X.env (eval o X.env)=eval o X.env:=by rfl) (hline:(apos.endLine == cpos.line)=true:=by rfl):PE X (.Call (.Attribute o name apos) [] [] cpos) (tBM0 X.K T r to):=by
  intro pins s σ H Q I h
  refine wpAny_Call_method0_late hbase hline (thn (ho pins s σ H _ I h) fun v s1 ⟨x,H1,I1,r1,ty,q1⟩=>?_)
  obtain ⟨h1,h2⟩:=zoj I1 r1 ty
  exact ⟨T,id,pa,slot,hty,h1,h2,Calls.callWith_builtin rfl (PySem.evalArgs_none (hm pins s1 σ H1 x [] v [] Q I1 r1 .nil q1))⟩
theorem zgL (pa:PlainAttrs T) (slot:Slot T name id) (hty:typeOf (.builtin id)=pure (.type "method_descriptor")) (hm:MtR X id r) (ho:PE X o to) (ha:PA X (e :: es) t)
    (hbase:attributeBase o name X.env (eval o X.env)=eval o X.env:=by rfl)
    (hfew:((backTo cpos (starEach (e :: es) X.env)).all (fun x=>!x.1) && (backToKw cpos (keywordEach [] X.env)).all (fun x=>x.1.isSome)
      && decide ((e :: es).length + ([]:List Keyword).length + (if ([]:List Keyword).isEmpty then 0 else 1) < 30))=true:=by rfl)
    (hline:(apos.endLine == cpos.line)=true:=by rfl) (hs:starEach (e :: es) X.env=(false,eval e X.env) :: starEach es X.env:=by rfl) (hplain:(backTo cpos (starEach es X.env)).any (·.1)=false:=by rfl) :
    PE X (.Call (.Attribute o name apos) (e :: es) [] cpos) (tBM X.K T r to t):=by
  intro pins s σ H Q I h
  refine wpAny_Call_method_late hbase hfew hline rfl (thn (ho pins s σ H _ I h) fun v s1 ⟨x,H1,I1,r1,ty,q1⟩=>?_)
  obtain ⟨h1,h2⟩:=zoj I1 r1 ty
  refine ⟨T,id,pa,slot,hty,h1,h2,?_⟩
  have hA:=ha cpos pins s1 σ H1 _ I1 q1
  rw [hs] at hA ⊢
  refine Calls.callWith_builtin (by show (false || (backTo cpos (starEach es X.env)).any (·.1))=false; rw [hplain] <;> rfl) (Calls.evalArgs_plain ?_)
  exact thn hA fun us s2 ⟨vs,H2,I2,r2,q2⟩=>hm pins s2 σ H2 x vs v us Q I2 r1 r2 q2
end
end L2
namespace L2
open PySem PySem.Spec PyProof.Rows
def MtM (X:Cx) (id:String) (r:V→List V→Hp→VK→Prop):Prop :=
  ∀ (pins:List (Addr × Obj)) (s:Shared) (σ:St) (H:Hp) (x:V) (xs:List V) (v:Value) (us:List Value) (Q:VK),Inv X pins σ H s→RelV x v→Vals xs us→r x xs H Q →
    wpAny (model X.prog X.w) X.A (call (.builtin id) (v :: us)) (EP X pins σ Q) X.xe s
theorem Vals.one:∀ {x:V} {us:List Value},Vals [x] us→∃ u,us = [u]∧RelV x u
  | _,_,.cons r .nil=>⟨_,rfl,r⟩
theorem Vals.zero:∀ {us:List Value},Vals [] us→us = []
  | _,.nil=>rfl
theorem Vals.dropLast {xs:List V} {us:List Value} (h:Vals xs us):Vals xs.dropLast us.dropLast:=by
  induction h with
  | nil=>exact .nil
  | cons r t ih =>
    cases t with
    | nil=>exact .nil
    | cons q t'=>exact .cons r ih
theorem Vals.eraseIdx:∀ {xs:List V} {us:List Value} (i:Nat),Vals xs us→Vals (xs.eraseIdx i) (us.eraseIdx i)
  | _,_,_,.nil=>.nil
  | _,_,0,.cons _ t=>t
  | _,_,i + 1,.cons r t=>.cons r (Vals.eraseIdx i t)
theorem zkv {α:Type} (l:List α):l.eraseIdx (l.length - 1)=l.dropLast:=by
  induction l with
  | nil=>rfl
  | cons a r ih =>
    cases r with
    | nil=>rfl
    | cons b r =>
      have e:(a :: b :: r).length - 1=((b :: r).length - 1) + 1:=by
        have h1:(a :: b :: r).length=r.length + 2:=rfl
        have h2:(b :: r).length=r.length + 1:=rfl
        omega
      rw [e,List.eraseIdx_cons_succ,ih]
      all_goals rfl
theorem ziw {α:Type}:∀ (l:List α) (i:Nat),(l.eraseIdx i).length ≤ l.length
  | [],_=>Nat.le_refl _
  | _ :: _,0=>Nat.le_succ _
  | _ :: r,i + 1=>Nat.succ_le_succ (ziw r i)
section
variable {X:Cx} {pins:List (Addr × Obj)} {σ:St} {H:Hp} {s:Shared} {l b:Addr} {xs ys zs:List V}
theorem Inv.lset {its its':List Value} {n:Nat} {f:Array Value→Array Value} {t':Nat} (I:Inv X pins σ H s) (hH:H l=some (.lst xs))
    (e:s.heap.get? l=some { cls:=.type "list",data:=.seq its.toArray n }) (hf:f its.toArray=its'.toArray) (hv:Vals ys its') (hz:ys.length ≤ sizeLine) :
    Inv X pins σ (upd H l (.lst ys)) { s with heap:=s.heap.update l (Obj.mapSeq f),toks:=t' }:=by
  have q:=PySem.IsL.update e f
  rw [hf] at q
  refine I.write (x:=l) (e:=l) (by rw [hH]; exact trivial) (.inl rfl) (fun b' u hb hu=>(Heap.get?_update_other s.heap (Obj.mapSeq f) (Ne.symm hb)).trans hu) ⟨_,q⟩ ?_
  exact ⟨hz,its',_,hv,q⟩
theorem Inv.lnew {its:List Value} {t':Nat} (I:Inv X pins σ H s) (hv:Vals ys its) (hz:ys.length ≤ sizeLine) :
    Inv X pins σ (upd H s.heap.objs.size (.lst ys)) { s with heap:=s.heap.push { cls:=.type "list",data:=.seq its.toArray },toks:=t' } :=
  I.laid (fun _ _ q=>Heap.get?_push_of_some _ q) (Nat.le_refl _) ⟨hz,its,0,hv,Heap.get?_push_size _ rfl⟩
theorem Inv.fresh (I:Inv X pins σ H s):H s.heap.objs.size=none:=I.hok.fresh (Nat.le_refl _)
theorem Inv.lstM (I:Inv X pins σ H s) (hH:H l=some (.lst xs)):xs.length ≤ sizeLine∧∃ (its:List Value) (n:Nat),Vals xs its∧xs.length=its.length∧s.heap.get? l=some { cls:=.type "list",data:=.seq its.toArray n }:=by
  obtain ⟨z,its,n,r,e⟩:=I.hok l _ hH
  exact ⟨z,its,n,r,r.length,e⟩
end
section
variable {X:Cx}
def ziK:V→List V→Hp→VK→Prop:=fun x vs H Q=>∃ l xs y,x = .ref l∧vs = [y]∧H l=some (.lst xs)∧xs.length < sizeLine∧Q .non (upd H l (.lst (xs ++ [y])))
theorem zb6:MtM X "list.append" ziK:=by
  intro pins s σ H x vs v us Q I rx rv h
  obtain ⟨l,xs,y,rfl,rfl,hH,hz,q⟩:=h
  cases rx
  obtain ⟨u,rfl,ru⟩:=rv.one
  obtain ⟨z,its,n,r,hl,e⟩:=I.lstM hH
  refine call_meets F.slot_list_append ⟨_,e,rfl⟩ F.entry_list_append (F.args_list_append_2 _ _) (PySem.list_append l its.toArray n u (by rw [List.size_toArray]; omega)) ⟨e,?_⟩
  refine ⟨.non,_,I.lset (its':=its ++ [u]) hH e (by simp) (r.append (.cons ru .nil)) ?_,rfl,q⟩
  rw [List.length_append,List.length_singleton]
  omega
def rPop:V→List V→Hp→VK→Prop:=fun x vs H Q=>∃ l xs y,x = .ref l∧vs = []∧H l=some (.lst xs)∧xs[xs.length - 1]?=some y∧Q y (upd H l (.lst xs.dropLast))
theorem znT:MtM X "list.pop" rPop:=by
  intro pins s σ H x vs v us Q I rx rv h
  obtain ⟨l,xs,y,rfl,rfl,hH,hy,q⟩:=h
  cases rx
  have hus:=rv.zero
  subst hus
  obtain ⟨z,its,n,r,hl,e⟩:=I.lstM hH
  obtain ⟨u,hu,ru⟩:=r.get hy
  have hy':its.toArray[its.toArray.size - 1]?=some u:=by
    show its.toArray[its.length - 1]?=some u
    rw [← Array.getElem?_toList,← hl]
    exact hu
  refine call_meets F.slot_list_pop ⟨_,e,rfl⟩ F.entry_list_pop (F.args_list_pop_1 _) (MeetsSeq.list_pop_last l its.toArray n u hy' (by rw [List.size_toArray]; omega)) ⟨e,?_⟩
  refine ⟨y,_,I.lset (its':=its.dropLast) hH e ?_ r.dropLast ?_,ru,q⟩
  · show its.toArray.eraseIdxIfInBounds (its.toArray.size - 1)=its.dropLast.toArray
    rw [List.size_toArray,List.eraseIdxIfInBounds_toArray,zkv]
  · rw [List.length_dropLast]
    omega
def znR:V→List V→Hp→VK→Prop:=fun x vs H Q=>∃ l xs i k y,x = .ref l∧vs = [.int i]∧H l=some (.lst xs)∧-(2 ^ 63) ≤ i∧i < 2 ^ 63∧seqIndex? i xs.length=some k∧xs[k]?=some y∧Q y (upd H l (.lst (xs.eraseIdx k)))
theorem zmV:MtM X "list.pop" znR:=by
  intro pins s σ H x vs v us Q I rx rv h
  obtain ⟨l,xs,i,k,y,rfl,rfl,hH,h1,h2,hk,hy,q⟩:=h
  cases rx
  obtain ⟨u,rfl,ru⟩:=rv.one
  obtain ⟨t,rfl⟩:=ru
  obtain ⟨z,its,n,r,hl,e⟩:=I.lstM hH
  obtain ⟨w,hw,rw'⟩:=r.get hy
  refine call_meets F.slot_list_pop ⟨_,e,rfl⟩ F.entry_list_pop (F.args_list_pop_2 _ _)
    (MeetsSeq.list_pop_at l its.toArray n i t k w (fitsIndex_both h1 h2) (by rw [List.size_toArray,← hl]; exact hk) (by rw [← Array.getElem?_toList]; exact hw) (by rw [List.size_toArray]; omega)) ⟨e,?_⟩
  refine ⟨y,_,I.lset (its':=its.eraseIdx k) hH e ?_ (r.eraseIdx k) ?_,rw',q⟩
  · show its.toArray.eraseIdxIfInBounds k=(its.eraseIdx k).toArray
    rw [List.eraseIdxIfInBounds_toArray]
  · have:=ziw xs k
    omega
end
section
variable {prog:Program} {w:World} {A:Around} {E:Value→Shared→Prop} {s:Shared}
end
section
variable {X:Cx}
end
end L2
namespace L2
open PySem PySem.Spec PyProof.Rows
section
variable {κ:Type} [DecidableEq κ]
def valV (kvs:List (κ × V)) (k:κ):Option V:=(kvs.find? fun kv=>decide (kv.1=k)).map (·.2)
def putK (kvs:List (κ × V)) (k:κ) (v:V):List (κ × V) :=
  if (kvs.any fun kv=>decide (kv.1=k))=true then kvs.map (fun kv=>if kv.1=k then (kv.1,v) else kv) else kvs ++ [(k,v)]
theorem zb5 {p:κ × V} {r:List (κ × V)} {k:κ} (e:p.1=k):valV (p :: r) k=some p.2:=by simp [valV,List.find?_cons,e]
theorem zb1 {p:κ × V} {r:List (κ × V)} {k:κ} (e:¬ p.1=k):valV (p :: r) k=valV r k:=by simp [valV,List.find?_cons,e]
theorem zfS (k:κ):∀ kvs:List (κ × V),(kvs.any fun kv=>decide (kv.1=k))=(valV kvs k).isSome
  | []=>rfl
  | p :: r=>by
    rw [List.any_cons]
    by_cases e:p.1=k
    · simp only [zb5 e,decide_eq_true e,Bool.true_or,Option.isSome_some]
    · rw [zb1 e,decide_eq_false e,Bool.false_or]; exact zfS k r
theorem zj0 (k j:κ) (y:V):∀ kvs:List (κ × V),valV (kvs.map fun kv=>if kv.1=k then (kv.1,y) else kv) j=(valV kvs j).map fun x=>if j=k then y else x
  | []=>rfl
  | p :: r=>by
    have ih:=zj0 k j y r
    rw [List.map_cons]
    by_cases h:p.1=k
    · rw [if_pos h]
      by_cases e:p.1=j
      · rw [zb5 (p:=(p.1,y)) e,zb5 e,Option.map_some,if_pos (e.symm.trans h)]
      · rw [zb1 (p:=(p.1,y)) e,zb1 e,ih]
    · rw [if_neg h]
      by_cases e:p.1=j
      · rw [zb5 (p:=p) e,zb5 e,Option.map_some,if_neg (fun z=>h (e.trans z))]
      · rw [zb1 (p:=p) e,zb1 e,ih]
theorem zid (k j:κ) (y:V):∀ kvs:List (κ × V),valV kvs k=none→valV (kvs ++ [(k,y)]) j=if j=k then some y else valV kvs j
  | [],_=>by
    by_cases e:k=j
    · rw [if_pos e.symm]; exact zb5 (p:=(k,y)) e
    · rw [if_neg (fun z=>e z.symm)]; exact zb1 (p:=(k,y)) e
  | p :: r,hn=>by
    rw [List.cons_append]
    have hk:¬ p.1=k:=fun z=>by rw [zb5 z] at hn; cases hn
    rw [zb1 hk] at hn
    have ih:=zid k j y r hn
    by_cases e:p.1=j
    · rw [zb5 e,zb5 e,if_neg (fun z=>hk (e.trans z))]
    · rw [zb1 e,zb1 e,ih]
theorem zjs (kvs:List (κ × V)) (k j:κ) (y:V):valV (putK kvs k y) j=if j=k then some y else valV kvs j:=by
  unfold putK
  by_cases a:(kvs.any fun kv=>decide (kv.1=k))=true
  · rw [if_pos a,zj0]
    rw [zfS] at a
    by_cases e:j=k
    · obtain ⟨x,hx⟩:=Option.isSome_iff_exists.mp a
      rw [if_pos e,e,hx,Option.map_some,if_pos rfl]
    · rw [if_neg e]
      cases valV kvs j with
      | none=>rfl
      | some x=>rw [Option.map_some,if_neg e]
  · rw [if_neg a]
    refine zid k j y kvs ?_
    rw [zfS] at a
    cases q:valV kvs k with
    | none=>rfl
    | some x=>rw [q] at a; exact (a rfl).elim
theorem zeU (kvs:List (κ × V)) (k:κ) (v:V):(putK kvs k v).length ≤ kvs.length + 1:=by
  unfold putK
  split
  · rw [List.length_map]; omega
  · rw [List.length_append,List.length_cons,List.length_nil]; omega
theorem RelO.isSome_eq {o:Option V} {u:Option Value} (r:RelO o u):o.isSome=u.isSome:=by
  cases o with
  | none=>cases u with
    | none=>rfl
    | some _=>exact (show False from r).elim
  | some _=>cases u with
    | none=>exact (show False from r).elim
    | some _=>rfl
theorem RelO.getD {o:Option V} {u:Option Value} {d:V} {d':Value} (r:RelO o u) (rd:RelV d d'):RelV (o.getD d) (u.getD d'):=by
  cases o with
  | none=>cases u with
    | none=>exact rd
    | some _=>exact (show False from r).elim
  | some _=>cases u with
    | none=>exact (show False from r).elim
    | some _=>exact r
theorem KV.val {kvs:List (κ × V)} {vs:List (κ × Value)} (r:KV kvs vs) (k:κ):RelO (valV kvs k) (valueAt vs k):=by
  unfold KV at r
  induction r with
  | nil=>exact True.intro
  | @cons p q ps qs h t ih =>
    obtain ⟨h1,h2⟩:=h
    by_cases e:p.1=k
    · have e':q.1=k:=h1.symm.trans e
      have b:valueAt (q :: qs) k=some q.2:=by simp [valueAt,List.find?_cons,e']
      rw [zb5 e,b]; exact h2
    · have e':¬ q.1=k:=fun z=>e (h1.trans z)
      have b:valueAt (q :: qs) k=valueAt qs k:=by simp [valueAt,List.find?_cons,e']
      rw [zb1 e,b]; exact ih
theorem KV.any {kvs:List (κ × V)} {vs:List (κ × Value)} (r:KV kvs vs) (k:κ):(kvs.any fun kv=>decide (kv.1=k))=vs.any fun kv=>decide (kv.1=k):=by
  unfold KV at r
  induction r with
  | nil=>rfl
  | cons h t ih=>rw [List.any_cons,List.any_cons,ih,h.1]
theorem KV.repl {kvs:List (κ × V)} {vs:List (κ × Value)} (r:KV kvs vs) (k:κ) {y:V} {u:Value} (ry:RelV y u) :
    KV (kvs.map fun kv=>if kv.1=k then (kv.1,y) else kv) (vs.map fun kv=>if kv.1=k then (kv.1,u) else kv):=by
  unfold KV at r ⊢
  induction r with
  | nil=>exact .nil
  | @cons p q ps qs h t ih =>
    rw [List.map_cons,List.map_cons]
    refine .cons ?_ ih
    obtain ⟨h1,h2⟩:=h
    by_cases e:p.1=k
    · rw [if_pos e,if_pos (h1.symm.trans e)]; exact ⟨h1,ry⟩
    · rw [if_neg e,if_neg (fun z=>e (h1.trans z))]; exact ⟨h1,h2⟩
theorem KV.put {kvs:List (κ × V)} {vs:List (κ × Value)} (r:KV kvs vs) (k:κ) {y:V} {u:Value} (ry:RelV y u):KV (putK kvs k y) (stored vs k u):=by
  unfold putK stored
  rw [r.any k]
  by_cases e:(vs.any fun kv=>decide (kv.1=k))=true
  · rw [if_pos e,if_pos e]; exact r.repl k ry
  · rw [if_neg e,if_neg e]; exact Paired.snoc r ⟨rfl,ry⟩
theorem KV.length {kvs:List (κ × V)} {vs:List (κ × Value)} (r:KV kvs vs):kvs.length=vs.length:=Paired.length r
end
theorem zla {P:Program} {w:World} {k:Key} {u:Value} (r:RelV (kV k) u):(zbs P w).is k u=true:=by
  cases k with
  | inl i=>obtain ⟨t,e⟩:=(show ∃ t,u=Value.int i t from r); subst e; exact ziZ P w i t
  | inr x=>obtain ⟨t,e⟩:=(show ∃ t,u=Value.str x t from r); subst e; exact ziL P w x t
theorem ziC {P:Program} {w:World}:∀ {ks:List Key} {us:List Value},Vals (ks.map kV) us→ItemsAre (zbs P w) ks us
  | [],_,r=>by rw [List.map_nil] at r; cases r; exact .nil
  | k :: ks,_,r=>by
    rw [List.map_cons] at r
    cases r with
    | cons h t=>exact .cons (zla h) (ziC t)
abbrev KT (H:Hp):List (List Key × V)→List (List Key × Addr × Value)→Prop:=Paired fun p q=>p.1=q.1∧H q.2.1=some (.tup (p.1.map kV))∧RelV p.2 q.2.2
theorem KT.val {H:Hp} {kvs:List (List Key × V)} {xs:List (List Key × Addr × Value)} (r:KT H kvs xs) (k:List Key):RelO (valV kvs k) ((atKey xs k).map (·.2)):=by
  induction r with
  | nil=>exact True.intro
  | @cons p q ps qs h t ih =>
    obtain ⟨h1,_,h2⟩:=h
    by_cases e:p.1=k
    · have e':q.1=k:=h1.symm.trans e
      have b:atKey (q :: qs) k=some q.2:=by simp [atKey,List.find?_cons,e']
      rw [zb5 e,b]; exact h2
    · have e':¬ q.1=k:=fun z=>e (h1.trans z)
      have b:atKey (q :: qs) k=atKey qs k:=by simp [atKey,List.find?_cons,e']
      rw [zb1 e,b]; exact ih
theorem KT.repl {H:Hp} {kvs:List (List Key × V)} {xs:List (List Key × Addr × Value)} (r:KT H kvs xs) (k:List Key) {y:V} {u:Value} (ry:RelV y u) :
    KT H (kvs.map fun kv=>if kv.1=k then (kv.1,y) else kv) (xs.map (putAt k u)):=by
  induction r with
  | nil=>exact .nil
  | @cons p q ps qs h t ih =>
    rw [List.map_cons,List.map_cons]
    refine .cons ?_ ih
    obtain ⟨h1,h2,h3⟩:=h
    unfold putAt
    by_cases e:p.1=k
    · rw [if_pos e,if_pos (h1.symm.trans e)]; exact ⟨h1,h2,ry⟩
    · rw [if_neg e,if_neg (fun z=>e (h1.trans z))]; exact ⟨h1,h2,h3⟩
theorem KT.put {H:Hp} {kvs:List (List Key × V)} {xs:List (List Key × Addr × Value)} (r:KT H kvs xs) (k:List Key) {b:Addr} {y:V} {u:Value} (hb:H b=some (.tup (k.map kV))) (ry:RelV y u) :
    KT H (putK kvs k y) (storedH xs k b u):=by
  have e:(kvs.any fun kv=>decide (kv.1=k))=(atKey xs k).isSome:=by
    rw [zfS,(r.val k).isSome_eq,Option.isSome_map]
  unfold putK storedH
  rw [e]
  by_cases q:(atKey xs k).isSome=true
  · rw [if_pos q,if_pos q]; exact r.repl k ry
  · rw [if_neg q,if_neg q]; exact Paired.snoc r ⟨rfl,hb,ry⟩
theorem KT.keeps {H H':Hp} {kvs:List (List Key × V)} {xs:List (List Key × Addr × Value)} (r:KT H kvs xs) (ht:∀ b ys,H b=some (.tup ys)→H' b=some (.tup ys)):KT H' kvs xs :=
  Paired.mapP r fun _ _ z=>⟨z.1,ht _ _ z.2.1,z.2.2⟩
section
variable {P:Program} {w:World} {H:Hp} {h:Heap} {a:Addr}
theorem zpz {u:HO} (ok:HOk P w H h) (e:Rd H a u):ObjOk P w H h a u:=e.ok ok
theorem zjh {kvs:List (Key × V)} (ok:HOk P w H h) (e:Rd H a (.dK kvs)):kvs.length ≤ sizeLine∧(a == sysModules)=false∧∃ vs,KV kvs vs∧h.DictOf (zbs P w) a vs :=
  show ObjOk P w H h a (.dK kvs) from zpz ok e
theorem zra {kvs:List (Key × V)} (ok:HOk P w H h) (e:H a=some (.dK kvs)):kvs.length ≤ sizeLine∧(a == sysModules)=false∧∃ vs,KV kvs vs∧h.DictOf (zbs P w) a vs:=zjh ok (.inl e)
theorem zg7 {ks:List Key} (ok:HOk P w H h) (e:H a=some (.tup (ks.map kV))):(tupleKind (zbs P w)).is h ks a:=by
  obtain ⟨_,its,r,o,h1,h2,n,h3⟩:=(show ObjOk P w H h a (.tup (ks.map kV)) from ok a _ e)
  exact ⟨o,its.toArray,n,h1,h2,h3,by simpa using ziC r⟩
theorem zkY {kvs:List (List Key × V)} (ok:HOk P w H h) (e:Rd H a (.dT kvs)):kvs.length ≤ sizeLine∧(a == sysModules)=false ∧
    ∃ xs,KT H kvs xs∧h.DictOfH (tupleKind (zbs P w)) a xs:=by
  obtain ⟨z,y,xs,r,o,es,ep,h1,h2,h3,h4,h5⟩:=(show ObjOk P w H h a (.dT kvs) from zpz ok e)
  refine ⟨z,y,xs,r,o,es,ep,h1,h2,h3,h4,fun x hx=>?_,h5⟩
  have all:∀ {l:List (List Key × V)} {m:List (List Key × Addr × Value)},KT H l m→∀ x ∈ m,(tupleKind (zbs P w)).is h x.1 x.2.1:=by
    intro l m q
    induction q with
    | nil=>intro x hx; exact nomatch hx
    | @cons p q ps qs hq t ih =>
      intro x hx
      rcases List.mem_cons.mp hx with e | hx
      · subst e
        exact zg7 ok (by rw [← hq.1]; exact hq.2.1)
      · exact ih x hx
  exact all r x hx
theorem zpU {kvs:List (List Key × V)} (ok:HOk P w H h) (e:H a=some (.dT kvs)):kvs.length ≤ sizeLine∧(a == sysModules)=false ∧
    ∃ xs,KT H kvs xs∧h.DictOfH (tupleKind (zbs P w)) a xs:=zkY ok (.inl e)
end
def DGet (H:Hp) (a:Addr) (y:V) (r:Option V):Prop :=
  (∃ kvs k,Rd H a (.dK kvs)∧y=kV k∧r=valV kvs k)∨∃ kvs k b,Rd H a (.dT kvs)∧y = .ref b∧H b=some (.tup (k.map kV))∧r=valV kvs k
def DPut (H:Hp) (a:Addr) (y v:V) (H':Hp):Prop :=
  (∃ kvs k,H a=some (.dK kvs)∧y=kV k∧kvs.length < sizeLine∧H'=upd H a (.dK (putK kvs k v))) ∨
  ∃ kvs k b,H a=some (.dT kvs)∧y = .ref b∧H b=some (.tup (k.map kV))∧kvs.length < sizeLine∧H'=upd H a (.dT (putK kvs k v))
theorem DGet.k {H:Hp} {a:Addr} {kvs:List (Key × V)} {k:Key} (e:H a=some (.dK kvs)):DGet H a (kV k) (valV kvs k):=.inl ⟨kvs,k,.inl e,rfl,rfl⟩
theorem DGet.t {H:Hp} {a b:Addr} {kvs:List (List Key × V)} {k:List Key} (e:H a=some (.dT kvs)) (eb:H b=some (.tup (k.map kV))):DGet H a (.ref b) (valV kvs k):=.inr ⟨kvs,k,b,.inl e,rfl,eb,rfl⟩
theorem DPut.k {H:Hp} {a:Addr} {kvs:List (Key × V)} {k:Key} {v:V} (e:H a=some (.dK kvs)) (hl:kvs.length < sizeLine):DPut H a (kV k) v (upd H a (.dK (putK kvs k v))):=.inl ⟨kvs,k,e,rfl,hl,rfl⟩
theorem DPut.t {H:Hp} {a b:Addr} {kvs:List (List Key × V)} {k:List Key} {v:V} (e:H a=some (.dT kvs)) (eb:H b=some (.tup (k.map kV))) (hl:kvs.length < sizeLine) :
    DPut H a (.ref b) v (upd H a (.dT (putK kvs k v))):=.inr ⟨kvs,k,b,e,rfl,eb,hl,rfl⟩
section
variable {X:Cx} {pins:List (Addr × Obj)} {σ:St} {H:Hp} {s:Shared} {a:Addr} {y v:V} {u r:Value} {o:Option V} {A:Around} {E:Value→Shared→Prop}
theorem Inv.big (I:Inv X pins σ H s):sysModules < s.heap.objs.size:=by
  have h:mainGlobals < s.heap.objs.size:=(I.mod.glob.keeps I.bk).lt
  exact Nat.lt_trans (by decide) h
theorem zlq {Q:Value→Shared→Prop} (hu:A.units + 1 < cLine) (I:Inv X pins σ H s) (g:DGet H a y (some v)) (ry:RelV y u) (h:∀ w' s',Inv X pins σ H s'→RelV v w'→Q w' s') :
    wpAny (model X.prog X.w) A (getItem (.ref a) u) Q E s:=by
  rcases g with ⟨kvs,k,e,ey,l⟩ | ⟨kvs,k,b,e,ey,eb,l⟩
  · subst ey
    obtain ⟨z,hd,vs,rel,dd⟩:=zjh I.hok e
    obtain ⟨w',hw,rw'⟩:=RelO.some_of (v:=v) (o:=valueAt vs k) (by rw [l]; exact rel.val k)
    exact wpAny_getItem_of (zla ry) dd.mapOf hw (h w' _ (I.tok _) rw')
  · subst ey
    cases (show u=Value.ref b from ry)
    obtain ⟨z,hd,xs,rel,dd⟩:=zkY I.hok e
    obtain ⟨w',hw,rw'⟩:=RelO.some_of (v:=v) (o:=(atKey xs k).map (·.2)) (by rw [l]; exact rel.val k)
    obtain ⟨p,hp,hp2⟩:=Option.map_eq_some_iff.mp hw
    refine wpAny_getItem_heap (tupleKind_room_in1 hu) (zg7 I.hok eb) dd hp ?_
    rw [hp2]
    exact h w' _ (I.tok _) rw'
theorem zoK {Q:Value→Shared→Prop} (hu:A.units + 1 < cLine) (I:Inv X pins σ H s) (g:DGet H a y o) (ry:RelV y u) (h:∀ s',Inv X pins σ H s'→Q (.bool (!o.isSome)) s') :
    wpAny (model X.prog X.w) A (compareOp .NotIn u (.ref a)) Q E s:=by
  rcases g with ⟨kvs,k,e,ey,l⟩ | ⟨kvs,k,b,e,ey,eb,l⟩
  · subst ey
    obtain ⟨z,hd,vs,rel,dd⟩:=zjh I.hok e
    refine wpAny_notIn_of (zla ry) hd dd.mapOf ?_
    rw [← (rel.val k).isSome_eq,← l]
    exact h _ (I.tok _)
  · subst ey
    cases (show u=Value.ref b from ry)
    obtain ⟨z,hd,xs,rel,dd⟩:=zkY I.hok e
    refine wpAny_notIn_heap (tupleKind_room_in1 hu) (zg7 I.hok eb) hd dd ?_
    have q:=(rel.val k).isSome_eq
    rw [Option.isSome_map] at q
    rw [← q,← l]
    exact h _ (I.tok _)
theorem zjc {h':Heap} {t':Nat} {ob:HO} (I:Inv X pins σ H s) (mu:Mut (H a)) (hs:Heap.SameBut a s.heap h') (he:∃ q,h'.get? a=some q) (new:ObjOk X.prog X.w (upd H a ob) h' a ob) :
    Inv X pins σ (upd H a ob) { s with heap:=h',toks:=t' } :=
  I.write (x:=a) (e:=a) mu (.inl rfl) (fun b q hb z=>(hs.2 b hb).trans z) he new
theorem zpX {P:Program} {w:World} {H':Hp} {h':Heap} {kvs:List (Key × V)} {vs:List (Key × Value)} (z:kvs.length ≤ sizeLine) (hd:(a == sysModules)=false) (rel:KV kvs vs) (dd:h'.DictOf (zbs P w) a vs) :
    ObjOk P w H' h' a (.dK kvs):=⟨z,hd,vs,rel,dd⟩
theorem zlN {H':Hp} {Q:Unit→Shared→Prop} (hu:A.units + 1 < cLine) (I:Inv X pins σ H s) (g:DPut H a y v H') (ry:RelV y u) (rv:RelV v r) (h:∀ s',Inv X pins σ H' s'→Q () s') :
    wpAny (model X.prog X.w) A (setItem (.ref a) u r) Q E s:=by
  rcases g with ⟨kvs,k,e,ey,l,eH⟩ | ⟨kvs,k,b,e,ey,eb,l,eH⟩
  · subst ey eH
    obtain ⟨z,hd,vs,rel,dd⟩:=zra I.hok e
    have hz:vs.length ≤ sizeLine:=by rw [← rel.length]; exact z
    have hl:(putK kvs k v).length ≤ sizeLine:=by have:=zeU kvs k v; omega
    refine wpAny_setItem_pairs (hsz:=hz) (zla ry) dd fun h' dd' hs=>h _ ?_
    have he:∃ q,h'.get? a=some q:=let ⟨q,_,_,hq,_⟩:=dd'; ⟨q,hq⟩
    exact zjc I (by rw [e]; exact True.intro) hs he (zpX hl hd (rel.put k rv) dd')
  · subst ey eH
    cases (show u=Value.ref b from ry)
    obtain ⟨z,hd,xs,rel,dd⟩:=zpU I.hok e
    have hz:xs.length ≤ sizeLine:=by rw [← Paired.length rel]; exact z
    have hl:(putK kvs k v).length ≤ sizeLine:=by have:=zeU kvs k v; omega
    refine wpAny_setItem_heap (hsz:=hz) (tupleKind_room_in1 hu) (zg7 I.hok eb) dd fun h' dd' hs=>h _ ?_
    obtain ⟨q,es,ep,hq,h2,h3,h4,_,h5⟩:=dd'
    refine zjc I (by rw [e]; exact True.intro) hs ⟨q,hq⟩ ⟨hl,hd,_,(rel.put k eb rv).keeps fun c ys ec=>?_,q,es,ep,hq,h2,h3,h4,h5⟩
    rw [zag (zp0 ec e (fun z=>nomatch z))]
    exact ec
end
section
variable {X:Cx} {pins:List (Addr × Obj)} {σ:St} {H:Hp} {s:Shared} {a:Addr} {kvs:List (Key × V)} {k:Key} {u:Value} {A:Around} {E:Value→Shared→Prop}
end
def NoSl (i:Expr):Prop:=∀ ov iv,subscripted i false ov iv=operate [ov,iv] (getItem ov iv)
theorem zoE {prog:Program} {w:World} {A:Around} {E:Value→Shared→Prop} {s:Shared} {env:Env} {value slice:Expr} {pos:Pos} {T id:String} {Q:Value→Shared→Prop}
    (hl:typeLookup (.type T) "__getitem__"=pure (some (.builtin id))) (hs:NoSl slice)
    (h:wpAny (model prog w) A (eval value env) (fun o s₁=>wpAny (model prog w) A (eval slice env) (fun i s₂=>s₂.TypeIs o T∧wpAny (model prog w) A (getItem o i) Q E s₂) E s₁) E s) :
    wpAny (model prog w) A (eval (.Subscript value slice pos) env) Q E s:=by
  refine Subscript_ (wpAny_mono h (fun o s₁ h₁=>wpAny_mono h₁ (fun i s₂ h₂=>?_) fun _ _ x=>x) fun _ _ x=>x)
  obtain ⟨hT,h₂⟩:=h₂
  unfold subscriptTail
  refine wpAny_bind ?_
  rw [getitemInPython_of_ne hT.not_modules]
  refine wpAny_bind (wpAny_specialOf hT hl ?_)
  have fin:wpAny (model prog w) A (subscripted slice false o i) (fun r s₃=>wpAny (model prog w) A (letTemporaryGo value o r >>= fun _=>pure r) Q E s₃) E s₂:=by
    rw [hs o i]
    exact wpAny_operating (wpAny_mono h₂ (fun r s₃ h₃=>wpAny_bind (wpAny_letTemporaryGo (wpAny_pure h₃))) fun _ _ x=>x)
  first
    | exact wpAny_pure (wpAny_bind fin)
    | exact wpAny_bind (wpAny_pure (wpAny_bind fin))
    | exact wpAny_bind fin
theorem ziU {X:Cx} {pins:List (Addr × Obj)} {σ:St} {H:Hp} {s:Shared} {a:Addr} {y:V} {o:Option V} (I:Inv X pins σ H s) (g:DGet H a y o):s.TypeIs (.ref a) "dict":=by
  rcases g with ⟨kvs,k,e,_,_⟩ | ⟨kvs,k,b,e,_,_,_⟩
  · obtain ⟨_,_,vs,_,dd⟩:=zjh I.hok e
    exact dd.typeIs
  · obtain ⟨_,_,xs,_,dd⟩:=zkY I.hok e
    exact dd.typeIs
def znA (td ty:TE):TE:=fun σ H Q=>td σ H fun x H1=>ty σ H1 fun y H2=>∃ a v,x = .ref a∧DGet H2 a y (some v)∧Q v H2
def zjl (ty td:TE):TE:=fun σ H Q=>ty σ H fun y H1=>td σ H1 fun x H2=>∃ a o,x = .ref a∧DGet H2 a y o∧Q (.bl (!o.isSome)) H2
def zoU (td ty tv:TE):TS:=fun D σ H=>tv σ H fun v H1=>td σ H1 fun x H2=>ty σ H2 fun y H3=>∃ a H4,x = .ref a∧DPut H3 a y v H4∧D.nx σ H4
section
variable {X:Cx} {o i e value:Expr} {pos pos' tpos:Pos} {td ty tv:TE}
theorem ziR (hu:X.A.units + 1 < cLine) (ho:PE X o td) (hi:PE X i ty) (hs:NoSl i):PE X (.Subscript o i pos) (znA td ty):=by
  intro pins s σ H Q I h
  refine zoE PySem.F.slot_dict_getitem.lookup hs (thn (ho pins s σ H _ I h) fun u s1 ⟨x,H1,I1,rx,q1⟩=>thn (hi pins s1 σ H1 _ I1 q1) fun iv s2 ⟨y,H2,I2,ry,a,v,ex,g,q2⟩=>?_)
  subst ex
  obtain rfl:u=Value.ref a:=rx
  exact ⟨ziU I2 g,zlq hu I2 g ry fun w' s3 I3 rw'=>⟨v,H2,I3,rw',q2⟩⟩
theorem ziv (hu:X.A.units + 1 < cLine) (hi:PE X i ty) (ho:PE X o td):PC X .NotIn i o (zjl ty td):=by
  intro pins s σ H Q I h
  refine thn (hi pins s σ H _ I h) fun iv s1 ⟨y,H1,I1,ry,q1⟩=>thn (ho pins s1 σ H1 _ I1 q1) fun u s2 ⟨x,H2,I2,rx,a,ov,ex,g,q2⟩=>?_
  subst ex
  obtain rfl:u=Value.ref a:=rx
  exact zoK hu I2 g ry fun s3 I3=>⟨.bl (!ov.isSome),H2,I3,rfl,q2⟩
theorem ziH (hu:X.A.units + 1 < cLine) (ho:PE X o td) (hi:PE X i ty) (hv:PE X value tv) (hs:swapsWith value (some (.Subscript o i pos')) pos.line X.env=pure false) :
    PS X (.Assign [.Subscript o i pos'] value pos) (zoU td ty tv):=by
  intro pins s σ H D I h
  refine wpAny_Assign_Subscript (thn (hv pins s σ H _ I h) fun r s1 ⟨v,H1,I1,rv,q1⟩=>thn (ho pins s1 σ H1 _ I1 q1) fun u s2 ⟨x,H2,I2,rx,q2⟩=>thn (hi pins s2 σ H2 _ I2 q2) fun iv s3 ⟨y,H3,I3,ry,a,H4,ex,g,q3⟩=>?_) hs
  subst ex
  obtain rfl:u=Value.ref a:=rx
  exact zlN hu I3 g ry rv fun s4 I4=>⟨σ,H4,I4,q3⟩
end
theorem znf {P:Program} {w:World} {H:Hp} (h:Heap) (hb:sysModules < h.objs.size):ObjOk P w H (h.push { cls:=.type "dict",data:=.dict #[] }) h.objs.size (.dK []) :=
  ⟨Nat.zero_le _,beq_eq_false_iff_ne.mpr (Ne.symm (Nat.ne_of_lt hb)),[],.nil,Heap.DictOf.new h⟩
theorem zns {P:Program} {w:World} {H:Hp} (h:Heap) (hb:sysModules < h.objs.size):ObjOk P w H (h.push { cls:=.type "dict",data:=.dict #[] }) h.objs.size (.dT []) :=
  ⟨Nat.zero_le _,beq_eq_false_iff_ne.mpr (Ne.symm (Nat.ne_of_lt hb)),[],.nil,_,#[],0,Heap.get?_push_size _ rfl,⟨rfl,rfl,rfl⟩,rfl,rfl,List.nodup_nil⟩
def zn2:TE:=fun _ H Q=>∀ p,H p=none→Q (.ref p) (upd H p (.dK []))
section
variable {X:Cx} {pos:Pos}
theorem zjF:PE X (.Dict [] [] pos) zn2:=fun pins s σ H Q I h =>
  wpAny_Dict_empty ⟨.ref s.heap.objs.size,_,I.laid (a:=s.heap.objs.size) (o:=.dK []) (t':=s.toks) (fun _ _ q=>Heap.get?_push_of_some _ q) (Nat.le_refl _) (znf s.heap I.big),rfl,h _ (I.hok.fresh (Nat.le_refl _))⟩
end
def zl5:List (TE × TE)→St→Hp→(List (V × V)→Hp→Prop)→Prop
  | [],_,H,Q=>Q [] H
  | (tk,tv) :: r,σ,H,Q=>tk σ H fun x H1=>tv σ H1 fun y H2=>zl5 r σ H2 fun ps H3=>Q ((x,y) :: ps) H3
abbrev VV:List (V × V)→List (Value × Value)→Prop:=Paired fun p q=>RelV p.1 q.1∧RelV p.2 q.2
def PPs (X:Cx) (pos:Pos) (keys:List (Option Expr)) (values:List Expr) (trs:List (TE × TE)):Prop :=
  ∀ (pins:List (Addr × Obj)) (s:Shared) (σ:St) (H:Hp) (Q:List (V × V)→Hp→Prop),Inv X pins σ H s→zl5 trs σ H Q →
    wpAny (model X.prog X.w) X.A (evalPairs (pairTrees keys values X.env pos)) (fun vs s'=>∃ ps H',Inv X pins σ H' s'∧VV ps vs∧Q ps H') X.xe s
theorem zo8 {X:Cx} {pos:Pos}:PPs X pos [] [] []:=fun pins s σ H Q I h=>pairTrees_nil_walk ⟨[],H,I,.nil,h⟩
theorem znC {X:Cx} {pos:Pos} {k v:Expr} {ks:List (Option Expr)} {vs:List Expr} {tk tv:TE} {trs:List (TE × TE)} (hk:PE X k tk) (hv:PE X v tv) (hr:PPs X pos ks vs trs) :
    PPs X pos (some k :: ks) (v :: vs) ((tk,tv) :: trs):=fun pins s σ H Q I h =>
  pairTrees_cons_walk (thn (hk pins s σ H _ I h) fun u s1 ⟨x,H1,I1,rx,q1⟩=>thn (hv pins s1 σ H1 _ I1 q1) fun w2 s2 ⟨y,H2,I2,ry,q2⟩ =>
    thn (hr pins s2 σ H2 _ I2 q2) fun ws s3 ⟨ps,H3,I3,rel,q3⟩=>⟨(x,y) :: ps,H3,I3,.cons ⟨rx,ry⟩ rel,q3⟩)
structure M2 (X:Cx) (o:Expr) (m:Str) (apos:Pos) (e f:Expr) (cpos:Pos):Prop where
  base:attributeBase o m X.env (eval o X.env)=eval o X.env
  few:((backTo cpos (starEach [e,f] X.env)).all (fun x=>!x.1) && (backToKw cpos (keywordEach [] X.env)).all (fun x=>x.1.isSome)
    && decide (([e,f]:List Expr).length + ([]:List Keyword).length + (if ([]:List Keyword).isEmpty then 0 else 1) < 30))=true
  line:(apos.endLine == cpos.line)=true
  trees:backTo cpos (starEach [e,f] X.env) = [(false,eval e X.env),(false,eval f X.env)]
def IsD (H:Hp) (a:Addr):Prop:=(∃ kvs,Rd H a (.dK kvs))∨∃ kvs,Rd H a (.dT kvs)
theorem znZ {X:Cx} {pins:List (Addr × Obj)} {σ:St} {H:Hp} {s:Shared} {a:Addr} (I:Inv X pins σ H s) (d:IsD H a) :
    s.TypeIs (.ref a) "dict"∧(∀ b,Value.ref a = .ref b→∃ ob,s.heap.get? b=some ob∧ob.dict=none)∧(a == sysModules)=false:=by
  rcases d with ⟨kvs,e⟩ | ⟨kvs,e⟩
  · obtain ⟨_,hd,vs,_,dd⟩:=zjh I.hok e
    refine ⟨dd.typeIs,fun b q=>?_,hd⟩
    cases q
    obtain ⟨ob,_,_,h1,h2,_⟩:=dd
    exact ⟨ob,h1,h2.2.1⟩
  · obtain ⟨_,hd,xs,_,dd⟩:=zkY I.hok e
    refine ⟨dd.typeIs,fun b q=>?_,hd⟩
    cases q
    obtain ⟨ob,_,_,h1,h2,_⟩:=dd
    exact ⟨ob,h1,h2.2.1⟩
section
variable {X:Cx} {pins:List (Addr × Obj)} {σ:St} {H:Hp} {s:Shared} {a:Addr} {y d:V} {u r:Value} {o:Option V} {A:Around} {E:Value→Shared→Prop}
theorem zqn {Q:Value→Shared→Prop} (hu:A.units + 1 < cLine) (I:Inv X pins σ H s) (g:DGet H a y o) (ry:RelV y u) (rd:RelV d r) (h:∀ w' s',Inv X pins σ H s'→RelV (o.getD d) w'→Q w' s') :
    wpAny (model X.prog X.w) A (call (.builtin "dict.get") [.ref a,u,r]) Q E s:=by
  rcases g with ⟨kvs,k,e,ey,l⟩ | ⟨kvs,k,b,e,ey,eb,l⟩
  · subst ey
    obtain ⟨z,hd,vs,rel,dd⟩:=zjh I.hok e
    refine call_meetsIn PySem.F.slot_dict_get dd.typeIs PySem.F.entry_dict_get (PySem.F.args_dict_get_3 _ _ _) (meets_dict_get_default (zbs X.prog X.w) a (zla ry) hd r) ⟨_,dd.mapOf,h _ _ (I.tok _) ?_⟩
    rw [l]
    exact (rel.val k).getD rd
  · subst ey
    cases (show u=Value.ref b from ry)
    obtain ⟨z,hd,xs,rel,dd⟩:=zkY I.hok e
    refine call_meetsIn PySem.F.slot_dict_get dd.typeIs PySem.F.entry_dict_get (PySem.F.args_dict_get_3 _ _ _) (meetsH_dict_get_default (tupleKind (zbs X.prog X.w)) a b hd r) ⟨tupleKind_room_in1 hu,k,xs,zg7 I.hok eb,dd,h _ _ (I.tok _) ?_⟩
    rw [l]
    exact (rel.val k).getD rd
end
def zn4 (td ty tx:TE):TE:=fun σ H Q=>td σ H fun x H1=>∃ a,x = .ref a∧IsD H1 a∧ty σ H1 fun y H2=>tx σ H2 fun z H3=>∃ o,DGet H3 a y o∧Q (o.getD z) H3
section
variable {X:Cx} {o e f:Expr} {apos cpos:Pos} {td ty tx:TE}
theorem znj (hu:X.A.units + 1 < cLine) (ho:PE X o td) (he:PE X e ty) (hf:PE X f tx) (m:M2 X o "get" apos e f cpos):PE X (.Call (.Attribute o "get" apos) [e,f] [] cpos) (zn4 td ty tx):=by
  intro pins s σ H Q I h
  refine wpAny_Call_method m.base m.few m.line PySem.F.plainAttrs_dict PySem.F.slot_dict_get PySem.F.type_dict_get (thn (ho pins s σ H _ I h) fun u s1 ⟨x,H1,I1,rx,a,ex,d,q1⟩=>?_)
  subst ex
  obtain rfl:u=Value.ref a:=rx
  obtain ⟨t1,t2,_⟩:=znZ I1 d
  refine ⟨t1,t2,?_⟩
  rw [m.trees]
  refine Calls.callWith_builtin rfl (Calls.evalArgs_plain (Calls.spliced_cons (thn (he pins s1 σ H1 _ I1 q1) fun iv s2 ⟨y,H2,I2,ry,q2⟩ =>
    Calls.spliced_cons (thn (hf pins s2 σ H2 _ I2 q2) fun fv s3 ⟨z,H3,I3,rz,ov,g,q3⟩=>Calls.spliced_nil ?_))))
  exact zqn hu I3 g ry rz fun w' s4 I4 rw'=>⟨_,H3,I4,rw',q3⟩
end
section
variable {X:Cx} {pins:List (Addr × Obj)} {σ:St} {H:Hp} {s:Shared} {a:Addr} {kvs:List (Key × V)} {A:Around} {E:Value→Shared→Prop}
end
section
variable {X:Cx} {pins:List (Addr × Obj)} {σ:St} {H:Hp} {s:Shared} {a:Addr} {y:V} {u:Value} {A:Around} {E:Value→Shared→Prop}
end
end L2
namespace Att
open PySem PySem.W PySem.Calls PyProof.Rows
theorem zgE {P:Params} {h:Heap}:∀ (ns:List Int) (vs:List Value),WellAll P h vs (ns.map WData.int)→IntsAre vs ns:=by
  intro ns
  induction ns with
  | nil =>
    intro vs w
    rw [List.map_nil] at w
    cases w
    exact .nil
  | cons n ns ih =>
    intro vs w
    rw [List.map_cons] at w
    cases w with
    | cons a b =>
      cases a
      exact .cons _ _ (ih _ b)
theorem zlK {l:OpenLaw} {n:Nat} (hn:l.most=some n) {P:Params} {h:Heap} {args:List WData} {vals:List Value}
    (hpre:l.row.toRowW.claim.pre args=true) (hwl:WellAll P h vals args) :
    ∃ a vs ns,vals = [Value.ref a]∧args = [WData.list (ns.map WData.int)]∧h.get? a=some { cls:=.type "list",data:=.seq vs.toArray }∧IntsAre vs ns∧ns.length ≤ n:=by
  have hsh:WShape.hasAll [] args [.list .int]=true:=(pre_splitW hpre).1
  have hc:l.pre.holds [] { args:=args }=true:=(pre_splitW hpre).2
  obtain ⟨d,r,rfl,h1,h2⟩:=hasAllW_cons hsh
  obtain rfl:=hasAllW_nil h2
  obtain ⟨xs,rfl,h3⟩:=hasW_list h1
  obtain ⟨ns,rfl⟩:=items_int h3
  have hlen:ns.length ≤ n:=by
    unfold OpenLaw.pre at hc
    have h4:(WTm.not (.lt (.lit (.int (n:Int))) (.len (.arg 0)))).holds [] { args:=[.list (ns.map .int)] }=true:=by
      have h4:=(holds_andW hc).1
      rw [hn] at h4
      exact h4
    have h5:=condW_of h4 (w_not (w_lt w_lit (w_len_list (w_arg rfl))))
    rw [List.length_map] at h5
    refine Nat.le_of_not_lt fun q=>?_
    have q':(n:Int) < ((ns.length:Nat):Int):=by omega
    first
      | (rw [decide_eq_true q'] at h5; exact absurd h5 (by decide))
      | (simp at h5; omega)
  cases hwl with
  | cons w1 w2 =>
    cases w2
    cases w1 with
    | list ho hall=>exact ⟨_,_,ns,rfl,rfl,ho,zgE ns _ hall,hlen⟩
theorem zmp (l:OpenLaw) (args:List WData):l.row.toRowW.claim.post args (.bool true) args=true :=
  postW_of (r:=l.row.toRowW) (X:=(true == true))
    (show WShape.has [] (.bool true) .bool=true by first | rfl | decide | simp [WShape.has,WShape.arms,WShape.armsAll])
    (show (WTm.eq .res (.lit (.bool true))).value [] { args:=args,res:=some (.bool true),after:=args }=some (.bool (true == true)) from w_eq_bool (w_res rfl) w_lit) rfl
theorem attach_call {l:OpenLaw} {n:Nat} {q:Program} {loose:List Str} {XP:(Str→Option Value)→Heap→Prop} {YP:World→Heap→Prop} {d:DefRec}
    (hn:l.most=some n) (hdf:d.params.defaults = [])
    (call:∀ (w:World) (s₀ s₁:Shared) (mg mb:Str→Option Value) (fa:Addr) (o:Obj) (pm cd doc:Value) (a:Addr) (vs:List Value) (ns:List Int),
      Ground q loose [] XP w s₀ mg mb s₁.heap→YP w s₁.heap →
      s₁.heap.get? fa=some o→o.data = .func (docDef d.name d.params d.body d.scope pm cd doc)→s₁.heap.CodeRec cd d.name→mg d.name=some (.ref fa) →
      s₁.heap.get? a=some { cls:=.type "list",data:=.seq vs.toArray }→IntsAre vs ns→ns.length ≤ n→s₁.gens = #[] →
      codeAny (model l.prog w) callerA (.call (.ref fa) ⟨[.ref a],[]⟩) (fun r s'=>r = .ok (.ret (.bool true))∧OldK s₁.heap s'.heap∧s'.os=s₁.os∧AllBare s'.gens) s₁) :
    WalkO q loose XP YP l.row.toRowW d [] (fun f vs=>PySem.call f vs):=by
  intro w s₀ s₁ mg mb G Y fa o pm cd doc dV kV ho hd hcd hD hmg hg args vals as hpre hlay hrd hwl hlo
  obtain rfl:dV = .none:=Dflts.none hD hdf
  obtain rfl:kV = .none:=Dflts.noKw hD
  obtain ⟨a,vs,ns,rfl,rfl,hobj,hints,hlen⟩:=zlK hn hpre hwl
  refine enter_call (codeAny_mono (call w s₀ s₁ mg mb fa o pm cd doc a vs ns G Y ho (fd_plain hd) hcd hmg hobj hints hlen hg) fun r s' hq=>?_)
  obtain ⟨rfl,h2,h3,h4⟩:=hq
  exact ⟨.inl ⟨.bool true,.bool true,[],rfl,fun _=>rfl,.bool true,zmp l _,fun _=>⟨List.Pairwise.nil,fun _ hm=>(nomatch hm)⟩⟩,h2,h3,h4⟩
section
variable {prog:Program} {w:World} {A:Around} {E:Value→Shared→Prop} {s:Shared} {K:Frag}
end
end Att
namespace L2
open PySem PySem.Spec PyProof.Rows
theorem zh3:∀ {vs:List Value} {ns:List Int},IntsAre vs ns→Vals (ns.map V.int) vs
  | _,_,.nil=>.nil
  | _,_,.cons n t h=>.cons ⟨t,rfl⟩ (zh3 h)
def Only (H:Hp):Prop:=∀ b,H b=none∨∃ o xs,H b=some (.frz o (.lst xs))
theorem znm {P:Program} {w:World} {K:PySem.W.Frag} {mg mb:Str→Option Value} {CX:CXT} {k:Nat} {fa a:Addr} {fd:FuncData} {x:Str} {sp:Sp} {s₁:Shared} {vs:List Value} {ns:List Int}
    (KX:K.In s₁.heap) (hT0:tabOf K=none) (hns:s₁.heap.Ns mainGlobals mg) (hb:s₁.heap.Ns builtinsNs mb) (hbb:∀ x:Str,x ≠ "__name__"→mb x=bootBuiltins x) (hlim:s₁.heap.NoLimit) (hg:s₁.gens = #[])
    (ha:s₁.heap.get? a=some { cls:=.type "list",data:=.seq vs.toArray }) (hi:IntsAre vs ns) (hl:ns.length ≤ sizeLine) (hr:Room k callerA)
    (F:∀ base:Heap,K.In base→base.Ns mainGlobals mg→FnOk P w K mg base CX k fa fd [x] sp) (hbind:∀ (s:Shared) (u:Value),BindsTo s fd ⟨[u],[]⟩ [(x,u)])
    (hsp:∀ H:Hp,Only H→SqL K H a (ns.map V.int)→sp [.ref a] H (fun v _=>v = .bl true) fun _ _ _=>False)
    (hCX:∀ H e s',CX [] H s₁ (fun _ _ _=>False) e s'→False) :
    codeAny (model P w) callerA (.call (.ref fa) ⟨[.ref a],[]⟩) (fun r s'=>r = .ok (.ret (.bool true))∧OldK s₁.heap s'.heap∧s'.os=s₁.os∧AllBare s'.gens) s₁:=by
  have rv:=zh3 hi
  have lenV:=hi.length
  -- from an abstract heap in which nothing but the script may be tracked
  have core:∀ H:Hp,Only H→SqL K H a (ns.map V.int)→HOk P w H s₁.heap→(∀ b,H b ≠ none→b=a)→(H a ≠ none→K.lookup a=none) →
      codeAny (model P w) callerA (.call (.ref fa) ⟨[.ref a],[]⟩) (fun r s'=>r = .ok (.ret (.bool true))∧OldK s₁.heap s'.heap∧s'.os=s₁.os∧AllBare s'.gens) s₁:=by
    intro H hO hS hok hA hK
    have base_of:∀ {b:Addr} {o:Obj},s₁.heap.get? b=some o→H b=none→(hidT s₁.heap H).get? b=some o:=fun e n=>zmW e n
    have noA:∀ {b:Addr} {o:Obj} {es:Array DictEntry} {ep:Nat},s₁.heap.get? b=some o→o.data = .dict es ep→H b=none:=fun {b o es ep} e d=>by
      cases q:H b with
      | none=>rfl
      | some u =>
        have e':b=a:=hA b (by rw [q]; simp)
        subst e'
        rw [ha] at e; cases e
        have d':Data.seq vs.toArray _=Data.dict es ep:=d
        cases d'
    have nsK:∀ {b:Addr} {m:Str→Option Value},s₁.heap.Ns b m→(hidT s₁.heap H).Ns b m:=fun {b m} ⟨o,es,ep,e,d,r⟩=>⟨o,es,ep,base_of e (noA e d),d,r⟩
    have hKb:K.In (hidT s₁.heap H):=fun b o e=>base_of (KX b o e) (by
      cases q:H b with
      | none=>rfl
      | some u =>
        have e':b=a:=hA b (by rw [q]; simp)
        subst e'
        rw [hK (by rw [q]; simp)] at e; cases e)
    have hM:Mod K mg (hidT s₁.heap H):=⟨hKb,nsK hns,⟨mb,nsK hb,hbb⟩,let ⟨mc,h1,h2⟩:=hlim; ⟨mc,nsK h1,h2⟩⟩
    have e0:Env0 P w K mg (hidT s₁.heap H) callerA [] s₁ H:=⟨rfl,hM,fun b o e=>zoD e,Nat.le_of_eq (zl6 _ _),trivial,fun b hb=>absurd (show b ∈ ([]:List Addr) from hb) (by simp),hok,.of_eq hg,.none hT0⟩
    refine codeAny_mono ((F _ hKb (nsK hns)).run callerA [] s₁ H ⟨[.ref a],[]⟩ [.ref a] [.ref a] _ _ hr e0 (hbind s₁ (.ref a)) (.cons rfl .nil) (hsp H hO hS)) fun r s' h=>?_
    cases r with
    | error e=>exact (hCX H e s' h).elim
    | ok fl =>
      cases fl with
      | next=>exact False.elim h
      | brk=>exact False.elim h
      | cont=>exact False.elim h
      | ret u =>
        obtain ⟨v,H',os,bare,un,hok',r',q⟩:=h
        have q':v = .bl true:=q
        subst q'
        obtain rfl:u=Value.bool true:=r'
        refine ⟨rfl,OldK.of_keep fun b o e=>?_,os,bare⟩
        cases q:H b with
        | none=>exact un.keep b o e q (by intro z; exact absurd (show b ∈ ([]:List Addr) from z) (by simp)) (by simp)
        | some u =>
          rcases hO b with z | ⟨ob,xs,z⟩
          · rw [q] at z; cases z
          · have z2:=un.frzs b ob _ z
            obtain ⟨e1,_⟩:=hok b _ z
            obtain ⟨e2,_⟩:=hok' b _ z2
            rw [e] at e1; cases e1
            exact e2
  cases hk:K.lookup a with
  | some o =>
    -- the script is one of the module's own objects
    have e:=KX a o hk
    rw [ha] at e
    cases e
    refine core (fun _=>none) (fun _=>.inl rfl) (.inr ⟨_,vs.toArray,_,hk,rfl,rfl,rfl,by rw [List.size_toArray,lenV]; exact hl,by simpa using rv⟩) (fun b u z=>by have z':(none:Option HO)=some u:=z; cases z') (fun b z=>absurd rfl z) fun z=>absurd rfl z
  | none =>
    refine core (fun b=>if b=a then some (.frz { cls:=.type "list",data:=.seq vs.toArray } (.lst (ns.map V.int))) else none) (fun b=>?_) (.inl (.inr ⟨{ cls:=.type "list",data:=.seq vs.toArray },if_pos rfl⟩)) (fun b u z=>?_) (fun b z=>?_) fun _=>hk
    · by_cases hb:b=a
      · exact .inr ⟨_,_,if_pos hb⟩
      · exact .inl (if_neg hb)
    · by_cases hb:b=a
      · have z':=(if_pos hb).symm.trans z
        cases z'
        subst hb
        exact ⟨ha,by rw [List.length_map]; exact hl,vs,_,rv,ha⟩
      · have z':=(if_neg hb).symm.trans z
        cases z'
    · by_cases hb:b=a
      · exact hb
      · exact absurd (if_neg hb) z
end L2
namespace L2
open PySem PySem.Spec PyProof.Rows
theorem walk_of {l:PySem.W.OpenLaw} {n k:Nat} {q:Program} {loose:List Str} {XP:(Str→Option Value)→Heap→Prop} {YP:World→Heap→Prop} {d:DefRec} {K:Params→PySem.W.Frag} {CX:World→CXT} {sp:World→Sp} {x:Str}
    (hn:l.most=some n) (hn2:n ≤ sizeLine) (hdf:d.params.defaults = []) (hr:Room k callerA)
    (hY:∀ (w:World) (h:Heap),YP w h→(K w.params).In h) (hT0:∀ w:World,tabOf (K w.params)=none)
    (F:∀ (w:World) (mg:Str→Option Value) (fa:Addr) (h:Heap),(K w.params).In h→h.Ns mainGlobals mg→mg d.name=some (.ref fa) →
      ∃ fd:FuncData,(∀ (s:Shared) (u:Value),BindsTo s fd ⟨[u],[]⟩ [(x,u)]) ∧
        ∀ base:Heap,(K w.params).In base→base.Ns mainGlobals mg→FnOk l.prog w (K w.params) mg base (CX w) k fa fd [x] (sp w))
    (hsp:∀ (w:World) (H:Hp) (a:Addr) (ns:List Int),ns.length ≤ n→Only H→SqL (K w.params) H a (ns.map V.int)→sp w [.ref a] H (fun v _=>v = .bl true) fun _ _ _=>False)
    (hCX:∀ (w:World) (H:Hp) (s:Shared) (e:Value) (s':Shared),CX w [] H s (fun _ _ _=>False) e s'→False) :
    PySem.W.WalkO q loose XP YP l.row.toRowW d [] (fun f vs=>PySem.call f vs):=by
  refine Att.attach_call hn hdf fun w s₀ s₁ mg mb fa o pm cd doc a vs ns G Y ho hd hcd hmg hobj hints hlen hg=>?_
  have KX:=hY w _ Y
  obtain ⟨fd,hb,hF⟩:=F w mg fa _ KX G.T.g hmg
  exact znm KX (hT0 w) G.T.g G.T.b G.T.builtins G.T.nolimit hg hobj hints (Nat.le_trans hlen hn2) hr hF hb (fun H hO hS=>hsp w H a ns hlen hO hS) fun H e s'=>hCX w H s₁ e s'
end L2
namespace L2
open PySem PySem.Spec PyProof.Rows
def zje (s:Stmt) (j:Nat):Stmt:=match s with
  | .ClassDef _ _ _ body _ _ _ _ _ _ _=>body.getD j (.Pass ⟨0,0,0,0⟩)
  | _=>.Pass ⟨0,0,0,0⟩
def zeh (s:Stmt):Arguments:=match s with
  | .FunctionDef _ a _ _ _ _ _ _ _ _=>a
  | _=>{ posonlyargs:=[],args:=[],vararg:=none,kwonlyargs:=[],kw_defaults:=[],kwarg:=none,defaults:=[] }
def zdb (s:Stmt):List Stmt:=match s with
  | .FunctionDef _ _ b _ _ _ _ _ _ _=>b
  | _=>[]
def zao (s:Stmt):Scope:=match s with
  | .FunctionDef _ _ _ _ _ _ sc _ _ _=>sc
  | _=>{ kind:=.function,names:=[],isGenerator:=false,isCoroutine:=false }
abbrev CX0:CXT:=fun _ _ _ _ _ _=>False
abbrev E0:XK:=fun _ _ _=>False
theorem zcw {X:Cx}:zez CX0 X E0:=fun _ _ _ _ _ _ _ h=>h.elim
structure Fun (K:PySem.W.Frag) (x qual:Str) (st:Stmt) (f:Addr) (fd:FuncData):Prop where
  ex:∃ (oc:Value) (od:Option Addr) (kV doc pm:Value) (an:Option Addr) (cdv ct:Value) (osl:Array (Option Value)),
    fd=PySem.W.fnOf x qual (zeh st) (zdb st) (zao st) .none kV doc pm an cdv ct∧K.lookup f=some ⟨oc,od,.func fd,osl⟩∧PySem.W.codeIn K cdv qual=true
  kp:PySem.W.keepIn K (.ref f)=true
section
variable {P:Program} {w:World} {K:PySem.W.Frag} {mg:Str→Option Value} {base:Heap}
theorem Fun.ok {x qual:Str} {st:Stmt} {f:Addr} {fd:FuncData} {N ps:List Str} {k:Nat} {sp:Sp} (F:Fun K x qual st f fd) (S:FnScope N ps (zao st)) (len:∀ vs H Q E,sp vs H Q E→vs.length=ps.length)
    (hbody:∀ (cdv:Value) (A:Around) (outer:List Env) (s:Shared) (H:Hp) (vs:List V) (Q:VK) (E:XK),Room k (A.deeper (envOfC qual (zao st) s.heap.objs.size f cdv))→sp vs H Q E →
      ∃ t,PSs (cxOf CX0 P w K mg base N qual (zao st) f cdv A outer s H E).nox (zdb st) t∧t { nx:=fun _ H'=>Q .non H',rt:=Q } (start N vs) H):FnOk P w K mg base CX0 (k + 1) f fd ps sp:=by
  obtain ⟨oc,od,kV,doc,pm,an,cdv,ct,osl,rfl,lk,hcd⟩:=F.ex
  refine zqb lk hcd S len fun A outer s H vs Q E hr hsp=>?_
  obtain ⟨t,h,q⟩:=hbody cdv A outer s H vs Q E hr hsp
  exact ⟨t,h.nox,q⟩
theorem Fun.binds {x qual:Str} {st:Stmt} {f:Addr} {fd:FuncData} {ps:List Str} (F:Fun K x qual st f fd)
    (h:∀ (kV doc pm:Value) (an:Option Addr) (cdv ct:Value) (us:List Value),us.length=ps.length→bindArgs (PySem.W.fnOf x qual (zeh st) (zdb st) (zao st) .none kV doc pm an cdv ct) ⟨us,[]⟩=pure (ps.zip us)):Binds K fd ps []:=by
  obtain ⟨oc,od,kV,doc,pm,an,cdv,ct,osl,rfl,lk,hcd⟩:=F.ex
  exact .all (h kV doc pm an cdv ct)
theorem zmD {x qual:Str} {st:Stmt} {f:Addr} {oc:Value} {od an:Option Addr} {osl:Array (Option Value)} {kV doc pm cdv ct:Value} (l:K.lookup f=some ⟨oc,od,.func (PySem.W.fnOf x qual (zeh st) (zdb st) (zao st) .none kV doc pm an cdv ct),osl⟩)
    (c:PySem.W.codeIn K cdv qual=true) (k:PySem.W.keepIn K (.ref f)=true):Fun K x qual st f (PySem.W.fnOf x qual (zeh st) (zdb st) (zao st) .none kV doc pm an cdv ct):=⟨⟨oc,od,kV,doc,pm,an,cdv,ct,osl,rfl,l,c⟩,k⟩
end
theorem zcb {A:Around} {k:Nat} (hr:Room k A):A.units + 1 < cLine:=Nat.lt_of_le_of_lt (Nat.add_le_add_left (by decide:1 ≤ 64) _) hr.units
section
variable {X:Cx}
theorem pv (i:Nat) {x:Str} {pos:Pos} (hN:X.N[i]?=some x:=by rfl) (hv:Vis X.env.scope x:=by first | exact Or.inl rfl | exact Or.inr (Or.inl rfl) | exact Or.inr (Or.inr rfl)) (hd:(x == ("__debug__" : Str))=false:=by decide)
    (hcd:(x == ("__classdict__" : Str))=false:=by decide):PE X (.Name x pos) (tVar i):=zpE hN hv hd hcd
end
def Same (H H':Hp):Prop:=∀ b o,H b=some o→H' b=some o
theorem Same.refl (H:Hp):Same H H:=fun _ _ h=>h
theorem Same.trans {H H1 H2:Hp} (a:Same H H1) (b:Same H1 H2):Same H H2:=fun c o h=>b c o (a c o h)
theorem Same.free {H H':Hp} (e:Same H H') {l:Addr} (h:H' l=Option.none):H l=Option.none:=by
  cases q:H l with
  | none=>rfl
  | some o =>
    rw [e l o q] at h
    cases h
theorem Same.seq {K:PySem.W.Frag} {H H':Hp} {a:Addr} {xs:List V} (e:Same H H') (h:SqL K H a xs):SqL K H' a xs:=by
  rcases h with (h | ⟨o,h⟩) | h
  · exact .inl (.inl (e _ _ h))
  · exact .inl (.inr ⟨o,e _ _ h⟩)
  · exact .inr h
section
variable {κ:Type} [DecidableEq κ]
end
end L2
namespace L2
open PySem PySem.Spec PyProof.Rows
def Fit (i:Int):Prop:=i.natAbs < 2 ^ 8000
theorem log2_lt {n k:Nat} (hk:0 < k) (h:n < 2 ^ k):n.log2 < k:=by
  by_cases h0:n=0
  · subst h0; simpa using hk
  · exact (Nat.log2_lt h0).mpr h
theorem Fit.log {i:Int} (h:Fit i):i.natAbs.log2 < 8000:=log2_lt (by decide) h
theorem Fit.bits {i:Int} (h:Fit i):Builtin.Int.intBits i ≤ 2 ^ 20:=by
  have h1:=h.log
  have h2:(8000:Nat) ≤ 2 ^ 20:=by decide
  unfold Builtin.Int.intBits
  split <;> omega
section
variable {X:Cx}
theorem zcy:OpR X (binaryOp .Mult) (rI (fun i j=>Fit i∧Fit j) fun i j=>.int (i * j)):=opI fun _ _ _ _ _ _ _ hc q=>mul_int q (.of_bits hc.1.bits hc.2.bits)
theorem zcl:OpR X (binaryOp .FloorDiv) (rI (fun _ j=>j ≠ 0∧Fit j) fun i j=>.int (i.fdiv j)):=opI fun _ _ _ _ _ _ _ hc q =>
  floordiv_int hc.1 q (.inl (PyProof.noPylong_of_log2 (Nat.lt_trans hc.2.log (by decide))))
end
def clsV:V→Option Value
  | .ty n=>some (.type n)
  | .ref a=>some (.ref a)
  | _=>none
section
variable {X:Cx}
theorem zjE {c:V} {cv u:Value} (h:clsV c=some cv) (r:RelV c u):u=cv:=by
  cases c with
  | ty n=>cases h; exact r
  | ref a=>cases h; exact r
  | _=>cases h
def rIs (K:PySem.W.Frag):List V→Hp→VK→Prop:=fun xs H Q=>∃ x c cv t b,xs = [x,c]∧clsV c=some cv∧TyOf K H x t∧PySem.W.kitOne K t cv=some b∧Q (.bl b) H
theorem zd4:zey X (.builtin "isinstance") (rIs X.K):=by
  intro pins s σ H xs us Q I r h
  obtain ⟨x,c,cv,t,b,rfl,hc,ty,hk,q⟩:=h
  obtain ⟨u,v,rfl,rx,ry⟩:=znF r
  cases zjE hc ry
  exact zk4 I rx ty hk fun tk=>⟨.bl b,H,I.tok _,rfl,q⟩
end
def Ite (K:PySem.W.Frag) (a:Addr):It :=
  ⟨fun i H=>∃ xs x,SqL K H a xs∧xs[i]?=some x,fun i H x H'=>∃ p y,x = .ref p∧H p=none∧H'=upd H p (.tup [.int i,y])∧∀ xs,SqL K H a xs→xs[i]?=some y,fun i H=>∃ xs,SqL K H a xs∧xs.length ≤ i⟩
theorem zlo {P:Program} {w:World} {K:PySem.W.Frag} {es:List Expr} {k} {pos:Pos} (a e it:Addr) (hne:e ≠ it) :
    Turn P w K (.Tuple es k pos) (Ite K a) [e,it] e (fun i h=>(∃ old,IsEnum h e it i old)∧h.IsListIter it a i) where
  mem:=by simp
  obj:=fun i h st b hb=>by
    obtain ⟨⟨old,h1⟩,o,h2,c,d⟩:=st
    rcases List.mem_cons.mp hb with rfl | hb
    · exact ⟨_,h1,fun v z=>by cases (show Data.fields _=Data.cell v from z)⟩
    · have e':b=it:=by simpa using hb
      subst e'
      exact ⟨o,h2,fun v z=>by rw [d] at z; cases z⟩
  keep:=fun i h h' st k=>by
    obtain ⟨⟨old,h1⟩,h2⟩:=st
    exact ⟨⟨old,k e (by simp) _ h1⟩,h2.at fun o q=>k it (by simp) o q⟩
  item:=by
    intro X hP hw hK hc i pins s σ H E I hf st hg
    subst hP hw hK
    obtain ⟨xs,x,hq,hx⟩:=hg
    obtain ⟨its,rv,p,hz⟩:=I.list hq
    obtain ⟨u,hu,ru⟩:=rv.get hx
    obtain ⟨⟨old,he⟩,hit⟩:=st
    obtain ⟨f0,f1,f2,f3,f4,f5⟩:=hf e (by simp)
    obtain ⟨g0,g1,g2,g3,g4,g5⟩:=hf it (by simp)
    have hT:H s.heap.objs.size=none:=I.hok.fresh (Nat.le_refl _)
    have eT:e ≠ s.heap.objs.size:=Nat.ne_of_lt (Heap.lt_size he)
    have iT:it ≠ s.heap.objs.size:=by obtain ⟨_,z,_⟩:=hit; exact Nat.ne_of_lt (Heap.lt_size z)
    refine wpAny_pyNext_enum_item he hit p.isList (x:=u) (by simpa using hu) hne fun h' ho hit' ht hsz hk=>⟨_,rfl,?_⟩
    refine wpAny_letOwnedTupleGo_enum ho fun h'' he'' hs''=>?_
    have hs2:Heap.SameBut e h' h'':=hs''
    have ht2:h''.get? s.heap.objs.size=some { cls:=.type "tuple",data:=.seq #[.int i s.toks,u] }:=(hs2.2 _ eT.symm).trans ht
    have hk2:∀ b o,b ≠ e→b ≠ it→s.heap.get? b=some o→h''.get? b=some o:=fun b o z1 z2 q=>(hs2.2 b z1).trans (hk b o z1 z2 q)
    have nH:∀ b o,H b=some o→b ≠ e∧b ≠ it:=fun b o q=>⟨(fun z=>by rw [z,f0] at q; cases q),(fun z=>by rw [z,g0] at q; cases q)⟩
    refine ⟨.ref s.heap.objs.size,upd H s.heap.objs.size (.tup [.int i,x]),?_,rfl,⟨_,x,rfl,hT,rfl,fun ys hy=>by rw [I.list_inj hy hq]; exact hx⟩,⟨⟨_,by simpa using he''⟩,hit'.at fun o q=>(hs2.2 it hne.symm).trans q⟩,fun b hb=>?_⟩
    · show Inv X pins σ (upd H s.heap.objs.size (.tup [.int i,x])) { s with heap:=h'',toks:=s.toks + 1 }
      refine I.step (h':=h'') (g':=s.gens) (d':=s.drawn) (t':=s.toks + 1) (ch:=[e,it]) (fun b hb=>?_) (fun b o _ _ hb q _=>?_) (fun b o _ _ hb q _=>⟨o.slots,?_⟩) (fun b o hb q n=>?_) (fun b o hb q=>⟨o,?_⟩) (fun b ys q=>?_) (fun b o ys q=>?_) (fun b ps q=>⟨#[],?_⟩) (fun m hm=>?_) ?_ I.bare
      · rcases List.mem_cons.mp hb with rfl | hb
        · exact ⟨f3,f1,f4,f5⟩
        · have z:b=it:=by simpa using hb
          subst z
          exact ⟨g3,g1,g4,g5⟩
      · exact hk2 b o (fun z=>hb (by simp [z])) (fun z=>hb (by simp [z])) q
      · exact hk2 b o (fun z=>hb (by simp [z])) (fun z=>hb (by simp [z])) q
      · rw [zag (Nat.ne_of_lt (Heap.lt_size q))]; exact n
      · exact hk2 b o (fun z=>hb (by simp [z])) (fun z=>hb (by simp [z])) q
      · rw [zag (zaq q hT)]; exact q
      · rw [zag (zaq q hT)]; exact q
      · rw [zag (zaq q hT),q]; simp
      · obtain ⟨o,es',ep,ho',r⟩:=hm
        exact ⟨o,es',ep,hk2 _ o (Ne.symm f1) (Ne.symm g1) ho',r⟩
      · intro b o q
        by_cases hb:b=s.heap.objs.size
        · subst hb
          rw [zal] at q; cases q
          exact ⟨by show 2 ≤ sizeLine; decide,[.int i s.toks,u],.cons ⟨_,rfl⟩ (.cons ru .nil),⟨_,ht2,rfl,_,rfl⟩⟩
        · rw [zag hb] at q
          refine (I.hok b o q).stay (fun c v hc' q'=>?_) (fun c q'=>by rw [zag (zaq q' hT)]; exact q') fun c ys q'=>by rw [zag (zaq q' hT)]; exact q'
          rcases hc' with rfl | hc'
          · exact hk2 _ v (nH _ _ q).1 (nH _ _ q).2 q'
          · exact hk2 _ v (nH _ _ hc').1 (nH _ _ hc').2 q'
    · rcases List.mem_cons.mp hb with rfl | hb
      · rw [zag eT]; exact f0
      · have z:b=it:=by simpa using hb
        subst z
        rw [zag iT]; exact g0
  done:=by
    intro X hP hw hK hc i pins s σ H E I hf st hg
    subst hP hw hK
    obtain ⟨xs,hq,hx⟩:=hg
    obtain ⟨its,rv,p,hz⟩:=I.list hq
    obtain ⟨⟨old,he⟩,hit⟩:=st
    obtain ⟨g0,g1,g2,g3,g4,g5⟩:=hf it (by simp)
    have hl:=rv.length
    exact wpAny_pyNext_enum_end (I.ok.hd hc) he hit p.isList (by simp; omega) fun h' eb=>⟨rfl,I.turned (t':=s.toks) (fun b o hb q=>eb b o hb q) g0 g1 g3 g4 g5⟩
  self:=fun _ _ _ _ _ st h=>by
    obtain ⟨⟨old,he⟩,_⟩:=st
    exact wpAny_pyIter_enum he h
section
variable {X:Cx}
def zqy (K:PySem.W.Frag) (ta:TA):TI:=fun σ H R=>ta σ H fun vs H1=>∃ a,vs = [.ref a]∧(∃ xs,SqL K H1 a xs)∧R (Ite K a) H1
theorem zpo {es:List Expr} {k} {tp:Pos} {l:Expr} {ta:TA} {p pos:Pos} (hg:Gl X "enumerate") (hm:X.mg "enumerate"=none) (ha:PA X [l] ta) (hs:starEach [l] X.env = [(false,eval l X.env)]:=by rfl) :
    PI X (.Tuple es k tp) (.Call (.Name "enumerate" p) [l] [] pos) (zqy X.K ta):=by
  intro pins s σ H R I h
  refine Call_ (zfD I hg hm boot_enumerate (PyProof.Rows.callWith_type1 (thn (ha pos pins s σ H _ I h) fun us s1 ⟨vs,H1,I1,r1,q1⟩=>?_) hs rfl))
  obtain ⟨a,e,⟨xs,hq⟩,q⟩:=q1
  subst e
  obtain ⟨u,rfl,rx⟩:=zfn r1
  cases rx
  obtain ⟨its,rv,pl,hz⟩:=I1.list hq
  refine call_enumerate_list pl.isList fun h' he hit hsz hk=>?_
  have I2:Inv X pins σ H1 { s1 with heap:=h' }:=I1.kept (t':=s1.toks) hk
  have hne:s1.heap.objs.size + 1 ≠ s1.heap.objs.size:=by omega
  refine wpAny_pyIter_enum he ⟨s1.heap.objs.size + 1,[s1.heap.objs.size + 1,s1.heap.objs.size],_,_,H1,rfl,I2,zlo a _ _ hne,⟨⟨_,he⟩,hit⟩,fun b hb=>?_,q⟩
  have hb':s1.heap.objs.size ≤ b:=by
    rcases List.mem_cons.mp hb with rfl | hb
    · omega
    · have z:b=s1.heap.objs.size:=by simpa using hb
      exact Nat.le_of_eq z.symm
  exact I1.fpOk hb' (I1.hok.fresh hb')
end
end L2
namespace L2
open PySem PySem.Spec PyProof.Rows
theorem zfo {env:Env}:∀ (names:List (Str × NameKind)) (acc:List (Str × Addr)),(∀ y ∈ names,y.2 = .free→∃ c,env.cells.lookup y.1=some c) →
    ∃ cl,(forIn (m:=Sem) names acc fun (x:Str × NameKind) (cs:List (Str × Addr))=>if (x.2 == NameKind.free)=true then do let c ← cellOf env x.1; pure (ForInStep.yield ((x.1,c) :: cs)) else pure (ForInStep.yield cs))=pure cl ∧
      (∀ p ∈ cl,p ∈ acc∨env.cells.lookup p.1=some p.2)∧(∀ p ∈ acc,p ∈ cl)∧∀ y ∈ names,y.2 = .free→∃ c,(y.1,c) ∈ cl
  | [],acc,_=>⟨acc,by simp,fun p hp=>.inl hp,fun p hp=>hp,fun y hy=>by cases hy⟩
  | (n,k) :: r,acc,h=>by
    by_cases hk:k = .free
    · subst hk
      obtain ⟨c,hc⟩:=h (n,.free) List.mem_cons_self rfl
      obtain ⟨cl,e,h1,h2,h3⟩:=zfo r ((n,c) :: acc) fun y hy=>h y (List.mem_cons_of_mem _ hy)
      refine ⟨cl,?_,fun p hp=>?_,fun p hp=>h2 p (List.mem_cons_of_mem _ hp),fun y hy hf=>?_⟩
      · have hco:cellOf env n=pure c:=by unfold cellOf; rw [hc]
        rw [List.forIn_cons]
        simp only [beq_self_eq_true,if_true,hco,pure_bind]
        exact e
      · rcases h1 p hp with z | z
        · rcases List.mem_cons.mp z with rfl | z
          · exact .inr hc
          · exact .inl z
        · exact .inr z
      · rcases List.mem_cons.mp hy with rfl | hy
        · exact ⟨c,h2 _ List.mem_cons_self⟩
        · exact h3 y hy hf
    · obtain ⟨cl,e,h1,h2,h3⟩:=zfo r acc fun y hy=>h y (List.mem_cons_of_mem _ hy)
      refine ⟨cl,?_,h1,h2,fun y hy hf=>?_⟩
      · have hb:(k == NameKind.free)=false:=by simpa using hk
        rw [List.forIn_cons]
        simp only [hb,Bool.false_eq_true,if_false,pure_bind]
        exact e
      · rcases List.mem_cons.mp hy with rfl | hy
        · exact absurd hf hk
        · exact h3 y hy hf
theorem zfl {f:Str→Option Addr}:∀ {cl:List (Str × Addr)} {x:Str} {c:Addr},(∀ p ∈ cl,f p.1=some p.2)→(x,c) ∈ cl→cl.lookup x=some c
  | [],_,_,_,h=>by cases h
  | (n,d) :: r,x,c,h,hm=>by
    rw [List.lookup_cons]
    cases e:x == n with
    | true =>
      have e':x=n:=by simpa using e
      subst e'
      have z1:=h (x,d) List.mem_cons_self
      have z2:=h (x,c) hm
      rw [z1] at z2
      simpa using z2
    | false =>
      rcases List.mem_cons.mp hm with z | z
      · cases z; simp at e
      · exact zfl (fun p hp=>h p (List.mem_cons_of_mem _ hp)) z
theorem zfj {scope:Scope} {env:Env} (h:∀ y ∈ scope.names,y.2 = .free→∃ c,env.cells.lookup y.1=some c) :
    ∃ cl,closureFor scope env=pure cl∧(∀ x c,cl.lookup x=some c→env.cells.lookup x=some c)∧∀ y ∈ scope.names,y.2 = .free→cl.lookup y.1=env.cells.lookup y.1:=by
  obtain ⟨cl,e,h1,_,h3⟩:=zfo scope.names [] h
  have all:∀ p ∈ cl,env.cells.lookup p.1=some p.2:=fun p hp=>(h1 p hp).elim (fun z=>by cases z) id
  refine ⟨cl,?_,fun x c z=>all (x,c) (PySem.mem_of_lookup z),fun y hy hf=>?_⟩
  · simp only [closureFor]
    rw [e]
    rfl
  · obtain ⟨c,hc⟩:=h3 y hy hf
    rw [all _ hc]
    exact zfl (f:=fun x=>env.cells.lookup x) all hc
end L2
namespace L2
open PySem PySem.Spec PyProof.Rows
section
variable {prog:Program} {w:World} {A:Around} {R:Result→Shared→Prop} {s:Shared}
theorem zhX {elt target iter:Expr} {ifs:List Expr} {scope:Scope} {pos:Pos} {it acc:Value} {env:Env} (I:Nat→Shared→Prop)
    (turn:∀ n s,I n s→wpAny (model prog w) A (pyNext it) (fun r s₁=>match r with
      | none=>R (.ok .next) s₁
      | some v=>wpAny (model prog w) A (letOwnedTupleGo target it v) (fun _ s₁'=>wpAny (model prog w) A (assign target env v) (fun _ s₂ =>
          wpAny (model prog w) A (forIn ifs true fun c r=>if r=true then do let ok ← isTrue c env (eval c env); pure (ForInStep.yield ok) else pure (ForInStep.yield r)) (fun ok s₃ =>
            if ok=true then wpAny (model prog w) A (eval elt env) (fun x s₄ =>
              wpAny (model prog w) A (call (.builtin "list.append") [acc,x]) (fun _ s₅=>∃ m,m < n∧I m s₅) (fun _ _=>False) s₄) (fun _ _=>False) s₃
            else ∃ m,m < n∧I m s₃) (fun _ _=>False) s₂) (fun _ _=>False) s₁') (fun _ _=>False) s₁) (fun _ _=>False) s)
    (n:Nat) (h:I n s) :
    codeAny (model prog w) A (.compLoop (.ListComp elt [⟨target,iter,ifs,0⟩] scope pos) 0 it acc env) R s:=by
  refine codeAny_loop rfl I (fun n s hI=>?_) n h
  show wpAny _ A ((compTurn (.ListComp elt [⟨target,iter,ifs,0⟩] scope pos) 0 it acc env).onRaise (fun x=>do noteFrame x env; theTreesLotGoes x)) _ _ s
  refine wpAny_noted ?_
  rw [compTurn_list]
  refine wpAny_bind (wpAny_standAt (wpAny_bind (wpAny_mono (turn n s hI) (fun r s₁ h₁=>?_) fun _ _ h'=>h'.elim)))
  cases r with
  | none=>exact wpAny_pure h₁
  | some v =>
    refine wpAny_bind (wpAny_mono h₁ (fun _ s₁' h₁'=>?_) fun _ _ h'=>h'.elim)
    refine wpAny_bind (wpAny_mono h₁' (fun _ s₂ h₂=>wpAny_bind (wpAny_mono h₂ (fun ok s₃ h₃=>?_) fun _ _ h'=>h'.elim)) fun _ _ h'=>h'.elim)
    cases ok with
    | false=>exact wpAny_pure ⟨rfl,h₃⟩
    | true =>
      exact wpAny_bind (wpAny_bind (wpAny_mono h₃ (fun x s₄ h₄=>wpAny_bind (wpAny_mono h₄ (fun _ s₅ h₅=>wpAny_pure (wpAny_pure ⟨rfl,h₅⟩)) fun _ _ h'=>h'.elim)) fun _ _ h'=>h'.elim))
end
def Cx.comp (X:Cx) (scope:Scope) (cl:List (Str × Addr)) (C:Addr) (N':List Str) (s:Shared) (H:Hp) (fp:List Addr) (pins:List (Addr × Obj)):Cx :=
  { X with N:=N',s₀:=s,H₀:=H,env:=compEnvC scope cl C X.env,outer:=X.stack,stack:=X.stack,ex:=fp,fn:=fun x=>scope.names.lookup x == some .cell,pn:=X.pn ++ pins,xe:=fun _ _=>False }
def zc1 (σ:St) (ix:List Nat) (n:Nat):St:=ix.map (fun i=>(σ[i]?).getD none) ++ List.replicate n none
def zjV:Option TT→TT
  | none=>fun _ H Q=>Q true H
  | some t=>t
def zpG (D:Addr) (J:It) (g:TG) (tc:Option TT) (te:TE) (Q:VK) (σ0:St) (H0:Hp):Prop :=
  ∃ W:Nat→Nat→List V→St→Hp→Prop,(∃ m,W 0 m [] σ0 H0)∧∀ i m ys σ2 H2,W i m ys σ2 H2→H2 D=some (.lst ys) ∧
    ((J.stop i H2∧Q (.ref D) H2)∨(J.go i H2∧∃ N:List V→St→Hp→Prop,(∀ ys' σ' H',N ys' σ' H'→∃ m',m' < m∧W (i + 1) m' ys' σ' H') ∧
      ∀ x H',J.yld i H2 x H'→g x σ2 H' fun σ3 H3=>zjV tc σ3 H3 fun b H4=>if b=true then te σ3 H4 fun y H5=>H5 D=some (.lst ys)∧ys.length < sizeLine∧N (ys ++ [y]) σ3 (upd H5 D (.lst (ys ++ [y]))) else N ys σ3 H4))
def zjk (wi:TI) (ix:List Nat) (n:Nat) (g:TG) (tc:Option TT) (te:TE):TE:=fun σ H Q=>wi σ H fun J H1=>∀ D,H1 D=none→zpG D J g tc te Q (zc1 σ ix n) (upd H1 D (.lst []))
structure CompOk (X:Cx) (scope:Scope) (N':List Str) (ix:List Nat) (n:Nat) (tg elt:Expr) (ifs:List Expr) (g:TG) (tc:Option TT) (te:TE):Prop where
  kind:scope.kind = .function
  nocell:∀ y ∈ scope.names,y.2 = .free→(y.1,NameKind.cell) ∉ scope.names
  names:∀ y ∈ scope.names,y.2 = .local→scope.names.lookup y.1=some .local
  free:∀ y ∈ scope.names,y.2 = .free→X.env.kindOf y.1=some .cell∨X.env.kindOf y.1=some .free
  len:ix.length + n=N'.length
  take:∀ (j i:Nat),ix[j]?=some i→∃ x,N'[j]?=some x∧X.N[i]?=some x∧scope.names.lookup x=some .free
  tgt:∀ (cl:List (Str × Addr)) (C:Addr) (s:Shared) (H:Hp) (fp:List Addr) (pins:List (Addr × Obj)),PG (X.comp scope cl C N' s H fp pins) tg g
  elt:∀ (cl:List (Str × Addr)) (C:Addr) (s:Shared) (H:Hp) (fp:List Addr) (pins:List (Addr × Obj)),PE (X.comp scope cl C N' s H fp pins) elt te
  test:(ifs = []∧tc=none)∨∃ c t,ifs = [c]∧tc=some t∧∀ (cl:List (Str × Addr)) (C:Addr) (s:Shared) (H:Hp) (fp:List Addr) (pins:List (Addr × Obj)),PT (X.comp scope cl C N' s H fp pins) c t
theorem zcQ {env:Env}:∀ {names:List (Str × NameKind)} {x:Str},names.lookup x=some .free →
    (names.map fun (n,k)=>if (k == NameKind.free && env.scope.kind == .function && env.kindOf n == some .cell) then (n,NameKind.cell) else (n,k)).lookup x=some .cell ∨
    (names.map fun (n,k)=>if (k == NameKind.free && env.scope.kind == .function && env.kindOf n == some .cell) then (n,NameKind.cell) else (n,k)).lookup x=some .free
  | [],_,h=>by simp at h
  | (n,k) :: r,x,h=>by
    have ih:=@zcQ env r x
    show List.lookup x ((if (k == NameKind.free && env.scope.kind == .function && env.kindOf n == some .cell)=true then (n,NameKind.cell) else (n,k)) :: _)=_∨List.lookup x ((if (k == NameKind.free && env.scope.kind == .function && env.kindOf n == some .cell)=true then (n,NameKind.cell) else (n,k)) :: _)=_
    cases hx:x == n with
    | true =>
      simp only [List.lookup_cons,hx] at h
      cases h
      by_cases hc:(NameKind.free == NameKind.free && env.scope.kind == .function && env.kindOf n == some .cell)=true
      · rw [if_pos hc]; left; simp only [List.lookup_cons,hx]
      · rw [if_neg hc]; right; simp only [List.lookup_cons,hx]
    | false =>
      simp only [List.lookup_cons,hx] at h
      by_cases hc:(k == NameKind.free && env.scope.kind == .function && env.kindOf n == some .cell)=true
      · rw [if_pos hc]; simp only [List.lookup_cons,hx]; exact ih h
      · rw [if_neg hc]; simp only [List.lookup_cons,hx]; exact ih h
theorem zfH {env:Env}:∀ {names:List (Str × NameKind)} {x:Str},
    ((names.map fun (n,k)=>if (k == NameKind.free && env.scope.kind == .function && env.kindOf n == some .cell) then (n,NameKind.cell) else (n,k)).lookup x=some .cell ∨
    (names.map fun (n,k)=>if (k == NameKind.free && env.scope.kind == .function && env.kindOf n == some .cell) then (n,NameKind.cell) else (n,k)).lookup x=some .free)→(x,NameKind.free) ∈ names∨(names.lookup x=some .cell∧(x,NameKind.cell) ∈ names)
  | [],_,h=>by simp at h
  | (n,k) :: r,x,h=>by
    have ih:=@zfH env r x
    cases hx:x == n with
    | true =>
      have e:x=n:=by simpa using hx
      subst e
      by_cases hc:(k == NameKind.free && env.scope.kind == .function && env.kindOf x == some .cell)=true
      · have hk:k = .free:=by
          have:(k == NameKind.free)=true:=by
            simp only [Bool.and_eq_true] at hc
            exact hc.1.1
          simpa using this
        subst hk
        exact .inl List.mem_cons_self
      · rw [List.map_cons] at h
        have e2:(match (x,k) with | (n,k)=>if (k == NameKind.free && env.scope.kind == .function && env.kindOf n == some .cell)=true then (n,NameKind.cell) else (n,k))=(x,k):=if_neg hc
        rw [e2] at h
        simp only [List.lookup_cons,beq_self_eq_true] at h
        rcases h with h | h
        · cases h; exact .inr ⟨by simp only [List.lookup_cons,beq_self_eq_true],List.mem_cons_self⟩
        · cases h; exact .inl List.mem_cons_self
    | false =>
      refine (ih ?_).imp (List.mem_cons_of_mem _) fun z=>⟨by simp only [List.lookup_cons,hx]; exact z.1,List.mem_cons_of_mem _ z.2⟩
      rw [List.map_cons] at h
      by_cases hc:(k == NameKind.free && env.scope.kind == .function && env.kindOf n == some .cell)=true
      · have e2:(match (n,k) with | (n,k)=>if (k == NameKind.free && env.scope.kind == .function && env.kindOf n == some .cell)=true then (n,NameKind.cell) else (n,k))=(n,NameKind.cell):=if_pos hc
        rw [e2] at h
        simpa only [List.lookup_cons,hx] using h
      · have e2:(match (n,k) with | (n,k)=>if (k == NameKind.free && env.scope.kind == .function && env.kindOf n == some .cell)=true then (n,NameKind.cell) else (n,k))=(n,k):=if_neg hc
        rw [e2] at h
        simpa only [List.lookup_cons,hx] using h
theorem zdA {x:Str} {c:Addr}:∀ (names:List (Str × NameKind)) (n:Nat) (acc:List (Str × Addr)),(x,NameKind.cell) ∈ names→(cellsFrom n names acc).lookup x=some c→(∀ y,acc.lookup x=some y→n ≤ y∨True)→n ≤ c
  | [],_,_,h,_,_=>by cases h
  | (y,k) :: r,n,acc,h,e,_=>by
    unfold cellsFrom at e
    by_cases hr:(x,NameKind.cell) ∈ r
    · split at e
      · exact Nat.le_of_succ_le (zdA r (n + 1) _ hr e fun _ _=>.inr trivial)
      · exact zdA r n _ hr e fun _ _=>.inr trivial
    · rcases List.mem_cons.mp h with z | z
      · cases z
        rw [if_pos (by rfl)] at e
        have key:∀ (r:List (Str × NameKind)) (n':Nat) (acc:List (Str × Addr)),(x,NameKind.cell) ∉ r→(cellsFrom n' r acc).lookup x=acc.lookup x:=by
          intro r
          induction r with
          | nil=>intro _ _ _; rfl
          | cons p r ih =>
            intro n' acc hp
            obtain ⟨y',k'⟩:=p
            unfold cellsFrom
            split
            · rename_i hk
              have hk':k' = .cell:=by simpa using hk
              subst hk'
              have ne:¬ x=y':=fun z=>hp (by rw [z]; exact List.mem_cons_self)
              rw [ih _ _ fun z=>hp (List.mem_cons_of_mem _ z),List.lookup_cons,show (x == y')=false by simpa using ne]
            · exact ih _ _ fun z=>hp (List.mem_cons_of_mem _ z)
        rw [key r _ _ hr] at e
        simp only [List.lookup_cons,beq_self_eq_true] at e
        cases e; exact Nat.le_refl _
      · exact absurd z hr
theorem zcL {x:Str}:∀ (names:List (Str × NameKind)) (n:Nat) (acc:List (Str × Addr)),(x,NameKind.cell) ∉ names→(cellsFrom n names acc).lookup x=acc.lookup x
  | [],_,_,_=>rfl
  | (y,k) :: r,n,acc,h=>by
    unfold cellsFrom
    split
    · rename_i hk
      have hk':k = .cell:=by simpa using hk
      subst hk'
      have ne:¬ x=y:=fun z=>h (by rw [z]; exact List.mem_cons_self)
      rw [zcL r _ _ fun z=>h (List.mem_cons_of_mem _ z),List.lookup_cons,show (x == y)=false by simpa using ne]
    · exact zcL r _ _ fun z=>h (List.mem_cons_of_mem _ z)
theorem zdB:∀ (names:List (Str × NameKind)) (n:Nat) (acc:List (Str × Addr)),(∀ x c,acc.lookup x=some c→c < n)→(∀ x y c,acc.lookup x=some c→acc.lookup y=some c→x=y) →
    ∀ x y c,(cellsFrom n names acc).lookup x=some c→(cellsFrom n names acc).lookup y=some c→x=y
  | [],_,_,_,h=>h
  | (z,k) :: r,n,acc,h1,h2=>by
    unfold cellsFrom
    split
    · have lk:∀ x c,((z,n) :: acc).lookup x=some c→(x=z∧c=n)∨acc.lookup x=some c:=fun x c h=>by
        rw [List.lookup_cons] at h
        cases hb:x == z with
        | true=>rw [hb] at h; cases h; exact .inl ⟨by simpa using hb,rfl⟩
        | false=>rw [hb] at h; exact .inr h
      refine zdB r (n + 1) _ (fun x c h=>?_) fun x y c e1 e2=>?_
      · rcases lk x c h with ⟨_,z⟩ | z
        · rw [z]; exact Nat.lt_succ_self _
        · exact Nat.lt_succ_of_lt (h1 x c z)
      · rcases lk x c e1 with ⟨a1,a2⟩ | a <;> rcases lk y c e2 with ⟨b1,b2⟩ | b
        · rw [a1,b1]
        · have:=h1 y c b; rw [a2] at this; exact absurd this (Nat.lt_irrefl _)
        · have:=h1 x c a; rw [b2] at this; exact absurd this (Nat.lt_irrefl _)
        · exact h2 x y c a b
    · exact zdB r n acc h1 h2
theorem zjf {M:Model} {A:Around} {E:Value→Shared→Prop} {s:Shared} {scope:Scope} {globals:Addr} {cl:List (Str × Addr)} {qual:Str} {env:Env} {Q:Env→Shared→Prop}
    (hQ:Q (newEnv scope s.heap.objs.size globals (cellsFrom (s.heap.objs.size + 1) scope.names cl) qual none .none (some env) builtinsNs) { s with heap:=pushCells (s.heap.push { cls:=.type "dict",data:=.dict #[] }) scope.names }) :
    wpAny M A (newFunctionEnv scope globals cl [] qual none .none (some env)) Q E s:=by
  simp only [newFunctionEnv,Option.isSome_some,if_true]
  refine wpAny_bind (wpAny_alloc ?_)
  refine wpAny_bind (wpAny_layCells _ (fun name kind cells=>by cases hkc:kind == NameKind.cell <;> simp [hkc]) _ _ _ _ ?_)
  rw [show ({ s with heap:=s.heap.push { cls:=.type "dict",data:=.dict #[] } }:Shared).heap.objs.size=s.heap.objs.size + 1 from Heap.size_push ..]
  refine wpAny_bind ?_
  rw [List.forIn_nil]
  exact wpAny_pure (wpAny_pure hQ)
section
variable {X:Cx} {scope:Scope} {N':List Str} {ix:List Nat} {n:Nat} {tg elt iter:Expr} {ifs:List Expr} {g:TG} {tc:Option TT} {te:TE} {pos:Pos}
theorem zkX {pins:List (Addr × Obj)} {σ:St} {H:Hp} {s:Shared} {fp:List Addr} {cl:List (Str × Addr)} {h1:Heap} {tk:Nat} {m:Str→Option Value} (B:CompOk X scope N' ix n tg elt ifs g tc te) (I:Inv X pins σ H s)
    (hf:∀ b ∈ fp,FpOk X pins H b) (hfo:∀ b ∈ fp,∃ o,s.heap.get? b=some o) (hcl:∀ x c,cl.lookup x=some c→X.env.cells.lookup x=some c∨(s.heap.objs.size + 1 < c∧∃ v,h1.IsCell c v)) (hcf:∀ y ∈ scope.names,y.2 = .free→cl.lookup y.1=X.env.cells.lookup y.1)
    (hinj:∀ x y c,cl.lookup x=some c→cl.lookup y=some c→x=y) (hown:∀ x,scope.names.lookup x=some .cell→∃ c,cl.lookup x=some c) (hnew:∀ x c,scope.names.lookup x=some .cell→cl.lookup x=some c→s.heap.objs.size + 1 < c)
    (hk:∀ b o,s.heap.get? b=some o→h1.get? b=some o) (hD:h1.get? s.heap.objs.size=some { cls:=.type "list",data:=.seq #[] 0 }) (hC:h1.Ns (s.heap.objs.size + 1) m) :
    Inv (X.comp scope cl (s.heap.objs.size + 1) N' s H fp pins) [] (zc1 σ ix n) (upd H s.heap.objs.size (.lst [])) { s with heap:=h1,toks:=tk }:=by
  have hn:H s.heap.objs.size=none:=I.hok.fresh (Nat.le_refl _)
  have lt:∀ {b:Addr} {o:Obj},s.heap.get? b=some o→b ≠ s.heap.objs.size∧b ≠ s.heap.objs.size + 1:=fun e=>⟨Nat.ne_of_lt (Heap.lt_size e),Nat.ne_of_lt (Nat.lt_succ_of_lt (Heap.lt_size e))⟩
  have cellLt:∀ x c,X.env.cells.lookup x=some c→c < s.heap.objs.size:=fun x c e=>by
    obtain ⟨v,o,ho,_⟩:=I.cell x c e
    exact Heap.lt_size ho
  have fpLt:∀ b ∈ fp,b ≠ s.heap.objs.size + 1:=fun b hb=>by
    obtain ⟨o,e⟩:=hfo b hb
    exact (lt e).2
  · have keep:Un (frs X.stack) fp H (upd H s.heap.objs.size (.lst [])) s.heap h1:=Un.laid hk (Nat.le_refl _) hn
    refine ⟨⟨I.ok.mod, ?_, I.ok.glob, I.ok.blt, Nat.le_succ _, hinj, fun x hx => ?_, fun x c z e => Nat.le_of_lt (Nat.lt_trans (Nat.lt_succ_self _) (hnew x c (by simpa using (show (scope.names.lookup x == some NameKind.cell) = true from z)) e)), I.ok.hd, I.ok.frames, .inl rfl, fun b hb => ⟨fpLt b hb, fun x c e => (hcl x c e).elim (fun z => (hf b hb).2.2.2.2.1 x c z) fun z w => by
          obtain ⟨o,ho⟩:=hfo b hb
          have:=Heap.lt_size ho
          rw [← w] at this; exact Nat.lt_irrefl _ (Nat.lt_trans (Nat.lt_trans (Nat.lt_succ_self _) z.1) this)⟩,
        I.bs,Nat.le_trans I.ok.bsz I.sz,fun b o e hb=>?_,fun b hb z=>?_,I.stack,I.stkFree,I.ok.tb.grown I.base.tbls⟩,
      rfl,I.bare,keep,⟨m,hC,fun i x v e1 e2 e3=>?_⟩,fun x c e=>?_,?_,fun x c e=>?_,fun p hp=>?_,?_,?_⟩
    · show (relabel scope X.env).kind = .function
      exact B.kind
    · show ∃ c,cl.lookup x=some c
      rcases zfH hx with hx' | hx'
      case inr=>exact hown x hx'.1
      have z:=hcf _ hx' rfl
      dsimp only at z
      rw [z]
      exact I.ok.has x (B.free _ hx' rfl)
    · obtain ⟨_,_,_,f3,_⟩:=hf b hb
      rcases f3 with z | z
      · exact I.ok.noex b o e z
      · exact absurd (Nat.lt_of_lt_of_le (Heap.lt_size e) (Nat.le_trans I.ok.bsz z)) (Nat.lt_irrefl _)
    · rcases List.mem_cons.mp (I.stkSub b z) with e | e
      · exact (hf b hb).2.1 e
      · exact (hf b hb).2.2.1 e
    · have hj:i < ix.length:=by
        unfold zc1 at e2
        by_cases hj:i < ix.length
        · exact hj
        · rw [List.getElem?_append_right (by simpa using hj),List.getElem?_replicate] at e2
          split at e2 <;> cases e2
      obtain ⟨j,hj2⟩:∃ j,ix[i]?=some j:=⟨ix[i],by simp [hj]⟩
      obtain ⟨y,y1,y2,y3⟩:=B.take i j hj2
      have exy:x=y:=by
        have z:N'[i]?=some x:=e1
        rw [y1] at z
        exact (Option.some.inj z).symm
      subst exy
      have ev:σ[j]?=some (some v):=by
        unfold zc1 at e2
        rw [List.getElem?_append_left (by simpa using hj),List.getElem?_map,hj2] at e2
        have z:(σ[j]?).getD none=some v:=Option.some.inj e2
        cases q:σ[j]? with
        | none=>rw [q] at z; cases z
        | some w=>rw [q] at z; exact congrArg some z
      obtain ⟨m0,hn0,hl⟩:=I.loc
      have hm:(x,NameKind.free) ∈ scope.names:=PySem.mem_of_lookup y3
      have kx:=B.free _ hm rfl
      have vis:Vis X.env.scope x:=kx.elim (fun z=>.inr (.inl z)) fun z=>.inr (.inr z)
      obtain ⟨u,ru,lu⟩:=hl j x v y2 ev vis
      refine ⟨u,ru,.inr ⟨?_,?_⟩⟩
      · exact zcQ y3
      · rcases lu with ⟨z,_⟩ | ⟨_,c,hc,hcell⟩
        · rcases kx with w | w <;> (rw [w] at z; cases z)
        · refine ⟨c,?_,?_⟩
          · show cl.lookup x=some c
            rw [hcf _ hm rfl]
            exact hc
          · obtain ⟨o,ho,hd⟩:=hcell
            exact ⟨o,hk c o ho,hd⟩
    · rcases hcl x c e with z | ⟨_,z⟩
      · obtain ⟨v,o,ho,hd⟩:=I.cell x c z
        exact ⟨v,o,hk c o ho,hd⟩
      · exact z
    · show upd H s.heap.objs.size (.lst []) (s.heap.objs.size + 1)=none
      rw [zag (Nat.succ_ne_self _)]
      exact I.hok.fresh (Nat.le_succ _)
    · rcases hcl x c e with z | ⟨z,_⟩
      · have:=cellLt x c z
        rw [zag (Nat.ne_of_lt this)]
        exact I.freeC x c z
      · rw [zag (Nat.ne_of_gt (Nat.lt_trans (Nat.lt_succ_self _) z))]
        exact I.hok.fresh (Nat.le_of_lt (Nat.lt_trans (Nat.lt_succ_self _) z))
    · rw [List.append_nil] at hp
      obtain ⟨q1,q2,q3,q4,q5⟩:=I.pin p hp
      refine ⟨hk _ _ q1,by rw [zag (lt q1).1]; exact q2,(lt q1).2,fun z=>?_,q5⟩
      rcases List.mem_cons.mp (I.stkSub _ z) with e | e
      · exact q3 e
      · exact q4 e
    · exact I.hok.laid hk (Nat.le_refl _) ⟨Nat.zero_le _,[],0,.nil,hD⟩
    · show (zc1 σ ix n).length=N'.length
      unfold zc1
      rw [List.length_append,List.length_map,List.length_replicate]
      exact B.len
theorem zlz {pins:List (Addr × Obj)} {σ σ':St} {H H':Hp} {s s':Shared} {fp:List Addr} {cl:List (Str × Addr)} {C:Addr} (I:Inv X pins σ H s) (hf:∀ b ∈ fp,FpOk X pins H b)
    (J:Inv (X.comp scope cl C N' s H fp pins) [] σ' H' s'):Inv X pins σ H' s':=by
  obtain ⟨hh,g,d,t,os'⟩:=s'
  obtain rfl:os'=s.os:=J.os
  exact I.call (h':=hh) (g':=g) (d':=d) (t':=t) (ch:=fp) J.base J.hok J.bare fun b hb=>⟨(hf b hb).2.2.2.1,(hf b hb).2.1,(hf b hb).2.2.2.2.1,(hf b hb).2.2.2.2.2⟩
theorem zjw {pins:List (Addr × Obj)} {σ:St} {H:Hp} {s:Shared} {Q:VK} {it:Addr} {fp:List Addr} {tn:Nat→Heap→Prop} {J:It} {cl:List (Str × Addr)} {RR:Value→Addr→Result→Shared→Prop} {E:Value→Shared→Prop}
    (B:CompOk X scope N' ix n tg elt ifs g tc te) (hc:X.calm=true) (I:Inv X pins σ H s) (T:Turn X.prog X.w X.K tg J fp it tn) (st:tn 0 s.heap) (hf:∀ b ∈ fp,FpOk X pins H b)
    (hcl:∀ x c,cl.lookup x=some c→X.env.cells.lookup x=some c) (hcf:∀ y ∈ scope.names,y.2 = .free→cl.lookup y.1=X.env.cells.lookup y.1)
    (body:∀ D,H D=none→zpG D J g tc te Q (zc1 σ ix n) (upd H D (.lst [])))
    (hRR:∀ D C H' s' m,Inv X pins σ H' s'→s'.heap.Ns C m→FpOk X pins H' C→Q (.ref D) H'→RR (.ref D) C (.ok .next) s') :
    wpAny (model X.prog X.w) X.A (newList []) (fun acc s₃=>wpAny (model X.prog X.w) X.A (newFunctionEnv scope X.env.globals cl [] X.env.qual none .none (some X.env)) (fun cenv s₄ =>
      codeAny (model X.prog X.w) X.A (.compStart (.ListComp elt [⟨tg,iter,ifs,0⟩] scope pos) 0 (.ref it) acc { cenv with scope:=relabel scope X.env }) (RR acc cenv.locals) s₄) E s₃) E s:=by
  refine wpAny_newObj_type (zjf ?_)
  dsimp only
  generalize hH2:s.heap.push { cls:=.type "list",dict:=none,data:=.seq ([]:List Value).toArray }=H2
  have hC:H2.objs.size=s.heap.objs.size + 1:=by rw [← hH2,Heap.size_push]
  obtain ⟨cs,ecs⟩:∃ cs,cs=cellsFrom (H2.objs.size + 1) scope.names cl:=⟨_,rfl⟩
  rw [← ecs]
  obtain ⟨h₁,eh⟩:∃ h₁,h₁=pushCells (H2.push { cls:=.type "dict",data:=.dict #[] }) scope.names:=⟨_,rfl⟩
  rw [← eh]
  have kp:∀ b o,H2.get? b=some o→h₁.get? b=some o:=fun b o e=>by rw [eh]; exact pushCells_keeps _ _ b o (Heap.get?_push_of_some _ e)
  have hns₁:h₁.Ns H2.objs.size fun _=>none:=by rw [eh]; exact (Heap.Ns.new H2 (.type "dict")).keeps (pushCells_keeps _ _)
  have below:∀ b,b < s.heap.objs.size→b ≠ H2.objs.size:=fun b hb=>by rw [hC]; exact Nat.ne_of_lt (Nat.lt_succ_of_lt hb)
  have old:∀ b o,s.heap.get? b=some o→h₁.get? b=some o:=fun b o e=>kp b o (hH2 ▸ Heap.get?_push_of_some _ e)
  have hacc:h₁.get? s.heap.objs.size=some { cls:=.type "list",data:=.seq #[] 0 }:=kp _ _ (hH2 ▸ Heap.get?_push_size _ rfl)
  have clt:∀ x c,cl.lookup x=some c→c < s.heap.objs.size:=fun x c e=>by
    obtain ⟨v,o,ho,_⟩:=I.cell x c (hcl x c e)
    exact Heap.lt_size ho
  have own:∀ x c,(x,NameKind.cell) ∈ scope.names→cs.lookup x=some c→s.heap.objs.size + 1 < c:=fun x c h e=>by
    rw [ecs] at e
    have:=zdA scope.names _ cl h e fun _ _=>.inr trivial
    omega
  have hcl2:∀ x c,cs.lookup x=some c→X.env.cells.lookup x=some c∨(s.heap.objs.size + 1 < c∧∃ v,h₁.IsCell c v):=fun x c e=>by
    by_cases hx:(x,NameKind.cell) ∈ scope.names
    · refine .inr ⟨own x c hx e,none,?_⟩
      have okc:=cellsFrom_ok scope.names (H2.push { cls:=.type "dict",data:=.dict #[] }) 0 [] ⟨fun _ _ hm=>(nomatch hm),List.Pairwise.nil⟩ (Nat.zero_le _)
      have e2:(cellsFrom (H2.objs.size + 1) scope.names []).lookup x=some c:=by
        have gen:∀ (names:List (Str × NameKind)) (n:Nat) (acc:List (Str × Addr)),(x,NameKind.cell) ∈ names→(cellsFrom n names acc).lookup x=(cellsFrom n names []).lookup x:=by
          have gen2:∀ (names:List (Str × NameKind)) (n:Nat) (acc acc':List (Str × Addr)),(x,NameKind.cell) ∈ names∨acc.lookup x=acc'.lookup x→(cellsFrom n names acc).lookup x=(cellsFrom n names acc').lookup x:=by
            intro names
            induction names with
            | nil=>intro n acc acc' h; exact h.elim (fun z=>by cases z) id
            | cons p r ih =>
              intro n acc acc' h
              obtain ⟨y,k⟩:=p
              unfold cellsFrom
              split
              · rename_i hk
                have hk':k = .cell:=by simpa using hk
                subst hk'
                refine ih _ _ _ ?_
                by_cases exy:x=y
                · subst exy; exact .inr (by simp only [List.lookup_cons,beq_self_eq_true])
                · rcases h with z | z
                  · rcases List.mem_cons.mp z with w | w
                    · cases w; exact absurd rfl exy
                    · exact .inl w
                  · exact .inr (by simp only [List.lookup_cons,show (x == y)=false by simpa using exy]; exact z)
              · rename_i hk
                refine ih _ _ _ ?_
                rcases h with z | z
                · rcases List.mem_cons.mp z with w | w
                  · cases w; exact absurd rfl hk
                  · exact .inl w
                · exact .inr z
          exact fun names n acc h=>gen2 names n acc [] (.inl h)
        rw [← gen scope.names _ cl hx,← ecs]; exact e
      rw [Heap.size_push] at okc
      rw [eh]
      exact (okc.empty x c (PySem.mem_of_lookup e2)).1
    · rw [ecs,zcL _ _ _ hx] at e
      exact .inl (hcl x c e)
  have hcf2:∀ y ∈ scope.names,y.2 = .free→cs.lookup y.1=X.env.cells.lookup y.1:=fun y hy hf=>by
    rw [ecs,zcL _ _ _ (B.nocell y hy hf)]
    exact hcf y hy hf
  have hinj:∀ x y c,cs.lookup x=some c→cs.lookup y=some c→x=y:=by
    rw [ecs]
    exact zdB scope.names _ cl (fun x c e=>Nat.lt_of_lt_of_le (clt x c e) (by rw [hC]; omega)) fun x y c e1 e2=>I.ok.inj x y c (hcl x c e1) (hcl y c e2)
  have hown:∀ x,scope.names.lookup x=some .cell→∃ c,cs.lookup x=some c:=fun x h=>by
    rw [ecs]
    exact Option.isSome_iff_exists.mp (PySem.W.cellsFrom_some scope.names _ cl (.inl h))
  have hnew:∀ x c,scope.names.lookup x=some .cell→cs.lookup x=some c→s.heap.objs.size + 1 < c:=fun x c h e=>own x c (PySem.mem_of_lookup h) e
  have cne:∀ b,b < s.heap.objs.size→(∀ x c,X.env.cells.lookup x=some c→c ≠ b)→∀ x c,cs.lookup x=some c→c ≠ b:=fun b hb hold x c e z=>by
    rcases hcl2 x c e with w | ⟨w,_⟩
    · exact hold x c w z
    · rw [z] at w; exact Nat.lt_irrefl _ (Nat.lt_trans (Nat.lt_trans (Nat.lt_succ_self _) w) hb)
  have hfo:∀ b ∈ fp,∃ o,s.heap.get? b=some o:=fun b hb=>let ⟨o,e,_⟩:=T.obj 0 _ st b hb; ⟨o,e⟩
  have st1:tn 0 h₁:=T.keep 0 _ _ st fun b _ o e=>old b o e
  have hD0:H s.heap.objs.size=none:=I.hok.fresh (Nat.le_refl _)
  obtain ⟨W,⟨m0,w0⟩,turn⟩:=body _ hD0
  have J0:Inv (X.comp scope cs H2.objs.size N' s H fp pins) [] (zc1 σ ix n) (upd H s.heap.objs.size (.lst [])) { s with heap:=h₁ }:=by
    rw [hC] at hns₁ ⊢
    exact zkX (tk:=s.toks) B I hf hfo hcl2 hcf2 hinj hown hnew old hacc hns₁
  have fpOk:∀ {H':Hp},(∀ b ∈ fp,H' b=none)→∀ b ∈ fp,FpOk (X.comp scope cs H2.objs.size N' s H fp pins) [] H' b:=fun hn b hb=>by
    obtain ⟨f0,f1,f2,f3,f4,f5⟩:=hf b hb
    obtain ⟨o,e⟩:=hfo b hb
    refine ⟨hn b hb,below b (Heap.lt_size e),fun z=>?_,.inl hb,cne b (Heap.lt_size e) f4,fun p hp=>f5 p ?_⟩
    · rcases List.mem_cons.mp (I.stkSub b z) with q | q
      · exact f1 q
      · exact f2 q
    · rw [List.append_nil] at hp
      exact hp
  have fp0:∀ b ∈ fp,upd H s.heap.objs.size (.lst []) b=none:=fun b hb=>by
    obtain ⟨o,e⟩:=hfo b hb
    rw [zag (Nat.ne_of_lt (Heap.lt_size e))]
    exact (hf b hb).1
  have loop:∀ s₃:Shared,s₃ = { s with heap:=h₁ } →
      codeAny (model X.prog X.w) X.A (.compLoop (.ListComp elt [⟨tg,iter,ifs,0⟩] scope pos) 0 (.ref it) (.ref s.heap.objs.size) (compEnvC scope cs H2.objs.size X.env)) (RR (.ref s.heap.objs.size) H2.objs.size) s₃:=by
    rintro s₃ rfl
    refine zhX (fun k s'=>∃ i ys σ2 H3,Inv (X.comp scope cs H2.objs.size N' s H fp pins) [] σ2 H3 s'∧tn i s'.heap∧(∀ b ∈ fp,H3 b=none)∧W i k ys σ2 H3) ?_ m0 ⟨0,[],_,_,J0,st1,fp0,w0⟩
    rintro k s3 ⟨i,ys,σ3,H3,I3,st3,fr3,w3⟩
    obtain ⟨hD3,alt⟩:=turn i k ys σ3 H3 w3
    rcases alt with ⟨stop,q⟩ | ⟨go,N,hN,step⟩
    · refine thn (T.done (X.comp scope cs H2.objs.size N' s H fp pins) rfl rfl rfl hc i [] s3 σ3 H3 _ I3 (fpOk fr3) st3 stop) fun r s4 ⟨hr,I4⟩=>?_
      subst hr
      obtain ⟨m4,hn4,_⟩:=I4.loc
      refine hRR _ _ H3 s4 m4 (zlz I hf I4) hn4 ⟨I4.free,fun z=>?_,fun z=>?_,.inr (Nat.le_trans I.sz (by omega)),fun x c e z=>?_,fun p hp z=>?_⟩ q
      · have lt:=I.lt
        rw [← z,hC] at lt
        exact absurd lt (Nat.not_lt.mpr (Nat.le_succ _))
      · exact I.nofs (show s.heap.objs.size ≤ H2.objs.size by omega) z
      · obtain ⟨v,o,ho,_⟩:=I.cell x c e
        have lt:=Heap.lt_size ho
        rw [z,hC] at lt
        exact absurd lt (Nat.not_lt.mpr (Nat.le_succ _))
      · have lt:=Heap.lt_size (I.pin p hp).1
        rw [z,hC] at lt
        exact absurd lt (Nat.not_lt.mpr (Nat.le_succ _))
    · refine thn (T.item (X.comp scope cs H2.objs.size N' s H fp pins) rfl rfl rfl hc i [] s3 σ3 H3 _ I3 (fpOk fr3) st3 go) fun r s4 ⟨u,hr,h4⟩=>?_
      subst hr
      refine thn h4 fun _ s5 ⟨x,H5,I5,r5,y5,st5,fr5⟩=>?_
      have I5':=I5.pinned (fpOk fr5) (T.obj _ _ st5)
      have back:∀ {σ7:St} {H7:Hp} {s7:Shared} {ys':List V},Inv (X.comp scope cs H2.objs.size N' s H fp pins) ([] ++ zgZ fp s5.heap) σ7 H7 s7→N ys' σ7 H7 →
          ∃ m,m < k∧∃ i ys σ2 H3,Inv (X.comp scope cs H2.objs.size N' s H fp pins) [] σ2 H3 s7∧tn i s7.heap∧(∀ b ∈ fp,H3 b=none)∧W i m ys σ2 H3:=fun {σ7 H7 s7 ys'} I7 n7=>by
        obtain ⟨m',hm,w7⟩:=hN ys' σ7 H7 n7
        refine ⟨m',hm,i + 1,ys',σ7,H7,I7.unpinned,T.keep _ _ _ st5 fun b hb o e=>(I7.pin (b,o) (List.mem_append_right _ (List.mem_append_right _ (zds hb e)))).1,fun b hb=>?_,w7⟩
        obtain ⟨o,e,d⟩:=T.obj _ _ st5 b hb
        exact (I7.pin (b,o) (List.mem_append_right _ (List.mem_append_right _ (zds hb e)))).2.1
      refine thn (B.tgt cs H2.objs.size s H fp pins _ s5 σ3 H5 x u _ I5' r5 (step x H5 y5)) fun _ s6 ⟨σ6,H6,I6,q6⟩=>?_
      have fin:∀ (b:Bool) (s7:Shared),TP (X.comp scope cs H2.objs.size N' s H fp pins) ([] ++ zgZ fp s5.heap) σ6
          (fun b H4=>if b=true then te σ6 H4 fun y H5=>H5 s.heap.objs.size=some (.lst ys)∧ys.length < sizeLine∧N (ys ++ [y]) σ6 (upd H5 s.heap.objs.size (.lst (ys ++ [y]))) else N ys σ6 H4) b s7 →
          if b=true then wpAny (model X.prog X.w) X.A (eval elt (compEnvC scope cs H2.objs.size X.env)) (fun x s₄ =>
              wpAny (model X.prog X.w) X.A (call (.builtin "list.append") [.ref s.heap.objs.size,x]) (fun _ s₅=>∃ m,m < k∧∃ i ys σ2 H3,Inv (X.comp scope cs H2.objs.size N' s H fp pins) [] σ2 H3 s₅∧tn i s₅.heap∧(∀ b ∈ fp,H3 b=none)∧W i m ys σ2 H3) (fun _ _=>False) s₄) (fun _ _=>False) s7
            else ∃ m,m < k∧∃ i ys σ2 H3,Inv (X.comp scope cs H2.objs.size N' s H fp pins) [] σ2 H3 s7∧tn i s7.heap∧(∀ b ∈ fp,H3 b=none)∧W i m ys σ2 H3:=by
        rintro b s7 ⟨H7,I7,q7⟩
        cases b with
        | false =>
          rw [if_neg Bool.false_ne_true] at q7 ⊢
          exact back I7 q7
        | true =>
          rw [if_pos rfl] at q7 ⊢
          refine thn (B.elt cs H2.objs.size s H fp pins _ s7 σ6 H7 _ I7 q7) fun y s8 ⟨yv,H8,I8,r8,hD8,hz,n8⟩=>?_
          refine thn (zb6 _ s8 σ6 H8 (.ref s.heap.objs.size) [yv] (.ref s.heap.objs.size) [y] (fun _ H9=>N (ys ++ [yv]) σ6 H9) I8 rfl (.cons r8 .nil) ⟨_,ys,yv,rfl,rfl,hD8,hz,n8⟩) fun _ s9 ⟨_,H9,I9,_,n9⟩=>?_
          exact back I9 n9
      rcases B.test with ⟨e1,e2⟩ | ⟨c,t,e1,e2,ht⟩
      · subst e1; subst e2
        exact wpAny_tests_nil (fin true s6 ⟨H6,I6,q6⟩)
      · subst e1; subst e2
        exact wpAny_tests_one (thn (ht cs H2.objs.size s H fp pins _ s6 σ6 H6 _ I6 q6) fun b s7 z=>fin b s7 z)
  exact codeAny_compStart_list (loop _ rfl) (T.self X.A 0 _ _ _ st1 (loop _ rfl))
theorem zeJ {wi:TI} (hc:X.calm=true) (hi:PI X tg iter wi) (B:CompOk X scope N' ix n tg elt ifs g tc te) (hs:∀ x,foldedSetIterable iter X.env x=pure x:=by intro _; rfl) :
    PE X (.ListComp elt [⟨tg,iter,ifs,0⟩] scope pos) (zjk wi ix n g tc te):=by
  intro pins s σ H Q I h
  rw [eval_ListComp]
  obtain ⟨cl,hclos,hcl,hcf⟩:=zfj (scope:=scope) (env:=X.env) fun y hy hf=>I.ok.has _ (B.free y hy hf)
  refine wpAny_comprehension_free (use:=none) rfl hs hclos B.kind B.names (thn (hi pins s σ H _ I h) fun v s1 h1=>thn h1 fun itv s2 h2=>?_)
  obtain ⟨it,fp,tn,J,H2,rfl,I2,T,st2,f2,body⟩:=h2
  refine zjw (RR:=fun acc C=>compPost (model X.prog X.w) X.A X.xe none (EP X pins σ Q) acc C) B hc I2 T st2 f2 hcl hcf body fun D C H' s' m I' hn hC q=>⟨m,hn,fun h' hs'=>?_⟩
  obtain ⟨f0,f1,f2',f3,f4,f5⟩:=hC
  exact ⟨.ref D,H',I'.turned (t':=s'.toks) (fun b o hb e=>(hs'.2 b hb).trans e) f0 f1 f3 f4 f5,rfl,q⟩
theorem zf9 {wi:TI} {i:Nat} {y:Str} {py spos:Pos} (hN:X.N.Nodup) (hiN:X.N[i]?=some y) (hy:Loc X.env.scope y) (hc:X.calm=true) (hi:PI X tg iter wi) (B:CompOk X scope N' ix n tg elt ifs g tc te)
    (hsw:swapsWith (.ListComp elt [⟨tg,iter,ifs,0⟩] scope pos) (some (.Name y py)) spos.line X.env=pure true) (hf:X.fn y=true∨X.env.scope.names.lookup y=some .local:=by first | exact .inl rfl | exact .inr rfl | assumption)
    (hs:∀ x,foldedSetIterable iter X.env x=pure x:=by intro _; rfl) :
    PS X (.Assign [.Name y py] (.ListComp elt [⟨tg,iter,ifs,0⟩] scope pos) spos) (tAsg (zjk wi ix n g tc te) (zfu i)):=by
  intro pins s σ H D I h
  rw [exec_Assign_Name_used _ _ _ _ hsw]
  refine wpAny_bind (wpAny_standAt (wpAny_bind ?_))
  show wpAny _ X.A (do let _ ← comprehension (.ListComp elt [⟨tg,iter,ifs,0⟩] scope pos) scope X.env _ (newList []) false (eval iter X.env) (some (assign (.Name y py) X.env))) _ _ s
  obtain ⟨cl,hclos,hcl,hcf⟩:=zfj (scope:=scope) (env:=X.env) fun y hy hf=>I.ok.has _ (B.free y hy hf)
  refine wpAny_bind (wpAny_mono (wpAny_comprehension_free (use:=some (assign (.Name y py) X.env)) (Q:=fun _ s'=>SP X pins D .next s') rfl hs hclos B.kind B.names
    (thn (hi pins s σ H _ I h) fun v s1 h1=>thn h1 fun itv s2 h2=>?_)) (fun _ s' hq=>wpAny_pure (wpAny_pure hq)) fun _ _ e=>e)
  obtain ⟨it,fp,tn,J,H2,rfl,I2,T,st2,f2,body⟩:=h2
  refine zjw (Q:=fun x H1=>zfu i x σ H1 D.nx) (RR:=fun acc C=>compPost (model X.prog X.w) X.A X.xe (some (assign (.Name y py) X.env)) (fun _ s'=>SP X pins D .next s') acc C) B hc I2 T st2 f2 hcl hcf body fun D' C H' s' m I' hn hC q=>?_
  obtain ⟨f0,f1,f2',f3,f4,f5⟩:=hC
  have Ip := I'.pinned (fp := [C]) (fun b hb => by have e : b = C := by simpa using hb
                                                   subst e; exact ⟨f0,f1,f2',f3,f4,f5⟩) (fun b hb=>by
    have e:b=C:=by simpa using hb
    subst e
    obtain ⟨o,es,ep,ho,hd,_⟩:=hn
    exact ⟨o,ho,fun v z=>by rw [hd] at z; cases z⟩)
  refine wpAny_assign_Name (ze1 Ip hN hiN hy (v:=.ref D') rfl (fun s'' I''=>?_) hf)
  obtain ⟨o,es,ep,ho,hd,hr⟩:=hn
  have pinC:=I''.pin (C,o) (List.mem_append_right _ (List.mem_append_right _ (zds (by simp) ho)))
  refine ⟨m,⟨o,es,ep,pinC.1,hd,hr⟩,fun h' hs'=>?_⟩
  exact ⟨_,H',(I''.unpinned).turned (t':=s''.toks) (fun b o hb e=>(hs'.2 b hb).trans e) pinC.2.1 f1 f3 f4 f5,q⟩
end
end L2
namespace L2
open PySem PySem.Spec PyProof.Rows
section
variable {X:Cx} {scope:Scope} {tg elt:Expr} {ifs:List Expr} {g:TG} {tc:Option TT} {te:TE}
theorem zdR (osc:Scope) (oN N':List Str) (ix:List Nat) (n:Nat) (hosc:X.env.scope=osc) (hoN:X.N=oN) (kind:scope.kind = .function) (nocell:(scope.names.all fun y=>y.2 != .free || scope.names.all fun z=>!(z.1 == y.1) || z.2 != .cell)=true) (names:∀ y ∈ scope.names,y.2 = .local→scope.names.lookup y.1=some .local)
    (free:(scope.names.all fun y=>y.2 != .free || (osc.names.lookup y.1 == some .cell || osc.names.lookup y.1 == some .free))=true) (len:ix.length + n=N'.length)
    (take:((List.range ix.length).all fun j=>match N'[j]?,oN[ix.getD j 0]? with | some x,some y=>x == y && scope.names.lookup x == some .free | _,_=>false)=true)
    (tgt:∀ (cl:List (Str × Addr)) (C:Addr) (s:Shared) (H:Hp) (fp:List Addr) (pins:List (Addr × Obj)),PG (X.comp scope cl C N' s H fp pins) tg g)
    (elt':∀ (cl:List (Str × Addr)) (C:Addr) (s:Shared) (H:Hp) (fp:List Addr) (pins:List (Addr × Obj)),PE (X.comp scope cl C N' s H fp pins) elt te)
    (test:(ifs = []∧tc=none)∨∃ c t,ifs = [c]∧tc=some t∧∀ (cl:List (Str × Addr)) (C:Addr) (s:Shared) (H:Hp) (fp:List Addr) (pins:List (Addr × Obj)),PT (X.comp scope cl C N' s H fp pins) c t) :
    CompOk X scope N' ix n tg elt ifs g tc te :=
  ⟨kind,fun y hy e hc=>by
    have z:=List.all_eq_true.mp nocell y hy
    rw [e] at z
    have z2:(scope.names.all fun w=>!(w.1 == y.1) || w.2 != .cell)=true:=by simpa using z
    have z3:=List.all_eq_true.mp z2 _ hc
    simp at z3,names,fun y hy e=>by
    have z:=List.all_eq_true.mp free y hy
    rw [e] at z
    have z':(osc.names.lookup y.1 == some .cell || osc.names.lookup y.1 == some .free)=true:=by simpa using z
    show X.env.scope.names.lookup y.1=_∨X.env.scope.names.lookup y.1=_
    rw [hosc]
    simpa using z',len,fun j i e=>by
    obtain ⟨hj,_⟩:=List.getElem?_eq_some_iff.mp e
    have e2:ix.getD j 0=i:=by
      rw [List.getD_eq_getElem?_getD,e]
      rfl
    have z:=List.all_eq_true.mp take j (List.mem_range.mpr hj)
    rw [e2] at z
    cases h1:N'[j]? with
    | none=>rw [h1] at z; cases z
    | some x =>
      cases h2:oN[i]? with
      | none=>rw [h1,h2] at z; cases z
      | some y =>
        rw [h1,h2] at z
        have z':x=y∧scope.names.lookup x=some .free:=by simpa using z
        obtain ⟨rfl,z2⟩:=z'
        exact ⟨x,rfl,by rw [hoN]; exact h2,z2⟩,tgt,elt',test⟩
end
structure Has (P:Program) (w:World) (K:PySem.W.Frag) (mg:Str→Option Value) (base:Heap) (CX:CXT) (k:Nat) (x:Str) (ps:List Str) (sp:Sp):Prop where
  ex:∃ (f:Addr) (fd:FuncData),FnOk P w K mg base CX k f fd ps sp∧mg x=some (.ref f)∧PySem.W.keepIn K (.ref f)=true∧Binds K fd ps []
section
variable {X:Cx} {CX:CXT} {k:Nat} {x:Str} {ps:List Str} {sp:Sp} {E:XK} {p pos:Pos} {e:Expr} {es:List Expr} {t:TA}
theorem zbv (G:Has X.prog X.w X.K X.mg X.base CX k x ps sp) (hr:Room k X.A) (hg:Gl X x) (hx:zez CX X E)
    (ha:PA X (e :: es) t) (hdb:(x == ("__debug__" : Str))=false:=by decide) (he:starEach (e :: es) X.env=(false,eval e X.env) :: starEach es X.env:=by rfl) (hpl:(backTo pos (starEach es X.env)).any (·.1)=false:=by rfl) :
    PE X (.Call (.Name x p) (e :: es) [] pos) (zkm sp [] E t):=by
  obtain ⟨f,fd,F,hm,hk,hb⟩:=G.ex
  exact zpp F hr hg hm hk hb .nil hx ha hdb he hpl
end
structure DefAt (K:PySem.W.Frag) (x:Str) (st:Stmt) (f:Addr) (fd:FuncData):Prop where
  ns:PySem.W.nsIn K mainGlobals x=some (some (.ref f))
  fn:Fun K x x st f fd
theorem defAt_mk {K:PySem.W.Frag} {x:Str} {st:Stmt} {f:Addr} {oc:Value} {od an:Option Addr} {osl:Array (Option Value)} {kV doc pm cdv ct:Value} (a:PySem.W.nsIn K mainGlobals x=some (some (.ref f)))
    (l:K.lookup f=some ⟨oc,od,.func (PySem.W.fnOf x x (zeh st) (zdb st) (zao st) .none kV doc pm an cdv ct),osl⟩) (c:PySem.W.codeIn K cdv x=true) (k:PySem.W.keepIn K (.ref f)=true):∃ f fd,DefAt K x st f fd :=
  ⟨f,_,a,zmD l c k⟩
theorem DefAt.has {P:Program} {w:World} {K:PySem.W.Frag} {mg:Str→Option Value} {base h:Heap} {CX:CXT} {k:Nat} {x:Str} {st:Stmt} {f:Addr} {fd:FuncData} {ps:List Str} {sp:Sp} (D:DefAt K x st f fd) (X:K.In h) (G:h.Ns mainGlobals mg)
    (ok:FnOk P w K mg base CX k f fd ps sp) (b:Binds K fd ps []):Has P w K mg base CX k x ps sp:=⟨f,fd,ok,PySem.W.mg_of X G D.ns,D.fn.kp,b⟩
theorem zqz {H:Hp} {a b:Addr} {o u:HO} (hn:H b=none) (h:H a=some o):upd H b u a=some o:=(zag (zaq h hn)).trans h
theorem Same.upd {H:Hp} {b:Addr} {u:HO} (hn:H b=none):Same H (upd H b u):=fun _ _ h=>zqz hn h
end L2
namespace L2
open PySem PySem.Spec PyProof.Rows
section
variable {X:Cx} {pos:Pos}
def gLst (K:PySem.W.Frag) (n:Nat) (t:TGs):TG:=fun v σ H Q=>∃ a xs,v = .ref a∧SqL K H a xs∧xs.length=n∧t xs σ H Q
theorem zmw {es:List Expr} {k:Nat} {t:TGs} {n:Nat} (hc:X.calm=true) (h:PGs X es t)
    (hn:(assignEach es X.env).length=n:=by rfl) (hst:(assignEach es X.env).findIdx? (·.1)=none:=by rfl):PG X (.Tuple es k pos) (gLst X.K n t):=by
  intro pins s σ H v u Q I r hw
  obtain ⟨a,xs,e1,hq,hl,hw⟩:=hw
  subst e1
  cases r
  obtain ⟨its,rv,ht,hz⟩:=I.list hq
  have hl2:=rv.length
  rw [assign_Tuple]
  refine wpAny_bind (wpAny_standAt ?_)
  unfold unpack
  rw [hn,hst]
  have e:n=its.toArray.size:=by rw [List.size_toArray]; omega
  rw [e]
  refine wpAny_bind (wpAny_holding (PySem.W.kun_itemsOf (I.ok.hd hc) ht.isList fun h' hx=>?_))
  have I1:Inv X pins σ H { s with heap:=h' }:=I.kept (t':=s.toks) fun b o e=>hx b o (Nat.ne_of_lt (Heap.lt_size e)) e
  exact h pins _ σ H xs _ Q I1 (by simpa using rv) hw
end
end L2
namespace L2
open PySem PySem.Spec PyProof.Rows
theorem kit_self {K:PySem.W.Frag} {T:String}:PySem.W.kitOne K (.type T) (.type T)=some true:=by
  unfold PySem.W.kitOne
  rw [if_pos (by simp)]
theorem kit_no {K:PySem.W.Frag} {S T:String} (h1:((Value.type S) == (Value.type T))=false) (h2:PySem.W.kitMeta T=true) (h3:(PySem.fastBuiltinMro S).map (·.contains (.type T))=some false):PySem.W.kitOne K (.type S) (.type T)=some false:=by
  unfold PySem.W.kitOne
  rw [h1,if_neg Bool.false_ne_true]
  show (if PySem.W.kitMeta T=true then PySem.W.subIn K (.type S) (.type T) else none)=some false
  rw [if_pos h2]
  exact h3
theorem kit_int_bool {K:PySem.W.Frag}:PySem.W.kitOne K (.type "int") (.type "bool")=some false:=kit_no (by decide +kernel) (by decide +kernel) (by decide +kernel)
end L2
namespace L2
open PySem PySem.Spec PyProof.Rows
structure Tr (h:Heap) (e T:Addr) (cls:Value) (dct:Option Addr) (fl:Value):Prop where
  ex:∃ (oe:Obj) (vs:Array Value) (oT:Obj) (ts:Array Value),h.get? e=some oe∧oe.cls=cls∧oe.dict=dct∧oe.data = .fields vs∧vs[1]?=some (.ref T)∧h.get? T=some oT∧oT.data = .fields ts∧ts[3]?=some fl
  ne:T ≠ e
structure FlyD (B:Heap) (l:List Env) (e:Addr) (cls:Value) (dct:Option Addr) (fl:Value) (h:Heap):Prop where
  stays:B.StaysIn h
  out:B.get? e=none
  fun':h.FunFrames B l
  tr:∃ T,B.get? T=none∧Tr h e T cls dct fl
theorem Obj.dict_mapFields (o:Obj) (f):(o.mapFields f).dict=o.dict:=by
  obtain ⟨c,d,dt,sl⟩:=o
  cases dt <;> rfl
theorem zcu {h:Heap} {a b:Addr} {o u:Obj} {vs:Array Value} (ha:h.get? a=some o) (hd:o.data = .fields vs) (hb:h.get? b=some u) (hn:∀ ws,u.data ≠ .fields ws):b ≠ a:=by
  intro z
  subst z
  rw [ha] at hb
  cases hb
  exact hn vs hd
section
variable {M:Model} {A:Around} {E:Value→Shared→Prop} {s:Shared} {B:Heap} {env:Env} {outer l:List Env} {L e:Addr} {cls:Value} {dct:Option Addr} {Q:Unit→Shared→Prop}
theorem zn6 {oe:Obj} {vs:Array Value} {head:Value} {had:Bool} (hfr:A.frames=some (env :: outer)) (hl:s.heap.FunFrames B (env :: outer)) (hf:env.frame=some L) (he:s.heap.get? e=some oe) (hd:oe.data = .fields vs) (hsz:1 < vs.size)
    (hst:B.StaysIn s.heap) (hen:B.get? e=none) (h:∀ h',FlyD B (env :: outer) e oe.cls oe.dict (rawInt L) h'→s.heap.UpToSlots h'→Q () { s with heap:=h' }) :
    wpAny M A (do let a ← frameOf env; let pl ← entryPlaceOf L had; let b ← EntryCells.newEntry head a .none (rawInt L) .none pl; setField (.ref e) 1 b) Q E s:=by
  have noF:e ∉ (env :: outer).filterMap (·.frame):=fun hm=>by
    obtain ⟨_,o,ho,hn⟩:=hl.mem hm
    exact zcu he hd ho hn rfl
  refine wpAny_bind (wpAny_frameOf_fun hfr hl hf fun h₁ hs₁=>wpAny_bind (wpAny_entryPlaceOf fun pl hpl=>?_))
  have e1:h₁.get? e=some oe:=(hs₁.2.1 e noF).trans he
  have st1:B.StaysIn h₁:=fun b o q=>(hs₁.2.1 b fun hm=>by rw [(hl.mem hm).1] at q; cases q).trans (hst b o q)
  unfold EntryCells.newEntry newFields
  refine wpAny_bind (wpAny_newObj_type ?_ (hpl.sizeOk5 _ _ _ _ _))
  generalize hto:({ cls:=.type "traceback",dict:=none,data:=.fields ([head,.ref L,.none,rawInt L,.none] ++ (if pl.isEmpty then List.replicate 6 Value.none else pl)).toArray }:Obj)=ot
  have td:∃ ts,ot.data = .fields ts∧ts[3]?=some (rawInt L):=by
    subst hto
    refine ⟨_,rfl,?_⟩
    rcases hpl with rfl | ⟨_,_,_,_,_,_,_,rfl⟩ <;> simp
  have nfr:ot.isFreed=false:=by
    obtain ⟨ts,d,_⟩:=td
    exact Obj.isFreed_of_fields d
  have e2:(h₁.push ot).get? e=some oe:=Heap.get?_push_of_some _ e1
  refine wpAny_setField e2 hd hsz (h _ ?_ ?_)
  · have ne1:h₁.objs.size ≠ e:=Nat.ne_of_gt (Heap.lt_size e1)
    have kp:∀ b o,b ≠ e→h₁.get? b=some o→((h₁.push ot).update e (Obj.mapFields (·.setIfInBounds 1 (Value.ref h₁.objs.size)))).get? b=some o:=fun b o hb q=>by
      rw [Heap.get?_update_other _ _ (Ne.symm hb)]
      exact Heap.get?_push_of_some _ q
    have d3:=Obj.data_mapFields hd (·.setIfInBounds 1 (Value.ref h₁.objs.size))
    refine ⟨fun b o q=>kp b o (fun z=>by rw [z,hen] at q; cases q) (st1 b o q),hen,hl.of_keeps fun b o hb hn=>?_,h₁.objs.size,st1.fresh,⟨?_,ne1⟩⟩
    · obtain ⟨sl,q⟩:=hs₁.2.2 b o hb
      exact ⟨_,kp b _ (zcu he hd hb hn) q,rfl⟩
    · obtain ⟨ts,t1,t2⟩:=td
      refine ⟨_,_,ot,ts,Heap.get?_update_self _ e2 (Obj.isFreed_of_fields d3),Obj.cls_mapFields _ _,Obj.dict_mapFields _ _,d3,by simp [hsz],?_,t1,t2⟩
      rw [Heap.get?_update_other _ _ (Ne.symm ne1)]
      exact Heap.get?_push_size _ nfr
  · intro b o hb hn
    obtain ⟨sl,q⟩:=hs₁.2.2 b o hb
    refine ⟨sl,?_⟩
    rw [Heap.get?_update_other _ _ (Ne.symm (zcu he hd hb hn))]
    exact Heap.get?_push_of_some _ q
theorem zj6 {fl:Value} (F:FlyD B l e cls dct fl s.heap) (h:∀ h',FlyD B l e cls dct .none h'→s.heap.UpToSlots h'→Q () { s with heap:=h' }):wpAny M A (setFlight (.ref e) none) Q E s:=by
  obtain ⟨T,bT,⟨oe,vs,oT,ts,he,hc,hdc,hd,h1,hT,hdT,h3⟩,ne⟩:=F.tr
  have sz:3 < ts.size:=(Array.getElem?_eq_some_iff.mp h3).1
  have oth:∀ b o,b ≠ T→s.heap.get? b=some o→(s.heap.update T (Obj.mapFields (·.setIfInBounds 3 Value.none))).get? b=some o:=fun b o hb q=>by
    rw [Heap.get?_update_other _ _ (Ne.symm hb)]
    exact q
  unfold setFlight
  refine wpAny_bind (wpAny_field he hd h1 ?_)
  rw [if_pos (show (Value.ref T != Value.none)=true by simp)]
  refine wpAny_setField hT hdT sz (h _ ⟨fun b o q=>oth b o (fun z=>by rw [z,bT] at q; cases q) (F.stays b o q),F.out,F.fun'.of_keeps fun b o hb hn=>⟨o,oth b o (zcu hT hdT hb hn) hb,rfl⟩,T,bT,⟨?_,ne⟩⟩ fun b o hb hn=>⟨o.slots,oth b o (zcu hT hdT hb hn) hb⟩)
  exact ⟨oe,vs,_,_,oth e oe (Ne.symm ne) he,hc,hdc,hd,h1,Heap.get?_update_self _ hT (Obj.isFreed_of_fields (Obj.data_mapFields hdT _)),Obj.data_mapFields hdT _,by simp [sz]⟩
theorem zm6 {h:Heap} {args:List Value} (hfr:A.frames=some (env :: outer)) (hf:env.frame=some L) (hst:B.StaysIn h) (hl:h.FunFrames B (env :: outer)) (hx:Heap.MadeExcOf h s.heap e cls args)
    (k:∀ h',FlyD B (env :: outer) e cls none (rawInt L) h'→s.heap.UpToSlots h'→Q () { s with heap:=h' }):wpAny M A (noteFrame (.ref e) env) Q E s:=by
  obtain ⟨t,he,_,_⟩:=hx.there
  have oe:B.get? e=none:=by
    cases q:B.get? e with
    | none=>rfl
    | some o=>have z:=hst e o q; rw [hx.new] at z; cases z
  unfold noteFrame
  simp only [hf]
  refine wpAny_bind (wpAny_field he rfl (x:=Value.none) rfl ?_)
  rw [if_neg (by decide)]
  exact zn6 hfr (hl.of_keeps fun b o hb _=>⟨o,hx.keeps b o hb,rfl⟩) hf he rfl (by simp) (fun b o q=>hx.keeps b o (hst b o q)) oe k
theorem zmr (hfr:A.frames=some (env :: outer)) (hf:env.frame=some L) (F:FlyD B (env :: outer) e cls dct .none s.heap)
    (k:∀ h',FlyD B (env :: outer) e cls dct (rawInt L) h'→s.heap.UpToSlots h'→Q () { s with heap:=h' }):wpAny M A (noteFrame (.ref e) env) Q E s:=by
  obtain ⟨T,bT,⟨oe,vs,oT,ts,he,hc,hdc,hd,h1,hT,hdT,h3⟩,ne⟩:=F.tr
  have sz:3 < ts.size:=(Array.getElem?_eq_some_iff.mp h3).1
  have oth:∀ b o,b ≠ T→s.heap.get? b=some o→(s.heap.update T (Obj.mapFields (·.setIfInBounds 3 Value.none))).get? b=some o:=fun b o hb q=>by
    rw [Heap.get?_update_other _ _ (Ne.symm hb)]
    exact q
  subst hc
  subst hdc
  unfold noteFrame
  simp only [hf]
  refine wpAny_bind (wpAny_field he hd h1 ?_)
  rw [if_pos (show (Value.ref T != Value.none)=true by simp)]
  refine wpAny_bind (wpAny_field hT hdT h3 ?_)
  rw [if_neg (show ¬ ((Value.none == rawInt L)=true) by simp [rawInt])]
  refine wpAny_bind (wpAny_setField hT hdT sz ?_)
  refine zn6 hfr (F.fun'.of_keeps fun b o hb hn=>⟨o,oth b o (zcu hT hdT hb hn) hb,rfl⟩) hf (oth e oe (Ne.symm ne) he) hd (Array.getElem?_eq_some_iff.mp h1).1 (fun b o q=>oth b o (fun z=>by rw [z,bT] at q; cases q) (F.stays b o q)) F.out fun h' F' up=>?_
  exact k h' F' fun b o hb hn=>up b o (oth b o (zcu hT hdT hb hn) hb) hn
theorem FlyD.pop {h:Heap} {fl:Value} (F:FlyD B (env :: outer) e cls dct fl h):FlyD B outer e cls dct fl h:=⟨F.stays,F.out,F.fun'.2.2,F.tr⟩
end
end L2
namespace L2
open PySem PySem.Spec PyProof.Rows
structure Fly (P:Program) (w:World) (outer:List Env) (H:Hp) (s:Shared) (e:Addr) (cls:Value) (dct:Option Addr) (H':Hp) (s':Shared):Prop where
  os:s'.os=s.os
  bare:AllBare s'.gens
  un:Un (frs outer) [] H H' s.heap s'.heap
  lay:∃ B,FlyD B outer e cls dct .none s'.heap∧HOk P w H' B∧∀ b o,s.heap.get? b=some o→b ∉ frs outer→∃ o',B.get? b=some o'∧(H b=none→o'=o)
def CX1 (P:Program) (w:World):CXT:=fun outer H s E e s'=>∃ (ea C:Addr) (dct:Option Addr) (H':Hp),e = .ref ea∧Fly P w outer H s ea (.ref C) dct H' s'∧E (.ref C) dct H'
theorem HOk.fly {P:Program} {w:World} {H:Hp} {B h:Heap} (x:HOk P w H B) (st:B.StaysIn h):HOk P w H h:=x.kept fun b u q=>st b u q
theorem HOk.none_of {P:Program} {w:World} {H:Hp} {B:Heap} {a:Addr} (x:HOk P w H B) (n:B.get? a=none):H a=none:=by
  cases q:H a with
  | none=>rfl
  | some o =>
    have z:=x.lt q
    have z2:=(x a o q)
    exfalso
    cases o with
    | lst xs=>obtain ⟨_,_,_,_,e⟩:=z2; rw [n] at e; cases e
    | tup xs=>obtain ⟨_,_,_,o,e,_⟩:=z2; rw [n] at e; cases e
    | dK kvs=>obtain ⟨_,_,_,_,o,_,_,e,_⟩:=z2; rw [n] at e; cases e
    | dT kvs=>obtain ⟨_,_,_,_,o,_,_,e,_⟩:=z2; rw [n] at e; cases e
    | set S n'=>obtain ⟨o,_,_,_,e,_⟩:=z2; rw [n] at e; cases e
    | ins C dx fs=>obtain ⟨_,_,_,e,_⟩:=z2; rw [n] at e; cases e
    | own y=>obtain ⟨_,e⟩:=z2; rw [n] at e; cases e
    | xd fs=>obtain ⟨_,⟨_,_,_,e,_⟩,_⟩:=z2; rw [n] at e; cases e
    | rng lo hi=>obtain ⟨_,_,_,e⟩:=z2; rw [n] at e; cases e
    | frz ob u=>obtain ⟨e,_⟩:=z2; rw [n] at e; cases e
    | tbl ps=>obtain ⟨_,_,_,_,_,_,_,e,_⟩:=z2; rw [n] at e; cases e
    | met f y=>have e:B.get? a=some _:=z2; rw [n] at e; cases e
    | ext φ=>obtain ⟨_,⟨_,e⟩,_⟩:=z2; rw [n] at e; cases e
theorem zjy {fs fr:List Addr} {H0 H1 H2:Hp} {h0 h1 h2 h3 B:Heap} {L:Addr} (U:Un fs [] H0 H1 h0 h1) (V:Un fr [] H1 H2 h1 h2) (hL:h0.objs.size ≤ L) (sub:∀ b ∈ fr,b ∈ L :: fs) (sup:∀ b ∈ fs,b ∈ fr) (frf:∀ b ∈ fs,H0 b=none)
    (ndat:∀ b ∈ fs,∀ o,h2.get? b=some o→∀ vs,o.data ≠ .fields vs) (up:h2.UpToSlots h3) (st:B.StaysIn h3) (all:∀ b o,h1.get? b=some o→b ∉ fr→∃ o',B.get? b=some o'∧(H1 b=none→o'=o)) :
    Un fs [] H0 H2 h0 h3∧∀ b o,h0.get? b=some o→b ∉ fs→∃ o',B.get? b=some o'∧(H0 b=none→o'=o):=by
  have nfr:∀ b o,h0.get? b=some o→b ∉ fs→b ∉ fr:=fun b o e hb hm=>by
    rcases List.mem_cons.mp (sub b hm) with z | z
    · exact absurd (Nat.lt_of_lt_of_le (Heap.lt_size e) hL) (by rw [z]; exact Nat.lt_irrefl _)
    · exact hb z
  have third:∀ b o,h0.get? b=some o→b ∉ fs→∃ o',B.get? b=some o'∧(H0 b=none→o'=o):=fun b o e hb=>by
    obtain ⟨o1,e1⟩:=U.there b o e (by simp)
    obtain ⟨o2,e2,z⟩:=all b o1 e1 (nfr b o e hb)
    refine ⟨o2,e2,fun n=>?_⟩
    have e1':=U.keep b o e n hb (by simp)
    rw [e1] at e1'
    cases e1'
    exact z (U.free b o e n (by simp))
  have slots:∀ b o,h0.get? b=some o→b ∈ fs→∃ sl,h3.get? b=some { o with slots:=sl }:=fun b o e hb=>by
    have n:=frf b hb
    obtain ⟨s1,e1⟩:=U.slot b o e n hb (by simp)
    obtain ⟨s2,e2⟩:=V.slot b _ e1 (U.free b o e n (by simp)) (sup b hb) (by simp)
    obtain ⟨s3,e3⟩:=up b _ e2 (ndat b hb _ e2)
    exact ⟨s3,e3⟩
  refine ⟨⟨fun b o e n hb _=>?_,fun b o e n hb _=>slots b o e hb,fun b o e n _=>?_,fun b o e _=>?_,fun b xs e=>V.tups b xs (U.tups b xs e),fun b o u e=>V.frzs b o u (U.frzs b o u e),fun b ps e=>?_⟩,third⟩
  · obtain ⟨o',e',z⟩:=third b o e hb
    rw [z n] at e'
    exact st b o e'
  · obtain ⟨o1,e1⟩:=U.there b o e (by simp)
    exact V.free b o1 e1 (U.free b o e n (by simp)) (by simp)
  · by_cases hb:b ∈ fs
    · obtain ⟨sl,q⟩:=slots b o e hb
      exact ⟨_,q⟩
    · obtain ⟨o',e',_⟩:=third b o e hb
      exact ⟨o',st b o' e'⟩
  · obtain ⟨m1,e1⟩:=U.tbls b ps e
    obtain ⟨m2,e2⟩:=V.tbls b _ e1
    exact ⟨m1 ++ m2,by rw [e2,Array.append_assoc]⟩
section
variable {P:Program} {w:World} {K:PySem.W.Frag} {mg:Str→Option Value} {base:Heap} {N:List Str} {qual:Str} {scope:Scope} {f:Addr} {cd:Value} {A:Around} {outer:List Env} {s0:Shared} {H0:Hp} {E:XK}
abbrev cx1 (P:Program) (w:World) (K:PySem.W.Frag) (mg:Str→Option Value) (base:Heap) (N:List Str) (qual:Str) (scope:Scope) (f:Addr) (cd:Value) (A:Around) (outer:List Env) (s0:Shared) (H0:Hp) (E:XK):Cx:=cxOf (CX1 P w) P w K mg base N qual scope f cd A outer s0 H0 E
theorem znu {pins:List (Addr × Obj)} {σ:St} {H:Hp} {s s':Shared} {ea C:Addr} {args:List Value} (I:Inv (cx1 P w K mg base N qual scope f cd A outer s0 H0 E) pins σ H s) (hm:Heap.MadeExcOf s.heap s'.heap ea (.ref C) args)
    (os:s'.os=s.os) (bare:AllBare s'.gens) (q:E (.ref C) none H):(cx1 P w K mg base N qual scope f cd A outer s0 H0 E).xe (.ref ea) s':=by
  have hin:∀ env ∈ (cx1 P w K mg base N qual scope f cd A outer s0 H0 E).stack,∀ a,env.frame=some a→a ∈ frs (cx1 P w K mg base N qual scope f cd A outer s0 H0 E).stack:=fun env he a ha=>List.mem_filterMap.mpr ⟨env,he,ha⟩
  have hstk:=I.stack
  show wpAny (model P w) _ (leaving _ (.ref ea)) _ _ s'
  unfold leaving
  refine wpAny_bind (zm6 (B:=PySem.W.hideAll s.heap (frs (cx1 P w K mg base N qual scope f cd A outer s0 H0 E).stack)) I.ok.frames rfl (fun b o e=>PySem.W.of_hideAll _ e) (PySem.W.funFrames_hide hstk hin) hm fun h1 F1 up1=>?_)
  refine zj6 F1 fun h2 F2 up2=>?_
  have keepS:∀ b o,s.heap.get? b=some o→b ∉ frs (cx1 P w K mg base N qual scope f cd A outer s0 H0 E).stack→(PySem.W.hideAll s.heap (frs (cx1 P w K mg base N qual scope f cd A outer s0 H0 E).stack)).get? b=some o:=fun b o e hb=>PySem.W.hideAll_get _ e hb
  obtain ⟨u,third⟩:=zjy (h2:=s.heap) (h3:=h2) (B:=PySem.W.hideAll s.heap (frs (cx1 P w K mg base N qual scope f cd A outer s0 H0 E).stack)) (fr:=frs (cx1 P w K mg base N qual scope f cd A outer s0 H0 E).stack) I.base Un.refl I.ok.above I.stkSub
    (fun b hb=>List.mem_cons_of_mem _ hb) I.ok.frf (fun b hb o e=>by
      obtain ⟨_,o',ho',hn⟩:=hstk.mem (List.mem_cons_of_mem _ hb)
      rw [e] at ho'
      cases ho'
      exact hn) ((Heap.UpToSlots.of_keeps hm.keeps).trans (up1.trans up2)) F2.stays (fun b o e hb=>⟨o,keepS b o e hb,fun _=>rfl⟩)
  refine ⟨ea,C,none,H,rfl,⟨os.trans I.os,bare,u,_,F2.pop,?_,third⟩,q⟩
  intro a o e
  refine (I.hok a o e).stay (fun b v hb q=>keepS b v q fun z=>?_) (fun _ q=>q) fun _ _ q=>q
  have n:=I.stkFree b z
  rcases hb with rfl | hb
  · rw [e] at n; cases n
  · rw [hb] at n; cases n
theorem znG {pins:List (Addr × Obj)} {σ:St} {H:Hp} {s s':Shared} {e:Value} (I:Inv (cx1 P w K mg base N qual scope f cd A outer s0 H0 E) pins σ H s) (h:CX1 P w (cx1 P w K mg base N qual scope f cd A outer s0 H0 E).stack H s E e s') :
    (cx1 P w K mg base N qual scope f cd A outer s0 H0 E).xe e s':=by
  obtain ⟨ea,C,dct,H',rfl,F,q⟩:=h
  obtain ⟨B,fl,hok,third⟩:=F.lay
  have hstk:=I.stack
  show wpAny (model P w) _ (leaving _ (.ref ea)) _ _ s'
  unfold leaving
  refine wpAny_bind (zmr I.ok.frames rfl fl fun h1 F1 up1=>?_)
  refine zj6 F1 fun h2 F2 up2=>?_
  obtain ⟨u,third'⟩:=zjy (h3:=h2) (B:=B) I.base F.un I.ok.above I.stkSub (fun b hb=>List.mem_cons_of_mem _ hb) I.ok.frf (fun b hb o e=>by
      obtain ⟨_,o',ho',hn⟩:=fl.fun'.mem (List.mem_cons_of_mem _ hb)
      rw [e] at ho'
      cases ho'
      exact hn) (up1.trans up2) F2.stays third
  exact ⟨ea,C,dct,H',rfl,⟨F.os.trans I.os,F.bare,u,B,F2.pop,hok,third'⟩,q⟩
end
theorem zmh {K:PySem.W.Frag} {h:Heap} {C:Addr} {bmB:List Value} {newId:String} (X:K.In h) (q:PySem.W.excIn K C bmB newId=true) :
    ∃ bm N nm qn bs hdct sn sub ab col dd k0 k1 k2 k3 k5 mN,h.get? C=some (excClassObj nm qn C N bs bm hdct sn sub ab col dd k0 k1 k2 k3 k5 newId)∧h.Ns N mN∧mN "__init__"=none∧OwnTail h bmB bm:=by
  unfold PySem.W.excIn at q
  split at q
  · rename_i dd cd sl ho
    split at q
    · rename_i C' bm k0 k1 k2 k3 n k5 hm hs
      simp only [Bool.and_eq_true,beq_iff_eq,Bool.not_eq_true'] at q
      obtain ⟨⟨⟨⟨⟨rfl,rfl⟩,hdel⟩,ht⟩,hok⟩,hni⟩:=q
      obtain ⟨nm,bs,mro,ns,qn,hd,sn,sub,ab,col,del⟩:=cd
      dsimp only at hm hdel hok hni
      subst hm hdel
      obtain ⟨sll⟩:=sl
      simp only at hs
      subst hs
      exact ⟨bm,ns,nm,qn,bs,hd,sn,sub,ab,col,dd,k0,k1,k2,k3,k5,_,X _ _ ho,.of_isNs (PySem.W.isNs_of_in X hok),PySem.W.nsMap_none_of_in X hok hni,PySem.W.tail_of_in X ht⟩
    · cases q
  · cases q
def Made (X:Cx) (E:St→XK):Prop:=∀ (pins:List (Addr × Obj)) (σ:St) (H:Hp) (s s':Shared) (ea C:Addr) (args:List Value),Inv X pins σ H s→Heap.MadeExcOf s.heap s'.heap ea (.ref C) args→s'.os=s.os→AllBare s'.gens→E σ (.ref C) none H→X.xe (.ref ea) s'
def zhA (CX:CXT) (X:Cx) (E:St→XK):Prop:=∀ (pins:List (Addr × Obj)) (σ:St) (H:Hp) (s:Shared) (e:Value) (s':Shared),Inv X pins σ H s→CX X.stack H s (E σ) e s'→X.xe e s'
def zok (C:Addr) (E:St→XK) (t:TA):TS:=fun _ σ H=>t σ H fun vs H1=>vs.length ≤ sizeLine∧E σ (.ref C) none H1
section
variable {X:Cx} {x:Str} {np cpos pos:Pos} {e₀:Expr} {rest:List Expr} {C:Addr} {bmB bmN:List Value} {newId Bn B nid inN initId:String} {E:St→XK} {t:TA}
theorem zhh (hc:X.calm=true) (hg:Gl X x) (hmx:X.mg x=some (.ref C)) (hk:PySem.W.excIn X.K C bmB newId=true) (Fn:ExcBaseFacts Bn newId inN bmN) (hBn:bmB.contains (.type Bn)=true) (FB:ExcBaseFacts B nid initId bmB) (hE:Made X E)
    (ha:PA X (e₀ :: rest) t) (he:starEach (e₀ :: rest) X.env=(false,eval e₀ X.env) :: starEach rest X.env:=by rfl) (hplain:(backTo cpos (starEach rest X.env)).any (·.1)=false:=by rfl) (hdb:(x == ("__debug__" : Str))=false:=by decide) :
    PS X (.Raise (some (.Call (.Name x np) (e₀ :: rest) [] cpos)) none pos) (zok C E t):=by
  intro pins s σ H D I h
  obtain ⟨tl,N,nm,qn,bs,hdct,sn,sub,ab,col,dd,k0,k1,k2,k3,k5,mN,hC,hN,hni,T⟩:=zmh I.ok.mod.kin hk
  refine wpAny_Raise_call_subU (C:=C) (nm:=nm) (q:=qn) (N:=N) (bs:=bs) (bm:=tl) (hdct:=hdct) (sn:=sn) (sub:=sub) (ab:=ab) (col:=col) (dd:=dd) (k0:=k0) (k1:=k1) (k2:=k2) (k3:=k3) (k5:=k5)
    Fn hBn FB (mN:=mN) (T.hasType FB.hasBase) (I.ok.hd hc) (by rw [he]; show (false || (backTo cpos (starEach rest X.env)).any (·.1))=false; rw [hplain]; rfl) hni (zeI I hg hmx ⟨rfl,?_⟩ hdb)
  have hA:=ha cpos pins s σ H _ I h
  rw [he] at hA ⊢
  refine Calls.evalArgs_plain (thn hA fun us s1 ⟨vs,H1,I1,r1,z,q⟩=>?_)
  have bk:=I1.bk
  refine ⟨rfl,by rw [← r1.length]; exact z,bk _ _ hC,hN.keeps bk,T.keeps bk,fun h' ea hm=>?_⟩
  exact hE pins σ H1 s1 { s1 with heap:=h' } ea C us I1 hm rfl I1.bare q
end
def zmv (sp:Sp) (E:St→XK) (t:TA):TE:=fun σ H Q=>t σ H fun vs H1=>sp vs H1 Q (E σ)
section
variable {X:Cx} {CX:CXT} {k:Nat} {x:Str} {ps:List Str} {sp:Sp} {E:St→XK} {p pos:Pos} {e:Expr} {es:List Expr} {t:TA}
theorem zbY (G:Has X.prog X.w X.K X.mg X.base CX k x ps sp) (hr:Room k X.A) (hg:Gl X x) (hx:zhA CX X E)
    (ha:PA X (e :: es) t) (hdb:(x == ("__debug__" : Str))=false:=by decide) (he:starEach (e :: es) X.env=(false,eval e X.env) :: starEach es X.env:=by rfl) (hpl:(backTo pos (starEach es X.env)).any (·.1)=false:=by rfl) :
    PE X (.Call (.Name x p) (e :: es) [] pos) (zmv sp E t):=by
  obtain ⟨f,fd,F,hm,hk,hb⟩:=G.ex
  intro pins s σ H Q I h
  refine wpAny_Call_Name_kw (zeI I hg hm ?_ hdb)
  refine PySem.W.callWith_K (h₀:=X.base) I.ok.mod.kin hk (thn (ha pos pins s σ H _ I h) fun us s1 ⟨vs,H1,I1,r,q⟩=>⟨I1.kIn,?_⟩) he hpl
  have hl:us.length=ps.length:=by rw [← r.length]; exact F.len _ _ _ _ q
  have bd:BindsTo s1 fd ⟨us,[]⟩ (ps.zip us):=by
    have z:=hb s1 us I1.kIn (by rw [List.append_nil]; exact hl)
    rw [List.append_nil] at z
    exact z
  refine wpAny_call (codeAny_mono (F.run X.A X.stack s1 H1 ⟨us,[]⟩ us vs Q (E σ) hr I1.env0 bd r q) fun rs s' hq=>?_)
  cases rs with
  | error e'=>exact hx pins σ H1 s1 e' s' I1 hq
  | ok fl =>
    cases fl with
    | ret u=>exact I1.after hq
    | next=>exact False.elim hq
    | brk=>exact False.elim hq
    | cont=>exact False.elim hq
end
theorem zhT {K:PySem.W.Frag} {M:Model} {A:Around} {E:Value→Shared→Prop} {s:Shared} {Q:Bool→Shared→Prop} {e C D:Addr} {oe:Obj} (X:K.In s.heap) (he:s.heap.get? e=some oe) (hc:oe.cls = .ref C)
    (h1:PySem.W.kitCls K (.ref C) (.ref D)=some true) (h2:PySem.W.mroIn K D (.type "BaseException")=some true) (q:Q true s):wpAny M A (excMatches (.ref e) (.ref D)) Q E s:=by
  obtain ⟨hp,g,d,tk,os⟩:=s
  obtain ⟨l1,l2,l3⟩:=PySem.W.kit_cls (M:=M) X h1
  have l4:=PySem.W.looks_mroIn (M:=M) X h2
  have l5:PySem.W.Looks M hp (isInstance (.ref D) (.type "tuple")) false:=l1.andThen (PySem.W.Looks.of_pure tc_notTuple)
  have l6:PySem.W.Looks M hp (typeOf (.ref e)) (.ref C):=by
    rw [← hc]
    exact (PySem.W.Looks.ld he).andThen .now
  have l7:PySem.W.Looks M hp (isExcClass (.ref D)) true:=l2.andThen (by rw [if_pos rfl]; exact l4)
  unfold excMatches
  repeat (first | with_reducible refine PySem.W.Looks.at l5 ?_ | with_reducible refine PySem.W.Looks.at l6 ?_ | with_reducible refine PySem.W.Looks.at l7 ?_ | with_reducible refine PySem.W.Looks.at l3 ?_ | wp_step)
  exact q
def excO (C:Addr) (dct:Option Addr) (ea:Addr):HO:=.ext fun h=>∃ ob,h.get? ea=some ob∧ob.cls = .ref C∧ob.dict=dct∧∃ vs,ob.data = .fields vs
theorem Inv.track {X:Cx} {pins:List (Addr × Obj)} {σ:St} {H:Hp} {s:Shared} {ea:Addr} {o:HO} (I:Inv X pins σ H s) (hn:H ea=none) (h0:X.s₀.heap.get? ea=none) (hL:ea ≠ X.env.locals) (hc:∀ x c,X.env.cells.lookup x=some c→c ≠ ea)
    (hp:∀ p ∈ X.pn ++ pins,p.1 ≠ ea) (hnew:ObjOk X.prog X.w (upd H ea o) s.heap ea o):Inv X pins σ (upd H ea o) s:=by
  have ne:∀ {b:Addr} {u:HO},H b=some u→b ≠ ea:=fun q z=>by rw [z,hn] at q; cases q
  refine ⟨I.ok,I.os,I.bare,⟨I.base.keep,I.base.slot,fun b ob q n hx=>?_,I.base.there,fun b xs q=>?_,fun b ob u q=>?_,fun b ps q=>?_⟩,I.loc,I.cell,?_,fun x c q=>?_,fun p q=>?_,fun b u q=>?_,I.len⟩
  · rw [zag (fun z=>by rw [z,h0] at q; cases q)]
    exact I.base.free b ob q n hx
  · have z:=I.base.tups b xs q
    rw [zag (ne z)]; exact z
  · have z:=I.base.frzs b ob u q
    rw [zag (ne z)]; exact z
  · obtain ⟨m,z⟩:=I.base.tbls b ps q
    exact ⟨m,by rw [zag (ne z)]; exact z⟩
  · rw [zag (Ne.symm hL)]; exact I.free
  · rw [zag (hc x c q)]; exact I.freeC x c q
  · obtain ⟨a1,a2,a3,a4,a5⟩:=I.pin p q
    exact ⟨a1,by rw [zag (hp p q)]; exact a2,a3,a4,a5⟩
  · by_cases hb:b=ea
    · subst hb
      rw [zal] at q
      cases q
      exact hnew
    · rw [zag hb] at q
      exact (I.hok b u q).stay (fun c v _ z=>z) (fun c z=>by rw [zag (ne z)]; exact z) fun c xs z=>by rw [zag (ne z)]; exact z
def Cx.suite (X:Cx) (ea:Addr):Cx:={ X with A:=X.A.mark (some (.ref ea)),calm:=false,xe:=fun _ _=>False }
theorem Inv.suite {X:Cx} {pins:List (Addr × Obj)} {σ:St} {H:Hp} {s:Shared} (I:Inv X pins σ H s) (ea:Addr):Inv (X.suite ea) pins σ H s :=
  ⟨⟨I.ok.mod,I.ok.kind,I.ok.glob,I.ok.blt,I.ok.above,I.ok.inj,I.ok.has,I.ok.cab,fun z=>(by cases (show false=true from z)),I.ok.frames,I.ok.stk,I.ok.exf,I.ok.bs,I.ok.bsz,I.ok.noex,I.ok.exfs,I.ok.funs,I.ok.frf,I.ok.tb⟩,I.os,I.bare,I.base,I.loc,I.cell,I.free,I.freeC,I.pin,I.hok,I.len⟩
theorem Inv.unsuite {X:Cx} {pins:List (Addr × Obj)} {σ:St} {H:Hp} {s:Shared} {ea:Addr} (ok:X.Ok) (I:Inv (X.suite ea) pins σ H s):Inv X pins σ H s :=
  ⟨ok,I.os,I.bare,I.base,I.loc,I.cell,I.free,I.freeC,I.pin,I.hok,I.len⟩
def tTry (K:PySem.W.Frag) (D':Addr) (tb:(St→XK)→TS) (i:Nat) (th:TS):TS:=fun D σ H =>
  tb (fun σ' cls dct H'=>∃ C,cls = .ref C∧PySem.W.kitCls K (.ref C) (.ref D')=some true∧∀ ea,H' ea=none→th { nx:=fun σ2 H2=>D.nx (σ2.set i none) H2,rt:=D.rt,bk:=fun σ2 H2=>D.bk (σ2.set i none) H2,ct:=fun σ2 H2=>D.ct (σ2.set i none) H2 } (σ'.set i (some (.ref ea))) (upd H' ea (excO C dct ea))) D σ H
section
variable {P:Program} {w:World} {X:Cx} {x n:Str} {np hpos pos:Pos} {body:List Stmt} {b₀:Stmt} {suite:List Stmt} {D':Addr} {tb:(St→XK)→TS} {th:TS} {i:Nat}
theorem ze8 {pins:List (Addr × Obj)} {σ:St} {H:Hp} {s:Shared} {Q:Unit→Shared→Prop} (I:Inv X pins σ H s) (hN:X.N.Nodup) (hi:X.N[i]?=some n) (hn:X.env.kindOf n=some .local)
    (k:∀ s',Inv X pins (σ.set i none) H s'→Q () s'):wpAny (model X.prog X.w) X.A (do bindName X.env n .none; unbindBehindTheSuite X.env n hpos) Q X.xe s:=by
  have hk:X.env.scope.names.lookup n=some .local:=hn
  refine wpAny_bind (wpAny_bindName (ze1 I hN hi (.inl hk) (v:=.non) rfl (fun s1 I1=>?_) (.inr hk)))
  obtain ⟨m,hm,hl⟩:=I1.loc
  have li:i < σ.length:=by
    rw [I.len]
    exact (List.getElem?_eq_some_iff.mp hi).1
  obtain ⟨u,ru,lu⟩:=hl i n .non hi (by rw [List.getElem?_set_self li]) (.inl hk)
  have hv:m n=some u:=by
    rcases lu with ⟨_,z⟩ | ⟨z,_⟩
    · exact z
    · rcases z with z | z <;> (rw [hn] at z; cases z)
  unfold unbindBehindTheSuite
  refine wpAny_onRaise (wpAny_unbindName_local hn hm hv (by rw [I.ok.kind]; rfl) fun h' u' hm' hs'=>k _ ?_)
  have I2:Inv X pins (σ.set i none) H s1:=I1.weak (by simp) fun j v e=>by
    by_cases hj:j=i
    · subst hj
      rw [List.getElem?_set_self li] at e
      cases e
    · rw [List.getElem?_set_ne (Ne.symm hj)] at e ⊢
      exact e
  have kp:∀ b o,b ≠ X.env.locals→s1.heap.get? b=some o→h'.get? b=some o:=fun b o hb e=>(hs'.2 b hb).trans e
  have e0:∀ b o,X.s₀.heap.get? b=some o→b ≠ X.env.locals:=fun b o e=>Nat.ne_of_lt (Nat.lt_of_lt_of_le (Heap.lt_size e) I.ok.above)
  refine ⟨I2.ok,I2.os,I2.bare,⟨fun b o e n' hb hx=>kp b o (e0 b o e) (I2.base.keep b o e n' hb hx),fun b o e n' hb hx=>?_,I2.base.free,fun b o e hx=>?_,I2.base.tups,I2.base.frzs,I2.base.tbls⟩,⟨_,hm',fun j y v e1 e2 e3=>?_⟩,fun y c e=>?_,I2.free,I2.freeC,fun p hp=>?_,?_,I2.len⟩
  · obtain ⟨sl,q⟩:=I2.base.slot b o e n' hb hx
    exact ⟨sl,kp b _ (e0 b o e) q⟩
  · obtain ⟨o',q⟩:=I2.base.there b o e hx
    exact ⟨o',kp b o' (e0 b o e) q⟩
  · by_cases hj:j=i
    · subst hj
      rw [List.getElem?_set_self li] at e2
      cases e2
    · rw [List.getElem?_set_ne (Ne.symm hj)] at e2
      have ny:y ≠ n:=fun z=>by
        subst z
        exact hj (zhj hN e1 hi)
      obtain ⟨u2,r2,l2⟩:=hl j y v e1 (by rw [List.getElem?_set_ne (Ne.symm hj)]; exact e2) e3
      refine ⟨u2,r2,?_⟩
      rcases l2 with ⟨k1,k2⟩ | ⟨k1,c,k2,ob,k3,k4⟩
      · exact .inl ⟨k1,by show (if y=n then u' else m y)=_; rw [if_neg ny]; exact k2⟩
      · exact .inr ⟨k1,c,k2,ob,kp c ob (I1.cne y c k2) k3,k4⟩
  · obtain ⟨v,ob,k3,k4⟩:=I2.cell y c e
    exact ⟨v,ob,kp c ob (I2.cne y c e) k3,k4⟩
  · obtain ⟨a1,a2,a3,a4,a5⟩:=I2.pin p hp
    exact ⟨kp _ _ a3 a1,a2,a3,a4,a5⟩
  · intro a o e
    refine (I2.hok a o e).stay (fun b v hb q=>kp b v (fun z=>?_) q) (fun _ q=>q) fun _ _ q=>q
    have fr:=I2.free
    rcases hb with rfl | hb
    · rw [z,fr] at e; cases e
    · rw [z,fr] at hb; cases hb
def Cx.guard (X:Cx) (pl:List (Addr × Obj)) (xe:Value→Shared→Prop):Cx:={ X with pn:=pl,xe:=xe }
theorem Inv.guard {pins:List (Addr × Obj)} {σ:St} {H:Hp} {s:Shared} (I:Inv X pins σ H s) (xe:Value→Shared→Prop):Inv (X.guard (X.pn ++ pins) xe) [] σ H s :=
  ⟨⟨I.ok.mod,I.ok.kind,I.ok.glob,I.ok.blt,I.ok.above,I.ok.inj,I.ok.has,I.ok.cab,I.ok.hd,I.ok.frames,I.ok.stk,I.ok.exf,I.ok.bs,I.ok.bsz,I.ok.noex,I.ok.exfs,I.ok.funs,I.ok.frf,I.ok.tb⟩,I.os,I.bare,I.base,I.loc,I.cell,I.free,I.freeC,
    fun p hp=>I.pin p (by rw [List.append_nil] at hp; exact hp),I.hok,I.len⟩
theorem Inv.unguard {pins pins':List (Addr × Obj)} {σ:St} {H:Hp} {s:Shared} {xe:Value→Shared→Prop} (ok:X.Ok) (I:Inv (X.guard (X.pn ++ pins) xe) pins' σ H s):Inv X pins σ H s :=
  ⟨ok,I.os,I.bare,I.base,I.loc,I.cell,I.free,I.freeC,fun p hp=>I.pin p (List.mem_append_left _ hp),I.hok,I.len⟩
theorem zpF (hex:X.ex = []) (hst:X.stack=X.env :: X.outer) (hfr:X.env.frame=some X.env.locals) (hN:X.N.Nodup) (hi:X.N[i]?=some n) (hn:X.env.kindOf n=some .local) (hg:Gl X x) (hmx:X.mg x=some (.ref D')) (hD:PySem.W.mroIn X.K D' (.type "BaseException")=some true)
    (hb:∀ (E:St→XK) (pl:List (Addr × Obj)) (xe:Value→Shared→Prop),zhA (CX1 X.prog X.w) (X.guard pl xe) E→PSs (X.guard pl xe) body (tb E)) (hh:∀ ea,PSs (X.suite ea) (b₀ :: suite) th) (hdb:(x == ("__debug__" : Str))=false:=by decide) :
    PS X (.Try body [.ExceptHandler (some (.Name x np)) (some n) (b₀ :: suite) hpos] [] [] pos) (tTry X.K D' tb i th):=by
  intro pins s σ H D I h
  have ok:=I.ok
  refine wpAny_Try_except ?_
  refine wpAny_mono (hb _ (X.pn ++ pins) (fun e s₁=>wpAny (model X.prog X.w) X.A (noteFrame e X.env) (fun _ s₂=>wpAny (model X.prog X.w) X.A (setFlight e none) (fun _ s₃=>wpAny (model X.prog X.w) X.A (handleBy e X.env [.ExceptHandler (some (.Name x np)) (some n) (b₀ :: suite) hpos]) (SP X pins D) X.xe s₃) X.xe s₂) X.xe s₁) ?_ [] s σ H D (I.guard _) h) (fun f s1 q=>?_) fun _ _ q=>q
  · -- an exception of the body
    intro pins' σ' H1 s1 e s2 I1 hcx
    obtain ⟨ea,C,dct,H',rfl,F,C',hC',hm,hth⟩:=hcx
    cases hC'
    have J1:Inv X pins σ' H1 s1:=I1.unguard ok
    have F':Fly X.prog X.w (X.env :: X.outer) H1 s1 ea (.ref C) dct H' s2:=by
      rw [← hst]
      exact F
    obtain ⟨Fos,Fbare,Fun,B,fl,hok,third⟩:=F'
    have fr2:X.A.frames=some (X.env :: X.outer):=by rw [← hst]; exact ok.frames
    -- whatever the heap behind
    have land:∀ h' ,FlyD B (X.env :: X.outer) ea (.ref C) dct .none h'→s2.heap.UpToSlots h'→Inv X pins σ' H' { s2 with heap:=h' }:=fun h' F' up=>by
      obtain ⟨u,_⟩:=zjy (fs:=frs (X.env :: X.outer)) (fr:=frs (X.env :: X.outer)) (h0:=s1.heap) (h1:=s1.heap) (h3:=h') (B:=B) (L:=s1.heap.objs.size) Un.refl Fun (Nat.le_refl _) (fun b hb=>List.mem_cons_of_mem _ hb) (fun b hb=>hb)
        (fun b hb=>J1.stkFree b (by rw [hst]; exact hb)) (fun b hb o e=>by
          obtain ⟨_,o',ho',hn'⟩:=fl.fun'.mem hb
          rw [e] at ho'
          cases ho'
          exact hn') up F'.stays third
      obtain ⟨hh2,g2,d2,t2,os2⟩:=s2
      obtain rfl:os2=s1.os:=Fos
      show Inv X pins σ' H' { s1 with heap:=h',gens:=g2,drawn:=d2,toks:=t2 }
      exact J1.call (h':=h') (g':=g2) (d':=d2) (t':=t2) (ch:=[]) (by rw [hst]; exact u) (hok.fly F'.stays) Fbare fun b z=>absurd z (by simp)
    show wpAny (model X.prog X.w) X.A (noteFrame (.ref ea) X.env) _ _ s2
    refine zmr fr2 hfr fl fun h1 F1 up1=>?_
    refine zj6 F1 fun h2 F2 up2=>?_
    have J2:=land h2 F2 (up1.trans up2)
    obtain ⟨T,_,⟨oe,vs,_,_,he,hc,hdc,hd,_⟩,_⟩:=F2.tr
    refine wpAny_handleBy_cons (codeAny_handlers_test (zeI (X:=X.suite ea) (J2.suite ea) hg hmx ?_ hdb)) (by intro z; cases z)
    refine zhT (K:=X.K) J2.kIn he hc hm hD ?_
    refine codeAny_handlers_suite_as ?_
    refine zj6 F2 fun h3 F3 up3=>?_
    have J3:=land h3 F3 ((up1.trans up2).trans up3)
    obtain ⟨T3,_,⟨oe3,vs3,_,_,he3,hc3,hdc3,hd3,_⟩,_⟩:=F3.tr
    have nH:H' ea=none:=hok.none_of F3.out
    have nfr:ea ∉ frs X.stack:=fun z=>by
      rw [hst] at z
      obtain ⟨_,o',ho',hn'⟩:=F3.fun'.mem z
      exact zcu he3 hd3 ho' hn' rfl
    have nB:∀ b o,s1.heap.get? b=some o→b ∉ frs X.stack→b ≠ ea:=fun b o e hb z=>by
      obtain ⟨o',e',_⟩:=third b o e (by rw [← hst]; exact hb)
      rw [z,F3.out] at e'
      cases e'
    have nL:ea ≠ X.env.locals:=fun z=>nfr (by
      rw [hst,z]
      exact List.mem_filterMap.mpr ⟨X.env,List.mem_cons_self,hfr⟩)
    have J4:Inv (X.suite ea) pins σ' (upd H' ea (excO C dct ea)) { s2 with heap:=h3 }:=(J3.suite ea).track nH (by
        cases z:X.s₀.heap.get? ea with
        | none=>exact z
        | some o =>
          obtain ⟨o1,e1⟩:=J1.base.there ea o z (by rw [hex]; simp)
          exact absurd rfl (nB ea o1 e1 nfr)) nL (fun y c e z=>by
        obtain ⟨v,ob,k3,k4⟩:=J3.cell y c e
        rw [z] at k3
        have k3':h3.get? ea=some ob:=k3
        rw [he3] at k3'
        cases k3'
        rw [hd3] at k4
        cases k4) (fun p hp=>by
        obtain ⟨a1,_,a3,a4,_⟩:=J1.pin p hp
        exact nB p.1 p.2 a1 fun z=>(List.mem_cons.mp (J1.stkSub p.1 z)).elim a3 a4)
      ⟨⟨oe3,he3,hc3,hdc3,vs3,hd3⟩,⟨oe3,he3⟩,fun g1 g2 z k=>by
        obtain ⟨ob,z1,z2⟩:=z
        exact ⟨ob,k ob z1,z2⟩⟩
    refine ze1 (X:=X.suite ea) J4 hN hi (.inl hn) (v:=.ref ea) rfl (fun s5 I5=>?_) (.inr hn)
    refine wpAny_mono (hh ea pins s5 _ _ _ I5 (hth ea nH)) (fun f s6 q6=>?_) fun _ _ z=>z.elim
    cases f with
    | next =>
      obtain ⟨σ6,H6,I6,q6⟩:=q6
      exact ze8 (I6.unsuite ok) hN hi hn fun s7 I7=>⟨_,_,I7,q6⟩
    | brk =>
      obtain ⟨σ6,H6,I6,q6⟩:=q6
      exact ze8 (I6.unsuite ok) hN hi hn fun s7 I7=>⟨_,_,I7,q6⟩
    | cont =>
      obtain ⟨σ6,H6,I6,q6⟩:=q6
      exact ze8 (I6.unsuite ok) hN hi hn fun s7 I7=>⟨_,_,I7,q6⟩
    | ret v =>
      obtain ⟨v6,σ6,H6,I6,r6,q6⟩:=q6
      exact ze8 (I6.unsuite ok) hN hi hn fun s7 I7=>⟨v6,_,_,I7,r6,q6⟩
  · cases f with
    | next =>
      obtain ⟨σ6,H6,I6,q6⟩:=q
      exact wpAny_execs_nil ⟨σ6,H6,I6.unguard ok,q6⟩
    | brk =>
      obtain ⟨σ6,H6,I6,q6⟩:=q
      exact ⟨σ6,H6,I6.unguard ok,q6⟩
    | cont =>
      obtain ⟨σ6,H6,I6,q6⟩:=q
      exact ⟨σ6,H6,I6.unguard ok,q6⟩
    | ret v =>
      obtain ⟨v6,σ6,H6,I6,r6,q6⟩:=q
      exact ⟨v6,σ6,H6,I6.unguard ok,r6,q6⟩
end
end L2
namespace L2
open PySem PySem.Spec PyProof.Rows
structure ExcCls (K:PySem.W.Frag) (C:Addr):Prop where
  ga:PySem.W.findIn K (.ref C) "__getattribute__"=some (some (.builtin "BaseException.__getattribute__"))
  gn:PySem.W.findIn K (.ref C) "__getattr__"=some none
  hd:PySem.W.hasDictIn K C=true
  ha:PySem.W.findIn K (.ref C) "__class__"=some (some (.builtin "object.__class__"))
  hn:PySem.W.specialIn K (.builtin "object.__class__") "__get__"=some (some (.builtin "getset_descriptor.__get__"))
  htk:PySem.W.takesIn K (.builtin "object.__class__")=some true
  hm:PySem.W.mroIn K C (.type "object")=some true
  hb:PySem.W.mroIn K C (.type "BaseException")=some true
theorem zi4 {K:PySem.W.Frag} {C:Addr} {od:Option Obj} {name:Str} {a g:Value} (hc:(PySem.W.clsIn K C).isSome=true) (ha:PySem.W.findIn K (.ref C) name=some (some a)) (hg:PySem.W.specialIn K a "__get__"=some (some g)) (ht:PySem.W.takesIn K a=some true) :
    PySem.W.findObj K C od name=some (.bind g a):=by
  obtain ⟨cd,hc⟩:=Option.isSome_iff_exists.mp hc
  unfold PySem.W.findObj
  rw [hc,Option.bind_some,ha,Option.bind_some]
  simp only [hg]
  show (PySem.W.takesIn K a).bind _=_
  rw [ht]
  rfl
set_option maxHeartbeats 4000000 in
theorem zmA {K:PySem.W.Frag} {x C:Addr} {ox:Obj} {od:Option Obj} {prog:Program} {w:World} {A:Around} {E:Value→Shared→Prop} {Q:Option Value→Shared→Prop} {s:Shared} (Z:ExcCls K C) (X:K.In s.heap) (I:PySem.W.InstAt s.heap x ox C od)
    (k:Q (some (.ref C)) { s with toks:=s.toks + 1 }):wpAny (model prog w) A (getAttr? (.ref x) "__class__") Q E s:=by
  have hf:PySem.W.findObj K C od "__class__"=some (.bind (.builtin "getset_descriptor.__get__") (.builtin "object.__class__")):=zi4 (by obtain ⟨cd,hc,_⟩:=PySem.W.any_some Z.hd; rw [hc]; rfl) Z.ha Z.hn Z.htk
  have X':=X
  have I':=I
  have Z':=Z
  obtain ⟨hh,g,d,t,os⟩:=s
  have L0:=I.type (M:=model prog w)
  have L1:=PySem.W.looks_findIn (M:=model prog w) X Z.ga
  have L2:=PySem.W.looks_findIn (M:=model prog w) X Z.gn
  have L3:=PySem.W.looks_find (M:=model prog w) X I hf
  have L4:PySem.W.Looks (model prog w) hh (isInstance (.ref x) (.type "BaseException")) true:=L0.andThen (PySem.W.looks_mroIn X Z.hb)
  have f3:=F.attr_ValueError.ga.bind (.ref x)
  have hx0:((false:Bool) && onTheHeap (Value.builtin "BaseException.__getattribute__"))=false:=rfl
  have hx2:(Value.builtin "BaseException.__getattribute__" == Value.builtin "object.__getattribute__")=false:=by decide +kernel
  have hx1:(onTheHeap (Value.ref C) && Value.builtin "BaseException.__getattribute__" == Value.builtin "object.__getattribute__")=false:=by rw [hx2]; rfl
  unfold getAttr? getAttrBy?
  refine wpAny_bind (wpAny_mkText (wpAny_bind (wpAny_attempt ?_)))
  repeat (any_goals (first | assumption | with_reducible refine PySem.W.Looks.at L0 ?_ | with_reducible refine PySem.W.Looks.at L1 ?_ | with_reducible refine PySem.W.Looks.at L2 ?_ | wp_step))
  have hk:builtinKind "BaseException.__getattribute__"=some .slot:=by decide +kernel
  have hsplit:splitId "BaseException.__getattribute__"=some ("BaseException","__getattribute__"):=by decide +kernel
  have har:=F.args_bexc_ga (.ref x) (.str "__class__" t)
  refine codeAny_call_builtin F.attr_ValueError.ga.plain F.entry_bexc_ga ?_
  simp only [checkBuiltinCall,hk,hsplit]
  refine wpAny_bind ?_
  refine PySem.W.Looks.at L4 ?_
  repeat (any_goals (first | assumption | with_reducible refine PySem.W.Looks.at L4 ?_ | with_reducible refine PySem.W.Looks.at L0 ?_ | with_reducible refine PySem.W.Looks.at L3 ?_ | wp_step))
  exact PySem.W.class_get (s:=⟨hh,g,d,t + 1,os⟩) (ox:=ox) (od:=od) X I Z.hm (wpAny_pure (PySem.W.handed_on rfl (wpAny_pure k)))
theorem zjA {K:PySem.W.Frag} {x C:Addr} (Z:ExcCls K C):PySem.W.KitX K (.ref x) (.ref C) (fun h=>∃ ox od,PySem.W.InstAt h x ox C od) where
  ty:=fun _ _ _ I=>by
    obtain ⟨ox,od,I⟩:=I
    exact I.type
  it:=fun _ _ X _=>by
    obtain ⟨cd,hc,_⟩:=PySem.W.any_some Z.hd
    unfold PySem.W.clsIn at hc
    split at hc
    · rename_i ho
      intro A' Q' E' s' k q
      unfold isType loadHead
      exact wpAny_bind (wpAny_loadPart (k _ _ (X _ _ ho)) (wpAny_pure q))
    · cases hc
  ne:=fun h tp dd its n sl X htp=>by
    obtain ⟨cd,hc,_⟩:=PySem.W.any_some Z.hd
    refine Bool.eq_false_iff.mpr fun q=>?_
    have e:C=tp:=Value.ref.inj (beq_iff_eq.mp q)
    subst e
    unfold PySem.W.clsIn at hc
    split at hc
    · rename_i ho
      have z:=(X _ _ ho).symm.trans htp
      cases z
    · cases hc
  ca:=fun {prog w A E Q s} X I k=>by
    obtain ⟨ox,od,I⟩:=I
    exact zmA Z X I k
theorem zjb {K:PySem.W.Frag} {C D:Addr} {b:Bool} (h1:PySem.W.hasDictIn K D=true) (h2:PySem.W.typeIn K (.ref D)=some (.type "type")) (h3:PySem.W.mroIn K C (.ref D)=some b):PySem.W.kitCls K (.ref C) (.ref D)=some b:=by
  obtain ⟨cd,hc,_⟩:=PySem.W.any_some h1
  show (if ((PySem.W.clsIn K D).isSome && PySem.W.typeIn K (.ref D) == some (.type "type"))=true then PySem.W.subIn K (.ref C) (.ref D) else none)=some b
  rw [hc,h2,if_pos (by simp)]
  exact h3
theorem zge {K:PySem.W.Frag} {C D:Addr} {b:Bool} (h1:PySem.W.hasDictIn K D=true) (h2:PySem.W.typeIn K (.ref D)=some (.type "type")) (h3:PySem.W.mroIn K C (.ref D)=some b) (h4:PySem.W.mroIn K C (.ref C)=some true):PySem.W.kitOne K (.ref C) (.ref D)=some b:=by
  unfold PySem.W.kitOne
  by_cases e:C=D
  · subst e
    rw [if_pos (by simp)]
    exact h4.symm.trans h3
  · rw [if_neg (by simpa using e)]
    exact zjb h1 h2 h3
theorem zm8 {K:PySem.W.Frag} {C:Addr} {S:String} {b:Bool} (h1:PySem.W.kitMeta S=true) (h2:PySem.W.mroIn K C (.type S)=some b):PySem.W.kitOne K (.ref C) (.type S)=some b:=by
  unfold PySem.W.kitOne
  rw [if_neg (by simp)]
  show (if PySem.W.kitMeta S=true then PySem.W.subIn K (.ref C) (.type S) else none)=some b
  rw [if_pos h1]
  exact h2
theorem zgo:PySem.W.kitMeta "ValueError"=true:=by decide +kernel
section
variable {X:Cx}
def rIsX (K:PySem.W.Frag):List V→Hp→VK→Prop:=fun xs H Q=>∃ a C dct c cv b,xs = [.ref a,c]∧clsV c=some cv∧H a=some (excO C dct a)∧(∀ dx,dct=some dx→∃ fs,H dx=some (.xd fs))∧ExcCls K C∧PySem.W.kitOne K (.ref C) cv=some b∧Q (.bl b) H
theorem zba:zey X (.builtin "isinstance") (rIsX X.K):=by
  intro pins s σ H xs us Q I r h
  obtain ⟨a,C,dct,c,cv,b,rfl,hc,hH,hdx,Z,hk,q⟩:=h
  obtain ⟨u,v,rfl,rx,ry⟩:=znF r
  cases zjE hc ry
  cases (show u=Value.ref a from rx)
  obtain ⟨⟨ob,h1,h2,h3,vs,h4⟩,_⟩:=I.hok a _ hH
  cases dct with
  | none=>exact PySem.W.kia_one (zjA Z) I.kIn ⟨ob,none,h1,h2,by unfold PySem.W.notCls; rw [h4],by rw [h3]; trivial⟩ hk (fun z=>nomatch z) fun tk=>⟨.bl b,H,I.tok _,rfl,q⟩
  | some dx =>
    obtain ⟨fs,efs⟩:=hdx dx rfl
    obtain ⟨_,⟨od,_,_,hod,_⟩,_⟩:=(show ObjOk X.prog X.w H s.heap dx (.xd fs) from I.hok dx _ efs)
    exact PySem.W.kia_one (zjA Z) I.kIn ⟨ob,some od,h1,h2,by unfold PySem.W.notCls; rw [h4],by rw [h3]; exact hod⟩ hk (fun z=>nomatch z) fun tk=>⟨.bl b,H,I.tok _,rfl,q⟩
end
section
variable {P:Program} {w:World} {K:PySem.W.Frag} {mg:Str→Option Value} {base:Heap} {N:List Str} {qual:Str} {scope:Scope} {f:Addr} {cd:Value} {A:Around} {outer:List Env} {s0:Shared} {H0:Hp} {E:XK}
theorem zoP:Made (cx1 P w K mg base N qual scope f cd A outer s0 H0 E) (fun _=>E):=fun _ _ _ _ _ _ _ _ I hm os bare q=>znu I hm os bare q
theorem zfK:zhA (CX1 P w) (cx1 P w K mg base N qual scope f cd A outer s0 H0 E) (fun _=>E):=fun _ _ _ _ _ _ I h=>znG I h
theorem zpb {X:Cx}:zez (CX1 P w) X E0:=fun _ _ _ _ _ _ _ h=>by
  obtain ⟨_,_,_,_,_,_,z⟩:=h
  exact z.elim
theorem Fun.ok1 {x qual:Str} {st:Stmt} {f:Addr} {fd:FuncData} {N ps:List Str} {k:Nat} {sp:Sp} (F:Fun K x qual st f fd) (S:FnScope N ps (zao st)) (len:∀ vs H Q E,sp vs H Q E→vs.length=ps.length)
    (hbody:∀ (cdv:Value) (A:Around) (outer:List Env) (s:Shared) (H:Hp) (vs:List V) (Q:VK) (E:XK),Room k (A.deeper (envOfC qual (zao st) s.heap.objs.size f cdv))→sp vs H Q E →
      ∃ t,PSs (cx1 P w K mg base N qual (zao st) f cdv A outer s H E) (zdb st) t∧t { nx:=fun _ H'=>Q .non H',rt:=Q } (start N vs) H):FnOk P w K mg base (CX1 P w) (k + 1) f fd ps sp:=by
  obtain ⟨oc,od,kV,doc,pm,an,cdv,ct,osl,rfl,lk,hcd⟩:=F.ex
  exact zqb lk hcd S len fun A outer s H vs Q E hr hsp=>hbody cdv A outer s H vs Q E hr hsp
end
end L2
namespace PM
open PySem L2
inductive D where
  | non | bl (b:Bool) | int (i:Int) | str (x:Str) | tup (l:List D) | lst (l:List D) | dct (ks:List Key) (l:List D) | scr (l:List Int) | exc (c:Nat) | fd (ks:List Key) (l:List D) | obj (c:Nat) (ks:List Str) (l:List D)
structure Kx where
  f:W.Frag
  ca:Nat→Addr
  an:Nat→Str
def XA (K:Kx) (F:Hp) (c:Nat) (dct:Option Addr):Prop:=if c < 16 then dct=none else ∃ dx,dct=some dx∧F dx=some (.xd [(K.an c,.int (((c / 16:Nat):Int) - 1))])
section
variable (K:Kx)
mutual
def Rep (F:Hp):D→V→Prop
  | .non,v=>v = .non
  | .bl b,v=>v = .bl b
  | .int i,v=>v = .int i
  | .str x,v=>v = .str x
  | .scr l,v=>∃ a,v = .ref a∧SqL K.f F a (l.map V.int)
  | .exc c,v=>∃ a dct,v = .ref a∧F a=some (excO (K.ca c) dct a)∧XA K F c dct
  | .tup l,v=>∃ a vs,v = .ref a∧F a=some (.tup vs)∧RepL F l vs
  | .fd ks l,v=>∃ a o kvs,v = .ref a∧F a=some (.frz o (.dK kvs))∧kvs.map (·.1)=ks∧RepL F l (kvs.map (·.2))
  | .obj c ks l,v=>∃ a dx fs,v = .ref a∧F a=some (.ins (K.ca c) dx fs)∧fs.map (·.1)=ks∧RepL F l (fs.map (·.2))
  | .lst l,v=>∃ a vs,v = .ref a∧Rd F a (.lst vs)∧RepL F l vs
  | .dct ks l,v=>∃ a kvs,v = .ref a∧F a=some (.dK kvs)∧kvs.map (·.1)=ks∧RepL F l (kvs.map (·.2))
def RepL (F:Hp):List D→List V→Prop
  | [],vs=>vs = []
  | d :: l,vs=>∃ v r,vs=v :: r∧Rep F d v∧RepL F l r
end
end
def ifC {α:Type} (p:Prop) (a b:α):α:=@ite α p (Classical.propDecidable p) a b
@[simp] theorem za8 {α:Type} {p:Prop} {a b:α} (h:p):ifC p a b=a:=if_pos h
theorem zoM {α:Type} {p:Prop} {a b:α} (h:¬ p):ifC p a b=b:=if_neg h
structure Xc where
  c:Nat
inductive R (α:Type) where
  | no | ok (a:α) | ex (x:Xc)
namespace R
def bind {α β:Type}:R α→(α→R β)→R β
  | .no,_=>.no
  | .ok a,f=>f a
  | .ex x,_=>.ex x
@[simp] theorem bind_ok {α β:Type} (a:α) (f:α→R β):(R.ok a).bind f=f a:=rfl
@[simp] theorem zq8 {α β:Type} (f:α→R β):(R.no:R α).bind f = .no:=rfl
@[simp] theorem zqT {α β:Type} (x:Xc) (f:α→R β):(R.ex x:R α).bind f = .ex x:=rfl
end R
inductive Tr where
  | d (x:D) | l (ts:List Tr) | t (ts:List Tr)
mutual
def trD:Tr→D
  | .d x=>x
  | .l ts=>.lst (trDL ts)
  | .t ts=>.tup (trDL ts)
def trDL:List Tr→List D
  | []=>[]
  | t :: ts=>trD t :: trDL ts
end
inductive Sl where
  | no | v (d:D) | o (d:D) | l (d:D) | p (T:Tr)
abbrev En:=List Sl
inductive O where
  | no | nx (δ:En) | rt (d:D) | ro (d:D) | bk (δ:En) | ct (δ:En) | ex (δ:En) (x:Xc)
structure Ext (F H F' H':Hp):Prop where
  ff:Same F F'
  hh:Same H H'
  fh:Same F' H'
  nw:∀ p o,F p=none→H p=some o→F' p=none
theorem Ext.refl {F H:Hp} (s:Same F H):Ext F H F H:=⟨.refl _,.refl _,s,fun _ _ h _=>h⟩
theorem Ext.trans {F H F1 H1 F2 H2:Hp} (a:Ext F H F1 H1) (b:Ext F1 H1 F2 H2):Ext F H F2 H2 :=
  ⟨a.ff.trans b.ff,a.hh.trans b.hh,b.fh,fun p o h1 h2=>b.nw p o (a.nw p o h1 h2) (a.hh p o h2)⟩
theorem Ext.new {F H:Hp} {p:Addr} {o:HO} (s:Same F H) (h:H p=none):Ext F H (upd F p o) (upd H p o):=by
  have hf:=s.free h
  refine ⟨Same.upd hf,Same.upd h,fun b u q=>?_,fun q u h1 h2=>?_⟩
  · by_cases e:b=p
    · subst e; rw [zal] at q ⊢; exact q
    · rw [zag e] at q ⊢; exact s _ _ q
  · rw [zag (zaq h2 h)]; exact h1
theorem Ext.newO {F H:Hp} {p:Addr} {o:HO} (s:Same F H) (h:H p=none):Ext F H F (upd H p o):=by
  refine ⟨.refl _,Same.upd h,s.trans (Same.upd h),fun q u h1 h2=>h1⟩
theorem Same.rd {H H':Hp} {a:Addr} {u:HO} (e:Same H H') (h:Rd H a u):Rd H' a u:=h.elim (fun h=>.inl (e _ _ h)) fun ⟨o,h⟩=>.inr ⟨o,e _ _ h⟩
section
variable {K:Kx} {F F' H H':Hp}
theorem XA.mono {c:Nat} {dct:Option Addr} (h:XA K F c dct) (e:Same F F'):XA K F' c dct:=by
  unfold XA at h ⊢
  split
  · rename_i hc; rw [if_pos hc] at h; exact h
  · rename_i hc
    rw [if_neg hc] at h
    obtain ⟨dx,h1,h2⟩:=h
    exact ⟨dx,h1,e _ _ h2⟩
mutual
theorem Rep.mono (e:Same F F'):∀ (d:D) {v:V},Rep K F d v→Rep K F' d v
  | .non,v,h=>by simpa only [Rep] using h
  | .bl b,v,h=>by simpa only [Rep] using h
  | .int b,v,h=>by simpa only [Rep] using h
  | .str b,v,h=>by simpa only [Rep] using h
  | .exc c,v,h=>by
    simp only [Rep] at h ⊢
    obtain ⟨a,dct,h1,h2,h3⟩:=h
    exact ⟨a,dct,h1,e _ _ h2,h3.mono e⟩
  | .fd ks l,v,h=>by
    simp only [Rep] at h ⊢
    obtain ⟨a,o,vs,h1,h2,h0,h3⟩:=h
    exact ⟨a,o,vs,h1,e _ _ h2,h0,RepL.mono e l h3⟩
  | .obj c ks l,v,h=>by
    simp only [Rep] at h ⊢
    obtain ⟨a,o,vs,h1,h2,h0,h3⟩:=h
    exact ⟨a,o,vs,h1,e _ _ h2,h0,RepL.mono e l h3⟩
  | .scr l,v,h=>by
    simp only [Rep] at h ⊢
    obtain ⟨a,h1,h2⟩:=h
    exact ⟨a,h1,e.seq h2⟩
  | .tup l,v,h=>by
    simp only [Rep] at h ⊢
    obtain ⟨a,vs,h1,h2,h3⟩:=h
    exact ⟨a,vs,h1,e _ _ h2,RepL.mono e l h3⟩
  | .lst l,v,h=>by
    simp only [Rep] at h ⊢
    obtain ⟨a,vs,h1,h2,h3⟩:=h
    exact ⟨a,vs,h1,PM.Same.rd e h2,RepL.mono e l h3⟩
  | .dct ks l,v,h=>by
    simp only [Rep] at h ⊢
    obtain ⟨a,vs,h1,h2,h0,h3⟩:=h
    exact ⟨a,vs,h1,e _ _ h2,h0,RepL.mono e l h3⟩
theorem RepL.mono (e:Same F F'):∀ (l:List D) {vs:List V},RepL K F l vs→RepL K F' l vs
  | [],vs,h=>by simpa only [RepL] using h
  | d :: l,vs,h=>by
    simp only [RepL] at h ⊢
    obtain ⟨v,r,h1,h2,h3⟩:=h
    exact ⟨v,r,h1,Rep.mono e d h2,RepL.mono e l h3⟩
end
theorem RepL.length:∀ {l:List D} {vs:List V},RepL K F l vs→vs.length=l.length
  | [],vs,h=>by simp only [RepL] at h; subst h; rfl
  | d :: l,vs,h=>by
    simp only [RepL] at h
    obtain ⟨v,r,rfl,_,h3⟩:=h
    simp [RepL.length h3]
theorem RepL.get:∀ {l:List D} {vs:List V} {i:Nat} {d:D},RepL K F l vs→l[i]?=some d→∃ v,vs[i]?=some v∧Rep K F d v
  | [],vs,i,d,h,e=>by simp at e
  | x :: l,vs,0,d,h,e=>by
    simp only [RepL] at h
    obtain ⟨v,r,rfl,h2,h3⟩:=h
    simp at e; subst e
    exact ⟨v,rfl,h2⟩
  | x :: l,vs,i + 1,d,h,e=>by
    simp only [RepL] at h
    obtain ⟨v,r,rfl,h2,h3⟩:=h
    obtain ⟨u,h4,h5⟩:=RepL.get h3 (i:=i) (d:=d) (by simpa using e)
    exact ⟨u,by simpa using h4,h5⟩
theorem RepL.nil:RepL K F [] []:=by simp only [RepL]
theorem RepL.cons {d:D} {l:List D} {v:V} {vs:List V} (h1:Rep K F d v) (h2:RepL K F l vs):RepL K F (d :: l) (v :: vs):=by
  simp only [RepL]; exact ⟨v,vs,rfl,h1,h2⟩
theorem RepL.append:∀ {l:List D} {vs:List V} {l':List D} {vs':List V},RepL K F l vs→RepL K F l' vs'→RepL K F (l ++ l') (vs ++ vs')
  | [],vs,l',vs',h,h'=>by simp only [RepL] at h; subst h; exact h'
  | d :: l,vs,l',vs',h,h'=>by
    simp only [RepL] at h
    obtain ⟨v,r,rfl,h2,h3⟩:=h
    exact .cons h2 (RepL.append h3 h')
theorem RepL.drop:∀ {l:List D} {vs:List V} (n:Nat),RepL K F l vs→RepL K F (l.drop n) (vs.drop n)
  | l,vs,0,h=>h
  | [],vs,n + 1,h=>by simp only [RepL] at h; subst h; exact .nil
  | d :: l,vs,n + 1,h=>by
    simp only [RepL] at h
    obtain ⟨v,r,rfl,h2,h3⟩:=h
    exact RepL.drop n h3
theorem RepL.take:∀ {l:List D} {vs:List V} (n:Nat),RepL K F l vs→RepL K F (l.take n) (vs.take n)
  | l,vs,0,h=>by simpa using RepL.nil
  | [],vs,n + 1,h=>by simp only [RepL] at h; subst h; exact .nil
  | d :: l,vs,n + 1,h=>by
    simp only [RepL] at h
    obtain ⟨v,r,rfl,h2,h3⟩:=h
    exact .cons h2 (RepL.take n h3)
theorem RepL.ints {ns:List Int}:RepL K F (ns.map .int) (ns.map .int):=by
  induction ns with
  | nil=>exact .nil
  | cons a l ih=>exact .cons rfl ih
end
section
variable (K:Kx)
def Top (F H:Hp):D→V→Prop
  | .lst l,v=>∃ a vs,v = .ref a∧Rd H a (.lst vs)∧RepL K F l vs
  | .dct ks l,v=>∃ a kvs,v = .ref a∧H a=some (.dK kvs)∧kvs.map (·.1)=ks∧RepL K F l (kvs.map (·.2))
  | .obj c ks l,v=>∃ a dx fs,v = .ref a∧H a=some (.ins (K.ca c) dx fs)∧fs.map (·.1)=ks∧RepL K F l (fs.map (·.2))
  | d,v=>Rep K F d v
def Own (F H:Hp):D→Addr→Prop
  | .lst l,a=>∃ vs,H a=some (.lst vs)∧RepL K F l vs
  | .dct ks l,a=>∃ kvs,H a=some (.dK kvs)∧kvs.map (·.1)=ks∧RepL K F l (kvs.map (·.2))
  | .obj c ks l,a=>∃ dx fs,H a=some (.ins (K.ca c) dx fs)∧fs.map (·.1)=ks∧RepL K F l (fs.map (·.2))
  | _,_=>False
mutual
def TrOk (F H:Hp):Tr→V→List Addr→Prop
  | .d x,v,fp=>fp = []∧Rep K F x v
  | .l ts,v,fp=>∃ a vs fs,v = .ref a∧fp=a :: fs∧H a=some (.lst vs)∧TrOkL F H ts vs fs
  | .t ts,v,fp=>∃ a vs,v = .ref a∧F a=some (.tup vs)∧TrOkL F H ts vs fp
def TrOkL (F H:Hp):List Tr→List V→List Addr→Prop
  | [],vs,fp=>vs = []∧fp = []
  | t :: ts,vs,fp=>∃ v r f1 f2,vs=v :: r∧fp=f1 ++ f2∧TrOk F H t v f1∧TrOkL F H ts r f2
end
structure Tab (F H:Hp) (a:Addr) (bs:List Addr) (T:Tr):Prop where
  ok:TrOk K F H T (.ref a) (a :: bs)
  nd:(a :: bs).Nodup
def SlOk (H0 F H:Hp):Option Sl→Option (Option V)→Prop
  | some (.v d),s=>∃ u,s=some (some u)∧Rep K F d u
  | some (.o d),s=>∃ a,s=some (some (.ref a))∧H0 a=none∧F a=none∧Own K F H d a
  | some (.l d),s=>∃ a,s=some (some (.ref a))∧H0 a=none∧F a=none∧Own K F H d a
  | some (.p T),s=>∃ a bs,s=some (some (.ref a))∧Tab K F H a bs T∧∀ b ∈ a :: bs,H0 b=none∧F b=none
  | _,_=>True
end
def Sl.own:Option Sl→Bool
  | some (.o _)=>true
  | some (.l _)=>true
  | some (.p _)=>true
  | _=>false
structure EnvOk (K:Kx) (Λ:List (Nat × Addr × HO)) (F0 H0 F H:Hp) (σ:St) (δ:En):Prop where
  ext:Ext F0 H0 F H
  len:σ.length=δ.length
  slot:∀ i:Nat,SlOk K H0 F H δ[i]? σ[i]?
  dist:∀ (i j:Nat) (a:Addr),i ≠ j→Sl.own δ[i]?=true→Sl.own δ[j]?=true→σ[i]?=some (some (.ref a))→σ[j]?=some (some (.ref a))→False
  lent:∀ x ∈ Λ,(∃ d,δ[x.1]?=some (.l d))∧σ[x.1]?=some (some (.ref x.2.1))∧H x.2.1=some x.2.2
  tabs:∀ (i:Nat) (T:Tr),δ[i]?=some (.p T)→∃ a bs,σ[i]?=some (some (.ref a))∧Tab K F H a bs T∧(∀ b ∈ a :: bs,H0 b=none∧F b=none)∧(∀ (j:Nat) (b:Addr),j ≠ i→Sl.own δ[j]?=true→σ[j]?=some (some (.ref b))→b ∉ a :: bs)∧∀ (j:Nat) (T':Tr),δ[j]?=some (.p T')→j=i
section
variable {K:Kx} {Λ:List (Nat × Addr × HO)} {F0 H0 F H F' H' F1 H1:Hp} {σ:St} {δ:En}
theorem Own.mono (e1:Same F F') (e2:Same H H'):∀ {d:D} {a:Addr},Own K F H d a→Own K F' H' d a
  | .lst l,a,h=>let ⟨vs,h1,h2⟩:=h; ⟨vs,e2 _ _ h1,h2.mono e1⟩
  | .dct ks l,a,h=>let ⟨vs,h1,h0,h2⟩:=h; ⟨vs,e2 _ _ h1,h0,h2.mono e1⟩
  | .non,_,h=>h.elim
  | .bl _,_,h=>h.elim
  | .int _,_,h=>h.elim
  | .str _,_,h=>h.elim
  | .tup _,_,h=>h.elim
  | .scr _,_,h=>h.elim
  | .exc _,_,h=>h.elim
  | .fd _ _,_,h=>h.elim
  | .obj c ks l,a,h=>let ⟨dx,vs,h1,h0,h2⟩:=h; ⟨dx,vs,e2 _ _ h1,h0,h2.mono e1⟩
theorem Own.obj:∀ {d:D} {a:Addr},Own K F H d a→∃ o,H a=some o
  | .lst l,a,h=>let ⟨vs,h1,h2⟩:=h; ⟨_,h1⟩
  | .dct ks l,a,h=>let ⟨vs,h1,h2⟩:=h; ⟨_,h1⟩
  | .non,_,h=>h.elim
  | .bl _,_,h=>h.elim
  | .int _,_,h=>h.elim
  | .str _,_,h=>h.elim
  | .tup _,_,h=>h.elim
  | .scr _,_,h=>h.elim
  | .exc _,_,h=>h.elim
  | .fd _ _,_,h=>h.elim
  | .obj c ks l,a,h=>let ⟨dx,vs,h1,h2⟩:=h; ⟨_,h1⟩
theorem Own.at (e:H' a=H a):∀ {d:D},Own K F H d a→Own K F H' d a
  | .lst l,h=>let ⟨vs,h1,h2⟩:=h; ⟨vs,e.trans h1,h2⟩
  | .dct ks l,h=>let ⟨vs,h1,h0,h2⟩:=h; ⟨vs,e.trans h1,h0,h2⟩
  | .non,h=>h.elim
  | .bl _,h=>h.elim
  | .int _,h=>h.elim
  | .str _,h=>h.elim
  | .tup _,h=>h.elim
  | .scr _,h=>h.elim
  | .exc _,h=>h.elim
  | .fd _ _,h=>h.elim
  | .obj c ks l,h=>let ⟨dx,vs,h1,h0,h2⟩:=h; ⟨dx,vs,e.trans h1,h0,h2⟩
theorem Rep.top (s:Same F H):∀ {d:D} {v:V},Rep K F d v→Top K F H d v
  | .lst l,v,h=>by
    simp only [Rep] at h
    obtain ⟨a,vs,h1,h2,h3⟩:=h
    exact ⟨a,vs,h1,PM.Same.rd s h2,h3⟩
  | .dct ks l,v,h=>by
    simp only [Rep] at h
    obtain ⟨a,vs,h1,h2,h3⟩:=h
    exact ⟨a,vs,h1,s _ _ h2,h3⟩
  | .non,_,h=>h
  | .bl _,_,h=>h
  | .int _,_,h=>h
  | .str _,_,h=>h
  | .tup _,_,h=>h
  | .scr _,_,h=>h
  | .exc _,_,h=>h
  | .fd _ _,_,h=>h
  | .obj c ks l,v,h=>by
    simp only [Rep] at h
    obtain ⟨a,dx,vs,h1,h2,h3⟩:=h
    exact ⟨a,dx,vs,h1,s _ _ h2,h3⟩
theorem Own.top:∀ {d:D} {a:Addr},Own K F H d a→Top K F H d (.ref a)
  | .lst l,a,h=>let ⟨vs,h1,h2⟩:=h; ⟨a,vs,rfl,.inl h1,h2⟩
  | .dct ks l,a,h=>let ⟨vs,h1,h2⟩:=h; ⟨a,vs,rfl,h1,h2⟩
  | .non,_,h=>h.elim
  | .bl _,_,h=>h.elim
  | .int _,_,h=>h.elim
  | .str _,_,h=>h.elim
  | .tup _,_,h=>h.elim
  | .scr _,_,h=>h.elim
  | .exc _,_,h=>h.elim
  | .fd _ _,_,h=>h.elim
  | .obj c ks l,a,h=>let ⟨dx,vs,h1,h2⟩:=h; ⟨a,dx,vs,rfl,h1,h2⟩
theorem Top.mono (e1:Same F F') (e2:Same H H'):∀ {d:D} {v:V},Top K F H d v→Top K F' H' d v
  | .lst l,v,h=>let ⟨a,vs,h1,h2,h3⟩:=h; ⟨a,vs,h1,PM.Same.rd e2 h2,h3.mono e1⟩
  | .dct ks l,v,h=>let ⟨a,vs,h1,h2,h0,h3⟩:=h; ⟨a,vs,h1,e2 _ _ h2,h0,h3.mono e1⟩
  | .non,_,h=>h
  | .bl _,_,h=>h
  | .int _,_,h=>h
  | .str _,_,h=>h
  | .tup l,v,h=>Rep.mono e1 (.tup l) h
  | .scr l,v,h=>Rep.mono e1 (.scr l) h
  | .exc l,v,h=>Rep.mono e1 (.exc l) h
  | .fd ks l,v,h=>Rep.mono e1 (.fd ks l) h
  | .obj c ks l,v,h=>let ⟨a,dx,vs,h1,h2,h0,h3⟩:=h; ⟨a,dx,vs,h1,e2 _ _ h2,h0,h3.mono e1⟩
theorem Own.freeze {p:Addr} {d:D} (x:Ext F H F' H') (h0:F' p=none) (h1:H p=none) (o:Own K F' H' d p):∃ F'',Ext F H F'' H'∧Same F' F''∧Rep K F'' d (.ref p):=by
  obtain ⟨u,hu⟩:=o.obj
  have hs:Same F' (upd F' p u):=Same.upd h0
  refine ⟨upd F' p u,⟨x.ff.trans hs,x.hh,fun b w q=>?_,fun q w h2 h3=>?_⟩,hs,?_⟩
  · by_cases e:b=p
    · subst e; rw [zal] at q; cases q; exact hu
    · rw [zag e] at q; exact x.fh _ _ q
  · rw [zag (zaq h3 h1)]; exact x.nw q w h2 h3
  · cases d with
    | lst l =>
      obtain ⟨vs,h2,h3⟩:=o
      rw [hu] at h2; cases h2
      simp only [Rep]
      exact ⟨p,vs,rfl,.inl zal,h3.mono hs⟩
    | dct ks l =>
      obtain ⟨vs,h2,h3,h4⟩:=o
      rw [hu] at h2; cases h2
      simp only [Rep]
      exact ⟨p,vs,rfl,zal,h3,h4.mono hs⟩
    | obj c ks l =>
      obtain ⟨dx,vs,h2,h3,h4⟩:=o
      rw [hu] at h2; cases h2
      simp only [Rep]
      exact ⟨p,dx,vs,rfl,zal,h3,h4.mono hs⟩
    | _=>exact o.elim
mutual
theorem TrOk.mono (e:Same F F') (e2:Same H H'):∀ (T:Tr) {v:V} {fp:List Addr},TrOk K F H T v fp→TrOk K F' H' T v fp
  | .d x,v,fp,h=>by
    simp only [TrOk] at h ⊢
    exact ⟨h.1,Rep.mono e x h.2⟩
  | .l ts,v,fp,h=>by
    simp only [TrOk] at h ⊢
    obtain ⟨a,vs,fs,h1,h2,h3,h4⟩:=h
    exact ⟨a,vs,fs,h1,h2,e2 _ _ h3,TrOkL.mono e e2 ts h4⟩
  | .t ts,v,fp,h=>by
    simp only [TrOk] at h ⊢
    obtain ⟨a,vs,h1,h3,h4⟩:=h
    exact ⟨a,vs,h1,e _ _ h3,TrOkL.mono e e2 ts h4⟩
theorem TrOkL.mono (e:Same F F') (e2:Same H H'):∀ (ts:List Tr) {vs:List V} {fp:List Addr},TrOkL K F H ts vs fp→TrOkL K F' H' ts vs fp
  | [],vs,fp,h=>by simpa only [TrOkL] using h
  | t :: ts,vs,fp,h=>by
    simp only [TrOkL] at h ⊢
    obtain ⟨v,r,f1,f2,h1,h2,h3,h4⟩:=h
    exact ⟨v,r,f1,f2,h1,h2,TrOk.mono e e2 t h3,TrOkL.mono e e2 ts h4⟩
end
mutual
theorem TrOk.obj:∀ (T:Tr) {v:V} {fp:List Addr},TrOk K F H T v fp→∀ b ∈ fp,∃ o,H b=some o
  | .d x,v,fp,h,b,hb=>by
    simp only [TrOk] at h
    rw [h.1] at hb; cases hb
  | .l ts,v,fp,h,b,hb=>by
    simp only [TrOk] at h
    obtain ⟨a,vs,fs,h1,h2,h3,h4⟩:=h
    rw [h2] at hb
    rcases List.mem_cons.mp hb with e | hb
    · subst e; exact ⟨_,h3⟩
    · exact TrOkL.obj ts h4 b hb
  | .t ts,v,fp,h,b,hb=>by
    simp only [TrOk] at h
    obtain ⟨a,vs,h1,h3,h4⟩:=h
    exact TrOkL.obj ts h4 b hb
theorem TrOkL.obj:∀ (ts:List Tr) {vs:List V} {fp:List Addr},TrOkL K F H ts vs fp→∀ b ∈ fp,∃ o,H b=some o
  | [],vs,fp,h,b,hb=>by
    simp only [TrOkL] at h
    rw [h.2] at hb; cases hb
  | t :: ts,vs,fp,h,b,hb=>by
    simp only [TrOkL] at h
    obtain ⟨v,r,f1,f2,h1,h2,h3,h4⟩:=h
    rw [h2] at hb
    rcases List.mem_append.mp hb with hb | hb
    · exact TrOk.obj t h3 b hb
    · exact TrOkL.obj ts h4 b hb
end
mutual
theorem TrOk.at':∀ (T:Tr) {v:V} {fp:List Addr},TrOk K F H T v fp→(∀ b ∈ fp,H' b=H b)→TrOk K F H' T v fp
  | .d x,v,fp,h,_=>by simpa only [TrOk] using h
  | .l ts,v,fp,h,e=>by
    simp only [TrOk] at h ⊢
    obtain ⟨a,vs,fs,h1,h2,h3,h4⟩:=h
    subst h2
    exact ⟨a,vs,fs,h1,rfl,(e a (by simp)).trans h3,TrOkL.at' ts h4 fun b hb=>e b (List.mem_cons_of_mem _ hb)⟩
  | .t ts,v,fp,h,e=>by
    simp only [TrOk] at h ⊢
    obtain ⟨a,vs,h1,h3,h4⟩:=h
    exact ⟨a,vs,h1,h3,TrOkL.at' ts h4 e⟩
theorem TrOkL.at':∀ (ts:List Tr) {vs:List V} {fp:List Addr},TrOkL K F H ts vs fp→(∀ b ∈ fp,H' b=H b)→TrOkL K F H' ts vs fp
  | [],vs,fp,h,_=>by simpa only [TrOkL] using h
  | t :: ts,vs,fp,h,e=>by
    simp only [TrOkL] at h ⊢
    obtain ⟨v,r,f1,f2,h1,h2,h3,h4⟩:=h
    subst h2
    exact ⟨v,r,f1,f2,h1,rfl,TrOk.at' t h3 fun b hb=>e b (List.mem_append_left _ hb),TrOkL.at' ts h4 fun b hb=>e b (List.mem_append_right _ hb)⟩
end
theorem Tab.mono {a:Addr} {bs:List Addr} {T:Tr} (e1:Same F F') (e:Same H H') (t:Tab K F H a bs T):Tab K F' H' a bs T:=⟨TrOk.mono e1 e T t.ok,t.nd⟩
theorem Tab.obj {a:Addr} {bs:List Addr} {T:Tr} (t:Tab K F H a bs T):∀ b ∈ a :: bs,∃ o,H b=some o:=TrOk.obj T t.ok
theorem Tab.at' {a:Addr} {bs:List Addr} {T:Tr} (t:Tab K F H a bs T) (e:∀ b ∈ a :: bs,H' b=H b):Tab K F H' a bs T:=⟨TrOk.at' T t.ok e,t.nd⟩
theorem SlOk.mono (e:Ext F H F' H'):∀ {x:Option Sl} {s:Option (Option V)},SlOk K H0 F H x s→SlOk K H0 F' H' x s
  | some (.v d),s,h=>let ⟨u,h1,h2⟩:=h; ⟨u,h1,Rep.mono e.ff d h2⟩
  | some (.o d),s,h=>let ⟨a,h1,h2,h3,h4⟩:=h; let ⟨o,ho⟩:=h4.obj; ⟨a,h1,h2,e.nw a o h3 ho,h4.mono e.ff e.hh⟩
  | some (.l d),s,h=>let ⟨a,h1,h2,h3,h4⟩:=h; let ⟨o,ho⟩:=h4.obj; ⟨a,h1,h2,e.nw a o h3 ho,h4.mono e.ff e.hh⟩
  | some (.p T),s,h=>let ⟨a,bs,h1,h2,h3⟩:=h; ⟨a,bs,h1,h2.mono e.ff e.hh,fun b hb=>let ⟨o,ho⟩:=h2.obj b hb; ⟨(h3 b hb).1,e.nw b o (h3 b hb).2 ho⟩⟩
  | some .no,_,_=>trivial
  | none,_,_=>trivial
theorem EnvOk.tab (I:EnvOk K Λ F0 H0 F H σ δ) {i:Nat} {T:Tr} (hx:δ[i]?=some (.p T)):∃ a bs,σ[i]?=some (some (.ref a))∧Tab K F H a bs T∧(∀ b ∈ a :: bs,H0 b=none∧F b=none)∧(∀ (j:Nat) (b:Addr),j ≠ i→Sl.own δ[j]?=true→σ[j]?=some (some (.ref b))→b ∉ a :: bs)∧∀ (j:Nat) (T':Tr),δ[j]?=some (.p T')→j=i:=I.tabs i T hx
theorem EnvOk.tabsOf {δ':En} {σ':St} (I:EnvOk K Λ F0 H0 F H σ δ) (h1:∀ (i:Nat) (T:Tr),δ'[i]?=some (.p T)→δ[i]?=some (.p T)∧σ'[i]?=σ[i]?)
    (h2:∀ (i:Nat) (a:Addr) (bs:List Addr) (T:Tr),δ[i]?=some (.p T)→σ[i]?=some (some (.ref a))→Tab K F H a bs T→(∀ b ∈ a :: bs,H0 b=none∧F b=none)→(∀ (j:Nat) (b:Addr),j ≠ i→Sl.own δ[j]?=true→σ[j]?=some (some (.ref b))→b ∉ a :: bs)→Tab K F' H' a bs T∧∀ b ∈ a :: bs,F' b=none)
    (h3:∀ (i j:Nat) (T:Tr) (a b:Addr) (bs:List Addr),δ[i]?=some (.p T)→σ[i]?=some (some (.ref a))→Tab K F H a bs T→j ≠ i→Sl.own δ'[j]?=true→σ'[j]?=some (some (.ref b))→(Sl.own δ[j]?=true∧σ[j]?=some (some (.ref b)))∨b ∉ a :: bs) :
    ∀ (i:Nat) (T:Tr),δ'[i]?=some (.p T)→∃ a bs,σ'[i]?=some (some (.ref a))∧Tab K F' H' a bs T∧(∀ b ∈ a :: bs,H0 b=none∧F' b=none)∧(∀ (j:Nat) (b:Addr),j ≠ i→Sl.own δ'[j]?=true→σ'[j]?=some (some (.ref b))→b ∉ a :: bs)∧∀ (j:Nat) (T':Tr),δ'[j]?=some (.p T')→j=i:=by
  intro i T g1
  obtain ⟨d1,d2⟩:=h1 i T g1
  obtain ⟨a,bs,t1,t2,t3,t4,t5⟩:=I.tab d1
  obtain ⟨u1,u2⟩:=h2 i a bs T d1 t1 t2 t3 t4
  refine ⟨a,bs,d2.trans t1,u1,fun b hb=>⟨(t3 b hb).1,u2 b hb⟩,fun j b hj ho hs hb=>?_,fun j T' hj=>t5 j T' (h1 j T' hj).1⟩
  rcases h3 i j T a b bs d1 t1 t2 hj ho hs with ⟨o1,o2⟩ | o
  · exact t4 j b hj o1 o2 hb
  · exact o hb
theorem zjz (e:Ext F H F' H') {a:Addr} {bs:List Addr} {T:Tr} (t:Tab K F H a bs T) (f:∀ b ∈ a :: bs,H0 b=none∧F b=none):Tab K F' H' a bs T∧∀ b ∈ a :: bs,F' b=none :=
  ⟨t.mono e.ff e.hh,fun b hb=>let ⟨o,ho⟩:=t.obj b hb; e.nw b o (f b hb).2 ho⟩
theorem EnvOk.grow (I:EnvOk K Λ F0 H0 F H σ δ) (e:Ext F H F' H'):EnvOk K Λ F0 H0 F' H' σ δ :=
  ⟨I.ext.trans e,I.len,fun i=>(I.slot i).mono e,I.dist,fun x hx=>let ⟨h1,h2,h3⟩:=I.lent x hx; ⟨h1,h2,e.hh _ _ h3⟩,I.tabsOf (fun i T h=>⟨h,rfl⟩) (fun i a bs T _ _ t f _=>zjz e t f) fun i j T a b bs _ _ _ _ ho hs=>.inl ⟨ho,hs⟩⟩
theorem EnvOk.same (I:EnvOk K Λ F0 H0 F H σ δ):Same F H:=I.ext.fh
theorem Ext.base (a:Ext F0 H0 F1 H1) (b:Ext F1 H0 F' H'):Ext F0 H0 F' H' :=
  ⟨a.ff.trans b.ff,b.hh,b.fh,fun p o h1 h2=>b.nw p o (a.nw p o h1 h2) h2⟩
theorem EnvOk.up (I:EnvOk K Λ F0 H0 F H σ δ):EnvOk K Λ F H0 F H σ δ :=
  ⟨⟨.refl _,I.ext.hh,I.ext.fh,fun p o h1 h2=>h1⟩,I.len,I.slot,I.dist,I.lent,I.tabs⟩
theorem EnvOk.down (a:Ext F0 H0 F1 H1) (I:EnvOk K Λ F1 H0 F H σ δ):EnvOk K Λ F0 H0 F H σ δ :=
  ⟨a.base I.ext,I.len,I.slot,I.dist,I.lent,I.tabs⟩
theorem EnvOk.put {i:Nat} {d:D} {v:V} (I:EnvOk K Λ F0 H0 F H σ δ) (hl:∃ x,δ[i]?=some x∧∀ d,x ≠ .l d) (r:Rep K F d v):EnvOk K Λ F0 H0 F H (σ.set i (some v)) (δ.set i (.v d)):=by
  obtain ⟨x,hx,hn⟩:=hl
  have hi:i < δ.length:=(List.getElem?_eq_some_iff.mp hx).1
  have hi':i < σ.length:=by rw [I.len]; exact hi
  refine ⟨I.ext,by simp [I.len],fun j=>?_,fun j k a hjk h1 h2 h3 h4=>?_,fun y hy=>?_,I.tabsOf (fun k ll h=>by
      by_cases e:i=k
      · subst e; rw [List.getElem?_set_self hi] at h; cases h
      · rw [List.getElem?_set_ne e] at h; exact ⟨h,List.getElem?_set_ne e⟩) (fun _ _ _ _ _ _ t f _=>⟨t,fun b hb=>(f b hb).2⟩) fun k j ll a b bs _ _ _ _ ho hs=>.inl (by
      by_cases e:i=j
      · subst e; rw [List.getElem?_set_self hi] at ho; cases ho
      · rw [List.getElem?_set_ne e] at ho hs; exact ⟨ho,hs⟩)⟩
  · by_cases e:i=j
    · subst e
      rw [List.getElem?_set_self hi,List.getElem?_set_self hi']
      exact ⟨v,rfl,r⟩
    · rw [List.getElem?_set_ne e,List.getElem?_set_ne e]
      exact I.slot j
  · have ne:∀ k:Nat,Sl.own (δ.set i (.v d))[k]?=true→i ≠ k:=by
      rintro k h rfl
      rw [List.getElem?_set_self hi] at h
      cases h
    have n1:=ne j h1
    have n2:=ne k h2
    rw [List.getElem?_set_ne n1] at h1 h3
    rw [List.getElem?_set_ne n2] at h2 h4
    exact I.dist j k a hjk h1 h2 h3 h4
  · obtain ⟨⟨d',h1⟩,h2,h3⟩:=I.lent y hy
    have n:i ≠ y.1:=by
      intro e
      rw [← e,hx] at h1
      exact hn d' (Option.some.inj h1)
    exact ⟨⟨d',by rw [List.getElem?_set_ne n]; exact h1⟩,by rw [List.getElem?_set_ne n]; exact h2,h3⟩
theorem EnvOk.putO {i:Nat} {d:D} {p:Addr} (I:EnvOk K Λ F0 H0 F H σ δ) (hl:∃ x,δ[i]?=some x∧∀ d,x ≠ .l d) (e:Ext F H F' H') (h0:F' p=none) (h1:H p=none) (o:Own K F' H' d p) :
    EnvOk K Λ F0 H0 F' H' (σ.set i (some (.ref p))) (δ.set i (.o d)):=by
  obtain ⟨x,hx,hn⟩:=hl
  have hi:i < δ.length:=(List.getElem?_eq_some_iff.mp hx).1
  have hi':i < σ.length:=by rw [I.len]; exact hi
  have fresh:∀ k:Nat,Sl.own δ[k]?=true→σ[k]? ≠ some (some (V.ref p)):=fun k hk e=>by
    have z:=I.slot k
    cases q:δ[k]? with
    | none=>rw [q] at hk; cases hk
    | some y =>
      rw [q] at hk z
      cases y with
      | no=>cases hk
      | v d=>cases hk
      | o d =>
        obtain ⟨a,z1,_,_,z4⟩:=z
        rw [e] at z1; cases z1
        obtain ⟨u,hu⟩:=z4.obj
        rw [h1] at hu; cases hu
      | l d =>
        obtain ⟨a,z1,_,_,z4⟩:=z
        rw [e] at z1; cases z1
        obtain ⟨u,hu⟩:=z4.obj
        rw [h1] at hu; cases hu
      | p ll =>
        obtain ⟨a,bs,z1,z2,_⟩:=z
        rw [e] at z1; cases z1
        obtain ⟨u,hu⟩:=z2.obj p (by simp)
        rw [h1] at hu; cases hu
  have J:=I.grow e
  refine ⟨J.ext,by simp [I.len],fun j=>?_,fun j k a hjk g1 g2 g3 g4=>?_,fun y hy=>?_,I.tabsOf (fun k ll h=>by
      by_cases e:i=k
      · subst e; rw [List.getElem?_set_self hi] at h; cases h
      · rw [List.getElem?_set_ne e] at h; exact ⟨h,List.getElem?_set_ne e⟩) (fun k a bs T _ _ t f _=>zjz e t f) fun k j ll a b bs _ _ t _ ho hs=>by
      by_cases e:i=j
      · subst e
        rw [List.getElem?_set_self hi'] at hs
        cases hs
        refine .inr fun hb=>?_
        obtain ⟨u,hu⟩:=t.obj p hb
        rw [h1] at hu; cases hu
      · rw [List.getElem?_set_ne e] at ho hs; exact .inl ⟨ho,hs⟩⟩
  · by_cases e:i=j
    · subst e
      rw [List.getElem?_set_self hi,List.getElem?_set_self hi']
      exact ⟨p,rfl,I.ext.hh.free h1,h0,o⟩
    · rw [List.getElem?_set_ne e,List.getElem?_set_ne e]
      exact J.slot j
  · by_cases e1:i=j
    · subst e1
      rw [List.getElem?_set_self hi'] at g3
      cases g3
      rw [List.getElem?_set_ne hjk] at g2 g4
      exact fresh k g2 g4
    · by_cases e2:i=k
      · subst e2
        rw [List.getElem?_set_self hi'] at g4
        cases g4
        rw [List.getElem?_set_ne e1] at g1 g3
        exact fresh j g1 g3
      · rw [List.getElem?_set_ne e1] at g1 g3
        rw [List.getElem?_set_ne e2] at g2 g4
        exact I.dist j k a hjk g1 g2 g3 g4
  · obtain ⟨⟨d',g1⟩,g2,g3⟩:=J.lent y hy
    have n:i ≠ y.1:=by
      intro e
      rw [← e,hx] at g1
      exact hn d' (Option.some.inj g1)
    exact ⟨⟨d',by rw [List.getElem?_set_ne n]; exact g1⟩,by rw [List.getElem?_set_ne n]; exact g2,g3⟩
theorem EnvOk.chg {i:Nat} {d d':D} {a:Addr} {u:HO} (I:EnvOk K Λ F0 H0 F H σ δ) (hx:δ[i]?=some (.o d)) (ha:σ[i]?=some (some (.ref a))) (o:Own K F (upd H a u) d' a) :
    EnvOk K Λ F0 H0 F (upd H a u) σ (δ.set i (.o d')):=by
  have hi:i < δ.length:=(List.getElem?_eq_some_iff.mp hx).1
  have z:=I.slot i
  rw [hx] at z
  obtain ⟨a',z1,z2,z3,z4⟩:=z
  rw [ha] at z1; cases z1
  have oth:∀ (k:Nat) (b:Addr),i ≠ k→Sl.own δ[k]?=true→σ[k]?=some (some (.ref b))→b ≠ a:=fun k b hk h1 h2 e=>by
    subst e
    exact I.dist i k b hk (by rw [hx]; rfl) h1 ha h2
  refine ⟨⟨I.ext.ff,fun b w q=>?_,fun b w q=>?_,I.ext.nw⟩,by simp [I.len],fun j=>?_,fun j k b hjk g1 g2 g3 g4=>?_,fun y hy=>?_,I.tabsOf (fun k ll h=>by
      by_cases e:i=k
      · subst e; rw [List.getElem?_set_self hi] at h; cases h
      · rw [List.getElem?_set_ne e] at h; exact ⟨h,rfl⟩) (fun k r bs T g1 g2 t f dj=>by
      have e:i ≠ k:=fun e=>by subst e; rw [hx] at g1; cases g1
      exact ⟨t.at' fun b hb=>zag fun e'=>dj i a e (by rw [hx]; rfl) ha (e' ▸ hb),fun b hb=>(f b hb).2⟩) fun k j ll r b bs _ _ _ _ ho hs=>.inl (by
      by_cases e:i=j
      · subst e; exact ⟨by rw [hx]; rfl,hs⟩
      · rw [List.getElem?_set_ne e] at ho; exact ⟨ho,hs⟩)⟩
  · rw [zag (zaq q z2)]; exact I.ext.hh b w q
  · rw [zag (zaq q z3)]; exact I.ext.fh b w q
  · by_cases e:i=j
    · subst e
      rw [List.getElem?_set_self hi]
      exact ⟨a,ha,z2,z3,o⟩
    · rw [List.getElem?_set_ne e]
      have w:=I.slot j
      cases q:δ[j]? with
      | none=>trivial
      | some y =>
        rw [q] at w
        cases y with
        | no=>trivial
        | v d=>exact w
        | o d =>
          obtain ⟨b,w1,w2,w3,w4⟩:=w
          exact ⟨b,w1,w2,w3,w4.at (zag (oth j b e (by rw [q]; rfl) w1))⟩
        | l d =>
          obtain ⟨b,w1,w2,w3,w4⟩:=w
          exact ⟨b,w1,w2,w3,w4.at (zag (oth j b e (by rw [q]; rfl) w1))⟩
        | p ll =>
          obtain ⟨r,bs,t1,t2,t3,t4,t5⟩:=I.tab q
          exact ⟨r,bs,t1,t2.at' fun b hb=>zag fun e'=>t4 i a e (by rw [hx]; rfl) ha (e' ▸ hb),t3⟩
  · have ow:∀ k:Nat,Sl.own (δ.set i (.o d'))[k]?=true→Sl.own δ[k]?=true:=by
      intro k h
      by_cases e:i=k
      · subst e; rw [hx]; rfl
      · rw [List.getElem?_set_ne e] at h; exact h
    exact I.dist j k b hjk (ow j g1) (ow k g2) g3 g4
  · obtain ⟨⟨d2,g1⟩,g2,g3⟩:=I.lent y hy
    have n:i ≠ y.1:=by
      intro e
      rw [← e,hx] at g1
      cases g1
    exact ⟨⟨d2,by rw [List.getElem?_set_ne n]; exact g1⟩,g2,by rw [zag (oth y.1 y.2.1 n (by rw [g1]; rfl) g2)]; exact g3⟩
end
end PM
namespace PM
open PySem L2
abbrev XOT:=Xc→Hp→Hp→Value→Option Addr→Prop
def Aft {α:Type} (E:St→XK) (XO:XOT) (σ:St) (F H:Hp) (P:α→Hp→Hp→Prop):R α→Prop
  | .no=>False
  | .ok a=>∀ F' H',Ext F H F' H'→P a F' H'
  | .ex x=>∀ C dct F' H',Ext F H F' H'→XO x F' H' C dct→E σ C dct H'
section
variable {E:St→XK} {XO:XOT} {σ:St} {F H F1 H1:Hp} {α β:Type} {P P':α→Hp→Hp→Prop}
theorem Aft.mono (e:Ext F H F1 H1):∀ {r:R α},Aft E XO σ F H P r→Aft E XO σ F1 H1 P r
  | .no,h=>h
  | .ok _,h=>fun F' H' e'=>h F' H' (e.trans e')
  | .ex _,h=>fun C dct F' H' e' x=>h C dct F' H' (e.trans e') x
theorem Aft.imp (i:∀ a F1 H1,Ext F H F1 H1→P a F1 H1→P' a F1 H1):∀ {r:R α},Aft E XO σ F H P r→Aft E XO σ F H P' r
  | .no,h=>h
  | .ok _,h=>fun F' H' e'=>i _ F' H' e' (h F' H' e')
  | .ex _,h=>h
theorem Aft.bind {P:β→Hp→Hp→Prop} {f:α→R β}:∀ {r:R α},Aft E XO σ F H P (r.bind f)→Aft E XO σ F H (fun a F1 H1=>Aft E XO σ F1 H1 P (f a)) r
  | .no,h=>h
  | .ok _,h=>fun F' H' e'=>Aft.mono e' h
  | .ex _,h=>h
end
inductive Prd (T:D→V→Prop):List D→List V→Prop where
  | nil:Prd T [] []
  | cons {d:D} {v:V} {ds:List D} {vs:List V}:T d v→Prd T ds vs→Prd T (d :: ds) (v :: vs)
section
variable (K:Kx) (XO:XOT) (E:St→XK)
def SE (t:TE) (m:En→R D):Prop:=∀ Λ F0 H0 F H σ δ Q,EnvOk K Λ F0 H0 F H σ δ→Aft E XO σ F H (fun d F' H'=>∀ v,Rep K F' d v→Q v H') (m δ)→t σ H Q
def SEr (t:TE) (m:En→R D):Prop:=∀ Λ F0 H0 F H σ δ Q,EnvOk K Λ F0 H0 F H σ δ→Aft E XO σ F H (fun d F' H'=>∀ v,Top K F' H' d v→Q v H') (m δ)→t σ H Q
def SEo (t:TE) (m:En→R D):Prop:=∀ Λ F0 H0 F H σ δ Q,EnvOk K Λ F0 H0 F H σ δ→Aft E XO σ F H (fun d F' H'=>∀ p,F' p=none→H p=none→Own K F' H' d p→Q (.ref p) H') (m δ)→t σ H Q
def ST (t:TT) (m:En→R Bool):Prop:=∀ Λ F0 H0 F H σ δ Q,EnvOk K Λ F0 H0 F H σ δ→Aft E XO σ F H (fun b _ H'=>Q b H') (m δ)→t σ H Q
def SA (t:TA) (m:En→R (List D)):Prop:=∀ Λ F0 H0 F H σ δ Q,EnvOk K Λ F0 H0 F H σ δ→Aft E XO σ F H (fun ds F' H'=>∀ vs,RepL K F' ds vs→Q vs H') (m δ)→t σ H Q
def SAr (t:TA) (m:En→R (List D)):Prop:=∀ Λ F0 H0 F H σ δ Q,EnvOk K Λ F0 H0 F H σ δ→Aft E XO σ F H (fun ds F' H'=>∀ vs,Prd (Top K F' H') ds vs→Q vs H') (m δ)→t σ H Q
end
section
variable {K:Kx} {XO:XOT} {E:St→XK} {t ta tb te:TE} {m ma mb me:En→R D}
theorem SE.r (h:SE K XO E t m):SEr K XO E t m:=fun Λ F0 H0 F H σ δ Q I a=>h Λ F0 H0 F H σ δ Q I (a.imp fun d F1 H1 e p v r=>p v (r.top e.fh))
theorem SEo.e (h:SEo K XO E t m):SE K XO E t m:=fun Λ F0 H0 F H σ δ Q I a=>h Λ F0 H0 F H σ δ Q I (by
  cases q:m δ with
  | no=>rw [q] at a; exact a
  | ex x=>rw [q] at a; exact a
  | ok d =>
    rw [q] at a
    intro F1 H1 e p h0 h1 o
    obtain ⟨F2,e2,s2,r⟩:=o.freeze e h0 h1
    exact a F2 H1 e2 _ r)
def mVar (i:Nat) (δ:En):R D:=match δ[i]? with | some (.v d)=>.ok d | _=>.no
def mRd (i:Nat) (δ:En):R D:=match δ[i]? with | some (.v d)=>.ok d | some (.o d)=>.ok d | some (.l d)=>.ok d | _=>.no
theorem zai {i:Nat}:SE K XO E (tVar i) (mVar i):=by
  intro Λ F0 H0 F H σ δ Q I a
  unfold mVar at a
  have z:=I.slot i
  split at a
  · rename_i d q
    rw [q] at z
    obtain ⟨u,h1,h2⟩:=z
    exact ⟨u,h1,a F H (.refl I.same) u h2⟩
  · exact a.elim
theorem zac {i:Nat}:SEr K XO E (tVar i) (mRd i):=by
  intro Λ F0 H0 F H σ δ Q I a
  unfold mRd at a
  have z:=I.slot i
  split at a
  · rename_i d q
    rw [q] at z
    obtain ⟨u,h1,h2⟩:=z
    exact ⟨u,h1,a F H (.refl I.same) u (h2.top I.same)⟩
  · rename_i d q
    rw [q] at z
    obtain ⟨u,h1,_,_,h2⟩:=z
    exact ⟨_,h1,a F H (.refl I.same) _ h2.top⟩
  · rename_i d q
    rw [q] at z
    obtain ⟨u,h1,_,_,h2⟩:=z
    exact ⟨_,h1,a F H (.refl I.same) _ h2.top⟩
  · exact a.elim
def mC (d:D) (_:En):R D:=.ok d
theorem se_int {i:Int}:SE K XO E (tC (.int i)) (mC (.int i)):=fun Λ F0 H0 F H σ δ Q I a=>a F H (.refl I.same) _ (by simp only [Rep])
theorem zgO {i:Bool}:SE K XO E (tC (.bl i)) (mC (.bl i)):=fun Λ F0 H0 F H σ δ Q I a=>a F H (.refl I.same) _ (by simp only [Rep])
theorem zic:SE K XO E (tC .non) (mC .non):=fun Λ F0 H0 F H σ δ Q I a=>a F H (.refl I.same) _ (by simp only [Rep])
theorem zlA {i:Str}:SE K XO E (tC (.str i)) (mC (.str i)):=fun Λ F0 H0 F H σ δ Q I a=>a F H (.refl I.same) _ (by simp only [Rep])
def R.of {α:Type}:Option α→R α
  | some a=>.ok a
  | none=>.no
@[simp] theorem R.of_some {α:Type} (a:α):R.of (some a) = .ok a:=rfl
@[simp] theorem R.of_none {α:Type}:R.of (none:Option α) = .no:=rfl
def m2 (f:D→D→Option D) (ma mb:En→R D) (δ:En):R D:=(ma δ).bind fun x=>(mb δ).bind fun y=>R.of (f x y)
def m1 (f:D→Option D) (ma:En→R D) (δ:En):R D:=(ma δ).bind fun x=>R.of (f x)
@[simp] theorem ze7 {f:D→D→Option D} {ma mb:En→R D} {δ:En}:m2 f ma mb δ=(ma δ).bind fun x=>(mb δ).bind fun y=>R.of (f x y):=rfl
@[simp] theorem zri {f:D→Option D} {ma:En→R D} {δ:En}:m1 f ma δ=(ma δ).bind fun x=>R.of (f x):=rfl
variable (K) in
def SR (r:R2) (f:D→D→Option D):Prop:=∀ F H x y dx dy d Q,Same F H→Top K F H dx x→Top K F H dy y→f dx dy=some d→(∀ v F' H',Ext F H F' H'→Rep K F' d v→Q v H')→r x y H Q
variable (K) in
def SRo (r:R2) (f:D→D→Option D):Prop:=∀ F H x y dx dy d Q,Same F H→Top K F H dx x→Top K F H dy y→f dx dy=some d→(∀ p F' H',Ext F H F' H'→F' p=none→H p=none→Own K F' H' d p→Q (.ref p) H')→r x y H Q
theorem zak {r:R2} {f:D→D→Option D} (hr:SR K r f) (ha:SEr K XO E ta ma) (hb:SEr K XO E tb mb):SE K XO E (tOp r ta tb) (m2 f ma mb):=by
  intro Λ F0 H0 F H σ δ Q I a
  refine ha Λ F0 H0 F H σ δ _ I (a.bind.imp fun dx F1 H1 e1 a1 x rx=>?_)
  refine hb Λ F0 H0 F1 H1 σ δ _ (I.grow e1) (a1.bind.imp fun dy F2 H2 e2 a2 y ry=>?_)
  cases q:f dx dy with
  | none=>rw [q] at a2; exact a2.elim
  | some d =>
    rw [q] at a2
    exact hr F2 H2 x y dx dy d Q e2.fh (rx.mono e2.ff e2.hh) ry q fun v F' H' e r=>a2 F' H' e v r
theorem zpC {r:R2} {f:D→D→Option D} (hr:SRo K r f) (ha:SEr K XO E ta ma) (hb:SEr K XO E tb mb):SEo K XO E (tOp r ta tb) (m2 f ma mb):=by
  intro Λ F0 H0 F H σ δ Q I a
  refine ha Λ F0 H0 F H σ δ _ I (a.bind.imp fun dx F1 H1 e1 a1 x rx=>?_)
  refine hb Λ F0 H0 F1 H1 σ δ _ (I.grow e1) (a1.bind.imp fun dy F2 H2 e2 a2 y ry=>?_)
  cases q:f dx dy with
  | none=>rw [q] at a2; exact a2.elim
  | some d =>
    rw [q] at a2
    exact hr F2 H2 x y dx dy d Q e2.fh (rx.mono e2.ff e2.hh) ry q fun p F' H' e h0 h1 o=>a2 F' H' e p h0 (e1.hh.free (e2.hh.free h1)) o
variable (K) in
def SU (r:V→Hp→VK→Prop) (f:D→Option D):Prop:=∀ F H x dx d Q,Same F H→Top K F H dx x→f dx=some d→(∀ v F' H',Ext F H F' H'→Rep K F' d v→Q v H')→r x H Q
theorem zq9 {r:V→Hp→VK→Prop} {f:D→Option D} (hr:SU K r f) (ha:SEr K XO E ta ma):SE K XO E (tUn r ta) (m1 f ma):=by
  intro Λ F0 H0 F H σ δ Q I a
  refine ha Λ F0 H0 F H σ δ _ I (a.bind.imp fun dx F1 H1 e1 a1 x rx=>?_)
  cases q:f dx with
  | none=>rw [q] at a1; exact a1.elim
  | some d =>
    rw [q] at a1
    exact hr F1 H1 x dx d Q e1.fh rx q fun v F' H' e r=>a1 F' H' e v r
def mNil (_:En):R (List D):=.ok []
def zaa (ma:En→R D) (mr:En→R (List D)) (δ:En):R (List D):=(ma δ).bind fun x=>(mr δ).bind fun l=>.ok (x :: l)
theorem zar:SA K XO E tNil mNil:=fun Λ F0 H0 F H σ δ Q I a=>a F H (.refl I.same) _ .nil
theorem zad {tr:TA} {mr:En→R (List D)} (ha:SE K XO E ta ma) (hr:SA K XO E tr mr):SA K XO E (zbx ta tr) (zaa ma mr):=by
  intro Λ F0 H0 F H σ δ Q I a
  refine ha Λ F0 H0 F H σ δ _ I (a.bind.imp fun dx F1 H1 e1 a1 x rx=>?_)
  refine hr Λ F0 H0 F1 H1 σ δ _ (I.grow e1) (a1.bind.imp fun dy F2 H2 e2 a2 y ry=>?_)
  exact a2 F2 H2 (.refl e2.fh) _ (.cons (Rep.mono e2.ff _ rx) ry)
theorem zaW:SAr K XO E tNil mNil:=fun Λ F0 H0 F H σ δ Q I a=>a F H (.refl I.same) _ .nil
theorem zaJ {tr:TA} {mr:En→R (List D)} (ha:SEr K XO E ta ma) (hr:SAr K XO E tr mr):SAr K XO E (zbx ta tr) (zaa ma mr):=by
  intro Λ F0 H0 F H σ δ Q I a
  refine ha Λ F0 H0 F H σ δ _ I (a.bind.imp fun dx F1 H1 e1 a1 x rx=>?_)
  refine hr Λ F0 H0 F1 H1 σ δ _ (I.grow e1) (a1.bind.imp fun dy F2 H2 e2 a2 y ry=>?_)
  exact a2 F2 H2 (.refl e2.fh) _ (.cons (rx.mono e2.ff e2.hh) ry)
def mTup (ml:En→R (List D)) (δ:En):R D:=(ml δ).bind fun l=>ifC (l.length ≤ sizeLine) (.ok (.tup l)) .no
def mLst (ml:En→R (List D)) (δ:En):R D:=(ml δ).bind fun l=>ifC (l.length ≤ sizeLine) (.ok (.lst l)) .no
theorem zgD {tl:TA} {ml:En→R (List D)} (h:SA K XO E tl ml):SE K XO E (tTup tl) (mTup ml):=by
  intro Λ F0 H0 F H σ δ Q I a
  refine h Λ F0 H0 F H σ δ _ I (a.bind.imp fun ds F1 H1 e1 a1 vs r=>?_)
  unfold ifC at a1
  split at a1
  · rename_i hl
    refine ⟨by rw [r.length]; exact hl,fun p hp=>a1 _ _ (.new e1.fh hp) _ ?_⟩
    simp only [Rep]
    exact ⟨p,vs,rfl,zal,r.mono (Same.upd (e1.fh.free hp))⟩
  · exact a1.elim
theorem zbR {tl:TA} {ml:En→R (List D)} (h:SA K XO E tl ml):SEo K XO E (tLst tl) (mLst ml):=by
  intro Λ F0 H0 F H σ δ Q I a
  refine h Λ F0 H0 F H σ δ _ I (a.bind.imp fun ds F1 H1 e1 a1 vs r=>?_)
  unfold ifC at a1
  split at a1
  · rename_i hl
    refine ⟨by rw [r.length]; exact hl,fun p hp=>a1 _ _ (.newO e1.fh hp) _ (e1.fh.free hp) (e1.hh.free hp) ⟨vs,zal,r⟩⟩
  · exact a1.elim
theorem zjX:SEo K XO E zn2 (mC (.dct [] [])):=fun Λ F0 H0 F H σ δ Q I a p hp=>a F _ (.newO I.same hp) p (I.same.free hp) hp ⟨[],zal,rfl,.nil⟩
def asB:D→Option Bool
  | .bl b=>some b
  | _=>none
def zap (me:En→R D) (δ:En):R Bool:=(me δ).bind fun d=>R.of (asB d)
theorem zaM (h:SE K XO E te me):ST K XO E (zqH te) (zap me):=by
  intro Λ F0 H0 F H σ δ Q I a
  refine h Λ F0 H0 F H σ δ _ I (a.bind.imp fun d F1 H1 e1 a1 v r=>?_)
  cases d with
  | bl b=>simp only [Rep] at r; exact ⟨b,r,a1 F1 H1 (.refl e1.fh)⟩
  | _=>exact a1.elim
theorem st_b (h:SE K XO E te me):ST K XO E (tB te) (zap me):=zaM h
variable {tA tB':TT} {nA nB:En→R Bool}
def mAnd (nA nB:En→R Bool) (δ:En):R Bool:=(nA δ).bind fun b=>if b=true then nB δ else .ok false
def mOr (nA nB:En→R Bool) (δ:En):R Bool:=(nA δ).bind fun b=>if b=true then .ok true else nB δ
def mNot (nA:En→R Bool) (δ:En):R Bool:=(nA δ).bind fun b=>.ok (!b)
theorem zpK (h:ST K XO E tA nA) (h':ST K XO E tB' nB):ST K XO E (tAnd tA tB') (mAnd nA nB):=by
  intro Λ F0 H0 F H σ δ Q I a
  refine h Λ F0 H0 F H σ δ _ I (a.bind.imp fun b F1 H1 e1 a1=>?_)
  cases b with
  | true=>exact h' Λ F0 H0 F1 H1 σ δ _ (I.grow e1) a1
  | false=>exact a1 F1 H1 (.refl e1.fh)
theorem ziq (h:ST K XO E tA nA) (h':ST K XO E tB' nB):ST K XO E (tOr tA tB') (mOr nA nB):=by
  intro Λ F0 H0 F H σ δ Q I a
  refine h Λ F0 H0 F H σ δ _ I (a.bind.imp fun b F1 H1 e1 a1=>?_)
  cases b with
  | false=>exact h' Λ F0 H0 F1 H1 σ δ _ (I.grow e1) a1
  | true=>exact a1 F1 H1 (.refl e1.fh)
theorem zha (h:ST K XO E tA nA):ST K XO E (tNot tA) (mNot nA):=by
  intro Λ F0 H0 F H σ δ Q I a
  exact h Λ F0 H0 F H σ δ _ I (a.bind.imp fun b F1 H1 e1 a1=>a1 F1 H1 (.refl e1.fh))
def zkr (ma mb:En→R D) (δ:En):R D:=(ma δ).bind fun d=>(R.of (asB d)).bind fun b=>if b=true then mb δ else .ok (.bl false)
def zhE (ma:En→R D) (δ:En):R D:=(ma δ).bind fun d=>(R.of (asB d)).bind fun b=>.ok (.bl (!b))
theorem zlU (h:SE K XO E ta ma) (h':SE K XO E tb mb):SE K XO E (zpy ta tb) (zkr ma mb):=by
  intro Λ F0 H0 F H σ δ Q I a
  refine h Λ F0 H0 F H σ δ _ I (a.bind.imp fun d F1 H1 e1 a1 v r=>?_)
  cases d with
  | bl b =>
    simp only [Rep] at r
    refine ⟨b,r,?_⟩
    cases b with
    | true=>exact h' Λ F0 H0 F1 H1 σ δ _ (I.grow e1) a1
    | false=>exact a1 F1 H1 (.refl e1.fh) _ (by simp only [Rep])
  | _=>exact a1.elim
theorem zls (h:SE K XO E ta ma):SE K XO E (zp4 ta) (zhE ma):=by
  intro Λ F0 H0 F H σ δ Q I a
  refine h Λ F0 H0 F H σ δ _ I (a.bind.imp fun d F1 H1 e1 a1 v r=>?_)
  cases d with
  | bl b =>
    simp only [Rep] at r
    exact ⟨b,r,a1 F1 H1 (.refl e1.fh) _ (by simp only [Rep])⟩
  | _=>exact a1.elim
def mIf (n:En→R Bool) (ma mb:En→R D) (δ:En):R D:=(n δ).bind fun b=>if b=true then ma δ else mb δ
theorem zq7 (h:ST K XO E tA nA) (ha:SE K XO E ta ma) (hb:SE K XO E tb mb):SE K XO E (tIf tA ta tb) (mIf nA ma mb):=by
  intro Λ F0 H0 F H σ δ Q I a
  refine h Λ F0 H0 F H σ δ _ I (a.bind.imp fun b F1 H1 e1 a1=>?_)
  cases b with
  | true=>exact ha Λ F0 H0 F1 H1 σ δ _ (I.grow e1) a1
  | false=>exact hb Λ F0 H0 F1 H1 σ δ _ (I.grow e1) a1
def spM (K:Kx) (XO:XOT) (f:List D→R D):Sp:=fun vs H Q E=>∃ F ds,Same F H∧RepL K F ds vs∧Aft (fun _=>E) XO [] F H (fun d F' H'=>∀ v,Rep K F' d v→Q v H') (f ds)
def zaV (f:List D→R D) (ml:En→R (List D)) (δ:En):R D:=(ml δ).bind f
def R.nev {α:Type}:R α→R α
  | .ex _=>.no
  | r=>r
@[simp] theorem R.nev_ok {α:Type} (a:α):(R.ok a).nev = .ok a:=rfl
def zau (f:List D→R D) (ml:En→R (List D)) (δ:En):R D:=(ml δ).bind fun l=>(f l).nev
theorem Aft.any {α:Type} {E E':St→XK} {σ σ':St} {F H:Hp} {P:α→Hp→Hp→Prop} {r:R α} (h:Aft E XO σ F H P r.nev):Aft E' XO σ' F H P r:=by
  cases r with
  | no=>exact h
  | ok a=>exact h
  | ex x=>exact h.elim
theorem ze0 {f:List D→R D} {tl:TA} {ml:En→R (List D)} (h:SA K XO E tl ml):SE K XO E (zmv (spM K XO f) E tl) (zaV f ml):=by
  intro Λ F0 H0 F H σ δ Q I a
  refine h Λ F0 H0 F H σ δ _ I (a.bind.imp fun ds F1 H1 e1 a1 vs r=>⟨F1,ds,e1.fh,r,?_⟩)
  cases q:f ds with
  | no=>rw [q] at a1; exact a1
  | ok d=>rw [q] at a1; exact a1
  | ex x=>rw [q] at a1; exact a1
theorem zbi {f:List D→R D} {tl:TA} {ml:En→R (List D)} {E':XK} (h:SA K XO E tl ml):SE K XO E (zkm (spM K XO f) [] E' tl) (zau f ml):=by
  intro Λ F0 H0 F H σ δ Q I a
  refine h Λ F0 H0 F H σ δ _ I (a.bind.imp fun ds F1 H1 e1 a1 vs r=>⟨F1,ds,e1.fh,by rw [List.append_nil]; exact r,a1.any⟩)
variable (K) in
def SG (g:TG) (b:D→En→Option En):Prop:=∀ Λ F0 H0 F H σ δ d v δ' Q,EnvOk K Λ F0 H0 F H σ δ→Rep K F d v→b d δ=some δ'→(∀ σ',EnvOk K Λ F0 H0 F H σ' δ'→Q σ' H)→g v σ H Q
variable (K) in
def SGs (g:TGs) (b:List D→En→Option En):Prop:=∀ Λ F0 H0 F H σ δ d v δ' Q,EnvOk K Λ F0 H0 F H σ δ→RepL K F d v→b d δ=some δ'→(∀ σ',EnvOk K Λ F0 H0 F H σ' δ'→Q σ' H)→g v σ H Q
def zan (i:Nat) (d:D) (δ:En):Option En:=match δ[i]? with | none=>none | some (.l _)=>none | some _=>some (δ.set i (.v d))
def zaX (i:Nat) (d:D) (δ:En):Option En:=match δ[i]? with | some .no=>some (δ.set i (.v d)) | _=>none
def bNil (l:List D) (δ:En):Option En:=match l with | []=>some δ | _=>none
def zbH (b:D→En→Option En) (c:List D→En→Option En) (l:List D) (δ:En):Option En:=match l with | d :: r=>(b d δ).bind (c r) | []=>none
def bTup (n:Nat) (c:List D→En→Option En) (d:D) (δ:En):Option En:=match d with | .tup l=>if l.length=n then c l δ else none | _=>none
def bLst (n:Nat) (c:List D→En→Option En) (d:D) (δ:En):Option En:=match d with | .lst l=>if l.length=n then c l δ else none | _=>none
theorem zat {i:Nat}:SG K (zfu i) (zan i):=by
  intro Λ F0 H0 F H σ δ d v δ' Q I r e q
  unfold zan at e
  split at e
  · cases e
  · cases e
  · rename_i x h2 h1
    cases e
    exact q _ (I.put ⟨x,h1,fun d' z=>h2 d' (by rw [z])⟩ r)
theorem zbP {i:Nat}:SG K (zfu i) (zaX i):=by
  intro Λ F0 H0 F H σ δ d v δ' Q I r e q
  unfold zaX at e
  split at e
  · rename_i h1
    cases e
    exact q _ (I.put ⟨_,h1,fun d' z=>by cases z⟩ r)
  · cases e
theorem zgw:SGs K gNil bNil:=by
  intro Λ F0 H0 F H σ δ d v δ' Q I r e q
  cases d with
  | nil=>simp only [RepL] at r; cases e; exact ⟨r,q _ I⟩
  | cons x l=>cases e
theorem zbV {g:TG} {h:TGs} {b:D→En→Option En} {c:List D→En→Option En} (hg:SG K g b) (hh:SGs K h c):SGs K (zqj g h) (zbH b c):=by
  intro Λ F0 H0 F H σ δ d v δ' Q I r e q
  cases d with
  | nil=>cases e
  | cons x l =>
    simp only [RepL] at r
    obtain ⟨u,w,rfl,r1,r2⟩:=r
    change (b x δ).bind (c l)=some δ' at e
    cases z:b x δ with
    | none=>rw [z] at e; cases e
    | some δ1 =>
      rw [z] at e
      exact ⟨u,w,rfl,hg Λ F0 H0 F H σ δ x u δ1 _ I r1 z fun σ1 I1=>hh Λ F0 H0 F H σ1 δ1 l w δ' Q I1 r2 e q⟩
theorem zjL {n:Nat} {h:TGs} {c:List D→En→Option En} (hh:SGs K h c):SG K (gTup K.f n h) (bTup n c):=by
  intro Λ F0 H0 F H σ δ d v δ' Q I r e q
  cases d with
  | tup l =>
    simp only [Rep] at r
    obtain ⟨a,vs,rfl,h1,h2⟩:=r
    simp only [bTup] at e
    split at e
    · rename_i hn
      exact ⟨a,vs,rfl,.inl (.inl (I.same _ _ h1)),by rw [h2.length]; exact hn,hh Λ F0 H0 F H σ δ l vs δ' Q I h2 e q⟩
    · cases e
  | _=>cases e
theorem zqC {n:Nat} {h:TGs} {c:List D→En→Option En} (hh:SGs K h c):SG K (gLst K.f n h) (bLst n c):=by
  intro Λ F0 H0 F H σ δ d v δ' Q I r e q
  cases d with
  | lst l =>
    simp only [Rep] at r
    obtain ⟨a,vs,rfl,h1,h2⟩:=r
    simp only [bLst] at e
    split at e
    · rename_i hn
      exact ⟨a,vs,rfl,.inl (PM.Same.rd I.same h1),by rw [h2.length]; exact hn,hh Λ F0 H0 F H σ δ l vs δ' Q I h2 e q⟩
    · cases e
  | _=>cases e
def Weak (δ δ':En):Prop:=δ.length=δ'.length∧∀ i:Nat,δ[i]?=some .no∨δ[i]?=δ'[i]?
theorem Weak.refl (δ:En):Weak δ δ:=⟨rfl,fun _=>.inr rfl⟩
theorem Weak.trans {a b c:En} (h:Weak a b) (h':Weak b c):Weak a c:=⟨h.1.trans h'.1,fun i=>by
  rcases h.2 i with z | z
  · exact .inl z
  · rcases h'.2 i with y | y
    · exact .inl (z.trans y)
    · exact .inr (z.trans y)⟩
def BW (b:D→En→Option En):Prop:=∀ d δ δ',b d δ=some δ'→Weak δ δ'
def BWs (b:List D→En→Option En):Prop:=∀ d δ δ',b d δ=some δ'→Weak δ δ'
theorem zcC {i:Nat}:BW (zaX i):=by
  intro d δ δ' e
  unfold zaX at e
  split at e
  · rename_i h1
    cases e
    refine ⟨by simp,fun j=>?_⟩
    by_cases h:i=j
    · subst h; exact .inl h1
    · exact .inr (by rw [List.getElem?_set_ne h])
  · cases e
theorem zo4:BWs bNil:=by
  intro d δ δ' e
  cases d with
  | nil=>cases e; exact .refl _
  | cons x l=>cases e
theorem zjU {b:D→En→Option En} {c:List D→En→Option En} (h:BW b) (h':BWs c):BWs (zbH b c):=by
  intro d δ δ' e
  cases d with
  | nil=>cases e
  | cons x l =>
    change (b x δ).bind (c l)=some δ' at e
    cases z:b x δ with
    | none=>rw [z] at e; cases e
    | some δ1=>rw [z] at e; exact (h _ _ _ z).trans (h' _ _ _ e)
theorem zql {n:Nat} {c:List D→En→Option En} (h:BWs c):BW (bTup n c):=by
  intro d δ δ' e
  cases d with
  | tup l =>
    simp only [bTup] at e
    split at e
    · exact h _ _ _ e
    · cases e
  | _=>cases e
variable (K) in
def IsIt (J:It) (P:Hp→Hp→Prop) (ds:List D):Prop:=∀ F2 H2,P F2 H2→∀ i:Nat,(∀ d,ds[i]?=some d→J.go i H2∧∀ x H',J.yld i H2 x H'→∃ F3,Ext F2 H2 F3 H'∧Rep K F3 d x)∧(ds[i]?=none→J.stop i H2)
variable (K XO E) in
def SI (wi:TI) (m:En→R (List D)):Prop:=∀ Λ F0 H0 F H σ δ R,EnvOk K Λ F0 H0 F H σ δ→Aft E XO σ F H (fun ds F1 H1=>∀ J,IsIt K J (fun F2 H2=>Same F1 F2∧Same F2 H2) ds→R J H1) (m δ)→wi σ H R
variable (K XO E) in
def SIc (wi:TI) (m:En→R (List D)):Prop:=∀ Λ F0 H0 F H σ δ R,EnvOk K Λ F0 H0 F H σ δ→Aft E XO σ F H (fun ds F1 H1=>∀ J,IsIt K J (fun F2 H2=>Ext F1 H1 F2 H2) ds→R J H1) (m δ)→wi σ H R
theorem SI.c {wi:TI} {m:En→R (List D)} (h:SI K XO E wi m):SIc K XO E wi m:=fun Λ F0 H0 F H σ δ R I a=>h Λ F0 H0 F H σ δ R I (a.imp fun ds F1 H1 e p J hJ=>p J fun F2 H2 x=>hJ F2 H2 ⟨x.ff,x.fh⟩)
def asL:D→Option (List D)
  | .lst l=>some l
  | .scr l=>some (l.map .int)
  | _=>none
def asT:D→Option (List D)
  | .tup l=>some l
  | _=>none
def mItL (ml:En→R D) (δ:En):R (List D):=(ml δ).bind fun d=>R.of (asL d)
def mItT (ml:En→R D) (δ:En):R (List D):=(ml δ).bind fun d=>R.of (asT d)
theorem zfc {a:Addr} {ds:List D} {vs:List V} {F1:Hp} {P:Hp→Hp→Prop} (r:RepL K F1 ds vs) (h:∀ F2 H2,P F2 H2→Same F1 F2∧Same F2 H2∧SqL K.f H2 a vs):IsIt K (Itl K.f a) P ds:=by
  intro F2 H2 p i
  obtain ⟨s1,s2,q⟩:=h F2 H2 p
  refine ⟨fun d hd=>?_,fun hn=>?_⟩
  · obtain ⟨v,hv,rv⟩:=r.get hd
    refine ⟨⟨vs,v,q,hv⟩,fun x H' y=>?_⟩
    obtain ⟨rfl,y⟩:=y
    have z:=y vs q
    rw [hv] at z; cases z
    exact ⟨F2,.refl s2,Rep.mono s1 _ rv⟩
  · exact ⟨vs,q,by rw [r.length]; exact List.getElem?_eq_none_iff.mp hn⟩
theorem zgi (h:SE K XO E te me):SI K XO E (zoq K.f te) (mItL me):=by
  intro Λ F0 H0 F H σ δ R I a
  refine h Λ F0 H0 F H σ δ _ I (a.bind.imp fun d F1 H1 e1 a1 v r=>?_)
  cases d with
  | lst l =>
    simp only [Rep] at r
    obtain ⟨a,vs,rfl,h1,h2⟩:=r
    exact ⟨a,rfl,⟨vs,.inl (PM.Same.rd e1.fh h1)⟩,a1 F1 H1 (.refl e1.fh) _ (zfc h2 fun F2 H2 x=>⟨x.1,x.2,.inl (PM.Same.rd x.2 (PM.Same.rd x.1 h1))⟩)⟩
  | scr l =>
    simp only [Rep] at r
    obtain ⟨a,rfl,h1⟩:=r
    exact ⟨a,rfl,⟨_,e1.fh.seq h1⟩,a1 F1 H1 (.refl e1.fh) _ (zfc .ints fun F2 H2 x=>⟨x.1,x.2,x.2.seq (x.1.seq h1)⟩)⟩
  | _=>exact a1.elim
theorem ze9 (h:SEr K XO E te me):SIc K XO E (zoq K.f te) (mItL me):=by
  intro Λ F0 H0 F H σ δ R I a
  refine h Λ F0 H0 F H σ δ _ I (a.bind.imp fun d F1 H1 e1 a1 v r=>?_)
  cases d with
  | lst l =>
    obtain ⟨a,vs,rfl,h1,h2⟩:=r
    exact ⟨a,rfl,⟨vs,.inl h1⟩,a1 F1 H1 (.refl e1.fh) _ (zfc h2 fun F2 H2 x=>⟨x.ff,x.fh,.inl (PM.Same.rd x.hh h1)⟩)⟩
  | scr l =>
    simp only [Top,Rep] at r
    obtain ⟨a,rfl,h1⟩:=r
    exact ⟨a,rfl,⟨_,e1.fh.seq h1⟩,a1 F1 H1 (.refl e1.fh) _ (zfc .ints fun F2 H2 x=>⟨x.ff,x.fh,x.fh.seq (x.ff.seq h1)⟩)⟩
  | _=>exact a1.elim
theorem zpJ (h:SE K XO E te me):SI K XO E (iTup K.f te) (mItT me):=by
  intro Λ F0 H0 F H σ δ R I a
  refine h Λ F0 H0 F H σ δ _ I (a.bind.imp fun d F1 H1 e1 a1 v r=>?_)
  cases d with
  | tup l =>
    simp only [Rep] at r
    obtain ⟨a,vs,rfl,h1,h2⟩:=r
    refine ⟨a,rfl,⟨vs,.inl (.inl (e1.fh _ _ h1))⟩,a1 F1 H1 (.refl e1.fh) _ fun F2 H2 x i=>?_⟩
    have q:SqT K.f H2 a vs:=.inl (.inl (x.2 _ _ (x.1 _ _ h1)))
    refine ⟨fun d hd=>?_,fun hn=>?_⟩
    · obtain ⟨v,hv,rv⟩:=h2.get hd
      refine ⟨⟨vs,v,q,hv⟩,fun x' H' y=>?_⟩
      obtain ⟨rfl,y⟩:=y
      have z:=y vs q
      rw [hv] at z; cases z
      exact ⟨F2,.refl x.2,Rep.mono x.1 _ rv⟩
    · exact ⟨vs,q,by rw [h2.length]; exact List.getElem?_eq_none_iff.mp hn⟩
  | _=>exact a1.elim
def zf5 (lo:Int) (n:Nat):List D:=(List.range n).map fun (k:Nat)=>D.int (lo + (k:Int))
theorem zkj {lo:Int} {n:Nat} {P:Hp→Hp→Prop} (h:∀ F2 H2,P F2 H2→Same F2 H2):IsIt K (Itr lo n) P (zf5 lo n):=by
  intro F2 H2 p i
  unfold zf5
  rw [List.getElem?_map]
  have er:(List.range n)[i]?=if i < n then some i else none:=by
    by_cases hi:i < n
    · rw [if_pos hi,List.getElem?_range hi]
    · rw [if_neg hi,List.getElem?_eq_none_iff]; simpa using hi
  rw [er]
  refine ⟨fun d hd=>?_,fun hn=>?_⟩
  · by_cases hi:i < n
    · rw [if_pos hi] at hd
      cases hd
      refine ⟨hi,fun x H' y=>?_⟩
      obtain ⟨rfl,rfl⟩:=y
      exact ⟨F2,.refl (h F2 _ p),by simp only [Rep]⟩
    · rw [if_neg hi] at hd; cases hd
  · by_cases hi:i < n
    · rw [if_pos hi] at hn; cases hn
    · exact Nat.le_of_not_lt hi
def rng (l:List D):Option (List D):=match l with
  | [.int j]=>ifC (-(2 ^ 62) ≤ j∧j < 2 ^ 62) (some (zf5 0 j.toNat)) none
  | [.int i,.int j]=>ifC (-(2 ^ 62) ≤ i∧i < 2 ^ 62∧-(2 ^ 62) ≤ j∧j < 2 ^ 62) (some (zf5 i (j - i).toNat)) none
  | _=>none
def mRng (ml:En→R (List D)) (δ:En):R (List D):=(ml δ).bind fun l=>R.of (rng l)
theorem RepL.one {F:Hp} {d:D} {vs:List V} (r:RepL K F [d] vs):∃ v,vs = [v]∧Rep K F d v:=by
  simp only [RepL] at r
  obtain ⟨v,r',rfl,h,rfl⟩:=r
  exact ⟨v,rfl,h⟩
theorem zaS {tl:TA} {ml:En→R (List D)} (hn:∀ δ l,ml δ = .ok l→l.length=1) (h:SA K XO E tl ml):SI K XO E (zqs tl) (mRng ml):=by
  intro Λ F0 H0 F H σ δ R I a
  unfold mRng at a
  cases hm:ml δ with
  | no=>rw [hm] at a; exact a.elim
  | ex x=>refine h Λ F0 H0 F H σ δ _ I ?_; rw [hm] at a ⊢; exact a
  | ok l =>
    refine h Λ F0 H0 F H σ δ _ I ?_
    rw [hm] at a ⊢
    intro F1 H1 e1 vs r
    have h1:=hn δ l hm
    match l,h1 with
    | [d],_ =>
      obtain ⟨v,rfl,rv⟩:=r.one
      have a1:=Aft.mono e1 a
      cases d with
      | int j =>
        simp only [Rep] at rv
        subst rv
        change Aft E XO σ F1 H1 _ (PM.R.of (ifC (-(2 ^ 62) ≤ j∧j < 2 ^ 62) _ _)) at a1
        by_cases hj : -(2 ^ 62) ≤ j∧j < 2 ^ 62
        · rw [za8 hj] at a1
          exact ⟨j,rfl,hj.1,hj.2,a1 F1 H1 (.refl e1.fh) _ (zkj fun F2 H2 x=>x.2)⟩
        · rw [zoM hj] at a1; exact a1.elim
      | _=>exact a1.elim
theorem len1 {ma:En→R D}:∀ δ l,zaa ma mNil δ = .ok l→l.length=1:=by
  intro δ l h
  unfold zaa mNil at h
  cases e:ma δ with
  | ok d=>rw [e] at h; cases h; rfl
  | no=>rw [e] at h; cases h
  | ex x=>rw [e] at h; cases h
def ziy (l:List D):List D:=l.mapIdx fun i d=>.tup [.int i,d]
theorem zlf {a:Addr} {ds:List D} {vs:List V} {F1:Hp} {P:Hp→Hp→Prop} (r:RepL K F1 ds vs) (h:∀ F2 H2,P F2 H2→Same F1 F2∧Same F2 H2∧SqL K.f H2 a vs):IsIt K (Ite K.f a) P (ziy ds):=by
  intro F2 H2 p i
  obtain ⟨s1,s2,q⟩:=h F2 H2 p
  unfold ziy
  rw [List.getElem?_mapIdx]
  refine ⟨fun d hd=>?_,fun hn=>?_⟩
  · cases e:ds[i]? with
    | none=>rw [e] at hd; cases hd
    | some x =>
      rw [e] at hd
      cases hd
      obtain ⟨v,hv,rv⟩:=r.get e
      refine ⟨⟨vs,v,q,hv⟩,fun x' H' y=>?_⟩
      obtain ⟨p',y',rfl,hp,rfl,y⟩:=y
      have z:=y vs q
      rw [hv] at z; cases z
      refine ⟨_,.new s2 hp,?_⟩
      simp only [Rep]
      exact ⟨p',_,rfl,zal,.cons (by simp only [Rep]) (.cons (Rep.mono (s1.trans (Same.upd (s2.free hp))) _ rv) .nil)⟩
  · cases e:ds[i]? with
    | none=>exact ⟨vs,q,by rw [r.length]; exact List.getElem?_eq_none_iff.mp e⟩
    | some x=>rw [e] at hn; cases hn
def asL':D→Option (List D)
  | .lst l=>some l
  | _=>none
def zpn:List D→Option (List D)
  | [d]=>(asL' d).map ziy
  | _=>none
def zou (ml:En→R (List D)) (δ:En):R (List D):=(ml δ).bind fun l=>R.of (zpn l)
theorem zkT {l r:List D} (h:zpn l=some r):∃ x,l = [.lst x]∧r=ziy x:=by
  cases l with
  | nil=>cases h
  | cons d t =>
    cases t with
    | cons _ _=>cases h
    | nil =>
      cases d with
      | lst x=>cases h; exact ⟨x,rfl,rfl⟩
      | _=>cases h
theorem zoN {tl:TA} {ml:En→R (List D)} (h:SA K XO E tl ml):SI K XO E (zqy K.f tl) (zou ml):=by
  intro Λ F0 H0 F H σ δ R I a
  refine h Λ F0 H0 F H σ δ _ I (a.bind.imp fun ds F1 H1 e1 a1 vs r=>?_)
  cases q:zpn ds with
  | none=>rw [q] at a1; exact a1.elim
  | some z =>
    rw [q] at a1
    obtain ⟨l,rfl,rfl⟩:=zkT q
    obtain ⟨v,rfl,r'⟩:=RepL.one r
    simp only [Rep] at r'
    obtain ⟨a,vs,rfl,h1,h2⟩:=r'
    exact ⟨a,rfl,⟨vs,.inl (PM.Same.rd e1.fh h1)⟩,a1 F1 H1 (.refl e1.fh) _ (zlf h2 fun F2 H2 x=>⟨x.1,x.2,.inl (PM.Same.rd x.2 (PM.Same.rd x.1 h1))⟩)⟩
end
end PM
namespace PM
open PySem L2
section
variable (K:Kx) (XO:XOT) (E:St→XK)
def AftS (Λ:List (Nat × Addr × HO)) (F0 H0:Hp) (Dn:Ends):O→Prop
  | .no=>False
  | .nx δ=>∀ σ F H,EnvOk K Λ F0 H0 F H σ δ→Dn.nx σ H
  | .bk δ=>∀ σ F H,EnvOk K Λ F0 H0 F H σ δ→Dn.bk σ H
  | .ct δ=>∀ σ F H,EnvOk K Λ F0 H0 F H σ δ→Dn.ct σ H
  | .rt d=>∀ v F H,Ext F0 H0 F H→Rep K F d v→Dn.rt v H
  | .ro d=>∀ p F H,Ext F0 H0 F H→F p=none→H0 p=none→Own K F H d p→Dn.rt (.ref p) H
  | .ex δ x=>∀ σ F H C dct,EnvOk K Λ F0 H0 F H σ δ→XO x F H C dct→E σ C dct H
def SS (t:TS) (m:En→O):Prop:=∀ Λ F0 H0 F H σ δ Dn,EnvOk K Λ F0 H0 F H σ δ→AftS K XO E Λ F0 H0 Dn (m δ)→t Dn σ H
end
def R.toO {α:Type} (r:R α) (δ:En) (f:α→O):O:=match r with | .no=>.no | .ok a=>f a | .ex x=>.ex δ x
@[simp] theorem R.toO_ok {α:Type} (a:α) (δ:En) (f:α→O):(R.ok a).toO δ f=f a:=rfl
@[simp] theorem R.toO_no {α:Type} (δ:En) (f:α→O):(R.no:R α).toO δ f = .no:=rfl
@[simp] theorem R.toO_ex {α:Type} (x:Xc) (δ:En) (f:α→O):(R.ex x:R α).toO δ f = .ex δ x:=rfl
section
variable {K:Kx} {XO:XOT} {E:St→XK} {ta tb te:TE} {ma mb me:En→R D} {t u:TS} {m n:En→O} {Λ:List (Nat × Addr × HO)} {F0 H0 F H F1 H1:Hp} {σ:St} {δ:En} {Dn:Ends}
theorem AftS.of {α:Type} {r:R α} {f:α→O} (I:EnvOk K Λ F0 H0 F H σ δ) (a:AftS K XO E Λ F0 H0 Dn (r.toO δ f)):Aft E XO σ F H (fun a _ _=>AftS K XO E Λ F0 H0 Dn (f a)) r:=by
  cases r with
  | no=>exact a
  | ok b=>exact fun _ _ _=>a
  | ex x=>exact fun C dct F' H' e h=>a σ F' H' C dct (I.grow e) h
theorem AftS.up (e:Ext F0 H0 F1 H1):∀ {o:O},AftS K XO E Λ F0 H0 Dn o→AftS K XO E Λ F1 H0 Dn o
  | .no,h=>h
  | .nx _,h=>fun σ F H I=>h σ F H (I.down e)
  | .bk _,h=>fun σ F H I=>h σ F H (I.down e)
  | .ct _,h=>fun σ F H I=>h σ F H (I.down e)
  | .rt _,h=>fun v F H x=>h v F H (e.base x)
  | .ro _,h=>fun p F H x=>h p F H (e.base x)
  | .ex _ _,h=>fun σ F H C d I=>h σ F H C d (I.down e)
def zbm (δ:En):O:=.nx δ
def mSeq (m n:En→O) (δ:En):O:=match m δ with | .nx δ'=>n δ' | r=>r
theorem zbr:SS K XO E zmY zbm:=fun Λ F0 H0 F H σ δ Dn I a=>a σ F H I
theorem zas (h:SS K XO E t m) (h':SS K XO E u n):SS K XO E (tSeq t u) (mSeq m n):=by
  intro Λ F0 H0 F H σ δ Dn I a
  refine h Λ F0 H0 F H σ δ _ I ?_
  unfold mSeq at a
  cases q:m δ with
  | no=>rw [q] at a; exact a
  | nx δ'=>rw [q] at a; exact fun σ' F' H' I'=>h' Λ F0 H0 F' H' σ' δ' Dn I' a
  | rt d=>rw [q] at a; exact a
  | ro d=>rw [q] at a; exact a
  | bk δ'=>rw [q] at a; exact a
  | ct δ'=>rw [q] at a; exact a
  | ex δ' x=>rw [q] at a; exact a
def mRet (me:En→R D) (δ:En):O:=(me δ).toO δ .rt
theorem zbL (h:SE K XO E te me):SS K XO E (tRet te) (mRet me):=by
  intro Λ F0 H0 F H σ δ Dn I a
  exact h Λ F0 H0 F H σ δ _ I ((AftS.of I a).imp fun d F1 H1 e p v r=>p v F1 H1 (I.ext.trans e) r)
def zbZ (me:En→R D) (δ:En):O:=(me δ).toO δ .ro
theorem zd1 (h:SEo K XO E te me):SS K XO E (tRet te) (zbZ me):=by
  intro Λ F0 H0 F H σ δ Dn I a
  exact h Λ F0 H0 F H σ δ _ I ((AftS.of I a).imp fun d F1 H1 e p v h0 h1 o=>p v F1 H1 (I.ext.trans e) h0 (I.ext.hh.free h1) o)
def ziF (i:Nat) (δ:En):O:=match δ[i]? with | some (.o d)=>.ro d | _=>.no
theorem zhk {i:Nat}:SS K XO E (tRet (tVar i)) (ziF i):=by
  intro Λ F0 H0 F H σ δ Dn I a
  unfold ziF at a
  split at a
  · rename_i d q
    have z:=I.slot i
    rw [q] at z
    obtain ⟨p,z1,z2,z3,z4⟩:=z
    exact ⟨_,z1,a p F H I.ext z3 z2 z4⟩
  · exact a.elim
def mDo (me:En→R D) (δ:En):O:=(me δ).toO δ fun _=>.nx δ
theorem zcP (h:SE K XO E te me):SS K XO E (zmy te) (mDo me):=by
  intro Λ F0 H0 F H σ δ Dn I a
  exact h Λ F0 H0 F H σ δ _ I ((AftS.of I a).imp fun d F1 H1 e p v r=>p σ F1 H1 (I.grow e))
def mIfS (n:En→R Bool) (m m':En→O) (δ:En):O:=(n δ).toO δ fun b=>if b=true then m δ else m' δ
theorem zcD {tc:TT} {nc:En→R Bool} (h:ST K XO E tc nc) (ha:SS K XO E t m) (hb:SS K XO E u n):SS K XO E (tIfS tc t u) (mIfS nc m n):=by
  intro Λ F0 H0 F H σ δ Dn I a
  refine h Λ F0 H0 F H σ δ _ I ((AftS.of I a).imp fun b F1 H1 e p=>?_)
  cases b with
  | true=>exact ha Λ F0 H0 F1 H1 σ δ Dn (I.grow e) p
  | false=>exact hb Λ F0 H0 F1 H1 σ δ Dn (I.grow e) p
def O.of:Option En→O
  | some δ=>.nx δ
  | none=>.no
@[simp] theorem O.of_some (δ:En):O.of (some δ) = .nx δ:=rfl
@[simp] theorem O.of_none:O.of none = .no:=rfl
def mAsg (me:En→R D) (b:D→En→Option En) (δ:En):O:=(me δ).toO δ fun d=>O.of (b d δ)
theorem zbd {g:TG} {b:D→En→Option En} (h:SE K XO E te me) (hg:SG K g b):SS K XO E (tAsg te g) (mAsg me b):=by
  intro Λ F0 H0 F H σ δ Dn I a
  refine h Λ F0 H0 F H σ δ _ I ((AftS.of I a).imp fun d F1 H1 e p v r=>?_)
  cases q:b d δ with
  | none=>rw [q] at p; exact p.elim
  | some δ'=>rw [q] at p; exact hg Λ F0 H0 F1 H1 σ δ d v δ' _ (I.grow e) r q fun σ' I'=>p σ' F1 H1 I'
def bNew (i:Nat) (d:D) (δ:En):Option En:=match δ[i]? with | none=>none | some (.l _)=>none | some _=>some (δ.set i (.o d))
theorem zdH {i:Nat} (h:SEo K XO E te me):SS K XO E (tAsg te (zfu i)) (mAsg me (bNew i)):=by
  intro Λ F0 H0 F H σ δ Dn I a
  refine h Λ F0 H0 F H σ δ _ I ((AftS.of I a).imp fun d F1 H1 e p v h0 h1 o=>?_)
  unfold bNew at p
  split at p
  · exact p.elim
  · exact p.elim
  · rename_i x h3 h2
    exact p _ F1 H1 (I.putO ⟨x,h2,fun d' z=>h3 d' (by rw [z])⟩ e h0 h1 o)
def zb3 (b:D→En→Option En) (m:En→O):List D→En→O
  | [],δ=>.nx δ
  | d :: l,δ=>match b d δ with
    | none=>.no
    | some δ1=>match m δ1 with
      | .nx δ2=>zb3 b m l δ2
      | .ct δ2=>zb3 b m l δ2
      | .bk δ2=>.nx δ2
      | r=>r
def mFor (mi:En→R (List D)) (b:D→En→Option En) (m:En→O) (δ:En):O:=(mi δ).toO δ fun l=>zb3 b m l δ
theorem zo0 {J:It} {P:Hp→Hp→Prop} {g:TG} {b:D→En→Option En} {ds:List D} (hJ:IsIt K J P ds) (hP:∀ σ δ F H,EnvOk K Λ F0 H0 F H σ δ→P F H) (hg:SG K g b) (hb:SS K XO E t m) (I:EnvOk K Λ F0 H0 F H σ δ)
    (a:AftS K XO E Λ F0 H0 Dn (zb3 b m ds δ)):∃ W:Nat→Nat→St→Hp→Prop,(∃ k,W 0 k σ H)∧∀ i k σ H,W i k σ H →
      (J.stop i H∧Dn.nx σ H)∨(J.go i H∧∃ N:St→Hp→Prop,(∀ σ' H',N σ' H'→∃ k',k' < k∧W (i + 1) k' σ' H')∧∀ x H',J.yld i H x H'→g x σ H' fun σ2 H2=>t { Dn with nx:=N,ct:=N,bk:=Dn.nx } σ2 H2):=by
  let W:Nat→Nat→St→Hp→Prop:=fun i k σ H=>∃ F δ,EnvOk K Λ F0 H0 F H σ δ∧k=ds.length - i∧i ≤ ds.length∧AftS K XO E Λ F0 H0 Dn (zb3 b m (ds.drop i) δ)
  refine ⟨W,⟨ds.length,F,δ,I,rfl,Nat.zero_le _,a⟩,?_⟩
  rintro i k σ H ⟨F,δ,I,rfl,hi,a⟩
  have hP':=hP σ δ F H I
  by_cases hlt:i < ds.length
  · have e:ds.drop i=ds[i] :: ds.drop (i + 1):=List.drop_eq_getElem_cons hlt
    obtain ⟨h1,h2⟩:=(hJ F H hP' i).1 ds[i] (by simp [hlt])
    refine .inr ⟨h1,W (i + 1) (ds.length - (i + 1)),fun σ' H' w=>⟨_,by omega,w⟩,fun x H' y=>?_⟩
    obtain ⟨F3,e3,r⟩:=h2 x H' y
    rw [e] at a
    unfold zb3 at a
    cases q:b ds[i] δ with
    | none=>rw [q] at a; exact a.elim
    | some δ1 =>
      rw [q] at a
      refine hg Λ F0 H0 F3 H' σ δ _ x δ1 _ (I.grow e3) r q fun σ1 I1=>hb Λ F0 H0 F3 H' σ1 δ1 _ I1 ?_
      cases q2:m δ1 with
      | no=>simp only [q2] at a; exact a
      | nx δ2=>simp only [q2] at a; exact fun σ' F' H' I'=>⟨F',δ2,I',rfl,hlt,a⟩
      | ct δ2=>simp only [q2] at a; exact fun σ' F' H' I'=>⟨F',δ2,I',rfl,hlt,a⟩
      | bk δ2=>simp only [q2] at a; exact a
      | rt d=>simp only [q2] at a; exact a
      | ro d=>simp only [q2] at a; exact a
      | ex δ' x=>simp only [q2] at a; exact a
  · have e:i=ds.length:=by omega
    subst e
    rw [List.drop_length] at a
    exact .inl ⟨(hJ F H hP' _).2 (by simp),a σ F H I⟩
theorem zbN {wi:TI} {mi:En→R (List D)} {g:TG} {b:D→En→Option En} (hi:SI K XO E wi mi) (hg:SG K g b) (hb:SS K XO E t m):SS K XO E (tFor wi g t) (mFor mi b m):=by
  intro Λ F0 H0 F H σ δ Dn I a
  refine hi Λ F0 H0 F H σ δ _ I ((AftS.of I a).imp fun ds F1 H1 e p J hJ=>?_)
  have I1:=I.grow e
  exact zo0 (F0:=F1) hJ (fun σ δ F H I=>⟨I.ext.ff,I.ext.fh⟩) hg hb I1.up (p.up I1.ext)
def zcO (c:En→R Bool) (m:En→O):Nat→En→O
  | 0,_=>.no
  | n + 1,δ=>(c δ).toO δ fun b=>if b=true then (match m δ with | .nx δ2=>zcO c m n δ2 | .ct δ2=>zcO c m n δ2 | .bk δ2=>.nx δ2 | r=>r) else .nx δ
open Classical in
def zf8 (c:En→R Bool) (m:En→O) (δ:En):O:=if h:∃ n,zcO c m n δ ≠ .no then zcO c m (choose h) δ else .no
theorem zhu {tc:TT} {nc:En→R Bool} (hc:ST K XO E tc nc) (hb:SS K XO E t m):SS K XO E (znS tc t) (zf8 nc m):=by
  intro Λ F0 H0 F H σ δ Dn I a
  unfold zf8 at a
  split at a
  · rename_i h
    refine ⟨fun k σ H=>∃ F δ,EnvOk K Λ F0 H0 F H σ δ∧AftS K XO E Λ F0 H0 Dn (zcO nc m k δ),⟨_,F,δ,I,a⟩,?_⟩
    rintro k σ H ⟨F,δ,I,a⟩
    cases k with
    | zero=>exact a.elim
    | succ k =>
      unfold zcO at a
      refine hc Λ F0 H0 F H σ δ _ I ((AftS.of I a).imp fun b F1 H1 e p=>?_)
      cases b with
      | false=>exact p σ F1 H1 (I.grow e)
      | true =>
        refine ⟨fun σ H=>∃ F δ,EnvOk K Λ F0 H0 F H σ δ∧AftS K XO E Λ F0 H0 Dn (zcO nc m k δ),fun σ' H' w=>⟨k,Nat.lt_succ_self _,w⟩,hb Λ F0 H0 F1 H1 σ δ _ (I.grow e) ?_⟩
        rw [if_pos rfl] at p
        cases q2:m δ with
        | no=>simp only [q2] at p; exact p
        | nx δ2=>simp only [q2] at p; exact fun σ' F' H' I'=>⟨F',δ2,I',p⟩
        | ct δ2=>simp only [q2] at p; exact fun σ' F' H' I'=>⟨F',δ2,I',p⟩
        | bk δ2=>simp only [q2] at p; exact p
        | rt d=>simp only [q2] at p; exact p
        | ro d=>simp only [q2] at p; exact p
        | ex δ' x=>simp only [q2] at p; exact p
  · exact a.elim
end
end PM
namespace PM
open PySem L2
def asK:D→Option Key
  | .int i=>some (.inl i)
  | .str x=>some (.inr x)
  | _=>none
def getK (ks:List Key) (l:List D) (k:Key):Option D:=match ks,l with
  | a :: r,d :: t=>if a=k then some d else getK r t k
  | _,_=>none
def putL (ks:List Key) (l:List D) (k:Key) (x:D):List D:=match ks,l with
  | a :: r,d :: t=>(if a=k then x else d) :: putL r t k x
  | _,t=>t
def putD (ks:List Key) (l:List D) (k:Key) (x:D):D:=if ks.any (fun a=>decide (a=k))=true then .dct ks (putL ks l k x) else .dct (ks ++ [k]) (l ++ [x])
section
variable {K:Kx} {F H:Hp}
theorem zi2 {d:D} {v:V} {k:Key} (h:asK d=some k) (r:Rep K F d v):v=kV k:=by
  cases d with
  | int i=>cases h; simp only [Rep] at r; exact r
  | str i=>cases h; simp only [Rep] at r; exact r
  | _=>cases h
theorem zlB {k:Key}:∀ {kvs:List (Key × V)} {ks:List Key} {l:List D},kvs.map (·.1)=ks→RepL K F l (kvs.map (·.2)) →
    (∀ d,getK ks l k=some d→∃ v,valV kvs k=some v∧Rep K F d v)∧(getK ks l k=none→valV kvs k=none)
  | [],ks,l,h1,h2=>by
    subst h1
    refine ⟨fun d h=>?_,fun _=>rfl⟩
    simp [getK] at h
  | (a,v) :: kvs,ks,l,h1,h2=>by
    subst h1
    cases l with
    | nil=>simp [RepL] at h2
    | cons d t =>
      simp only [List.map_cons,RepL] at h2
      obtain ⟨v',r,e,h3,h4⟩:=h2
      cases e
      have ih:=zlB (k:=k) (kvs:=kvs) rfl h4
      simp only [List.map_cons,getK]
      by_cases hk:a=k
      · rw [if_pos hk]
        refine ⟨fun d' e=>?_,fun e=>by cases e⟩
        cases e
        exact ⟨v,by simp [valV,hk],h3⟩
      · rw [if_neg hk]
        have e:valV ((a,v) :: kvs) k=valV kvs k:=by simp [valV,hk]
        rw [e]
        exact ih
theorem zqN {kvs:List (Key × V)} {ks:List Key} (h:kvs.map (·.1)=ks):kvs.length=ks.length:=by rw [← h,List.length_map]
theorem zlx {k:Key} {x:D} {u:V} (hu:Rep K F x u):∀ {kvs:List (Key × V)} {ks:List Key} {l:List D},kvs.map (·.1)=ks→RepL K F l (kvs.map (·.2)) →
    RepL K F (putL ks l k x) ((kvs.map (fun kv=>if kv.1=k then (kv.1,u) else kv)).map (·.2))
  | [],ks,l,h1,h2=>by
    subst h1
    cases l with
    | nil=>exact .nil
    | cons d t=>simp [RepL] at h2
  | (a,v) :: kvs,ks,l,h1,h2=>by
    subst h1
    cases l with
    | nil=>simp [RepL] at h2
    | cons d t =>
      simp only [List.map_cons,RepL] at h2
      obtain ⟨v',r,e,h3,h4⟩:=h2
      cases e
      have ih:=zlx (k:=k) hu (kvs:=kvs) rfl h4
      simp only [List.map_cons,putL]
      refine .cons ?_ ih
      by_cases hk:a=k
      · rw [if_pos hk,if_pos hk]; exact hu
      · rw [if_neg hk,if_neg hk]; exact h3
theorem zpD {k:Key} {x:D} {u:V} {a:Addr} (hu:Rep K F x u) {kvs:List (Key × V)} {ks:List Key} {l:List D} (h1:kvs.map (·.1)=ks) (h2:RepL K F l (kvs.map (·.2))):Own K F (upd H a (.dK (putK kvs k u))) (putD ks l k x) a:=by
  have e:ks.any (fun a=>decide (a=k))=kvs.any (fun kv=>decide (kv.1=k)):=by rw [← h1,List.any_map]; rfl
  unfold putD putK
  rw [e]
  split
  · refine ⟨_,zal,?_,zlx hu h1 h2⟩
    rw [← h1,List.map_map]
    refine List.map_congr_left fun kv _=>?_
    simp only [Function.comp]
    split <;> rfl
  · exact ⟨_,zal,by rw [List.map_append,h1]; rfl,by rw [List.map_append]; exact h2.append (.cons hu .nil)⟩
end
section
variable {K:Kx} {XO:XOT} {E:St→XK} {ta tb te ty td:TE} {ma mb me my md:En→R D} {t u:TS} {m n:En→O} {Λ:List (Nat × Addr × HO)} {F0 H0 F H F1 H1:Hp} {σ:St} {δ:En} {Dn:Ends}
theorem EnvOk.own {i:Nat} {d:D} (I:EnvOk K Λ F0 H0 F H σ δ) (hx:δ[i]?=some (.o d)):∃ a,σ[i]?=some (some (.ref a))∧Own K F H d a:=by
  have z:=I.slot i
  rw [hx] at z
  obtain ⟨a,z1,z2,z3,z4⟩:=z
  exact ⟨a,z1,z4⟩
def zbD (i:Nat) (me:En→R D) (δ:En):O:=match δ[i]? with
  | some (.o (.lst l))=>(me δ).toO δ fun d=>ifC (l.length < sizeLine) (.nx (δ.set i (.o (.lst (l ++ [d]))))) .no
  | _=>.no
theorem zc3 {i:Nat} (h:SE K XO E te me):SS K XO E (zmy (tBM K.f "list" ziK (tVar i) (zbx te tNil))) (zbD i me):=by
  intro Λ F0 H0 F H σ δ Dn I a
  unfold zbD at a
  split at a
  · rename_i l q
    obtain ⟨p,s1,vs,s2,s3⟩:=I.own q
    refine ⟨_,s1,.inl ⟨rfl,vs,.inl (.inl s2)⟩,?_⟩
    refine h Λ F0 H0 F H σ δ _ I ((AftS.of I a).imp fun d F1 H1 e c v r=>?_)
    unfold ifC at c
    split at c
    · rename_i hl
      refine ⟨p,vs,v,rfl,rfl,e.hh _ _ s2,by rw [s3.length]; exact hl,?_⟩
      exact c σ F1 _ ((I.grow e).chg q s1 ⟨_,zal,(s3.mono e.ff).append (.cons r .nil)⟩)
    · exact c.elim
  · exact a.elim
def zi0 (i:Nat) (mk me:En→R D) (δ:En):O:=match δ[i]? with
  | some (.o (.dct ks l))=>(me δ).toO δ fun d=>(mk δ).toO δ fun k=>match asK k with
    | some k=>ifC (ks.length < sizeLine) (.nx (δ.set i (.o (putD ks l k d)))) .no
    | none=>.no
  | _=>.no
theorem zk2 {i:Nat} {tk:TE} {mk:En→R D} (hk:SE K XO E tk mk) (h:SE K XO E te me):SS K XO E (zoU (tVar i) tk te) (zi0 i mk me):=by
  intro Λ F0 H0 F H σ δ Dn I a
  unfold zi0 at a
  split at a
  · rename_i ks l q
    obtain ⟨p,s1,vs,s2,s0,s3⟩:=I.own q
    refine h Λ F0 H0 F H σ δ _ I ((AftS.of I a).imp fun d F1 H1 e c v r=>⟨_,s1,?_⟩)
    refine hk Λ F0 H0 F1 H1 σ δ _ (I.grow e) ((AftS.of (I.grow e) c).imp fun k F2 H2 e2 c2 v2 r2=>?_)
    cases z:asK k with
    | none=>rw [z] at c2; exact c2.elim
    | some k =>
      rw [z] at c2
      dsimp only at c2
      unfold ifC at c2
      split at c2
      · rename_i hl
        cases zi2 z r2
        refine ⟨p,_,rfl,DPut.k (e2.hh _ _ (e.hh _ _ s2)) (by rw [zqN s0]; exact hl),?_⟩
        exact c2 σ F2 _ (((I.grow e).grow e2).chg q s1 (zpD (Rep.mono e2.ff _ r) s0 ((s3.mono e.ff).mono e2.ff)))
      · exact c2.elim
  · exact a.elim
theorem zmU {ks:List Key} {l:List D} {x:V} {k:Key} (h:Top K F H (.dct ks l) x):∃ p o,x = .ref p∧DGet H p (kV k) o∧(∀ d,getK ks l k=some d→∃ v,o=some v∧Rep K F d v)∧(getK ks l k=none→o=none):=by
  obtain ⟨a,kvs,rfl,h1,h2,h3⟩:=h
  exact ⟨a,_,rfl,.k h1,zlB h2 h3⟩
def i2 (f:Int→Int→D) (x y:D):Option D:=match x,y with | .int i,.int j=>some (f i j) | _,_=>none
def i2c (C:Int→Int→Prop) (f:Int→Int→D) (x y:D):Option D:=match x,y with | .int i,.int j=>ifC (C i j) (some (f i j)) none | _,_=>none
theorem zni {g:Int→Int→V} {f:Int→Int→D} (h:∀ i j F,Rep K F (f i j) (g i j)):SR K (rI0 g) (i2 f):=by
  intro F H x y dx dy d Q s hx hy e q
  cases dx with
  | int i =>
    cases dy with
    | int j =>
      cases e
      simp only [Top,Rep] at hx hy
      exact ⟨i,j,hx,hy,q _ F H (.refl s) (h i j F)⟩
    | _=>cases e
  | _=>cases e
theorem zj2 {C:Int→Int→Prop} {g:Int→Int→V} {f:Int→Int→D} (h:∀ i j F,Rep K F (f i j) (g i j)):SR K (rI C g) (i2c C f):=by
  intro F H x y dx dy d Q s hx hy e q
  cases dx with
  | int i =>
    cases dy with
    | int j =>
      simp only [Top,Rep] at hx hy
      simp only [i2c] at e
      unfold ifC at e
      split at e
      · rename_i hc
        cases e
        exact ⟨i,j,hx,hy,hc,q _ F H (.refl s) (h i j F)⟩
      · cases e
    | _=>cases e
  | _=>cases e
def oAdd:D→D→Option D:=i2 fun i j=>.int (i + j)
def oSub:D→D→Option D:=i2 fun i j=>.int (i - j)
def oMul:D→D→Option D:=i2c (fun i j=>Fit i∧Fit j) fun i j=>.int (i * j)
def oDiv:D→D→Option D:=i2c (fun _ j=>j ≠ 0∧Fit j) fun i j=>.int (i.fdiv j)
def oMod:D→D→Option D:=i2c (fun _ j=>0 < j) fun i j=>.int (i % j)
def oPow:D→D→Option D:=i2c CPow fun i j=>.int (i ^ j.toNat)
def oLt:D→D→Option D:=i2 fun i j=>.bl (decide (i < j))
def oGt:D→D→Option D:=i2 fun i j=>.bl (decide (j < i))
theorem zbj:SR K (rI0 fun i j=>.int (i + j)) oAdd:=zni fun _ _ _=>by simp only [Rep]
theorem zhb:SR K (rI0 fun i j=>.int (i - j)) oSub:=zni fun _ _ _=>by simp only [Rep]
theorem zdQ:SR K (rI (fun i j=>Fit i∧Fit j) fun i j=>.int (i * j)) oMul:=zj2 fun _ _ _=>by simp only [Rep]
theorem zeA:SR K (rI (fun _ j=>j ≠ 0∧Fit j) fun i j=>.int (i.fdiv j)) oDiv:=zj2 fun _ _ _=>by simp only [Rep]
theorem zcI:SR K (rI (fun _ j=>0 < j) fun i j=>.int (i % j)) oMod:=zj2 fun _ _ _=>by simp only [Rep]
theorem zj3:SR K (rI CPow fun i j=>.int (i ^ j.toNat)) oPow:=zj2 fun _ _ _=>by simp only [Rep]
theorem zpN:SR K (rI0 fun i j=>.bl (decide (i < j))) oLt:=zni fun _ _ _=>by simp only [Rep]
theorem zoF:SR K (rI0 fun i j=>.bl (decide (j < i))) oGt:=zni fun _ _ _=>by simp only [Rep]
def oNeg:D→Option D
  | .int i=>some (.int (-i))
  | _=>none
theorem zqE:SU K (rU fun i=>.int (-i)) oNeg:=by
  intro F H x dx d Q s hx e q
  cases dx with
  | int i=>cases e; simp only [Top,Rep] at hx; exact ⟨i,hx,q _ F H (.refl s) (by simp only [Rep])⟩
  | _=>cases e
def fl:D→Option V
  | .non=>some .non
  | .bl b=>some (.bl b)
  | .int i=>some (.int i)
  | .str x=>some (.str x)
  | _=>none
theorem zjM {d:D} {v x:V} (h:fl d=some v) (r:Top K F H d x):x=v:=by
  cases d with
  | non=>cases h; simpa only [Top,Rep] using r
  | bl _=>cases h; simpa only [Top,Rep] using r
  | int _=>cases h; simpa only [Top,Rep] using r
  | str _=>cases h; simpa only [Top,Rep] using r
  | _=>cases h
def oEq (x y:D):Option D:=match fl x,fl y with | some a,some b=>if scal a b=true then some (.bl (decide (a=b))) else none | _,_=>none
def oNe (x y:D):Option D:=match fl x,fl y with | some a,some b=>if scal a b=true then some (.bl (!decide (a=b))) else none | _,_=>none
theorem zd9:SR K rEq oEq:=by
  intro F H x y dx dy d Q s hx hy e q
  unfold oEq at e
  split at e
  · rename_i a b h1 h2
    split at e
    · rename_i hs
      cases e
      cases zjM h1 hx; cases zjM h2 hy
      exact ⟨hs,q _ F H (.refl s) (by simp only [Rep])⟩
    · cases e
  · cases e
theorem zlQ:SR K rNe oNe:=by
  intro F H x y dx dy d Q s hx hy e q
  unfold oNe at e
  split at e
  · rename_i a b h1 h2
    split at e
    · rename_i hs
      cases e
      cases zjM h1 hx; cases zjM h2 hy
      exact ⟨hs,q _ F H (.refl s) (by simp only [Rep])⟩
    · cases e
  · cases e
def isN:D→Bool
  | .non=>true
  | _=>false
theorem zk7 {d:D} {x:V} (r:Top K F H d x):decide (x = .non)=isN d:=by
  cases d with
  | non=>simp only [Top,Rep] at r; subst r; rfl
  | bl _=>simp only [Top,Rep] at r; subst r; rfl
  | int _=>simp only [Top,Rep] at r; subst r; rfl
  | str _=>simp only [Top,Rep] at r; subst r; rfl
  | tup _=>simp only [Top,Rep] at r; obtain ⟨a,_,rfl,_⟩:=r; rfl
  | lst _=>obtain ⟨a,_,rfl,_⟩:=r; rfl
  | dct _ _=>obtain ⟨a,_,rfl,_⟩:=r; rfl
  | scr _=>simp only [Top,Rep] at r; obtain ⟨a,rfl,_⟩:=r; rfl
  | exc _=>simp only [Top,Rep] at r; obtain ⟨a,_,rfl,_⟩:=r; rfl
  | fd _ _=>simp only [Top,Rep] at r; obtain ⟨a,_,_,rfl,_⟩:=r; rfl
  | obj _ _ _=>simp only [Top,Rep] at r; obtain ⟨a,_,_,rfl,_⟩:=r; rfl
def oIs (x y:D):Option D:=match y with | .non=>some (.bl (isN x)) | _=>none
def zmF (x y:D):Option D:=match y with | .non=>some (.bl (!isN x)) | _=>none
theorem zqk:SR K (fun x y H Q=>y = .non∧Q (.bl (decide (x = .non))) H) oIs:=by
  intro F H x y dx dy d Q s hx hy e q
  cases dy with
  | non=>cases e; simp only [Top,Rep] at hy; exact ⟨hy,q _ F H (.refl s) (by simp only [Rep]; rw [zk7 hx])⟩
  | _=>cases e
theorem znb:SR K (fun x y H Q=>y = .non∧Q (.bl (!decide (x = .non))) H) zmF:=by
  intro F H x y dx dy d Q s hx hy e q
  cases dy with
  | non=>cases e; simp only [Top,Rep] at hy; exact ⟨hy,q _ F H (.refl s) (by simp only [Rep]; rw [zk7 hx])⟩
  | _=>cases e
def oIxL (x y:D):Option D:=match x,y with | .lst l,.int i=>atI l i | .scr l,.int i=>(atI l i).map .int | _,_=>none
def oIxT (x y:D):Option D:=match x,y with | .tup l,.int i=>atI l i | _,_=>none
theorem ziI {l:List D} {vs:List V} {i:Int} {d:D} (r:RepL K F l vs) (h:atI l i=some d):∃ v,atI vs i=some v∧Rep K F d v:=by
  unfold atI at h ⊢
  rw [r.length]
  cases q:ixN l.length i with
  | none=>rw [q] at h; cases h
  | some j=>rw [q] at h; exact r.get h
theorem zaG:SR K (rIxL K.f) oIxL:=by
  intro F H x y dx dy d Q s hx hy e q
  cases dx with
  | lst l =>
    cases dy with
    | int i =>
      obtain ⟨a,vs,rfl,h1,h2⟩:=hx
      simp only [Top,Rep] at hy
      obtain ⟨v,g1,g2⟩:=ziI h2 e
      exact ⟨a,vs,i,v,rfl,hy,.inl h1,g1,q _ F H (.refl s) g2⟩
    | _=>cases e
  | scr l =>
    cases dy with
    | int i =>
      simp only [Top,Rep] at hx hy
      obtain ⟨a,rfl,h1⟩:=hx
      simp only [oIxL] at e
      cases z:atI l i with
      | none=>rw [z] at e; cases e
      | some n =>
        rw [z] at e; cases e
        obtain ⟨v,g1,g2⟩:=ziI (F:=F) (K:=K) (l:=l.map .int) (vs:=l.map V.int) (i:=i) (d:=.int n) .ints (by
          unfold atI at z ⊢
          rw [List.length_map]
          cases q:ixN l.length i with
          | none=>rw [q] at z; cases z
          | some j =>
            rw [q] at z
            change l[j]?=some n at z
            show (l.map D.int)[j]?=_
            rw [List.getElem?_map,z]; rfl)
        exact ⟨a,_,i,v,rfl,hy,s.seq h1,g1,q _ F H (.refl s) g2⟩
    | _=>cases e
  | _=>cases e
theorem zcG:SR K (rIxT K.f) oIxT:=by
  intro F H x y dx dy d Q s hx hy e q
  cases dx with
  | tup l =>
    cases dy with
    | int i =>
      simp only [Top,Rep] at hx hy
      obtain ⟨a,vs,rfl,h1,h2⟩:=hx
      obtain ⟨v,g1,g2⟩:=ziI h2 e
      exact ⟨a,vs,i,v,rfl,hy,.inl (.inl (s _ _ h1)),g1,q _ F H (.refl s) g2⟩
    | _=>cases e
  | _=>cases e
end
end PM
namespace PM
open PySem L2
section
variable {K:Kx} {XO:XOT} {E:St→XK} {ta tb te ty td:TE} {ma mb me my md:En→R D} {t u:TS} {m n:En→O} {Λ:List (Nat × Addr × HO)} {F0 H0 F H F1 H1:Hp} {σ:St} {δ:En} {Dn:Ends}
abbrev EN:St→XK:=fun _ _ _ _=>False
def zkb:Sl→Sl
  | .o d=>.l d
  | .p _=>.no
  | s=>s
def zaF (δ:En) (ix:List Nat) (n:Nat):En:=ix.map (fun i=>zkb (δ[i]?.getD .no)) ++ List.replicate n .no
def zc8 (f:D→R (Option D)):List D→R (List D)
  | []=>.ok []
  | d :: l=>(f d).bind fun o=>(zc8 f l).bind fun r=>.ok (o.toList ++ r)
def zdT (b:D→En→Option En) (nc:Option (En→R Bool)) (me:En→R D) (δ:En) (d:D):R (Option D):=match b d δ with
  | none=>.no
  | some δ1=>(match nc with
    | none=>(me δ1).nev.bind fun x=>.ok (some x)
    | some c=>(c δ1).nev.bind fun k=>if k=true then (me δ1).nev.bind fun x=>.ok (some x) else .ok none)
def zfQ (mi:En→R (List D)) (ix:List Nat) (n:Nat) (b:D→En→Option En) (nc:Option (En→R Bool)) (me:En→R D) (δ:En):R D :=
  (mi δ).bind fun ds=>ifC (ds.length ≤ sizeLine) ((zc8 (zdT b nc me (zaF δ ix n)) ds).nev.bind fun l=>.ok (.lst l)) .no
theorem zh6 {ix:List Nat} {n:Nat} (I:EnvOk K Λ F0 H0 F H σ δ) (hix:ix.Nodup) :
    ∃ Λc,EnvOk K Λc F0 H0 F H (zc1 σ ix n) (zaF δ ix n)∧(∀ i:Nat,Sl.own (zaF δ ix n)[i]?=true→∃ x ∈ Λc,x.1=i)∧∀ x ∈ Λc,∃ o,H x.2.1=some o:=by
  have gd:∀ j:Nat,j < ix.length→(zaF δ ix n)[j]?=some (zkb (δ[ix.getD j 0]?.getD .no)):=fun j hj=>by
    unfold zaF
    rw [List.getElem?_append_left (by simpa using hj),List.getElem?_map,List.getElem?_eq_getElem hj]
    simp [List.getD_eq_getElem?_getD,List.getElem?_eq_getElem hj]
  have gs:∀ j:Nat,j < ix.length→(zc1 σ ix n)[j]?=some ((σ[ix.getD j 0]?).getD none):=fun j hj=>by
    unfold zc1
    rw [List.getElem?_append_left (by simpa using hj),List.getElem?_map,List.getElem?_eq_getElem hj]
    simp [List.getD_eq_getElem?_getD,List.getElem?_eq_getElem hj]
  have gn:∀ j:Nat,¬ j < ix.length→(zaF δ ix n)[j]?=some .no∨(zaF δ ix n)[j]?=none:=fun j hj=>by
    unfold zaF
    rw [List.getElem?_append_right (by simpa using hj),List.getElem?_replicate]
    split
    · exact .inl rfl
    · exact .inr rfl
  have own:∀ j:Nat,Sl.own (zaF δ ix n)[j]?=true→j < ix.length∧∃ d a o,δ[ix.getD j 0]?=some d∧Sl.own (some d)=true∧(zaF δ ix n)[j]?=some (zkb d)∧(∃ e,zkb d = .l e)∧σ[ix.getD j 0]?=some (some (.ref a))∧(zc1 σ ix n)[j]?=some (some (.ref a))∧H a=some o∧H0 a=none∧F a=none:=fun j h=>by
    by_cases hj:j < ix.length
    · refine ⟨hj,?_⟩
      rw [gd j hj] at h
      have z:=I.slot (ix.getD j 0)
      cases q:δ[ix.getD j 0]? with
      | none=>rw [q] at h; cases h
      | some s =>
        rw [q] at h z
        cases s with
        | no=>cases h
        | v d=>cases h
        | o d =>
          obtain ⟨a,z1,z2,z3,z4⟩:=z
          obtain ⟨o,ho⟩:=z4.obj
          exact ⟨_,a,o,rfl,rfl,by rw [gd j hj,q]; rfl,⟨d,rfl⟩,z1,by rw [gs j hj,z1]; rfl,ho,z2,z3⟩
        | l d =>
          obtain ⟨a,z1,z2,z3,z4⟩:=z
          obtain ⟨o,ho⟩:=z4.obj
          exact ⟨_,a,o,rfl,rfl,by rw [gd j hj,q]; rfl,⟨d,rfl⟩,z1,by rw [gs j hj,z1]; rfl,ho,z2,z3⟩
        | p ll=>cases h
    · rcases gn j hj with z | z <;> (rw [z] at h; cases h)
  let Λc:List (Nat × Addr × HO):=(List.range ix.length).filterMap fun (j:Nat)=>match (zc1 σ ix n)[j]? with
    | some (some (V.ref a))=>if Sl.own (zaF δ ix n)[j]?=true then (H a).map fun o=>(j,a,o) else none
    | _=>none
  have mem:∀ x ∈ Λc,(zc1 σ ix n)[x.1]?=some (some (.ref x.2.1))∧Sl.own (zaF δ ix n)[x.1]?=true∧H x.2.1=some x.2.2:=fun x hx=>by
    obtain ⟨j,_,h⟩:=List.mem_filterMap.mp hx
    split at h
    · rename_i a q
      split at h
      · rename_i ow
        cases q2:H a with
        | none=>rw [q2] at h; cases h
        | some o=>rw [q2] at h; cases h; exact ⟨q,ow,q2⟩
      · cases h
    · cases h
  have ziT:∀ (j:Nat) (ll:Tr),(zaF δ ix n)[j]? ≠ some (.p ll):=fun j ll h=>by
    by_cases hj:j < ix.length
    · rw [gd j hj] at h
      cases q:δ[ix.getD j 0]? with
      | none=>rw [q] at h; cases h
      | some s=>rw [q] at h; cases s <;> cases h
    · rcases gn j hj with z | z <;> (rw [z] at h; cases h)
  refine ⟨Λc,⟨I.ext,?_,fun j=>?_,fun i j a hij h1 h2 h3 h4=>?_,fun x hx=>?_,fun j ll h=>absurd h (ziT j ll)⟩,fun j h=>?_,fun x hx=>⟨_,(mem x hx).2.2⟩⟩
  · unfold zc1 zaF
    simp
  · by_cases hj:j < ix.length
    · rw [gd j hj,gs j hj]
      have z:=I.slot (ix.getD j 0)
      cases q:δ[ix.getD j 0]? with
      | none=>trivial
      | some s =>
        rw [q] at z
        cases s with
        | no=>trivial
        | v d=>obtain ⟨u,z1,z2⟩:=z; exact ⟨u,by rw [z1]; rfl,z2⟩
        | o d=>obtain ⟨a,z1,z2⟩:=z; exact ⟨a,by rw [z1]; rfl,z2⟩
        | l d=>obtain ⟨a,z1,z2⟩:=z; exact ⟨a,by rw [z1]; rfl,z2⟩
        | p ll=>trivial
    · rcases gn j hj with z | z <;> (rw [z]; trivial)
  · obtain ⟨i1,d1,a1,o1,i2,i3,i4,i5,i6,i7,i8⟩:=own i h1
    obtain ⟨j1,d2,a2,o2,j2,j3,j4,j5,j6,j7,j8⟩:=own j h2
    rw [i7] at h3; cases h3
    rw [j7] at h4; cases h4
    refine I.dist (ix.getD i 0) (ix.getD j 0) a (fun e=>hij ?_) (by rw [i2]; exact i3) (by rw [j2]; exact j3) i6 j6
    rw [List.getD_eq_getElem?_getD,List.getD_eq_getElem?_getD,List.getElem?_eq_getElem i1,List.getElem?_eq_getElem j1] at e
    exact ((List.getElem?_inj i1 hix).mp (by rw [List.getElem?_eq_getElem i1,List.getElem?_eq_getElem j1]; exact congrArg some e))
  · obtain ⟨m1,m2,m3⟩:=mem x hx
    obtain ⟨_,d,_,_,_,_,h4,⟨e,h5⟩,_⟩:=own x.1 m2
    exact ⟨⟨e,by rw [h4,h5]⟩,m1,m3⟩
  · obtain ⟨i1,d1,a1,o1,i2,i3,i4,i5,i6,i7,i8,_⟩:=own j h
    refine ⟨(j,a1,o1),List.mem_filterMap.mpr ⟨j,List.mem_range.mpr i1,?_⟩,rfl⟩
    rw [i7]
    show (if Sl.own (zaF δ ix n)[j]?=true then (H a1).map fun o=>(j,a1,o) else none)=_
    rw [if_pos h,i8]
    rfl
theorem EnvOk.side {p:Addr} {w:HO} (I:EnvOk K Λ F0 H0 F H σ δ) (ho:∀ i:Nat,Sl.own δ[i]?=true→∃ x ∈ Λ,x.1=i) (hp:∀ x ∈ Λ,x.2.1 ≠ p) (h0:H0 p=none) (h1:F p=none):EnvOk K Λ F0 H0 F (upd H p w) σ δ:=by
  have ne:∀ (i:Nat) (a:Addr),Sl.own δ[i]?=true→σ[i]?=some (some (.ref a))→a ≠ p:=fun i a h h'=>by
    obtain ⟨x,hx,e⟩:=ho i h
    have z:=(I.lent x hx).2.1
    rw [e,h'] at z
    cases z
    exact hp x hx
  have ziT:∀ (j:Nat) (ll:Tr),δ[j]? ≠ some (.p ll):=fun j ll h=>by
    obtain ⟨x,hx,e⟩:=ho j (by rw [h]; rfl)
    obtain ⟨d,hd⟩:=(I.lent x hx).1
    rw [e,h] at hd; cases hd
  refine ⟨⟨I.ext.ff,fun b o q=>?_,fun b o q=>?_,I.ext.nw⟩,I.len,fun i=>?_,I.dist,fun x hx=>?_,fun j ll h=>absurd h (ziT j ll)⟩
  · rw [zag (zaq q h0)]; exact I.ext.hh b o q
  · rw [zag (zaq q h1)]; exact I.ext.fh b o q
  · have z:=I.slot i
    cases q:δ[i]? with
    | none=>trivial
    | some s =>
      rw [q] at z
      cases s with
      | no=>trivial
      | v d=>exact z
      | o d=>obtain ⟨a,z1,z2,z3,z4⟩:=z; exact ⟨a,z1,z2,z3,z4.at (zag (ne i a (by rw [q]; rfl) z1))⟩
      | l d=>obtain ⟨a,z1,z2,z3,z4⟩:=z; exact ⟨a,z1,z2,z3,z4.at (zag (ne i a (by rw [q]; rfl) z1))⟩
      | p ll=>exact absurd q (ziT i ll)
  · obtain ⟨z1,z2,z3⟩:=I.lent x hx
    exact ⟨z1,z2,by rw [zag (hp x hx)]; exact z3⟩
theorem EnvOk.weakL {δ':En} (w:Weak δ δ') (hl:∀ x ∈ Λ,∃ d,δ[x.1]?=some (.l d)) (I:EnvOk K Λ F0 H0 F H σ δ'):EnvOk K Λ F0 H0 F H σ δ:=by
  refine ⟨I.ext,I.len.trans w.1.symm,fun i=>?_,fun i j a hij h1 h2 h3 h4=>?_,fun x hx=>⟨hl x hx,(I.lent x hx).2⟩,I.tabsOf (fun k ll h=>⟨(w.2 k).elim (fun z=>by rw [z] at h; cases h) fun z=>by rw [← z]; exact h,rfl⟩) (fun _ _ _ _ _ _ t f _=>⟨t,fun b hb=>(f b hb).2⟩) fun k j ll r b bs _ _ _ _ ho hs=>.inl ⟨(w.2 j).elim (fun z=>by rw [z] at ho; cases ho) fun z=>by rw [← z]; exact ho,hs⟩⟩
  · rcases w.2 i with z | z
    · rw [z]; trivial
    · rw [z]; exact I.slot i
  · have ow:∀ k:Nat,Sl.own δ[k]?=true→Sl.own δ'[k]?=true:=fun k h=>by
      rcases w.2 k with z | z
      · rw [z] at h; cases h
      · rw [← z]; exact h
    exact I.dist i j a hij (ow i h1) (ow j h2) h3 h4
theorem zja {f:D→R (Option D)} {d:D} {l r:List D} (h:(zc8 f (d :: l)).nev = .ok r):∃ o r',f d = .ok o∧(zc8 f l).nev = .ok r'∧r=o.toList ++ r':=by
  unfold zc8 at h
  cases q:f d with
  | no=>rw [q] at h; cases h
  | ex x=>rw [q] at h; cases h
  | ok o =>
    rw [q] at h
    cases q2:zc8 f l with
    | no=>rw [R.bind_ok,q2] at h; cases h
    | ex x=>rw [R.bind_ok,q2] at h; cases h
    | ok r'=>rw [R.bind_ok,q2] at h; cases h; exact ⟨o,r',rfl,rfl,rfl⟩
theorem nev_ok {α:Type} {r:R α} {a:α} (h:r.nev = .ok a):r = .ok a:=by
  cases r with
  | no=>cases h
  | ok b=>cases h; rfl
  | ex x=>cases h
theorem zcM {wi:TI} {mi:En→R (List D)} {ix:List Nat} {n:Nat} {g:TG} {b:D→En→Option En} {tc:Option TT} {nc:Option (En→R Bool)}
    (hi:SIc K XO E wi mi) (hix:ix.Nodup) (hg:SG K g b) (hw:BW b) (hc:(tc=none∧nc=none)∨∃ c k,tc=some c∧nc=some k∧ST K XO EN c k) (he:SE K XO EN te me):SEo K XO E (zjk wi ix n g tc te) (zfQ mi ix n b nc me):=by
  intro Λ F0 H0 F H σ δ Q I a
  refine hi Λ F0 H0 F H σ δ _ I (a.bind.imp fun ds F1 H1 e1 a1 J hJ p hp=>?_)
  unfold ifC at a1
  split at a1
  case isFalse=>exact a1.elim
  rename_i hsz
  have I1:=I.grow e1
  obtain ⟨Λc,Ic,hown,hall⟩:=zh6 (n:=n) I1 hix
  cases qg:(zc8 (zdT b nc me (zaF δ ix n)) ds).nev with
  | no=>rw [qg] at a1; exact a1.elim
  | ex x=>cases q2:zc8 (zdT b nc me (zaF δ ix n)) ds <;> (rw [q2] at qg; cases qg)
  | ok l =>
  rw [qg] at a1
  have hlent:∀ x ∈ Λc,∃ d,(zaF δ ix n)[x.1]?=some (.l d):=fun x hx=>(Ic.lent x hx).1
  have hpn:∀ x ∈ Λc,x.2.1 ≠ p:=fun x hx e=>by
    obtain ⟨o,ho⟩:=hall x hx
    rw [e,hp] at ho; cases ho
  have p0:H0 p=none:=I1.ext.hh.free hp
  have f1:F1 p=none:=e1.fh.free hp
  refine ⟨fun i k ys σ2 H2=>∃ F2 l1 l2,EnvOk K Λc F0 H0 F2 H2 σ2 (zaF δ ix n)∧Ext F1 H1 F2 H2∧H2 p=some (.lst ys)∧F2 p=none∧RepL K F2 l1 ys∧(zc8 (zdT b nc me (zaF δ ix n)) (ds.drop i)).nev = .ok l2∧l=l1 ++ l2∧k=ds.length - i∧i ≤ ds.length∧ys.length ≤ i,
    ⟨_,F1,[],l,?_,.newO e1.fh hp,zal,f1,.nil,qg,rfl,rfl,Nat.zero_le _,Nat.le_refl _⟩,?_⟩
  · exact Ic.grow (.newO e1.fh hp)
  rintro i k ys σ2 H2 ⟨F2,l1,l2,I2,x2,hD,hF,r,qd,rfl,rfl,hil,hys⟩
  refine ⟨hD,?_⟩
  by_cases hlt:i < ds.length
  · have e:ds.drop i=ds[i] :: ds.drop (i + 1):=List.drop_eq_getElem_cons hlt
    rw [e] at qd
    obtain ⟨o,l3,q1,q3,rfl⟩:=zja qd
    obtain ⟨h1,h2⟩:=(hJ F2 H2 x2 i).1 ds[i] (by simp [hlt])
    refine .inr ⟨h1,fun ys' σ' H'=>∃ F' l1',EnvOk K Λc F0 H0 F' H' σ' (zaF δ ix n)∧Ext F1 H1 F' H'∧H' p=some (.lst ys')∧F' p=none∧RepL K F' l1' ys'∧l1 ++ (o.toList ++ l3)=l1' ++ l3∧ys'.length ≤ i + 1,
      fun ys' σ' H' ⟨F',l1',w1,w2,w3,w4,w5,w6,w7⟩=>⟨_,by omega,F',l1',l3,w1,w2,w3,w4,w5,q3,w6,rfl,hlt,w7⟩,fun x H' y=>?_⟩
    obtain ⟨F3,e3,rx⟩:=h2 x H' y
    have hp2:∀ {F5 H5:Hp},Ext F2 H2 F5 H5→H5 p=some (.lst ys)∧F5 p=none:=fun z=>⟨z.hh _ _ hD,z.nw p _ hF hD⟩
    unfold zdT at q1
    cases qb:b ds[i] (zaF δ ix n) with
    | none=>rw [qb] at q1; cases q1
    | some δ1 =>
      rw [qb] at q1
      have hwk:=hw _ _ _ qb
      refine hg Λc F0 H0 F3 H' σ2 _ _ x δ1 _ (I2.grow e3) rx qb fun σ3 I3=>?_
      have fin:∀ F4 H4,Ext F3 H' F4 H4→(me δ1).nev.bind (fun x=>R.ok (some x)) = .ok o→te σ3 H4 fun y H5=>H5 p=some (.lst ys)∧ys.length < sizeLine ∧
          ∃ F' l1',EnvOk K Λc F0 H0 F' (upd H5 p (.lst (ys ++ [y]))) σ3 (zaF δ ix n)∧Ext F1 H1 F' (upd H5 p (.lst (ys ++ [y])))∧upd H5 p (.lst (ys ++ [y])) p=some (.lst (ys ++ [y]))∧F' p=none∧RepL K F' l1' (ys ++ [y])∧l1 ++ (o.toList ++ l3)=l1' ++ l3∧(ys ++ [y]).length ≤ i + 1:=by
        intro F4 H4 e4 qe
        cases qm:me δ1 with
        | no=>rw [qm] at qe; cases qe
        | ex x=>rw [qm] at qe; cases qe
        | ok d =>
          rw [qm] at qe
          cases qe
          refine he Λc F0 H0 F4 H4 σ3 δ1 _ (I3.grow e4) ?_
          rw [qm]
          intro F5 H5 e5 v rv
          have z:=e3.trans (e4.trans e5)
          obtain ⟨z1,z2⟩:=hp2 z
          refine ⟨z1,by omega,F5,l1 ++ [d],(((I3.grow e4).grow e5).weakL hwk hlent).side hown hpn p0 z2,?_,zal,z2,(r.mono z.ff).append (.cons rv .nil),by simp,by simpa using hys⟩
          have w:=x2.trans z
          exact ⟨w.ff,fun c o q=>by rw [zag (zaq q hp)]; exact w.hh c o q,fun c o q=>by rw [zag (zaq q z2)]; exact w.fh c o q,w.nw⟩
      rcases hc with ⟨rfl,rfl⟩ | ⟨c,kc,rfl,rfl,hcc⟩
      · have z:=fin F3 H' (.refl e3.fh) q1
        unfold zjV
        simp only [if_true]
        exact z
      · simp only at q1
        refine hcc Λc F0 H0 F3 H' σ3 δ1 _ I3 ?_
        cases qk:kc δ1 with
        | no=>rw [qk] at q1; cases q1
        | ex x=>rw [qk] at q1; cases q1
        | ok bb =>
          rw [qk] at q1
          intro F4 H4 e4
          cases bb with
          | true=>rw [if_pos rfl]; exact fin F4 H4 e4 q1
          | false =>
            rw [if_neg Bool.false_ne_true]
            have eo:o=none:=by
              rw [R.nev_ok,R.bind_ok,if_neg Bool.false_ne_true] at q1
              cases q1; rfl
            subst eo
            have z:=e3.trans e4
            obtain ⟨z1,z2⟩:=hp2 z
            exact ⟨F4,l1,(I3.grow e4).weakL hwk hlent,x2.trans z,z1,z2,r.mono z.ff,rfl,by omega⟩
  · have e:i=ds.length:=by omega
    subst e
    rw [List.drop_length] at qd
    cases qd
    refine .inl ⟨(hJ F2 H2 x2 _).2 (by simp),a1 F2 H2 x2 p hF (e1.hh.free hp) ⟨ys,hD,?_⟩⟩
    rw [List.append_nil]
    exact r
def zb2 (n:Nat) (ds:List D):En:=ds.map .v ++ List.replicate n .no
def runF (np nv:Nat) (m:En→O) (ds:List D):R D:=if ds.length=np then (match m (zb2 nv ds) with | .rt d=>.ok d | .nx _=>.ok .non | .ex _ x=>.ex x | _=>.no) else .no
theorem zjx {np nv:Nat} {N:List Str} {ds:List D} {vs:List V} (s:Same F H) (r:RepL K F ds vs) (hn:N.length=np + nv) (hl:ds.length=np):EnvOk K [] F H F H (L2.start N vs) (zb2 nv ds):=by
  have hv:=r.length
  unfold L2.start zb2
  have en:N.length - vs.length=nv:=by omega
  rw [en]
  refine ⟨.refl s,by simp [hv],fun i=>?_,fun i j a _ h1 _ _ _=>?_,fun x hx=>(by cases hx),fun i ll h1=>(by
    by_cases hi:i < ds.length
    · rw [List.getElem?_append_left (by simpa using hi),List.getElem?_map,List.getElem?_eq_getElem hi] at h1
      cases h1
    · rw [List.getElem?_append_right (by simpa using hi),List.getElem?_replicate] at h1
      split at h1 <;> cases h1)⟩
  · by_cases hi:i < ds.length
    · rw [List.getElem?_append_left (by simpa using hi),List.getElem?_append_left (by simp; omega),List.getElem?_map,List.getElem?_map,List.getElem?_eq_getElem hi]
      obtain ⟨v,h1,h2⟩:=r.get (List.getElem?_eq_getElem hi)
      rw [h1]
      exact ⟨v,rfl,h2⟩
    · rw [List.getElem?_append_right (by simpa using hi),List.getElem?_replicate]
      split <;> trivial
  · by_cases hi:i < ds.length
    · rw [List.getElem?_append_left (by simpa using hi),List.getElem?_map,List.getElem?_eq_getElem hi] at h1
      cases h1
    · rw [List.getElem?_append_right (by simpa using hi),List.getElem?_replicate] at h1
      split at h1 <;> cases h1
theorem ze3 {np nv:Nat} {N:List Str} {vs:List V} {Q:VK} {E:XK} (h:SS K XO (fun _=>E) t m) (hn:N.length=np + nv) (sp:spM K XO (runF np nv m) vs H Q E):t { nx:=fun _ H'=>Q .non H',rt:=Q } (L2.start N vs) H:=by
  obtain ⟨F,ds,s,r,a⟩:=sp
  unfold runF at a
  split at a
  · rename_i hl
    refine h [] F H F H _ _ _ (zjx s r hn hl) ?_
    cases q:m (zb2 nv ds) with
    | no=>rw [q] at a; exact a
    | nx δ=>rw [q] at a; exact fun σ F' H' I=>a F' H' I.ext _ (by simp only [Rep])
    | rt d=>rw [q] at a; exact fun v F' H' e r=>a F' H' e v r
    | ro d=>rw [q] at a; exact a.elim
    | bk δ=>rw [q] at a; exact a.elim
    | ct δ=>rw [q] at a; exact a.elim
    | ex δ x=>rw [q] at a; exact fun σ F' H' C dct I w=>a C dct F' H' I.ext w
  · exact a.elim
def runO (np nv:Nat) (m:En→O) (ds:List D):R D:=if ds.length=np then (match m (zb2 nv ds) with | .ro d=>.ok d | .ex _ x=>.ex x | _=>.no) else .no
def spO (K:Kx) (XO:XOT) (f:List D→R D):Sp:=fun vs H Q E=>∃ F ds,Same F H∧RepL K F ds vs∧Aft (fun _=>E) XO [] F H (fun d F' H'=>∀ p,F' p=none→H p=none→Own K F' H' d p→Q (.ref p) H') (f ds)
theorem zeE {np nv:Nat} {N:List Str} {vs:List V} {Q:VK} {E:XK} (h:SS K XO (fun _=>E) t m) (hn:N.length=np + nv) (sp:spO K XO (runO np nv m) vs H Q E):t { nx:=fun _ H'=>Q .non H',rt:=Q } (L2.start N vs) H:=by
  obtain ⟨F,ds,s,r,a⟩:=sp
  unfold runO at a
  split at a
  · rename_i hl
    refine h [] F H F H _ _ _ (zjx s r hn hl) ?_
    cases q:m (zb2 nv ds) with
    | no=>rw [q] at a; exact a
    | nx δ=>rw [q] at a; exact a.elim
    | rt d=>rw [q] at a; exact a.elim
    | ro d=>rw [q] at a; exact fun p F' H' e h0 h1 o=>a F' H' e p h0 h1 o
    | bk δ=>rw [q] at a; exact a.elim
    | ct δ=>rw [q] at a; exact a.elim
    | ex δ x=>rw [q] at a; exact fun σ F' H' C dct I w=>a C dct F' H' I.ext w
  · exact a.elim
theorem zdg {np nv:Nat} {vs:List V} {Q:VK} {E:XK} (sp:spO K XO (runO np nv m) vs H Q E):vs.length=np:=by
  obtain ⟨F,ds,s,r,a⟩:=sp
  unfold runO at a
  split at a
  · rename_i hl; rw [r.length]; exact hl
  · exact a.elim
theorem zce {np nv:Nat} {vs:List V} {Q:VK} {E:XK} (sp:spM K XO (runF np nv m) vs H Q E):vs.length=np:=by
  obtain ⟨F,ds,s,r,a⟩:=sp
  unfold runF at a
  split at a
  · rename_i hl; rw [r.length]; exact hl
  · exact a.elim
theorem zpP {f:List D→R D} {ns:List Int} {a:Addr} {Q:VK} {E:XK} (hf:f [.scr ns] = .ok (.bl true)) (h:SqL K.f H a (ns.map V.int)) (q:∀ H',Q (.bl true) H'):spM K XO f [.ref a] H Q E:=by
  refine ⟨fun b=>if b=a then H b else none,[.scr ns],fun b o e=>?_,.cons ?_ .nil,?_⟩
  · dsimp only at e
    split at e
    · exact e
    · cases e
  · simp only [Rep]
    refine ⟨a,rfl,?_⟩
    rcases h with (h | ⟨o,h⟩) | h
    · exact .inl (.inl (by dsimp only; rw [if_pos rfl]; exact h))
    · exact .inl (.inr ⟨o,by dsimp only; rw [if_pos rfl]; exact h⟩)
    · exact .inr h
  · rw [hf]
    intro F' H' _ v r
    simp only [Rep] at r
    subst r
    exact q H'
theorem zdu {f:List D→R D} {tl:TA} {ml:En→R (List D)} {E':XK} (h:SA K XO E tl ml):SEo K XO E (zkm (spO K XO f) [] E' tl) (zau f ml):=by
  intro Λ F0 H0 F H σ δ Q I a
  refine h Λ F0 H0 F H σ δ _ I (a.bind.imp fun ds F1 H1 e1 a1 vs r=>⟨F1,ds,e1.fh,by rw [List.append_nil]; exact r,?_⟩)
  exact Aft.imp (fun d F2 H2 e2 p q h0 h1 o=>p q h0 (e1.hh.free h1) o) (Aft.any a1)
theorem zb4 {f:List D→R D} {tl:TA} {ml:En→R (List D)} (h:SA K XO E tl ml):SEo K XO E (zmv (spO K XO f) E tl) (zaV f ml):=by
  intro Λ F0 H0 F H σ δ Q I a
  refine h Λ F0 H0 F H σ δ _ I (a.bind.imp fun ds F1 H1 e1 a1 vs r=>⟨F1,ds,e1.fh,r,?_⟩)
  cases q:f ds with
  | no=>rw [q] at a1; exact a1
  | ok d=>rw [q] at a1; exact fun F2 H2 e2 p h0 h1 o=>a1 F2 H2 e2 p h0 (e1.hh.free h1) o
  | ex x=>rw [q] at a1; exact a1
mutual
def zdn:D→Bool
  | .tup l=>zeZ l
  | .lst _=>false
  | .dct _ _=>false
  | .scr _=>false
  | .exc _=>false
  | .fd _ _=>false
  | .obj _ _ _=>false
  | _=>true
def zeZ:List D→Bool
  | []=>true
  | d :: l=>zdn d && zeZ l
end
def znX:D→Bool
  | .lst l=>zeZ l
  | .dct _ l=>zeZ l
  | _=>false
variable (K) in
def Bor (F H:Hp) (d:D) (v:V):Prop:=Rep K F d v∨(∃ a,v = .ref a∧Own K F H d a)∨∃ T fp,d=trD T∧TrOk K F H T v fp
variable (K XO E) in
def SAb (t:TA) (m:En→R (List D)):Prop:=∀ Λ F0 H0 F H σ δ Q,EnvOk K Λ F0 H0 F H σ δ→Aft E XO σ F H (fun ds F' H'=>∀ vs,Prd (Bor K F' H') ds vs→Q vs H') (m δ)→t σ H Q
theorem Bor.mono {F H F' H':Hp} (e:Ext F H F' H') {d:D} {v:V}:Bor K F H d v→Bor K F' H' d v
  | .inl h=>.inl (Rep.mono e.ff _ h)
  | .inr (.inl ⟨a,h1,h2⟩)=>.inr (.inl ⟨a,h1,h2.mono e.ff e.hh⟩)
  | .inr (.inr ⟨T,fp,h1,h2⟩)=>.inr (.inr ⟨T,fp,h1,TrOk.mono e.ff e.hh T h2⟩)
theorem zmB:SAb K XO E tNil mNil:=fun Λ F0 H0 F H σ δ Q I a=>a F H (.refl I.same) _ .nil
theorem zjQ {tr:TA} {mr:En→R (List D)} (ha:SE K XO E ta ma) (hr:SAb K XO E tr mr):SAb K XO E (zbx ta tr) (zaa ma mr):=by
  intro Λ F0 H0 F H σ δ Q I a
  refine ha Λ F0 H0 F H σ δ _ I (a.bind.imp fun dx F1 H1 e1 a1 x rx=>?_)
  refine hr Λ F0 H0 F1 H1 σ δ _ (I.grow e1) (a1.bind.imp fun dy F2 H2 e2 a2 y ry=>?_)
  exact a2 F2 H2 (.refl e2.fh) _ (.cons (.inl (Rep.mono e2.ff _ rx)) ry)
theorem ziD {i:Nat} {tr:TA} {mr:En→R (List D)} (hr:SAb K XO E tr mr):SAb K XO E (zbx (tVar i) tr) (zaa (mRd i) mr):=by
  intro Λ F0 H0 F H σ δ Q I a
  have key:∀ d v,mRd i δ = .ok d→σ[i]?=some (some v)→Bor K F H d v→zbx (tVar i) tr σ H Q:=fun d v hm hs b=>by
    unfold zaa at a
    rw [hm] at a
    refine ⟨v,hs,hr Λ F0 H0 F H σ δ _ I (Aft.imp (fun dy F2 H2 e2 a2 y ry=>?_) (Aft.bind a))⟩
    exact a2 F2 H2 (.refl e2.fh) _ (.cons (b.mono e2) ry)
  have z:=I.slot i
  unfold zaa at a
  cases q:δ[i]? with
  | none =>
    have e:mRd i δ = .no:=by unfold mRd; rw [q]
    rw [e] at a; exact a.elim
  | some s =>
    rw [q] at z
    cases s with
    | no =>
      have e:mRd i δ = .no:=by unfold mRd; rw [q]
      rw [e] at a; exact a.elim
    | v d=>obtain ⟨u,z1,z2⟩:=z; exact key d u (by unfold mRd; rw [q]) z1 (.inl z2)
    | o d=>obtain ⟨u,z1,_,_,z2⟩:=z; exact key d _ (by unfold mRd; rw [q]) z1 (.inr (.inl ⟨u,rfl,z2⟩))
    | l d=>obtain ⟨u,z1,_,_,z2⟩:=z; exact key d _ (by unfold mRd; rw [q]) z1 (.inr (.inl ⟨u,rfl,z2⟩))
    | p ll =>
      have e:mRd i δ = .no:=by unfold mRd; rw [q]
      rw [e] at a; exact a.elim
def zca (F H:Hp):Hp:=fun b=>match F b with
  | some o=>some o
  | none=>match H b with
    | some (.lst vs)=>some (.lst vs)
    | some (.dK kvs)=>some (.dK kvs)
    | some (.frz o u)=>some (.frz o u)
    | some (.ins C dx fs)=>some (.ins C dx fs)
    | _=>none
theorem zde {F H:Hp}:Same F (zca F H):=fun b o h=>by unfold zca; rw [h]
theorem zi3 {F H:Hp} (s:Same F H):Same (zca F H) H:=fun b o h=>by
  unfold zca at h
  cases q:F b with
  | some u=>rw [q] at h; cases h; exact s _ _ q
  | none =>
    simp only [q] at h
    cases q2:H b with
    | none=>rw [q2] at h; cases h
    | some u=>cases u <;> simp only [q2] at h <;> cases h <;> rfl
theorem zoI {a:Addr} {vs:List V} (s:Same F H) (h:H a=some (.lst vs)):zca F H a=some (.lst vs):=by
  unfold zca
  cases q:F a with
  | some u=>rw [s _ _ q] at h; exact h
  | none=>simp only [h]
mutual
theorem zhG (s:Same F H):∀ (T:Tr) {v:V} {fp:List Addr},TrOk K F H T v fp→Rep K (zca F H) (trD T) v
  | .d x,v,fp,h=>by
    simp only [TrOk] at h
    simp only [trD]
    exact Rep.mono zde x h.2
  | .l ts,v,fp,h=>by
    simp only [TrOk] at h
    obtain ⟨a,vs,fs,rfl,h2,h3,h4⟩:=h
    simp only [trD,Rep]
    exact ⟨a,vs,rfl,.inl (zoI s h3),zgl s ts h4⟩
  | .t ts,v,fp,h=>by
    simp only [TrOk] at h
    obtain ⟨a,vs,rfl,h3,h4⟩:=h
    simp only [trD,Rep]
    exact ⟨a,vs,rfl,zde _ _ h3,zgl s ts h4⟩
theorem zgl (s:Same F H):∀ (ts:List Tr) {vs:List V} {fp:List Addr},TrOkL K F H ts vs fp→RepL K (zca F H) (trDL ts) vs
  | [],vs,fp,h=>by
    simp only [TrOkL] at h
    rw [h.1]
    simp only [trDL]
    exact .nil
  | t :: ts,vs,fp,h=>by
    simp only [TrOkL] at h
    obtain ⟨v,r,f1,f2,rfl,h2,h3,h4⟩:=h
    simp only [trDL]
    exact .cons (zhG s t h3) (zgl s ts h4)
end
theorem zhr {F H:Hp} (s:Same F H):∀ {d:D} {v:V},Bor K F H d v→Rep K (zca F H) d v:=by
  intro d v h
  rcases h with h | ⟨a,rfl,h⟩ | ⟨T,fp,rfl,h⟩
  · exact Rep.mono zde _ h
  · cases d with
    | lst l =>
      obtain ⟨vs,h1,h2⟩:=h
      simp only [Rep]
      refine ⟨a,vs,rfl,.inl ?_,h2.mono zde⟩
      unfold zca
      cases q:F a with
      | some u=>rw [s _ _ q] at h1; exact h1
      | none=>simp only [h1]
    | dct ks l =>
      obtain ⟨vs,h1,h0,h2⟩:=h
      simp only [Rep]
      refine ⟨a,vs,rfl,?_,h0,h2.mono zde⟩
      unfold zca
      cases q:F a with
      | some u=>rw [s _ _ q] at h1; exact h1
      | none=>simp only [h1]
    | obj c ks l =>
      obtain ⟨dx,vs,h1,h0,h2⟩:=h
      simp only [Rep]
      refine ⟨a,dx,vs,rfl,?_,h0,h2.mono zde⟩
      unfold zca
      cases q:F a with
      | some u=>rw [s _ _ q] at h1; exact h1
      | none=>simp only [h1]
    | _=>exact h.elim
  · exact zhG s T h
theorem zjH {F H:Hp} (s:Same F H):∀ {ds:List D} {vs:List V},Prd (Bor K F H) ds vs→RepL K (zca F H) ds vs
  | _,_,.nil=>.nil
  | _,_,.cons h t=>.cons (zhr s h) (zjH s t)
open Classical in
def minH (F H F':Hp):Hp:=fun b=>if F b=none∧H b ≠ none then none else F' b
theorem zpL {F H F' H':Hp} (e:Ext (zca F H) H F' H') {a:Addr} {o:HO} (h:F' a=some o) (h1:∀ vs,o ≠ .lst vs) (h2:∀ kvs,o ≠ .dK kvs) (h3:∀ q u,o ≠ .frz q u) (h4:∀ C dx fs,o ≠ .ins C dx fs):minH F H F' a=some o:=by
  unfold minH
  split
  · rename_i hc
    exfalso
    cases qh:H a with
    | none=>exact hc.2 qh
    | some u =>
      have np:zca F H a=match H a with | some (.lst vs)=>some (.lst vs) | some (.dK kvs)=>some (.dK kvs) | some (.frz o u)=>some (.frz o u) | some (.ins C dx fs)=>some (.ins C dx fs) | _=>none:=by
        unfold zca; rw [hc.1]
      cases u with
      | lst vs=>rw [qh] at np; have z:=e.ff a _ np; rw [h] at z; cases z; exact h1 vs rfl
      | dK vs=>rw [qh] at np; have z:=e.ff a _ np; rw [h] at z; cases z; exact h2 vs rfl
      | frz q w=>rw [qh] at np; have z:=e.ff a _ np; rw [h] at z; cases z; exact h3 q w rfl
      | ins C dx fs=>rw [qh] at np; have z:=e.ff a _ np; rw [h] at z; cases z; exact h4 C dx fs rfl
      | _=>rw [qh] at np; have z:=e.nw a _ np qh; rw [h] at z; cases z
  · exact h
mutual
theorem zji {F H F' H':Hp} (e:Ext (zca F H) H F' H'):∀ (d:D) {v:V},zdn d=true→Rep K F' d v→Rep K (minH F H F') d v
  | .non,v,_,h=>by simp only [Rep] at h ⊢; exact h
  | .bl _,v,_,h=>by simp only [Rep] at h ⊢; exact h
  | .int _,v,_,h=>by simp only [Rep] at h ⊢; exact h
  | .str _,v,_,h=>by simp only [Rep] at h ⊢; exact h
  | .lst _,v,c,h=>by simp only [zdn] at c; cases c
  | .dct _ _,v,c,h=>by simp only [zdn] at c; cases c
  | .scr _,v,c,h=>by simp only [zdn] at c; cases c
  | .exc _,v,c,h=>by simp only [zdn] at c; cases c
  | .fd _ _,v,c,h=>by simp only [zdn] at c; cases c
  | .obj _ _ _,v,c,h=>by simp only [zdn] at c; cases c
  | .tup l,v,c,h=>by
    simp only [zdn] at c
    simp only [Rep] at h ⊢
    obtain ⟨a,vs,h1,h2,h3⟩:=h
    exact ⟨a,vs,h1,zpL e h2 (fun _ z=>by cases z) (fun _ z=>by cases z) (fun _ _ z=>by cases z) (fun _ _ _ z=>by cases z),zfU e l c h3⟩
theorem zfU {F H F' H':Hp} (e:Ext (zca F H) H F' H'):∀ (l:List D) {vs:List V},zeZ l=true→RepL K F' l vs→RepL K (minH F H F') l vs
  | [],vs,_,h=>by simp only [RepL] at h ⊢; exact h
  | d :: l,vs,c,h=>by
    simp only [zeZ,Bool.and_eq_true] at c
    simp only [RepL] at h ⊢
    obtain ⟨v,r,h1,h2,h3⟩:=h
    exact ⟨v,r,h1,zji e d c.1 h2,zfU e l c.2 h3⟩
end
theorem zi9 {F H F' H':Hp} (e:Ext (zca F H) H F' H'):Ext F H (minH F H F') H':=by
  refine ⟨fun b o h=>?_,e.hh,fun b o h=>?_,fun p o h1 h2=>?_⟩
  · unfold minH
    rw [if_neg (fun hc=>by rw [h] at hc; cases hc.1)]
    exact e.ff b o (zde b o h)
  · unfold minH at h
    split at h
    · cases h
    · exact e.fh b o h
  · unfold minH
    rw [if_pos ⟨h1,by rw [h2]; intro z; cases z⟩]
def zeY (f:List D→R D) (ml:En→R (List D)) (δ:En):R D:=(ml δ).bind fun l=>(f l).nev.bind fun d=>if zdn d=true then .ok d else .no
theorem zjS {f:List D→R D} {tl:TA} {ml:En→R (List D)} {E':XK} (h:SAb K XO E tl ml):SE K XO E (zkm (spM K XO f) [] E' tl) (zeY f ml):=by
  intro Λ F0 H0 F H σ δ Q I a
  refine h Λ F0 H0 F H σ δ _ I (a.bind.imp fun ds F1 H1 e1 a1 vs r=>⟨zca F1 H1,ds,zi3 e1.fh,by rw [List.append_nil]; exact zjH e1.fh r,?_⟩)
  cases q:f ds with
  | no=>rw [q] at a1; exact a1.elim
  | ex x=>rw [q] at a1; exact a1.elim
  | ok d =>
    rw [q] at a1
    intro F2 H2 e2 v rv
    simp only [R.nev_ok,R.bind_ok] at a1
    split at a1
    · rename_i hc
      exact a1 _ H2 (zi9 e2) v (zji e2 d hc rv)
    · exact a1.elim
variable (K) in
def SC (r:List V→Hp→VK→Prop) (f:List D→Option D):Prop:=∀ F H vs ds d Q,Same F H→Prd (Top K F H) ds vs→f ds=some d→(∀ v F' H',Ext F H F' H'→Rep K F' d v→Q v H')→r vs H Q
variable (K) in
def SCo (r:List V→Hp→VK→Prop) (f:List D→Option D):Prop:=∀ F H vs ds d Q,Same F H→Prd (Top K F H) ds vs→f ds=some d→(∀ p F' H',Ext F H F' H'→F' p=none→H p=none→Own K F' H' d p→Q (.ref p) H')→r vs H Q
def mCB (f:List D→Option D) (ml:En→R (List D)) (δ:En):R D:=(ml δ).bind fun l=>R.of (f l)
theorem zdo {r:List V→Hp→VK→Prop} {f:List D→Option D} {tl:TA} {ml:En→R (List D)} (hr:SC K r f) (h:SAr K XO E tl ml):SE K XO E (tCB r tl) (mCB f ml):=by
  intro Λ F0 H0 F H σ δ Q I a
  refine h Λ F0 H0 F H σ δ _ I (a.bind.imp fun ds F1 H1 e1 a1 vs rv=>?_)
  cases q:f ds with
  | none=>rw [q] at a1; exact a1.elim
  | some d=>rw [q] at a1; exact hr F1 H1 vs ds d Q e1.fh rv q fun v F' H' e r=>a1 F' H' e v r
theorem zih {r:List V→Hp→VK→Prop} {f:List D→Option D} {tl:TA} {ml:En→R (List D)} (hr:SCo K r f) (h:SAr K XO E tl ml):SEo K XO E (tCB r tl) (mCB f ml):=by
  intro Λ F0 H0 F H σ δ Q I a
  refine h Λ F0 H0 F H σ δ _ I (a.bind.imp fun ds F1 H1 e1 a1 vs rv=>?_)
  cases q:f ds with
  | none=>rw [q] at a1; exact a1.elim
  | some d=>rw [q] at a1; exact hr F1 H1 vs ds d Q e1.fh rv q fun p F' H' e h0 h1 o=>a1 F' H' e p h0 (e1.hh.free h1) o
def fLen:List D→Option D
  | [.lst l]=>some (.int l.length)
  | [.scr l]=>some (.int l.length)
  | [.tup l]=>some (.int l.length)
  | _=>none
theorem zdp:SC K (fun xs H Q=>∃ p ys,xs = [.ref p]∧(SqL K.f H p ys∨SqT K.f H p ys)∧Q (.int ys.length) H) fLen:=by
  intro F H vs ds d Q s r e q
  unfold fLen at e
  split at e
  · cases e
    cases r with
    | cons r r' =>
      cases r'
      obtain ⟨a,xs,rfl,h1,h2⟩:=r
      exact ⟨a,xs,rfl,.inl (.inl h1),q _ F H (.refl s) (by simp only [Rep]; rw [h2.length])⟩
  · cases e
    cases r with
    | cons r r' =>
      cases r'
      simp only [Top,Rep] at r
      obtain ⟨a,rfl,h1⟩:=r
      exact ⟨a,_,rfl,.inl (s.seq h1),q _ F H (.refl s) (by simp only [Rep]; rw [List.length_map])⟩
  · cases e
    cases r with
    | cons r r' =>
      cases r'
      simp only [Top,Rep] at r
      obtain ⟨a,xs,rfl,h1,h2⟩:=r
      exact ⟨a,xs,rfl,.inr (.inl (.inl (s _ _ h1))),q _ F H (.refl s) (by simp only [Rep]; rw [h2.length])⟩
  · cases e
def fAbs:List D→Option D
  | [.int i]=>some (.int (if i < 0 then -i else i))
  | _=>none
theorem zn3:SC K (fun xs H Q=>∃ i,xs = [.int i]∧Q (.int (if i < 0 then -i else i)) H) fAbs:=by
  intro F H vs ds d Q s r e q
  unfold fAbs at e
  split at e
  · rename_i i
    cases e
    cases r with
    | cons r r' =>
      cases r'
      simp only [Top,Rep] at r
      subst r
      exact ⟨i,rfl,q _ F H (.refl s) (by simp only [Rep])⟩
  · cases e
def zfs:List D→Option D
  | [.lst l]=>some (.lst l)
  | [.tup l]=>some (.lst l)
  | _=>none
theorem zhy:SCo K (fun xs H Q=>∃ p ys,xs = [.ref p]∧(SqL K.f H p ys∨SqT K.f H p ys)∧∀ l,H l=none→Q (.ref l) (upd H l (.lst ys))) zfs:=by
  intro F H vs ds d Q s r e q
  unfold zfs at e
  split at e
  · cases e
    cases r with
    | cons r r' =>
      cases r'
      obtain ⟨a,xs,rfl,h1,h2⟩:=r
      exact ⟨a,xs,rfl,.inl (.inl h1),fun p hp=>q _ F _ (.newO s hp) (s.free hp) hp ⟨xs,zal,h2⟩⟩
  · cases e
    cases r with
    | cons r r' =>
      cases r'
      simp only [Top,Rep] at r
      obtain ⟨a,xs,rfl,h1,h2⟩:=r
      exact ⟨a,xs,rfl,.inr (.inl (.inl (s _ _ h1))),fun p hp=>q _ F _ (.newO s hp) (s.free hp) hp ⟨xs,zal,h2⟩⟩
  · cases e
def asI:D→Option Int
  | .int i=>some i
  | _=>none
def mNoP (_:En):R (Option Int):=.ok none
def zhD (me:En→R D) (δ:En):R (Option Int):=(me δ).bind fun d=>(R.of (asI d)).bind fun i=>.ok (some i)
variable (K XO E) in
def SO (t:TO) (m:En→R (Option Int)):Prop:=∀ Λ F0 H0 F H σ δ Q,EnvOk K Λ F0 H0 F H σ δ→Aft E XO σ F H (fun o _ H'=>Q o H') (m δ)→t σ H Q
theorem zqQ:SO K XO E zjo mNoP:=fun Λ F0 H0 F H σ δ Q I a=>a F H (.refl I.same)
theorem zjj (h:SE K XO E te me):SO K XO E (zll te) (zhD me):=by
  intro Λ F0 H0 F H σ δ Q I a
  refine h Λ F0 H0 F H σ δ _ I (a.bind.imp fun d F1 H1 e1 a1 v r=>?_)
  cases d with
  | int i=>simp only [Rep] at r; exact ⟨i,r,a1 F1 H1 (.refl e1.fh)⟩
  | _=>exact a1.elim
def cutD (xs:List D) (lo hi:Option Int):List D:=(xs.drop (HT.sIx xs.length 0 lo)).take (HT.sIx xs.length xs.length hi - HT.sIx xs.length 0 lo)
end
end PM
namespace PM
open PySem L2
def oCat (x y:D):Option D:=match x,y with | .lst l,.lst r=>ifC (l.length + r.length ≤ sizeLine) (some (.lst (l ++ r))) none | _,_=>none
def zbw:Nat→D→Bool
  | _,.non=>true
  | _,.int _=>true
  | n + 1,.tup l=>l.all (zbw n)
  | n + 1,.lst l=>l.all (zbw n)
  | _,_=>false
open Classical in
def oEqD (x y:D):Option D:=ifC (zbw 8 x=true∧zbw 8 y=true) (some (.bl (decide (x=y)))) none
def isiB:String→D→Bool
  | "int",.int _=>true
  | "int",.bl _=>true
  | "bool",.bl _=>true
  | "list",.lst _=>true
  | "tuple",.tup _=>true
  | "str",.str _=>true
  | _,_=>false
def okI:D→Bool
  | .scr _=>false
  | .exc _=>false
  | .fd _ _=>false
  | .obj _ _ _=>false
  | _=>true
def oIsi (c:String) (d:D):Option D:=match d with | .scr _=>none | .exc _=>none | .fd _ _=>none | .obj _ _ _=>none | d=>some (.bl (isiB c d))
def asIs:List D→Option (List Int)
  | []=>some []
  | .int i :: l=>(asIs l).map (i :: ·)
  | _=>none
theorem zc9 (ns:List Int):asIs (ns.map .int)=some ns:=by
  induction ns with
  | nil=>rfl
  | cons a l ih=>simp [asIs,ih]
theorem zb8 {l:List D} {ns:List Int} (h:asIs l=some ns):l=ns.map .int:=by
  induction l generalizing ns with
  | nil=>cases h; rfl
  | cons d l ih =>
    cases d with
    | int i =>
      simp only [asIs] at h
      cases q:asIs l with
      | none=>rw [q] at h; cases h
      | some m=>rw [q] at h; cases h; rw [ih q]; rfl
    | _=>cases h
def fSum:List D→Option D
  | [.lst l]=>(asIs l).map fun ns=>.int ns.sum
  | _=>none
def rev1:List D→Option (List D)
  | [.lst l]=>some l.reverse
  | _=>none
def mRev (ml:En→R (List D)) (δ:En):R (List D):=(ml δ).bind fun l=>R.of (rev1 l)
theorem zgf {c:En→R Bool} {m:En→O} {δ:En} {n:Nat} {o:O} (h:zcO c m n δ=o) (ho:o ≠ .no):zf8 c m δ=o:=by
  have mono:∀ k n δ,zcO c m n δ ≠ .no→zcO c m (n + k) δ=zcO c m n δ:=by
    intro k n
    induction n with
    | zero=>intro δ h; exact absurd rfl h
    | succ n ih =>
      intro δ h
      have e:n + 1 + k=(n + k) + 1:=by omega
      rw [e]
      unfold zcO at h ⊢
      cases q:c δ with
      | no=>rfl
      | ex x=>rfl
      | ok b =>
        rw [q] at h
        cases b with
        | false=>rfl
        | true =>
          simp only [R.toO_ok,if_true] at h ⊢
          cases q2:m δ <;> simp only [q2] at h ⊢ <;> exact ih _ h
  have hex:∃ n,zcO c m n δ ≠ .no:=⟨n,by rw [h]; exact ho⟩
  unfold zf8
  rw [dif_pos hex]
  have h1:=mono n (Classical.choose hex) δ (Classical.choose_spec hex)
  have h2:=mono (Classical.choose hex) n δ (by rw [h]; exact ho)
  rw [← h1,Nat.add_comm,h2,h]
theorem zeq {β:Type} {f:D→R (Option D)} (enc:β→D) (g:β→Option D):∀ (l:List β),(∀ x ∈ l,f (enc x) = .ok (g x))→zc8 f (l.map enc) = .ok (l.filterMap g)
  | [],_=>rfl
  | x :: l,h=>by
    rw [List.map_cons]
    unfold zc8
    rw [h x List.mem_cons_self,R.bind_ok,zeq enc g l fun y hy=>h y (List.mem_cons_of_mem _ hy)]
    cases q:g x with
    | none=>rw [List.filterMap_cons_none q]; rfl
    | some d=>rw [List.filterMap_cons_some q]; rfl
theorem zqR {n:Nat} (h:n ≤ 100000):n ≤ sizeLine:=Nat.le_trans h (by decide)
theorem zl2 {n:Nat} (h:n ≤ 100000):n < sizeLine:=Nat.lt_of_le_of_lt h (by decide)
end PM
namespace PM
open PySem L2
theorem fitN {i:Int} (n:Nat) (h:i.natAbs ≤ n) (h2:n < 2 ^ 8000:=by decide +kernel):Fit i:=Nat.lt_of_le_of_lt h h2
@[simp] theorem zpT (i j:Int):oAdd (.int i) (.int j)=some (.int (i + j)):=rfl
@[simp] theorem zqx (i j:Int):oSub (.int i) (.int j)=some (.int (i - j)):=rfl
theorem zd5 {i j:Int} (h:Fit i) (h':Fit j):oMul (.int i) (.int j)=some (.int (i * j)):=za8 (p:=Fit i∧Fit j) ⟨h,h'⟩
theorem zpI {i j:Int} (h:j ≠ 0) (h':Fit j):oDiv (.int i) (.int j)=some (.int (i.fdiv j)):=za8 (p:=j ≠ 0∧Fit j) ⟨h,h'⟩
theorem zfh {i j:Int} (h:0 < j) (h':Fit j):oDiv (.int i) (.int j)=some (.int (i / j)):=by
  rw [zpI (by omega) h',Int.fdiv_eq_ediv_of_nonneg _ (by omega)]
theorem zcU {i j:Int} (h:0 < j):oMod (.int i) (.int j)=some (.int (i % j)):=za8 (p:=0 < j) h
theorem zj4 {i j:Int} (h:CPow i j):oPow (.int i) (.int j)=some (.int (i ^ j.toNat)):=za8 (p:=CPow i j) h
@[simp] theorem zrn (i j:Int):oLt (.int i) (.int j)=some (.bl (decide (i < j))):=rfl
@[simp] theorem zop (i j:Int):oGt (.int i) (.int j)=some (.bl (decide (j < i))):=rfl
@[simp] theorem zrf (i:Int):oNeg (.int i)=some (.int (-i)):=rfl
@[simp] theorem zrl (i j:Int):oEq (.int i) (.int j)=some (.bl (decide (i=j))):=by simp [oEq,fl,scal]
@[simp] theorem zrk (i j:Int):oNe (.int i) (.int j)=some (.bl (!decide (i=j))):=by simp [oNe,fl,scal]
@[simp] theorem zrm (d:D):oIs d .non=some (.bl (isN d)):=rfl
@[simp] theorem zpe (b:Bool):asB (.bl b)=some b:=rfl
@[simp] theorem zrh (l:List D):asL (.lst l)=some l:=rfl
@[simp] theorem zqu (l:List D):asT (.tup l)=some l:=rfl
@[simp] theorem zqq (i:Int):asI (.int i)=some i:=rfl
@[simp] theorem zrd (l:List D):fLen [.lst l]=some (.int l.length):=rfl
@[simp] theorem zrg (l:List D):fLen [.tup l]=some (.int l.length):=rfl
@[simp] theorem zqZ (l:List D):zfs [.lst l]=some (.lst l):=rfl
@[simp] theorem zqY (a b:D):oIxT (.tup [a,b]) (.int 0)=some a:=rfl
@[simp] theorem zqW (a b:D):oIxT (.tup [a,b]) (.int 1)=some b:=rfl
theorem atI_nat {α:Type} {l:List α} {k:Nat} {d:α} (h:l[k]?=some d):atI l (k:Int)=some d:=by
  have hk:=(List.getElem?_eq_some_iff.mp h).1
  unfold atI ixN
  rw [if_pos (by omega),if_pos (by omega)]
  exact h
theorem zqm {l:List D} {k:Nat} {d:D} (h:l[k]?=some d):oIxL (.lst l) (.int (k:Int))=some d:=atI_nat h
theorem zn9 {l:List D} {i:Int} {d:D} (h0:0 ≤ i) (h:l[i.toNat]?=some d):oIxL (.lst l) (.int i)=some d:=by
  have e:i=((i.toNat:Nat):Int):=by omega
  rw [e]
  exact zqm h
theorem rng1 {n:Int} (h0:0 ≤ n) (h:n ≤ 100000):rng [.int n]=some (zf5 0 n.toNat):=by
  show ifC _ _ _=_
  rw [za8 (by omega)]
theorem zoX (n:Nat):zf5 0 n=(List.range n).map fun (k:Nat)=>D.int (k:Int):=by
  unfold zf5
  exact List.map_congr_left fun k _=>by simp
theorem zm0 (l:List D):ziy l=(l.zipIdx).map fun p=>D.tup [.int (p.2:Int),p.1]:=by
  unfold ziy
  rw [List.mapIdx_eq_zipIdx_map]
@[simp] theorem zrj (a b:α):([a,b].length ≤ sizeLine)=True:=by simp [sizeLine]
end PM
namespace PM
open PySem L2
def sv:Option D→Sl
  | none=>.no
  | some d=>.v d
theorem zaw {i:Nat} {d:D} {δ:En} {o:Option D} (h:δ[i]?=some (sv o)):zan i d δ=some (δ.set i (.v d)):=by
  unfold zan
  rw [h]
  cases o <;> rfl
@[simp] theorem zqP:sv none = .no:=rfl
@[simp] theorem zqU (d:D):sv (some d) = .v d:=rfl
def iL (l:List Int):D:=.lst (l.map .int)
theorem zhz {α:Type} {f:D→R (Option D)} (enc:α→D) (p:α→Bool) (l:List α) (h:∀ x ∈ l,f (enc x) = .ok (if p x=true then some (enc x) else none)):zc8 f (l.map enc) = .ok ((l.filter p).map enc):=by
  rw [zeq enc (fun x=>if p x=true then some (enc x) else none) l h]
  congr 1
  induction l with
  | nil=>rfl
  | cons a l ih =>
    have ih':=ih fun x hx=>h x (List.mem_cons_of_mem _ hx)
    by_cases hp:p a=true
    · rw [List.filterMap_cons_some (b:=enc a) (by simp [hp]),ih',List.filter_cons_of_pos hp,List.map_cons]
    · rw [List.filterMap_cons_none (by simp [hp]),ih',List.filter_cons_of_neg hp]
theorem zck {α:Type} {f:D→R (Option D)} (enc:α→D) (g:α→D) (l:List α) (h:∀ x ∈ l,f (enc x) = .ok (some (g x))):zc8 f (l.map enc) = .ok (l.map g):=by
  rw [zeq enc (fun x=>some (g x)) l h,List.filterMap_eq_map']
end PM
namespace PM
open PySem L2
theorem zcJ {mi:En→R (List D)} {ix:List Nat} {n:Nat} {b:D→En→Option En} {nc:Option (En→R Bool)} {me:En→R D} {δ:En} {l r:List D} (h1:mi δ = .ok l) (hl:l.length ≤ 100000)
    (h2:zc8 (zdT b nc me (zaF δ ix n)) l = .ok r):zfQ mi ix n b nc me δ = .ok (.lst r):=by
  unfold zfQ
  rw [h1,R.bind_ok,za8 (zqR hl),h2]
  rfl
theorem zbB {mi:En→R (List D)} {b:D→En→Option En} {m:En→O} {δ:En} {l:List D} (h:mi δ = .ok l):mFor mi b m δ=zb3 b m l δ:=by
  unfold mFor
  rw [h]
  rfl
theorem zcB {np nv:Nat} {m:En→O} {ds:List D} {d:D} (h:m (zb2 nv ds) = .rt d) (hl:ds.length=np:=by rfl):runF np nv m ds = .ok d:=by
  unfold runF
  rw [if_pos hl,h]
theorem zpm {np nv:Nat} {m:En→O} {ds:List D} {δ:En} (h:m (zb2 nv ds) = .nx δ) (hl:ds.length=np:=by rfl):runF np nv m ds = .ok .non:=by
  unfold runF
  rw [if_pos hl,h]
theorem zda {np nv:Nat} {m:En→O} {ds:List D} {d:D} (h:m (zb2 nv ds) = .ro d) (hl:ds.length=np:=by rfl):runO np nv m ds = .ok d:=by
  unfold runO
  rw [if_pos hl,h]
theorem zaj {m n:En→O} {δ δ':En} (h:m δ = .nx δ'):mSeq m n δ=n δ':=by unfold mSeq; rw [h]
theorem zaz {me:En→R D} {b:D→En→Option En} {δ δ':En} {d:D} (h:me δ = .ok d) (h2:b d δ=some δ'):mAsg me b δ = .nx δ':=by unfold mAsg; rw [h,R.toO_ok,h2]; rfl
theorem zbC {n:En→R Bool} {m m':En→O} {δ:En} (h:n δ = .ok true):mIfS n m m' δ=m δ:=by unfold mIfS; rw [h]; rfl
theorem za7 {n:En→R Bool} {m m':En→O} {δ:En} (h:n δ = .ok false):mIfS n m m' δ=m' δ:=by unfold mIfS; rw [h]; rfl
theorem zaZ {β:Type} {b:D→En→Option En} {m:En→O} (enc:β→D) (P:List β→En→Prop) (all:List β)
    (step:∀ pre x post δ,all=pre ++ x :: post→P pre δ→∃ δ1 δ2,b (enc x) δ=some δ1∧(m δ1 = .nx δ2∨m δ1 = .ct δ2)∧P (pre ++ [x]) δ2) (δ:En) (h:P [] δ):∃ δ2,zb3 b m (all.map enc) δ = .nx δ2∧P all δ2:=by
  have key:∀ (post pre:List β) (δ:En),all=pre ++ post→P pre δ→∃ δ2,zb3 b m (post.map enc) δ = .nx δ2∧P all δ2:=by
    intro post
    induction post with
    | nil=>intro pre δ e h; exact ⟨δ,rfl,by rw [e,List.append_nil]; exact h⟩
    | cons x post ih =>
      intro pre δ e h
      obtain ⟨δ1,δ2,h1,h2,h3⟩:=step pre x post δ e h
      obtain ⟨δ3,h4,h5⟩:=ih (pre ++ [x]) δ2 (by rw [e]; simp) h3
      refine ⟨δ3,?_,h5⟩
      rw [List.map_cons]
      unfold zb3
      rw [h1]
      rcases h2 with h2 | h2 <;> (simp only [h2]; exact h4)
  exact key all [] δ rfl h
end PM
namespace PM
open PySem L2
@[simp] theorem zeX (l:List Int):fLen [iL l]=some (.int l.length):=by simp [iL]
@[simp] theorem zre (l:List Int):asL (iL l)=some (l.map .int):=rfl
end PM
namespace PM
open PySem L2
theorem zmi {x y:D} (hx:zbw 8 x=true) (hy:zbw 8 y=true) (h:x=y):oEqD x y=some (.bl true):=by
  unfold oEqD
  rw [za8 ⟨hx,hy⟩]
  simp [h]
end PM
namespace PM
open PySem L2 PyProof.Rows
section
variable {K:Kx} {ca:Nat→Addr} {an:Nat→Str} {XO:XOT} {E:L2.St→XK} {ta tb te:TE} {ma mb me:En→R D} {X:Cx}
def zqp:R2:=fun x y H Q=>∃ l b xs zs,x = .ref l∧y = .ref b∧Rd H l (.lst xs)∧Rd H b (.lst zs)∧xs.length + zs.length ≤ sizeLine∧∀ p,H p=none→Q (.ref p) (upd H p (.lst (xs ++ zs)))
theorem zpq:OpR X (binaryOp .Add) zqp:=by
  intro pins s σ H x y v u Q I rx ry h
  obtain ⟨l,b,xs,zs,rfl,rfl,hH,hB,hz,q⟩:=h
  cases rx
  cases ry
  obtain ⟨z,its,n,r,e⟩:=hH.ok I.hok
  obtain ⟨z2,its2,n2,r2,e2⟩:=hB.ok I.hok
  have hl:=r.length
  have hl2:=r2.length
  refine PySem.P.add_list e e2 ?_ (by rw [List.size_toArray,List.size_toArray]; omega)
  have ea:its.toArray ++ its2.toArray=(its ++ its2).toArray:=by simp
  rw [ea]
  exact ⟨.ref _,_,I.lnew (t':=s.toks) (r.append r2) (by rw [List.length_append]; omega),rfl,q _ I.fresh⟩
theorem zp8:SRo K zqp oCat:=by
  intro F H x y dx dy d Q s hx hy e q
  cases dx with
  | lst l =>
    cases dy with
    | lst r =>
      simp only [oCat] at e
      unfold ifC at e
      split at e
      · rename_i hc
        cases e
        obtain ⟨a,vs,rfl,h1,h2⟩:=hx
        obtain ⟨b,ws,rfl,g1,g2⟩:=hy
        exact ⟨a,b,vs,ws,rfl,rfl,h1,g1,by rw [h2.length,g2.length]; exact hc,fun p hp=>q p F _ (.newO s hp) (s.free hp) hp ⟨_,zal,h2.append g2⟩⟩
      · cases e
    | _=>cases e
  | _=>cases e
theorem zbF {F:Hp}:∀ {ns:List Int} {xs:List V},RepL K F (ns.map .int) xs→xs=ns.map V.int
  | [],xs,h=>by simpa only [List.map_nil,RepL] using h
  | n :: ns,xs,h=>by
    simp only [List.map_cons,RepL,Rep] at h
    obtain ⟨v,r,rfl,rfl,h3⟩:=h
    rw [zbF h3]; rfl
def rSum:List V→Hp→VK→Prop:=fun xs H Q=>∃ (p:Addr) (ns:List Int),xs = [.ref p]∧Rd H p (.lst (ns.map V.int))∧Q (.int ns.sum) H
theorem zlJ {ds:List D} {d:D} (h:fSum ds=some d):∃ ns:List Int,ds = [.lst (ns.map .int)]∧d = .int ns.sum:=by
  unfold fSum at h
  split at h
  · rename_i l
    cases z:asIs l with
    | none=>rw [z] at h; cases h
    | some ns=>rw [z] at h; cases h; exact ⟨ns,by rw [zb8 z],rfl⟩
  · cases h
theorem znN:SC K rSum fSum:=by
  intro F H vs ds d Q s r e q
  obtain ⟨ns,rfl,rfl⟩:=zlJ e
  cases r with
  | cons r r' =>
    cases r'
    obtain ⟨a,xs,rfl,h1,h2⟩:=r
    have ex:=zbF h2
    subst ex
    exact ⟨a,ns,rfl,h1,q _ F H (.refl s) (by simp only [Rep])⟩
theorem zfg (hc:X.calm=true):zey X (.builtin "sum") rSum:=by
  intro pins s σ H xs us Q I r h
  obtain ⟨p,ns,rfl,hq,q⟩:=h
  obtain ⟨u,rfl,rx⟩:=zfn r
  cases rx
  obtain ⟨z,its,n,rv,e⟩:=hq.ok I.hok
  obtain ⟨ts,rfl,htl⟩:∃ ts:List Tok,its=(ns.zip ts).map (fun p=>Value.int p.1 p.2)∧ts.length=ns.length:=by
    clear e hq q z
    induction ns generalizing its with
    | nil=>cases rv; exact ⟨[],rfl,rfl⟩
    | cons a l ih =>
      cases rv with
      | cons h t =>
        obtain ⟨tk,rfl⟩:=h
        obtain ⟨ts,rfl,hl⟩:=ih _ t
        exact ⟨tk :: ts,rfl,by simp [hl]⟩
  have ei:((ns.zip ts).map (fun p=>Value.int p.1 p.2)).toArray=intItems (ns.zip ts).toArray:=by simp [intItems]
  rw [ei] at e
  refine sum_intListG (I.ok.hd hc) ⟨_,e,rfl,n,rfl⟩ fun h' tk t' hk=>?_
  have es:preSum (numAt (ns.zip ts).toArray) (ns.zip ts).toArray.size=ns.sum:=by
    rw [preSum_eq,List.take_of_length_le (by simp)]
    have:(ns.zip ts).map (·.1)=ns:=List.map_fst_zip (by omega)
    show ((ns.zip ts).map (·.1)).sum=_
    rw [this]
  rw [es]
  exact ⟨.int ns.sum,H,I.kept (t':=tk) hk,⟨_,rfl⟩,q⟩
theorem zos {K:W.Frag} {S T:String} (h2:PySem.W.kitMeta T=true) (h3:(PySem.fastBuiltinMro S).map (·.contains (.type T))=some true):PySem.W.kitOne K (.type S) (.type T)=some true:=by
  unfold PySem.W.kitOne
  split
  · rfl
  · show (if PySem.W.kitMeta T=true then PySem.W.subIn K (.type S) (.type T) else none)=some true
    rw [if_pos h2]
    exact h3
def zjC:D→String
  | .non=>"NoneType"
  | .bl _=>"bool"
  | .int _=>"int"
  | .str _=>"str"
  | .tup _=>"tuple"
  | .lst _=>"list"
  | .dct _ _=>"dict"
  | .scr _=>"list"
  | .exc _=>"object"
  | .fd _ _=>"object"
  | .obj _ _ _=>"object"
theorem zfN {K:W.Frag}:PySem.W.kitOne K (.type "NoneType") (.type "int")=some false:=L2.kit_no (by decide +kernel) (by decide +kernel) (by decide +kernel)
theorem kit_int_bool {K:W.Frag}:PySem.W.kitOne K (.type "bool") (.type "int")=some true:=zos (by decide +kernel) (by decide +kernel)
theorem zjd {K:W.Frag}:PySem.W.kitOne K (.type "int") (.type "int")=some true:=L2.kit_self
theorem ziM {K:W.Frag}:PySem.W.kitOne K (.type "str") (.type "int")=some false:=L2.kit_no (by decide +kernel) (by decide +kernel) (by decide +kernel)
theorem zhN {K:W.Frag}:PySem.W.kitOne K (.type "tuple") (.type "int")=some false:=L2.kit_no (by decide +kernel) (by decide +kernel) (by decide +kernel)
theorem zhS {K:W.Frag}:PySem.W.kitOne K (.type "list") (.type "int")=some false:=L2.kit_no (by decide +kernel) (by decide +kernel) (by decide +kernel)
theorem zix {K:W.Frag}:PySem.W.kitOne K (.type "dict") (.type "int")=some false:=L2.kit_no (by decide +kernel) (by decide +kernel) (by decide +kernel)
theorem zfp {K:W.Frag}:PySem.W.kitOne K (.type "NoneType") (.type "bool")=some false:=L2.kit_no (by decide +kernel) (by decide +kernel) (by decide +kernel)
theorem zhi {K:W.Frag}:PySem.W.kitOne K (.type "bool") (.type "bool")=some true:=L2.kit_self
theorem zh4 {K:W.Frag}:PySem.W.kitOne K (.type "int") (.type "bool")=some false:=L2.kit_no (by decide +kernel) (by decide +kernel) (by decide +kernel)
theorem zif {K:W.Frag}:PySem.W.kitOne K (.type "str") (.type "bool")=some false:=L2.kit_no (by decide +kernel) (by decide +kernel) (by decide +kernel)
theorem zgP {K:W.Frag}:PySem.W.kitOne K (.type "tuple") (.type "bool")=some false:=L2.kit_no (by decide +kernel) (by decide +kernel) (by decide +kernel)
theorem zhn {K:W.Frag}:PySem.W.kitOne K (.type "list") (.type "bool")=some false:=L2.kit_no (by decide +kernel) (by decide +kernel) (by decide +kernel)
theorem zhw {K:W.Frag}:PySem.W.kitOne K (.type "dict") (.type "bool")=some false:=L2.kit_no (by decide +kernel) (by decide +kernel) (by decide +kernel)
theorem znd {K:W.Frag} (d:D) (h:okI d=true):PySem.W.kitOne K (.type (zjC d)) (.type "int")=some (isiB "int" d):=by
  cases d with
  | non=>exact zfN
  | bl b=>exact kit_int_bool
  | int b=>exact zjd
  | str b=>exact ziM
  | tup b=>exact zhN
  | lst b=>exact zhS
  | dct b b'=>exact zix
  | scr b=>cases h
  | exc b=>cases h
  | fd b b'=>cases h
  | obj b b' b''=>cases h
theorem zmE {K:W.Frag} (d:D) (h:okI d=true):PySem.W.kitOne K (.type (zjC d)) (.type "bool")=some (isiB "bool" d):=by
  cases d with
  | non=>exact zfp
  | bl b=>exact zhi
  | int b=>exact zh4
  | str b=>exact zif
  | tup b=>exact zgP
  | lst b=>exact zhn
  | dct b b'=>exact zhw
  | scr b=>cases h
  | exc b=>cases h
  | fd b b'=>cases h
  | obj b b' b''=>cases h
theorem zol {c:String} (hk:∀ d,okI d=true→PySem.W.kitOne K.f (.type (zjC d)) (.type c)=some (isiB c d)) (ha:SEr K XO E ta ma):SE K XO E (tCB (rIs K.f) (zbx ta (zbx (tC (.ty c)) tNil))) (m1 (oIsi c) ma):=by
  intro Λ F0 H0 F H σ δ Q I a
  refine ha Λ F0 H0 F H σ δ _ I (a.bind.imp fun d F1 H1 e1 a1 x rx=>?_)
  by_cases hs':okI d=true
  case neg =>
    cases d with
    | scr _=>exact a1.elim
    | exc _=>exact a1.elim
    | fd _ _=>exact a1.elim
    | obj _ _ _=>exact a1.elim
    | _=>exact absurd rfl hs'
  have a2:Aft E XO σ F1 H1 (fun d F' H'=>∀ v,Rep K F' d v→Q v H') (.ok (.bl (isiB c d))):=by
    cases d with
    | scr l=>cases hs'
    | exc l=>cases hs'
    | fd _ _=>cases hs'
    | obj _ _ _=>cases hs'
    | _=>exact a1
  have fin:=a2 F1 H1 (.refl e1.fh) (.bl (isiB c d)) (by simp only [Rep])
  suffices h:TyOf K.f H1 x (.type (zjC d)) from ⟨x,.ty c,.type c,_,_,rfl,rfl,h,hk d hs',fin⟩
  cases d with
  | non=>simp only [Top,Rep] at rx; subst rx; exact .non
  | bl b=>simp only [Top,Rep] at rx; subst rx; exact .bl _
  | int b=>simp only [Top,Rep] at rx; subst rx; exact .int _
  | str b=>simp only [Top,Rep] at rx; subst rx; exact .str _
  | tup l =>
    simp only [Top,Rep] at rx
    obtain ⟨p,vs,rfl,h1,h2⟩:=rx
    exact .tup (e1.fh _ _ h1)
  | lst l =>
    obtain ⟨p,vs,rfl,h1,h2⟩:=rx
    rcases h1 with h | ⟨o,h⟩
    · exact .lst h
    · exact .frz h
  | dct ks l=>obtain ⟨p,kvs,rfl,h1,h2⟩:=rx; exact .dK h1
  | scr l=>cases hs'
  | exc l=>cases hs'
  | fd _ _=>cases hs'
  | obj _ _ _=>cases hs'
def toPy:Nat→D→PyData
  | _,.non=>.none
  | _,.int i=>.int i
  | n + 1,.tup l=>.tuple (l.map (toPy n))
  | n + 1,.lst l=>.list (l.map (toPy n))
  | _,_=>.none
theorem zfR:∀ (n:Nat) (d:D),zbw n d=true→(toPy n d).canLay0=true∧(toPy n d).depth ≤ n:=by
  intro n
  induction n with
  | zero =>
    intro d h
    cases d with
    | non=>exact ⟨rfl,Nat.le_refl _⟩
    | int i=>exact ⟨rfl,Nat.le_refl _⟩
    | _=>cases h
  | succ n ih =>
    have all:∀ l:List D,l.all (zbw n)=true→PyData.canLayAll0 (l.map (toPy n))=true∧PyData.depthAll (l.map (toPy n)) ≤ n:=by
      intro l
      induction l with
      | nil=>intro _; exact ⟨rfl,Nat.zero_le _⟩
      | cons a l ih2 =>
        intro h
        rw [List.all_cons,Bool.and_eq_true] at h
        obtain ⟨h1,h2⟩:=ih a h.1
        obtain ⟨h3,h4⟩:=ih2 h.2
        refine ⟨?_,?_⟩
        · simp only [List.map_cons,PyData.canLayAll0,h1,h3,Bool.and_self]
        · simp only [List.map_cons,PyData.depthAll]; omega
    intro d h
    cases d with
    | non=>exact ⟨rfl,Nat.zero_le _⟩
    | int i=>exact ⟨rfl,Nat.zero_le _⟩
    | tup l=>obtain ⟨h1,h2⟩:=all l h; exact ⟨by simpa only [toPy,PyData.canLay0] using h1,by simp only [toPy,PyData.depth]; omega⟩
    | lst l=>obtain ⟨h1,h2⟩:=all l h; exact ⟨by simpa only [toPy,PyData.canLay0] using h1,by simp only [toPy,PyData.depth]; omega⟩
    | _=>cases h
open Classical in
theorem zpc:∀ (n:Nat) (d d':D),zbw n d=true→zbw n d'=true→PyData.eqv (toPy n d) (toPy n d')=decide (d=d'):=by
  intro n
  induction n with
  | zero =>
    intro d d' h h'
    cases d with
    | non=>cases d' <;> first | (simp [toPy,PyData.eqv]; done) | cases h'
    | int i =>
      cases d' with
      | int j=>simp only [toPy,PyData.eqv]; by_cases e:i=j <;> simp [e]
      | _=>first | (simp [toPy,PyData.eqv]; done) | cases h'
    | _=>cases h
  | succ n ih =>
    have all:∀ l l':List D,l.all (zbw n)=true→l'.all (zbw n)=true→PyData.eqvAll (l.map (toPy n)) (l'.map (toPy n))=decide (l=l'):=by
      intro l
      induction l with
      | nil=>intro l' _ _; cases l' <;> simp [PyData.eqvAll]
      | cons a l ih2 =>
        intro l' h h'
        cases l' with
        | nil=>simp [PyData.eqvAll]
        | cons b l' =>
          rw [List.all_cons,Bool.and_eq_true] at h h'
          simp only [List.map_cons,PyData.eqvAll,ih a b h.1 h'.1,ih2 l' h.2 h'.2]
          by_cases e1:a=b <;> by_cases e2:l=l' <;> simp [e1,e2]
    intro d d' h h'
    cases d with
    | non=>cases d' <;> first | (simp [toPy,PyData.eqv]; done) | cases h'
    | int i =>
      cases d' with
      | int j=>simp only [toPy,PyData.eqv]; by_cases e:i=j <;> simp [e]
      | _=>first | (simp [toPy,PyData.eqv]; done) | cases h'
    | tup l =>
      cases d' with
      | tup l'=>simp only [toPy,PyData.eqv,all l l' h h']; simp
      | _=>first | (simp [toPy,PyData.eqv]; done) | cases h'
    | lst l =>
      cases d' with
      | lst l'=>simp only [toPy,PyData.eqv,all l l' h h']; simp
      | _=>first | (simp [toPy,PyData.eqv]; done) | cases h'
    | _=>cases h
theorem zjK {pins:List (Addr × Obj)} {σ:L2.St} {H F:Hp} {s:Shared} (I:Inv X pins σ H s) (sm:Same F H):∀ (n:Nat) (d:D) (v:V) (u:Value),zbw n d=true→Rep ⟨X.K,ca,an⟩ F d v→RelV v u→∃ as,Reads s.heap u (toPy n d) as:=by
  intro n
  induction n with
  | zero =>
    intro d v u h r ru
    cases d with
    | non=>simp only [Rep] at r; subst r; cases ru; exact ⟨_,.none⟩
    | int i=>simp only [Rep] at r; subst r; obtain ⟨t,rfl⟩:=ru; exact ⟨_,.int i t⟩
    | _=>cases h
  | succ n ih =>
    have all:∀ (l:List D) (vs:List V) (us:List Value),l.all (zbw n)=true→RepL ⟨X.K,ca,an⟩ F l vs→Vals vs us→∃ as,ReadsAll s.heap us (l.map (toPy n)) as:=by
      intro l
      induction l with
      | nil=>intro vs us _ r ru; simp only [RepL] at r; subst r; cases ru; exact ⟨_,.nil⟩
      | cons a l ih2 =>
        intro vs us h r ru
        rw [List.all_cons,Bool.and_eq_true] at h
        simp only [RepL] at r
        obtain ⟨v,r',rfl,r1,r2⟩:=r
        cases ru with
        | cons ru ru' =>
          obtain ⟨as,h1⟩:=ih a v _ h.1 r1 ru
          obtain ⟨bs,h2⟩:=ih2 r' _ h.2 r2 ru'
          exact ⟨_,.cons h1 h2⟩
    intro d v u h r ru
    cases d with
    | non=>simp only [Rep] at r; subst r; cases ru; exact ⟨_,.none⟩
    | int i=>simp only [Rep] at r; subst r; obtain ⟨t,rfl⟩:=ru; exact ⟨_,.int i t⟩
    | tup l =>
      simp only [Rep] at r
      obtain ⟨a,vs,rfl,h1,h2⟩:=r
      cases ru
      obtain ⟨its,rv,⟨o,e,c,k,dd⟩,_⟩:=I.tuple (show SqT X.K H a vs from .inl (.inl (sm _ _ h1)))
      obtain ⟨as,h3⟩:=all l vs its h h2 rv
      exact ⟨_,.tuple e c dd (by simpa using h3)⟩
    | lst l =>
      simp only [Rep] at r
      obtain ⟨a,vs,rfl,h1,h2⟩:=r
      cases ru
      obtain ⟨its,rv,⟨o,k,e,c,_,dd⟩,_⟩:=I.list (show SqL X.K H a vs from .inl (PM.Same.rd sm h1))
      obtain ⟨as,h3⟩:=all l vs its h h2 rv
      exact ⟨_,.list e c dd (by simpa using h3)⟩
    | _=>cases h
theorem zim {pins:List (Addr × Obj)} {σ:L2.St} {H F:Hp} {s:Shared} (I:Inv X pins σ H s) (sm:Same F H) {n:Nat} {d:D} {v:V} {u:Value} (h:zbw n d=true) (r:Top ⟨X.K,ca,an⟩ F H d v) (ru:RelV v u):∃ as,Reads s.heap u (toPy n d) as:=by
  have r':Rep ⟨X.K,ca,an⟩ (zca F H) d v:=by
    cases d with
    | lst l =>
      obtain ⟨a,vs,rfl,h1,h2⟩:=r
      rcases h1 with h1 | ⟨o,h1⟩
      · exact zhr sm (.inr (.inl ⟨a,rfl,vs,h1,h2⟩))
      · simp only [Rep]
        refine ⟨a,vs,rfl,.inr ⟨o,?_⟩,h2.mono zde⟩
        unfold zca
        cases q:F a with
        | some u=>rw [sm _ _ q] at h1; exact h1
        | none=>simp only [h1]
    | dct ks l=>cases n <;> cases h
    | obj c ks l=>cases n <;> cases h
    | _=>exact Rep.mono zde _ r
  exact zjK I (zi3 sm) n d v u h r' ru
open Classical in
def rEqD (K:Kx) (neg:Bool):R2:=fun x y H Q=>∃ (F:Hp) (dx dy:D),Same F H∧Top K F H dx x∧Top K F H dy y∧zbw 8 dx=true∧zbw 8 dy=true∧Q (.bl (if neg=true then !decide (dx=dy) else decide (dx=dy))) H
theorem zod (hu:X.A.units + 64 < cLine):OpR X (compareOp .Eq) (rEqD ⟨X.K,ca,an⟩ false):=by
  intro pins s σ H x y v u Q I rx ry h
  obtain ⟨F,dx,dy,sm,tx,ty,px,py,q⟩:=h
  obtain ⟨as,ra⟩:=zim I sm px tx rx
  obtain ⟨bs,rb⟩:=zim I sm py ty ry
  obtain ⟨l1,l2⟩:=zfR 8 dx px
  obtain ⟨m1,m2⟩:=zfR 8 dy py
  refine SeqAt.compareEq_reads ra rb l1 m1 (by omega) ?_
  rw [zpc 8 dx dy px py]
  exact ⟨.bl _,H,I,rfl,q⟩
theorem zn0:SR K (rEqD K false) oEqD:=by
  intro F H x y dx dy d Q s hx hy e q
  unfold oEqD ifC at e
  split at e
  · rename_i h
    cases e
    exact ⟨F,dx,dy,s,hx,hy,h.1,h.2,q _ F H (.refl s) (by simp only [Rep]; rfl)⟩
  · cases e
end
end PM
namespace L2
open PySem PySem.Spec PyProof.Rows
def Itv (K:PySem.W.Frag) (a:Addr) (n:Nat):It :=
  ⟨fun i H=>i < n∧∃ xs,SqL K H a xs∧xs.length=n,fun i H x H'=>H'=H∧∀ xs,SqL K H a xs→xs[n - 1 - i]?=some x,fun i _=>n ≤ i⟩
theorem zm3 {P:Program} {w:World} {K:PySem.W.Frag} {tg:Expr} (a it:Addr) (n:Nat):Turn P w K tg (Itv K a n) [it] it (fun i h=>i ≤ n∧h.IsRevIter it a ((n:Int) - 1 - i)) where
  mem:=by simp
  obj:=fun i h st b hb=>by
    have e:b=it:=by simpa using hb
    subst e
    obtain ⟨_,o,e,c,d⟩:=st
    exact ⟨o,e,fun v z=>by rw [d] at z; cases z⟩
  keep:=fun i h h' st k=>⟨st.1,st.2.at fun o e=>k it (by simp) o e⟩
  item:=by
    intro X hP hw hK hc i pins s σ H E I hf st hg
    subst hP hw hK
    obtain ⟨hi,xs,hq,hn⟩:=hg
    obtain ⟨its,rv,p,hz⟩:=I.list hq
    have hx:xs[n - 1 - i]?=some (xs[n - 1 - i]'(by omega)):=List.getElem?_eq_getElem _
    obtain ⟨u,hu,ru⟩:=rv.get hx
    obtain ⟨f0,f1,f2,f3,f4,f5⟩:=hf it (by simp)
    have e0:(n:Int) - 1 - i=((n - 1 - i:Nat):Int):=by omega
    have st1:=st.2
    rw [e0] at st1
    refine wpAny_pyNext_rev_item st1 p.isList (x:=u) (by simpa using hu) fun h' st' sb=>?_
    have I1:Inv X pins σ H { s with heap:=h' }:=I.turned (t':=s.toks) (fun b o hb e=>(sb.2 b hb).trans e) f0 f1 f3 f4 f5
    have st2:h'.IsRevIter it a ((n:Int) - 1 - ((i + 1:Nat):Int)):=by
      have e1:(n:Int) - 1 - ((i + 1:Nat):Int)=((n - 1 - i:Nat):Int) - 1:=by omega
      rw [e1]; exact st'
    obtain ⟨o,e,c,d⟩:=id st'
    exact ⟨u,rfl,zlt (s:={ s with heap:=h' }) e c d (by decide) ⟨_,H,I1,ru,⟨rfl,fun ys hy=>by rw [I.list_inj hy hq]; exact hx⟩,⟨hi,st2⟩,fun b hb=>(hf b hb).1⟩⟩
  done:=by
    intro X hP hw hK hc i pins s σ H E I hf st hg
    subst hP hw hK
    obtain ⟨f0,f1,f2,f3,f4,f5⟩:=hf it (by simp)
    have st1:=st.2
    have e0:(n:Int) - 1 - i = -1:=by have:=st.1; have:n ≤ i:=hg; omega
    rw [e0] at st1
    exact wpAny_pyNext_rev_end (I.ok.hd hc) st1 fun h' eb=>⟨rfl,I.turned (t':=s.toks) (fun b o hb e=>eb b o hb e) f0 f1 f3 f4 f5⟩
  self:=fun _ _ _ _ _ st h=>wpAny_pyIter_revIter st.2 h
def znt (scope osc:Scope):Scope:={ scope with names:=scope.names.map fun (n,k)=>if (k == .free && osc.kind == .function && osc.names.lookup n == some .cell) then (n,.cell) else (n,k) }
section
variable {X:Cx}
def iRev (K:PySem.W.Frag) (ta:TA):TI:=fun σ H R=>ta σ H fun vs H1=>∃ a xs,vs = [.ref a]∧SqL K H1 a xs∧R (Itv K a xs.length) H1
theorem zqJ {tg l:Expr} {ta:TA} {p pos:Pos} (hg:Gl X "reversed") (hm:X.mg "reversed"=none) (ha:PA X [l] ta) (hs:starEach [l] X.env = [(false,eval l X.env)]:=by rfl) :
    PI X tg (.Call (.Name "reversed" p) [l] [] pos) (iRev X.K ta):=by
  intro pins s σ H R I h
  refine Call_ (zfD I hg hm boot_reversed (PyProof.Rows.callWith_type1 (thn (ha pos pins s σ H _ I h) fun us s1 ⟨vs,H1,I1,r1,q1⟩=>?_) hs rfl))
  obtain ⟨a,xs,e,hq,q⟩:=q1
  subst e
  obtain ⟨u,rfl,rx⟩:=zfn r1
  cases rx
  obtain ⟨its,rv,pl,hz⟩:=I1.list hq
  have hl:=rv.length
  refine call_reversed_list pl.isList ?_
  have st:(s1.heap.push (revObj a ((its.toArray.size:Int) - 1))).IsRevIter s1.heap.objs.size a ((xs.length:Int) - 1 - ((0:Nat):Int)):=⟨_,Heap.get?_push_size _ rfl,rfl,by
    have e:((xs.length:Int) - 1 - ((0:Nat):Int))=(its.toArray.size:Int) - 1:=by simp; omega
    rw [e]; rfl⟩
  refine wpAny_pyIter_revIter (s:={ s1 with heap:=s1.heap.push (revObj a ((its.toArray.size:Int) - 1)) }) st ?_
  refine ⟨s1.heap.objs.size,[s1.heap.objs.size],_,_,H1,rfl,I1.kept (t':=s1.toks) fun b o e=>Heap.get?_push_of_some _ e,zm3 a _ xs.length,⟨Nat.zero_le _,st⟩,fun b hb=>?_,q⟩
  have e:b=s1.heap.objs.size:=by simpa using hb
  subst e
  exact I1.fpOk (Nat.le_refl _) (I1.hok.fresh (Nat.le_refl _))
end
end L2
namespace PM
open PySem L2
section
variable {K:Kx} {XO:XOT} {E:L2.St→XK}
theorem zm4 {a:Addr} {ds:List D} {vs:List V} {F1:Hp} {P:Hp→Hp→Prop} (r:RepL K F1 ds vs) (h:∀ F2 H2,P F2 H2→Same F1 F2∧Same F2 H2∧SqL K.f H2 a vs):IsIt K (Itv K.f a vs.length) P ds.reverse:=by
  intro F2 H2 p i
  obtain ⟨s1,s2,q⟩:=h F2 H2 p
  have hl:=r.length
  refine ⟨fun d hd=>?_,fun hn=>?_⟩
  · have hi:i < ds.length:=by
      have:=(List.getElem?_eq_some_iff.mp hd).1
      simpa using this
    rw [List.getElem?_reverse hi] at hd
    obtain ⟨v,hv,rv⟩:=r.get hd
    refine ⟨⟨by omega,vs,q,rfl⟩,fun x H' y=>?_⟩
    obtain ⟨rfl,y⟩:=y
    have z:=y vs q
    rw [hl] at z
    rw [hv] at z; cases z
    exact ⟨F2,.refl s2,Rep.mono s1 _ rv⟩
  · have:ds.reverse.length ≤ i:=List.getElem?_eq_none_iff.mp hn
    rw [List.length_reverse] at this
    show vs.length ≤ i
    omega
theorem zl7 {l r:List D} (h:rev1 l=some r):∃ x,l = [.lst x]∧r=x.reverse:=by
  unfold rev1 at h
  split at h
  · cases h; exact ⟨_,rfl,rfl⟩
  · cases h
theorem zqF {tl:TA} {ml:En→R (List D)} (h:SA K XO E tl ml):SI K XO E (iRev K.f tl) (mRev ml):=by
  intro Λ F0 H0 F H σ δ R I a
  refine h Λ F0 H0 F H σ δ _ I (a.bind.imp fun ds F1 H1 e1 a1 vs r=>?_)
  cases q:rev1 ds with
  | none=>rw [q] at a1; exact a1.elim
  | some z =>
    rw [q] at a1
    obtain ⟨l,rfl,rfl⟩:=zl7 q
    obtain ⟨v,rfl,r'⟩:=RepL.one r
    simp only [Rep] at r'
    obtain ⟨a,vs,rfl,h1,h2⟩:=r'
    exact ⟨a,vs,rfl,.inl (PM.Same.rd e1.fh h1),a1 F1 H1 (.refl e1.fh) _ (zm4 h2 fun F2 H2 x=>⟨x.1,x.2,.inl (PM.Same.rd x.2 (PM.Same.rd x.1 h1))⟩)⟩
end
end PM
namespace PM
open PySem L2
def xoK (K:Kx):XOT:=fun x F _ C dct=>C = .ref (K.ca x.c)∧XA K F x.c dct
def zg2 (c:Nat) (ml:En→R (List D)) (δ:En):O:=(ml δ).toO δ fun l=>ifC (l.length ≤ sizeLine) (.ex δ ⟨c⟩) .no
section
variable {K:Kx} {E:L2.St→XK} {ta:TE} {ma:En→R D} {t u:TS} {m n:En→O} {Λ:List (Nat × Addr × HO)} {F0 H0 F H:Hp} {σ:L2.St} {δ:En}
theorem zhC {C:Addr} {c:Nat} {tl:TA} {ml:En→R (List D)} (hC:C=K.ca c) (hax:c < 16) (h:SA K (xoK K) E tl ml):SS K (xoK K) E (zok C E tl) (zg2 c ml):=by
  intro Λ F0 H0 F H σ δ Dn I a
  refine h Λ F0 H0 F H σ δ _ I ((AftS.of I a).imp fun l F1 H1 e p vs r=>?_)
  unfold ifC at p
  split at p
  · rename_i hl
    exact ⟨by rw [r.length]; exact hl,p σ F1 H1 _ _ (I.grow e) ⟨by rw [hC],by unfold XA; rw [if_pos hax]⟩⟩
  · exact p.elim
theorem EnvOk.unset {i:Nat} (I:EnvOk K Λ F0 H0 F H σ δ) (hl:∃ x,δ[i]?=some x∧∀ d,x ≠ .l d):EnvOk K Λ F0 H0 F H (σ.set i none) (δ.set i .no):=by
  obtain ⟨x,hx,hn⟩:=hl
  have hi:i < δ.length:=(List.getElem?_eq_some_iff.mp hx).1
  refine ⟨I.ext,by simp [I.len],fun j=>?_,fun j k a hjk h1 h2 h3 h4=>?_,fun y hy=>?_,I.tabsOf (fun k ll h=>by
      by_cases e:i=k
      · subst e; rw [List.getElem?_set_self hi] at h; cases h
      · rw [List.getElem?_set_ne e] at h; exact ⟨h,List.getElem?_set_ne e⟩) (fun _ _ _ _ _ _ t f _=>⟨t,fun b hb=>(f b hb).2⟩) fun k j ll a b bs _ _ _ _ ho hs=>.inl (by
      by_cases e:i=j
      · subst e; rw [List.getElem?_set_self hi] at ho; cases ho
      · rw [List.getElem?_set_ne e] at ho hs; exact ⟨ho,hs⟩)⟩
  · by_cases e:i=j
    · subst e
      rw [List.getElem?_set_self hi]
      trivial
    · rw [List.getElem?_set_ne e,List.getElem?_set_ne e]
      exact I.slot j
  · have ne:∀ k:Nat,Sl.own (δ.set i .no)[k]?=true→i ≠ k:=by
      rintro k h rfl
      rw [List.getElem?_set_self hi] at h
      cases h
    have n1:=ne j h1
    have n2:=ne k h2
    rw [List.getElem?_set_ne n1] at h1 h3
    rw [List.getElem?_set_ne n2] at h2 h4
    exact I.dist j k a hjk h1 h2 h3 h4
  · obtain ⟨⟨d',h1⟩,h2,h3⟩:=I.lent y hy
    have n:i ≠ y.1:=by
      intro e
      rw [← e,hx] at h1
      exact hn d' (Option.some.inj h1)
    exact ⟨⟨d',by rw [List.getElem?_set_ne n]; exact h1⟩,by rw [List.getElem?_set_ne n]; exact h2,h3⟩
def zfC (i:Nat) (δ:En):Option En:=match δ[i]? with | none=>none | some (.l _)=>none | some _=>some (δ.set i .no)
theorem zf2 {i:Nat} {δ':En} (h:zfC i δ=some δ') (I:EnvOk K Λ F0 H0 F H σ δ):EnvOk K Λ F0 H0 F H (σ.set i none) δ':=by
  unfold zfC at h
  split at h
  · cases h
  · cases h
  · rename_i x h2 h1
    cases h
    exact I.unset ⟨x,h1,fun d' z=>h2 d' (by rw [z])⟩
def zj1 (i:Nat):O→O
  | .nx δ=>(match zfC i δ with | some δ'=>.nx δ' | none=>.no)
  | .bk δ=>(match zfC i δ with | some δ'=>.bk δ' | none=>.no)
  | .ct δ=>(match zfC i δ with | some δ'=>.ct δ' | none=>.no)
  | .ex _ _=>.no
  | r=>r
def mTry (mb:En→O) (sub:Nat→Bool) (i:Nat) (mh:En→O) (δ:En):O:=match mb δ with
  | .ex δ' x=>if sub x.c=true then (match zan i (.exc x.c) δ' with | some δ1=>zj1 i (mh δ1) | none=>.no) else .no
  | r=>r
theorem zqw {D':Addr} {tb:(L2.St→XK)→TS} {th:TS} {mb mh:En→O} {sub:Nat→Bool} {i:Nat} (hsub:∀ c,sub c=true→PySem.W.kitCls K.f (.ref (K.ca c)) (.ref D')=some true)
    (hb:∀ E',SS K (xoK K) E' (tb E') mb) (hh:SS K (xoK K) EN th mh):SS K (xoK K) E (tTry K.f D' tb i th) (mTry mb sub i mh):=by
  intro Λ F0 H0 F H σ δ Dn I a
  refine hb _ Λ F0 H0 F H σ δ Dn I ?_
  unfold mTry at a
  cases q:mb δ with
  | no=>rw [q] at a; exact a
  | nx δ'=>rw [q] at a; exact a
  | rt d=>rw [q] at a; exact a
  | ro d=>rw [q] at a; exact a
  | bk δ'=>rw [q] at a; exact a
  | ct δ'=>rw [q] at a; exact a
  | ex δ' x =>
    rw [q] at a
    simp only at a
    split at a
    · rename_i hs
      rintro σ1 F1 H1 C dct I1 ⟨rfl,hxa⟩
      refine ⟨_,rfl,hsub _ hs,fun ea hea=>?_⟩
      have sF:Same F1 (upd F1 ea (excO (K.ca x.c) dct ea)):=Same.upd (I1.same.free hea)
      have I2:=I1.grow (Ext.new (o:=excO (K.ca x.c) dct ea) I1.same hea)
      cases qb:zan i (.exc x.c) δ' with
      | none=>rw [qb] at a; exact a.elim
      | some δ1 =>
        rw [qb] at a
        simp only at a
        refine zat (K:=K) Λ F0 H0 _ _ σ1 δ' (.exc x.c) (.ref ea) δ1 (fun σ2 H2=>th { nx:=fun σ2 H2=>Dn.nx (σ2.set i none) H2,rt:=Dn.rt,bk:=fun σ2 H2=>Dn.bk (σ2.set i none) H2,ct:=fun σ2 H2=>Dn.ct (σ2.set i none) H2 } σ2 H2) I2 ?_ qb fun σ2 I3=>?_
        · simp only [Rep]
          exact ⟨ea,dct,rfl,zal,hxa.mono sF⟩
        · refine hh Λ F0 H0 _ _ σ2 δ1 _ I3 ?_
          cases qh:mh δ1 with
          | no=>rw [qh] at a; exact a
          | rt d=>rw [qh] at a; exact a
          | ro d=>rw [qh] at a; exact a
          | ex _ _=>rw [qh] at a; exact a.elim
          | nx δ2 =>
            rw [qh] at a
            simp only [zj1] at a
            cases z:zfC i δ2 with
            | none=>rw [z] at a; exact a.elim
            | some δ3=>rw [z] at a; exact fun σ F H J=>a _ F H (zf2 z J)
          | bk δ2 =>
            rw [qh] at a
            simp only [zj1] at a
            cases z:zfC i δ2 with
            | none=>rw [z] at a; exact a.elim
            | some δ3=>rw [z] at a; exact fun σ F H J=>a _ F H (zf2 z J)
          | ct δ2 =>
            rw [qh] at a
            simp only [zj1] at a
            cases z:zfC i δ2 with
            | none=>rw [z] at a; exact a.elim
            | some δ3=>rw [z] at a; exact fun σ F H J=>a _ F H (zf2 z J)
    · exact a.elim
def zhV (tab:Nat→Option Bool) (d:D):Option D:=match d with | .exc c=>(tab c).map .bl | _=>none
theorem zfr {w:V} {cv:Value} {tab:Nat→Option Bool} (hw:clsV w=some cv) (hk:∀ c b,tab c=some b→ExcCls K.f (K.ca c)∧PySem.W.kitOne K.f (.ref (K.ca c)) cv=some b) (ha:SEr K XO E ta ma) :
    SE K XO E (tCB (rIsX K.f) (zbx ta (zbx (tC w) tNil))) (m1 (zhV tab) ma):=by
  intro Λ F0 H0 F H σ δ Q I a
  refine ha Λ F0 H0 F H σ δ _ I (a.bind.imp fun d F1 H1 e1 a1 x rx=>?_)
  cases d with
  | exc c =>
    simp only [Top,Rep] at rx
    obtain ⟨p,dct,rfl,h1,hxa⟩:=rx
    simp only [zhV] at a1
    cases z:tab c with
    | none=>rw [z] at a1; exact a1.elim
    | some b =>
      rw [z] at a1
      obtain ⟨k1,k2⟩:=hk c b z
      exact ⟨p,_,dct,w,cv,b,rfl,hw,e1.fh _ _ h1,fun dx ed=>by
        unfold XA at hxa
        split at hxa
        · rw [hxa] at ed; cases ed
        · obtain ⟨dx',e2,e3⟩:=hxa
          rw [e2] at ed; cases ed
          exact ⟨_,e1.fh _ _ e3⟩,k1,k2,a1 F1 H1 (.refl e1.fh) _ (by simp only [Rep])⟩
  | _=>exact a1.elim
end
end PM
namespace L2
open PySem PySem.Spec PyProof.Rows
section
variable {P:Program} {w:World} {B:Around} {Z:Result→Shared→Prop} {J S:Addr} {fp wr:List Addr} {n:Nat} {Pv:Nat→Value→Prop} {Sn:Nat→Heap→Prop}
end
section
variable {P:Program} {w:World} {B:Around} {E:Value→Shared→Prop} {s:Shared} {Q:Value→Shared→Prop} {l:Addr} {xs:Array (Int × Tok)} {df:Value}
end
end L2
namespace L2
open PySem PySem.Spec PyProof.Rows
section
variable {X:Cx}
end
end L2
namespace PM
open PySem L2
section
variable {K:Kx} {XO:XOT} {E:L2.St→XK} {td te:TE} {md me:En→R D}
end
end PM
namespace L2
open PySem PySem.Spec PyProof.Rows
section
variable {X:Cx}
theorem zq1 {o:Expr} {m:Str} {apos:Pos} {e f:Expr} {cpos:Pos} (h1:attributeBase o m X.env (eval o X.env)=eval o X.env:=by rfl)
    (h2:((backTo cpos (starEach [e,f] X.env)).all (fun x=>!x.1) && (backToKw cpos (keywordEach [] X.env)).all (fun x=>x.1.isSome) && decide (([e,f]:List Expr).length + ([]:List Keyword).length + (if ([]:List Keyword).isEmpty then 0 else 1) < 30))=true:=by rfl)
    (h3:(apos.endLine == cpos.line)=true:=by rfl) (h4:backTo cpos (starEach [e,f] X.env) = [(false,eval e X.env),(false,eval f X.env)]:=by rfl):M2 X o m apos e f cpos:=⟨h1,h2,h3,h4⟩
end
end L2
namespace PM
open PySem L2
section
variable {K:Kx} {XO:XOT} {E:L2.St→XK} {td ty tx:TE} {md my mx:En→R D}
def oIn (x y:D):Option D:=match x,y with | .int i,.lst l=>(asIs l).map fun ns=>.bl (decide (i ∈ ns)) | .int i,.tup l=>(asIs l).map fun ns=>.bl (decide (i ∈ ns)) | _,_=>none
theorem zjI {i:Int} {ns:List Int}:inV (.int i) (ns.map V.int)=decide (i ∈ ns):=by
  rw [Bool.eq_iff_iff]
  unfold inV
  simp only [List.any_map,List.any_eq_true,Function.comp,decide_eq_true_eq]
  constructor
  · rintro ⟨a,h1,h2⟩
    have:a=i:=by simpa [eqV] using h2
    subst this; exact h1
  · intro h
    exact ⟨i,h,by simp [eqV]⟩
theorem zh1 {ns:List Int}:(ns.map V.int).all zhP=true:=by
  rw [List.all_map,List.all_eq_true]
  intro x _; rfl
theorem zqX:SR K (rIn K.f false) oIn:=by
  intro F H x y dx dy d Q s hx hy e q
  cases dx with
  | int i =>
    simp only [Top,Rep] at hx
    subst hx
    cases dy with
    | lst l =>
      obtain ⟨a,vs,rfl,h1,h2⟩:=hy
      simp only [oIn] at e
      cases z:asIs l with
      | none=>rw [z] at e; cases e
      | some ns =>
        rw [z] at e; cases e
        have el:=zb8 z; subst el
        have ev:=zbF h2; subst ev
        exact ⟨a,_,rfl,.inl (.inl h1),rfl,zh1,q _ F H (.refl s) (by simp only [Rep]; rw [zjI]; rfl)⟩
    | tup l =>
      simp only [Top,Rep] at hy
      obtain ⟨a,vs,rfl,h1,h2⟩:=hy
      simp only [oIn] at e
      cases z:asIs l with
      | none=>rw [z] at e; cases e
      | some ns =>
        rw [z] at e; cases e
        have el:=zb8 z; subst el
        have ev:=zbF h2; subst ev
        exact ⟨a,_,rfl,.inr (.inl (.inl (s _ _ h1))),rfl,zh1,q _ F H (.refl s) (by simp only [Rep]; rw [zjI]; rfl)⟩
    | _=>cases e
  | _=>cases e
def zoY:D→Option (List Key × List D)
  | .dct ks l=>some (ks,l)
  | _=>none
def ziG (md my mx:En→R D) (δ:En):R D:=(md δ).bind fun d=>(R.of (zoY d)).bind fun p=>(my δ).bind fun k=>(mx δ).bind fun x=>R.of ((asK k).map fun k=>(getK p.1 p.2 k).getD x)
theorem zoT (hd:SEr K XO E td md) (hy:SE K XO E ty my) (hx:SE K XO E tx mx):SE K XO E (zn4 td ty tx) (ziG md my mx):=by
  intro Λ F0 H0 F H σ δ Q I a
  refine hd Λ F0 H0 F H σ δ _ I (a.bind.imp fun d F1 H1 e1 a1 x rx=>?_)
  cases d with
  | dct ks l =>
    have rx':=rx
    obtain ⟨p,kvs,rfl,h1,_⟩:=rx'
    refine ⟨p,rfl,.inl ⟨kvs,.inl h1⟩,?_⟩
    change Aft E XO σ F1 H1 _ ((my δ).bind fun k=>(mx δ).bind fun x=>R.of ((asK k).map fun k=>(getK ks l k).getD x)) at a1
    refine hy Λ F0 H0 F1 H1 σ δ _ (I.grow e1) (a1.bind.imp fun k F2 H2 e2 a2 y ry=>?_)
    refine hx Λ F0 H0 F2 H2 σ δ _ ((I.grow e1).grow e2) (a2.bind.imp fun xd F3 H3 e3 a3 z rz=>?_)
    cases q:asK k with
    | none=>rw [q] at a3; exact a3.elim
    | some key =>
      rw [q] at a3
      obtain ⟨p',o,ep,g,g1,g2⟩:=zmU (k:=key) ((rx.mono e2.ff e2.hh).mono e3.ff e3.hh)
      cases ep
      cases zi2 q ry
      refine ⟨o,g,a3 F3 H3 (.refl e3.fh) _ ?_⟩
      cases w:getK ks l key with
      | none=>rw [g2 w]; simpa only [w,Option.getD_none] using rz
      | some dd=>obtain ⟨v,rfl,r⟩:=g1 dd w; simpa only [w,Option.getD_some] using r
  | _=>exact a1.elim
end
end PM
namespace L2
open PySem PySem.Spec PyProof.Rows
section
variable {X:Cx}
end
end L2
namespace PM
open PySem L2
section
variable {K:Kx} {XO:XOT} {E:L2.St→XK}
end
end PM
namespace L2
open PySem PySem.Spec PyProof.Rows
section
variable {X:Cx}
end
end L2
namespace PM
open PySem L2
section
variable {K:Kx} {XO:XOT} {E:L2.St→XK}
end
end PM
namespace PM
def minI:List Int→Int→Int
  | [],m=>m
  | a :: l,m=>minI l (if a < m then a else m)
end PM
namespace L2
open PySem PySem.Spec PyProof.Rows
theorem minI_le:∀ (l:List Int) (m:Int),PM.minI l m ≤ m∧(∀ a ∈ l,PM.minI l m ≤ a)∧(PM.minI l m=m∨PM.minI l m ∈ l)
  | [],m=>⟨Int.le_refl _,fun _ h=>(by cases h),.inl rfl⟩
  | a :: l,m=>by
    obtain ⟨h1,h2,h3⟩:=minI_le l (if a < m then a else m)
    unfold PM.minI
    have e:(if a < m then a else m)=a∧a < m∨(if a < m then a else m)=m∧¬ a < m:=by split <;> simp_all
    refine ⟨by omega,fun b hb=>?_,?_⟩
    · rcases List.mem_cons.mp hb with rfl | hb
      · omega
      · exact h2 b hb
    · rcases h3 with h3 | h3
      · rcases e with ⟨e,_⟩ | ⟨e,_⟩
        · exact .inr (by rw [h3,e]; exact List.mem_cons_self)
        · exact .inl (by rw [h3,e])
      · exact .inr (List.mem_cons_of_mem _ h3)
section
variable {X:Cx}
def zpO (f:List Int→Int→Int):List V→Hp→VK→Prop:=fun xs H Q=>∃ (p:Addr) (n:Int) (l:List Int),xs = [.ref p]∧Rd H p (.lst ((n :: l).map V.int))∧Q (.int (f l n)) H
theorem zne {ns:List Int} {its:List Value} (rv:Vals (ns.map V.int) its):∃ ts:List Tok,its.toArray=intItems (ns.zip ts).toArray∧(ns.zip ts).toArray.size=ns.length∧∀ j,numAt (ns.zip ts).toArray j=ns.getD j 0:=by
  obtain ⟨ts,rfl,htl⟩:∃ ts:List Tok,its=(ns.zip ts).map (fun p=>Value.int p.1 p.2)∧ts.length=ns.length:=by
    induction ns generalizing its with
    | nil=>cases rv; exact ⟨[],rfl,rfl⟩
    | cons a l ih =>
      cases rv with
      | cons h t =>
        obtain ⟨tk,rfl⟩:=h
        obtain ⟨ts,rfl,hl⟩:=ih t
        exact ⟨tk :: ts,rfl,by simp [hl]⟩
  refine ⟨ts,by simp [intItems],by simp; omega,fun j=>?_⟩
  rw [numAt_eq]
  have:(ns.zip ts).map (·.1)=ns:=List.map_fst_zip (by omega)
  show ((ns.zip ts).map (·.1)).getD j 0=_
  rw [this]
theorem zmO {m:Int} {l:List Int} {f:Nat→Int} (hf:∀ j,f j=(m :: l).getD j 0):f (argBest (fun i j=>decide (f i < f j)) ((m :: l).length - 1))=PM.minI l m:=by
  obtain ⟨g1,g2⟩:=argBest_lt f ((m :: l).length - 1)
  obtain ⟨k1,k2,k3⟩:=minI_le l m
  generalize argBest (fun i j=>decide (f i < f j)) ((m :: l).length - 1)=j at *
  have hj:j < (m :: l).length:=by have:(m :: l).length=l.length + 1:=rfl; omega
  have hm:(m :: l).getD j 0 ∈ m :: l:=by rw [List.getD_eq_getElem?_getD,List.getElem?_eq_getElem hj]; exact List.getElem_mem hj
  rw [← hf j] at hm
  refine Int.le_antisymm ?_ ?_
  · have hx:PM.minI l m ∈ m :: l:=k3.elim (fun z=>by rw [z]; exact List.mem_cons_self) fun z=>List.mem_cons_of_mem _ z
    obtain ⟨i,hi,ei⟩:=List.getElem_of_mem hx
    have:=g2 i (by have:(m :: l).length=l.length + 1:=rfl; omega)
    rw [hf i,List.getD_eq_getElem?_getD,List.getElem?_eq_getElem hi,ei] at this
    exact this
  · rcases List.mem_cons.mp hm with z | z
    · rw [z]; exact k1
    · exact k2 _ z
theorem zk6 (hc:X.calm=true):zey X (.builtin "min") (zpO PM.minI):=by
  intro pins s σ H xs us Q I r h
  obtain ⟨p,m,l,rfl,hq,q⟩:=h
  obtain ⟨u,rfl,rx⟩:=zfn r
  cases rx
  obtain ⟨z,its,n,rv,e⟩:=hq.ok I.hok
  obtain ⟨ts,e1,e2,e3⟩:=zne rv
  rw [e1] at e
  refine min_intList (I.ok.hd hc) ⟨_,e,rfl,n,rfl⟩ (by rw [e2]; simp) fun v h' tk hv hk=>?_
  obtain ⟨t,rfl⟩:=intItems_at hv
  refine ⟨.int (PM.minI l m),H,I.kept (t':=tk) hk,⟨t,?_⟩,q⟩
  congr 1
  rw [e2]
  exact zmO e3
end
end L2
namespace PM
open PySem L2
section
variable {K:Kx}
def zkQ:List D→Option D
  | [.int i,.int j]=>some (.int (if j < i then j else i))
  | _=>none
def zia (f:List Int→Int→Int):List D→Option D
  | [.lst (.int a :: l)]=>(asIs l).map fun ns=>.int (f ns a)
  | _=>none
theorem zoW:SC K (fun xs H Q=>∃ i j,xs = [.int i,.int j]∧Q (.int (if j < i then j else i)) H) zkQ:=by
  intro F H vs ds d Q s r e q
  unfold zkQ at e
  split at e
  · rename_i i j
    cases e
    cases r with
    | cons r r' =>
      cases r' with
      | cons r2 r3 =>
        cases r3
        simp only [Top,Rep] at r r2
        subst r r2
        exact ⟨i,j,rfl,q _ F H (.refl s) (by simp only [Rep])⟩
  · cases e
theorem zkV {f:List Int→Int→Int} {ds:List D} {d:D} (h:zia f ds=some d):∃ (n:Int) (l:List Int),ds = [.lst ((n :: l).map .int)]∧d = .int (f l n):=by
  unfold zia at h
  split at h
  · rename_i a l
    cases z:asIs l with
    | none=>rw [z] at h; cases h
    | some ns=>rw [z] at h; cases h; exact ⟨a,ns,by rw [zb8 z]; rfl,rfl⟩
  · cases h
theorem zo7 {f:List Int→Int→Int}:SC K (zpO f) (zia f):=by
  intro F H vs ds d Q s r e q
  obtain ⟨n,l,rfl,rfl⟩:=zkV e
  cases r with
  | cons r r' =>
    cases r'
    obtain ⟨a,xs,rfl,h1,h2⟩:=r
    have ex:=zbF (ns:=n :: l) h2
    subst ex
    exact ⟨a,n,l,rfl,h1,q _ F H (.refl s) (by simp only [Rep])⟩
end
end PM
namespace L2
open PySem PySem.Spec PyProof.Rows
section
variable {X:Cx}
def ziS:List V→Hp→VK→Prop:=fun xs H Q=>∃ (p:Addr) (ns:List Int),xs = [.ref p]∧Rd H p (.lst (ns.map V.int))∧ns.length < 64∧∀ a,H a=none→Q (.ref a) (upd H a (.lst ((ns.mergeSort (fun a b=>decide (a ≤ b))).map V.int)))
theorem zm2 {ns:List Int} {its:List Value} (rv:Vals (ns.map V.int) its):IntsAre its ns:=by
  induction ns generalizing its with
  | nil=>cases rv; exact .nil
  | cons a l ih =>
    cases rv with
    | cons h t =>
      obtain ⟨tk,rfl⟩:=h
      exact .cons _ _ (ih t)
theorem znI {ns:List Int} {its:List Value} (rv:IntsAre its ns):Vals (ns.map V.int) its:=by
  induction rv with
  | nil=>exact .nil
  | cons _ _ _ ih=>exact .cons ⟨_,rfl⟩ ih
theorem zox {ns ms:List Int} (hp:ms.Perm ns) (hs:ms.Pairwise (· ≤ ·)):ms=ns.mergeSort fun a b=>decide (a ≤ b):=by
  have h1:(ns.mergeSort fun a b=>decide (a ≤ b)).Pairwise (· ≤ ·):=by
    have:=List.pairwise_mergeSort (le:=fun a b:Int=>decide (a ≤ b)) (fun a b c h1 h2=>by simp at *; omega) (fun a b=>by simp; omega) ns
    exact this.imp fun h=>by simpa using h
  have h2:ms.Perm (ns.mergeSort fun a b=>decide (a ≤ b)):=hp.trans (List.mergeSort_perm ..).symm
  exact List.Perm.eq_of_pairwise (fun a b _ _ h3 h4=>Int.le_antisymm h3 h4) hs h1 h2
theorem zgB:zey X (.builtin "sorted") ziS:=by
  intro pins s σ H xs us Q I r h
  obtain ⟨p,ns,rfl,hq,hl,q⟩:=h
  obtain ⟨u,rfl,rx⟩:=zfn r
  cases rx
  obtain ⟨z,its,n,rv,e⟩:=hq.ok I.hok
  have len:=rv.length
  rw [List.length_map] at len
  refine sorted_ints ⟨_,e,rfl,n,rfl⟩ (zm2 rv) (by omega) fun out ms a1 a2 a3=>?_
  obtain ⟨c,hc⟩:=sortedAll_at s.heap its out
  rw [zox a2 a3] at a1
  refine ⟨.ref (s.heap.objs.size + 1),_,?_,rfl,q _ (I.hok.fresh (Nat.le_succ _))⟩
  refine I.laid (fun b o hb=>sortedAll_old hb) (Nat.le_succ _) ⟨?_,out.toList,c,znI a1,by simpa using hc⟩
  rw [List.length_map,List.length_mergeSort]
  exact Nat.le_trans (Nat.le_of_lt hl) (by decide)
end
end L2
namespace PM
open PySem L2
section
variable {K:Kx}
def zeW:List D→Option D
  | [.lst l]=>(asIs l).bind fun ns=>ifC (ns.length < 64) (some (.lst ((ns.mergeSort fun a b=>decide (a ≤ b)).map .int))) none
  | _=>none
theorem zhQ {ds:List D} {d:D} (h:zeW ds=some d):∃ ns:List Int,ds = [.lst (ns.map .int)]∧ns.length < 64∧d = .lst ((ns.mergeSort fun a b=>decide (a ≤ b)).map .int):=by
  unfold zeW at h
  split at h
  · rename_i l
    cases z:asIs l with
    | none=>rw [z] at h; cases h
    | some ns =>
      rw [z] at h
      simp only [Option.bind] at h
      unfold ifC at h
      split at h
      · rename_i hl
        cases h
        exact ⟨ns,by rw [zb8 z],hl,rfl⟩
      · cases h
  · cases h
theorem zi1 {F:Hp}:∀ ns:List Int,RepL K F (ns.map .int) (ns.map V.int)
  | []=>.nil
  | n :: ns=>.cons (by simp only [Rep]) (zi1 ns)
theorem zk9:SCo K ziS zeW:=by
  intro F H vs ds d Q s r e q
  obtain ⟨ns,rfl,hl,rfl⟩:=zhQ e
  cases r with
  | cons r r' =>
    cases r'
    obtain ⟨a,xs,rfl,h1,h2⟩:=r
    have ex:=zbF h2
    subst ex
    exact ⟨a,ns,rfl,h1,hl,fun p hp=>q p F _ (.newO s hp) (s.free hp) hp ⟨_,zal,zi1 _⟩⟩
end
end PM
namespace PM
open PySem L2
section
variable {K:Kx} {XO:XOT} {E:L2.St→XK} {te:TE} {me:En→R D}
theorem RepL.eraseIdx {F:Hp}:∀ {l:List D} {vs:List V} (k:Nat),RepL K F l vs→RepL K F (l.eraseIdx k) (vs.eraseIdx k)
  | [],vs,k,h=>by
    simp only [RepL] at h
    subst h
    simp only [List.eraseIdx_nil]
    exact .nil
  | d :: l,vs,k,h=>by
    simp only [RepL] at h
    obtain ⟨v,r,rfl,h1,h2⟩:=h
    cases k with
    | zero=>exact h2
    | succ k=>exact .cons h1 (RepL.eraseIdx k h2)
theorem RepL.dropLast {F:Hp} {l:List D} {vs:List V} (h:RepL K F l vs):RepL K F l.dropLast vs.dropLast:=by
  rw [List.dropLast_eq_take,List.dropLast_eq_take,h.length]
  exact h.take _
def zlV (i:Nat) (b:D→En→Option En) (δ:En):O:=match δ[i]? with
  | some (.o (.lst l))=>(match l[l.length - 1]? with | some d=>O.of (b d (δ.set i (.o (.lst l.dropLast)))) | none=>.no)
  | _=>.no
theorem zoA {i:Nat} {g:TG} {b:D→En→Option En} (hg:SG K g b):SS K XO E (tAsg (tBM0 K.f "list" rPop (tVar i)) g) (zlV i b):=by
  intro Λ F0 H0 F H σ δ Dn I a
  unfold zlV at a
  split at a
  · rename_i l q
    obtain ⟨p,s1,vs,s2,s3⟩:=I.own q
    cases e:l[l.length - 1]? with
    | none=>simp only [e] at a; exact a.elim
    | some d =>
      simp only [e] at a
      obtain ⟨v,hv,rv⟩:=s3.get e
      have I2:=I.chg (u:=.lst vs.dropLast) (d':=.lst l.dropLast) q s1 ⟨_,zal,s3.dropLast⟩
      refine ⟨_,s1,.inl ⟨rfl,vs,.inl (.inl s2)⟩,p,vs,v,rfl,rfl,s2,by rw [s3.length]; exact hv,?_⟩
      cases z:b d (δ.set i (.o (.lst l.dropLast))) with
      | none=>rw [z] at a; exact a.elim
      | some δ'=>rw [z] at a; exact hg Λ F0 H0 F _ σ _ d v δ' _ I2 rv z fun σ' I'=>a σ' F _ I'
  · exact a.elim
def zmg (i:Nat) (me:En→R D) (b:D→En→Option En) (δ:En):O:=match δ[i]? with
  | some (.o (.lst l))=>(me δ).toO δ fun k=>match k with
    | .int (.ofNat k)=>(match l[k]? with | some d=>if k < 2 ^ 63 then O.of (b d (δ.set i (.o (.lst (l.eraseIdx k))))) else .no | none=>.no)
    | _=>.no
  | _=>.no
theorem zqO {k n:Nat} (h:k < n):seqIndex? (k:Int) n=some k:=by
  unfold seqIndex?
  have e:¬ (k:Int) < 0:=by omega
  simp only [e,if_false]
  rw [if_pos (by simp; omega)]
  simp
theorem zoo {i:Nat} {g:TG} {b:D→En→Option En} (h:SE K XO E te me) (hg:SG K g b):SS K XO E (tAsg (tBM K.f "list" znR (tVar i) (zbx te tNil)) g) (zmg i me b):=by
  intro Λ F0 H0 F H σ δ Dn I a
  unfold zmg at a
  split at a
  · rename_i l q
    obtain ⟨p,s1,vs,s2,s3⟩:=I.own q
    refine ⟨_,s1,.inl ⟨rfl,vs,.inl (.inl s2)⟩,?_⟩
    refine h Λ F0 H0 F H σ δ _ I ((AftS.of I a).imp fun d F1 H1 e c v r=>?_)
    split at c
    · rename_i k
      simp only [Rep] at r
      subst r
      cases z:l[k]? with
      | none=>simp only [z] at c; exact c.elim
      | some y =>
        simp only [z] at c
        split at c
        · rename_i hk
          have hlt:k < l.length:=(List.getElem?_eq_some_iff.mp z).1
          obtain ⟨w,hw,rw'⟩:=(s3.mono e.ff).get z
          have I2:=(I.grow e).chg (u:=.lst (vs.eraseIdx k)) (d':=.lst (l.eraseIdx k)) q s1 ⟨_,zal,(s3.mono e.ff).eraseIdx k⟩
          refine ⟨p,vs,(k:Int),k,w,rfl,rfl,e.hh _ _ s2,by omega,by omega,zqO (by rw [s3.length]; exact hlt),hw,?_⟩
          cases zz:b y (δ.set i (.o (.lst (l.eraseIdx k)))) with
          | none=>rw [zz] at c; exact c.elim
          | some δ'=>rw [zz] at c; exact hg Λ F0 H0 F1 _ σ _ y w δ' _ I2 rw' zz fun σ' I'=>c σ' F1 _ I'
        · exact c.elim
    · exact c.elim
  · exact a.elim
end
end PM
namespace L2
open PySem PySem.Spec PyProof.Rows
section
variable {X:Cx}
theorem zn1 {ns:List Int} {its:List Value} (rv:Vals (ns.map V.int) its) {m:Nat} (hm:m < its.toArray.size):∃ t,its.toArray[m] = .int (ns.getD m 0) t:=by
  have len:=rv.length
  rw [List.length_map] at len
  have hm':m < ns.length:=by rw [len]; simpa using hm
  obtain ⟨u,h1,t,h2⟩:=rv.get (show (ns.map V.int)[m]?=some (.int (ns.getD m 0)) by rw [List.getElem?_map,List.getD_eq_getElem?_getD,List.getElem?_eq_getElem hm']; rfl)
  refine ⟨t,?_⟩
  rw [← h2]
  have:=(List.getElem?_eq_some_iff.mp h1).2
  simpa using this
def isI (i:Int):Value→Bool
  | .int a _=>a == i
  | _=>false
theorem zpx {ns:List Int} {its:List Value} (rv:Vals (ns.map V.int) its) (i:Int) (t:Tok):∀ y,y ∈ its.toArray→MeetsSeq.EqGives y (.int i t) (isI i y):=fun y hy=>by
  obtain ⟨m,hm,e⟩:=Array.getElem_of_mem hy
  obtain ⟨u,h⟩:=zn1 rv hm
  rw [← e,h]
  exact MeetsSeq.EqGives.int _ _ _ _
theorem zoe {ns:List Int} {its:List Value} (rv:Vals (ns.map V.int) its) (i:Int) {m:Nat} (hm:m < its.toArray.size):isI i its.toArray[m]=(ns.getD m 0 == i):=by
  obtain ⟨u,h⟩:=zn1 rv hm
  rw [h]; rfl
theorem zqd {ns:List Int} {i:Int} (h:ns.idxOf i < ns.length):ns.getD (ns.idxOf i) 0=i:=by
  rw [List.getD_eq_getElem?_getD,List.getElem?_eq_getElem h]
  exact List.getElem_idxOf h
theorem zpM {ns:List Int} {i:Int} {m:Nat} (h:m < ns.idxOf i) (hl:m < ns.length):ns.getD m 0 ≠ i:=fun e=>by
  rw [List.getD_eq_getElem?_getD,List.getElem?_eq_getElem hl] at e
  induction ns generalizing m with
  | nil=>simp at hl
  | cons a l ih =>
    rw [List.idxOf_cons] at h
    by_cases z:a=i
    · simp [z] at h
    · have z':(a == i)=false:=by simpa using z
      rw [z',cond_false] at h
      cases m with
      | zero=>exact z e
      | succ m=>exact ih (m:=m) (by omega) (by simpa using hl) (by simpa using e)
def zju:V→List V→Hp→VK→Prop:=fun x vs H Q=>∃ (p:Addr) (ns:List Int) (i:Int),x = .ref p∧vs = [.int i]∧H p=some (.lst (ns.map V.int))∧ns.idxOf i < ns.length∧Q .non (upd H p (.lst ((ns.eraseIdx (ns.idxOf i)).map V.int)))
theorem zkO:MtM X "list.remove" zju:=by
  intro pins s σ H x vs v us Q I rx rv h
  obtain ⟨p,ns,i,rfl,rfl,hH,hi,q⟩:=h
  cases rx
  obtain ⟨u,rfl,t,rfl⟩:=rv.one
  obtain ⟨z,its,n,rs,hl,e⟩:=I.lstM hH
  have len:=hl
  rw [List.length_map] at len
  have hj:ns.idxOf i < its.toArray.size:=by rw [List.size_toArray,← len]; exact hi
  refine call_meets F.slot_list_remove ⟨_,e,rfl⟩ F.entry_list_remove (F.args_list_remove_2 _ _) (MeetsSeq.list_remove p its.toArray n (.int i t) (isI i) (zpx rs i t) (ns.idxOf i) hj ?_ (fun m hm hlt=>?_) (by rw [List.size_toArray,← hl]; exact z)) ⟨e,?_⟩
  · rw [zoe rs i hj,zqd hi]; simp
  · rw [zoe rs i hm]
    simpa using zpM hlt (by rw [len]; simpa using hm)
  · refine ⟨.non,_,I.lset (ys:=(ns.eraseIdx (ns.idxOf i)).map V.int) (its':=its.eraseIdx (ns.idxOf i)) hH e ?_ ?_ ?_,rfl,q⟩
    · rw [List.eraseIdxIfInBounds_toArray]
    · have:=rs.eraseIdx (ns.idxOf i)
      have em:∀ (l:List Int) (k:Nat),(l.map V.int).eraseIdx k=(l.eraseIdx k).map V.int:=fun l=>by
        induction l with
        | nil=>intro k; rfl
        | cons a l ih =>
          intro k
          cases k with
          | zero=>rfl
          | succ k=>simp only [List.map_cons,List.eraseIdx_cons_succ,ih k]
      rw [em] at this
      exact this
    · rw [List.length_map] at z ⊢
      have:=List.length_eraseIdx_le ns (ns.idxOf i)
      omega
end
end L2
namespace PM
open PySem L2
section
variable {K:Kx} {XO:XOT} {E:L2.St→XK} {tl te:TE} {ml me:En→R D}
def zft (i:Nat) (me:En→R D) (δ:En):O:=match δ[i]? with
  | some (.o (.lst l))=>(me δ).toO δ fun k=>match k with
    | .int k=>(match asIs l with | some ns=>if ns.idxOf k < ns.length then .nx (δ.set i (.o (.lst ((ns.eraseIdx (ns.idxOf k)).map .int)))) else .no | none=>.no)
    | _=>.no
  | _=>.no
theorem zl4 {i:Nat} (h:SE K XO E te me):SS K XO E (zmy (tBM K.f "list" zju (tVar i) (zbx te tNil))) (zft i me):=by
  intro Λ F0 H0 F H σ δ Dn I a
  unfold zft at a
  split at a
  · rename_i l q
    obtain ⟨p,s1,vs,s2,s3⟩:=I.own q
    refine ⟨_,s1,.inl ⟨rfl,vs,.inl (.inl s2)⟩,?_⟩
    refine h Λ F0 H0 F H σ δ _ I ((AftS.of I a).imp fun d F1 H1 e c v r=>?_)
    split at c
    · rename_i k
      simp only [Rep] at r
      subst r
      cases z:asIs l with
      | none=>simp only [z] at c; exact c.elim
      | some ns =>
        simp only [z] at c
        split at c
        · rename_i hk
          have el:=zb8 z
          subst el
          have ex:=zbF s3
          subst ex
          refine ⟨p,ns,k,rfl,rfl,e.hh _ _ s2,hk,?_⟩
          exact c σ F1 _ ((I.grow e).chg q s1 ⟨_,zal,zi1 _⟩)
        · exact c.elim
    · exact c.elim
  · exact a.elim
end
end PM
namespace L2
open PySem PySem.Spec PyProof.Rows
open Sem (wp)
section
variable {P:Program} {w:World} {B:Around} {Er:Value→Shared→Prop} {hp:Heap} {gs:Array GenState} {dr:Drawn} {tk:Nat} {os:OsState}
variable {nm q:Str} {C N:Addr} {bs bm bmB:List Value} {hdct:Bool} {sn:List Str} {sub:List Value} {ab:Bool} {col:Option Bool} {dd:Option Addr} {k0 k1 k2 k3 k5:Option Value} {B0 Bn newId nid initId inN:String} {bmN:List Value}
end
end L2
namespace L2
open PySem PySem.Spec PyProof.Rows
section
variable {P:Program} {w:World} {B:Around} {Er:Value→Shared→Prop} {s:Shared}
end
end L2
namespace L2
open PySem PySem.Spec PyProof.Rows
section
variable {X:Cx}
end
end L2
namespace PM
open PySem L2
section
variable {K:Kx} {XO:XOT} {E:L2.St→XK}
end
end PM
namespace L2
open PySem PySem.Spec PyProof.Rows
section
variable {X:Cx}
end
end L2
namespace PM
open PySem L2
section
variable {K:Kx} {XO:XOT} {E:L2.St→XK}
end
end PM
namespace L2
open PySem PySem.Spec PyProof.Rows
section
variable {X:Cx}
end
end L2
namespace PM
open PySem L2
section
variable {K:Kx} {XO:XOT} {E:L2.St→XK} {tk te:TE} {mk me:En→R D}
end
end PM
namespace PM
open PySem L2
section
variable {K:Kx} {XO:XOT} {E:St→XK} {ta tb te:TE} {ma mb me:En→R D} {t u:TS} {m n:En→O} {Λ:List (Nat × Addr × HO)} {F0 H0 F H F' H' F1 H1:Hp} {σ:St} {δ:En} {Dn:Ends}
def tabD (ll:List (List Int)):D:=.lst (ll.map iL)
structure TabO (H:Hp) (a:Addr) (bs:List Addr) (ll:List (List Int)):Prop where
  top:H a=some (.lst (bs.map .ref))
  len:bs.length=ll.length
  row:∀ (i:Nat) (b:Addr) (l:List Int),bs[i]?=some b→ll[i]?=some l→H b=some (.lst (l.map .int))
  nd:(a :: bs).Nodup
theorem TabO.mono {a:Addr} {bs:List Addr} {ll:List (List Int)} (e:Same H H') (t:TabO H a bs ll):TabO H' a bs ll:=⟨e _ _ t.top,t.len,fun i b l h1 h2=>e _ _ (t.row i b l h1 h2),t.nd⟩
theorem TabO.obj {a:Addr} {bs:List Addr} {ll:List (List Int)} (t:TabO H a bs ll):∀ b ∈ a :: bs,∃ o,H b=some o:=fun b hb=>by
  rcases List.mem_cons.mp hb with rfl | hb
  · exact ⟨_,t.top⟩
  · obtain ⟨i,hi,e⟩:=List.getElem_of_mem hb
    have hl:i < ll.length:=by rw [← t.len]; exact hi
    exact ⟨_,t.row i b ll[i] (by rw [List.getElem?_eq_getElem hi,e]) (List.getElem?_eq_getElem hl)⟩
def rowT (l:List Int):Tr:=.l (l.map fun i=>.d (.int i))
def tabT (ll:List (List Int)):Tr:=.l (ll.map rowT)
theorem ints_iff:∀ {l:List Int} {vs:List V} {fp:List Addr},TrOkL K F H (l.map fun i=>.d (.int i)) vs fp ↔ vs=l.map .int∧fp = []
  | [],vs,fp=>by simp only [List.map_nil,TrOkL]
  | i :: l,vs,fp=>by
    simp only [List.map_cons,TrOkL,TrOk,Rep]
    constructor
    · rintro ⟨v,r,f1,f2,rfl,rfl,⟨rfl,rfl⟩,h⟩
      obtain ⟨rfl,rfl⟩:=ints_iff.mp h
      exact ⟨rfl,rfl⟩
    · rintro ⟨rfl,rfl⟩
      exact ⟨_,_,[],[],rfl,rfl,⟨rfl,rfl⟩,ints_iff.mpr ⟨rfl,rfl⟩⟩
theorem row_iff {l:List Int} {v:V} {fp:List Addr}:TrOk K F H (rowT l) v fp ↔ ∃ b,v = .ref b∧fp = [b]∧H b=some (.lst (l.map .int)):=by
  unfold rowT
  simp only [TrOk]
  constructor
  · rintro ⟨a,vs,fs,rfl,rfl,h1,h2⟩
    obtain ⟨rfl,rfl⟩:=ints_iff.mp h2
    exact ⟨a,rfl,rfl,h1⟩
  · rintro ⟨b,rfl,rfl,h⟩
    exact ⟨b,_,[],rfl,rfl,h,ints_iff.mpr ⟨rfl,rfl⟩⟩
theorem rows_iff:∀ {ll:List (List Int)} {vs:List V} {bs:List Addr},TrOkL K F H (ll.map rowT) vs bs ↔ vs=bs.map .ref∧bs.length=ll.length∧∀ (i:Nat) (b:Addr) (l:List Int),bs[i]?=some b→ll[i]?=some l→H b=some (.lst (l.map .int))
  | [],vs,bs=>by
    simp only [List.map_nil,TrOkL]
    constructor
    · rintro ⟨rfl,rfl⟩; exact ⟨rfl,rfl,fun i b l h=>by simp at h⟩
    · rintro ⟨rfl,h,_⟩
      cases bs with
      | nil=>exact ⟨rfl,rfl⟩
      | cons _ _=>simp at h
  | l :: ll,vs,bs=>by
    simp only [List.map_cons,TrOkL]
    constructor
    · rintro ⟨v,r,f1,f2,rfl,rfl,h1,h2⟩
      obtain ⟨b,rfl,rfl,h3⟩:=row_iff.mp h1
      obtain ⟨rfl,h4,h5⟩:=rows_iff.mp h2
      refine ⟨rfl,by simp [h4],fun i c r g1 g2=>?_⟩
      cases i with
      | zero=>simp at g1 g2; subst g1 g2; exact h3
      | succ i=>exact h5 i c r (by simpa using g1) (by simpa using g2)
    · rintro ⟨rfl,h,hr⟩
      cases bs with
      | nil=>simp at h
      | cons b bs=>exact ⟨_,_,[b],bs,rfl,rfl,row_iff.mpr ⟨b,rfl,rfl,hr 0 b l rfl rfl⟩,rows_iff.mpr ⟨rfl,by simpa using h,fun i c r g1 g2=>hr (i + 1) c r (by simpa using g1) (by simpa using g2)⟩⟩
theorem tab_iff {a:Addr} {bs:List Addr} {ll:List (List Int)}:Tab K F H a bs (tabT ll) ↔ TabO H a bs ll:=by
  constructor
  · intro t
    have:=t.ok
    unfold tabT at this
    simp only [TrOk] at this
    obtain ⟨a',vs,fs,h1,h2,h3,h4⟩:=this
    cases h1; cases h2
    obtain ⟨rfl,h5,h6⟩:=rows_iff.mp h4
    exact ⟨h3,h5,h6,t.nd⟩
  · intro t
    refine ⟨?_,t.nd⟩
    unfold tabT
    simp only [TrOk]
    exact ⟨a,_,bs,rfl,rfl,t.top,rows_iff.mpr ⟨rfl,t.len,t.row⟩⟩
def zmZ:Tr→Option Int
  | .d (.int i)=>some i
  | _=>none
def zfG {α:Type} (f:Tr→Option α):List Tr→Option (List α)
  | []=>some []
  | t :: ts=>(f t).bind fun x=>(zfG f ts).bind fun r=>some (x :: r)
def zo1:Tr→Option (List Int)
  | .l ts=>zfG zmZ ts
  | _=>none
def zm5:Tr→Option (List (List Int))
  | .l ts=>zfG zo1 ts
  | _=>none
theorem zeR {α:Type} {f:Tr→Option α} {g:α→Tr} (h:∀ t x,f t=some x→t=g x):∀ {ts:List Tr} {l:List α},zfG f ts=some l→ts=l.map g
  | [],l,e=>by cases e; rfl
  | t :: ts,l,e=>by
    unfold zfG at e
    cases q:f t with
    | none=>rw [q] at e; cases e
    | some x =>
      rw [q] at e
      cases q2:zfG f ts with
      | none=>simp only [Option.bind] at e; rw [q2] at e; cases e
      | some r =>
        simp only [Option.bind] at e
        rw [q2] at e
        cases e
        rw [h t x q,zeR h q2]; rfl
theorem zfm {α:Type} {f:Tr→Option α} {g:α→Tr} (h:∀ x,f (g x)=some x):∀ (l:List α),zfG f (l.map g)=some l
  | []=>rfl
  | x :: l=>by
    show (f (g x)).bind _=_
    rw [h x]
    show (zfG f (l.map g)).bind _=_
    rw [zfm h l]; rfl
theorem zkR {t:Tr} {i:Int} (h:zmZ t=some i):t = .d (.int i):=by
  unfold zmZ at h
  split at h
  · cases h; rfl
  · cases h
theorem zka {t:Tr} {l:List Int} (h:zo1 t=some l):t=rowT l:=by
  unfold zo1 at h
  split at h
  · rw [zeR (fun _ _=>zkR) h]; rfl
  · cases h
theorem zkE {t:Tr} {ll:List (List Int)} (h:zm5 t=some ll):t=tabT ll:=by
  unfold zm5 at h
  split at h
  · rw [zeR (fun _ _=>zka) h]; rfl
  · cases h
@[simp] theorem zkq (ll:List (List Int)):zm5 (tabT ll)=some ll:=zfm (fun l=>zfm (f:=zmZ) (fun _=>rfl) l) ll
theorem zhx:∀ (ts:List Tr),trDL ts=ts.map trD
  | []=>by simp only [trDL,List.map_nil]
  | t :: ts=>by simp only [trDL,List.map_cons,zhx ts]
@[simp] theorem zdF (ll:List (List Int)):trD (tabT ll)=tabD ll:=by
  unfold tabT tabD
  simp only [trD,zhx,List.map_map]
  congr 1
  apply List.map_congr_left
  intro l _
  show trD (rowT l)=iL l
  unfold rowT iL
  simp only [trD,zhx,List.map_map]
  rfl
def zkh:Sl→Sl
  | .o d=>.v d
  | .l d=>.v d
  | .p T=>.v (trD T)
  | s=>s
def peek (δ:En):En:=δ.map zkh
theorem zlG (I:EnvOk K Λ F0 H0 F H σ δ):EnvOk K [] (zca F H) H (zca F H) H σ (peek δ):=by
  have pk:∀ i:Nat,(peek δ)[i]?=(δ[i]?).map zkh:=fun i=>by unfold peek; rw [List.getElem?_map]
  have no:∀ i:Nat,Sl.own (peek δ)[i]?=false:=fun i=>by
    rw [pk]
    cases q:δ[i]? with
    | none=>rfl
    | some s=>cases s <;> rfl
  refine ⟨.refl (zi3 I.same),by rw [I.len]; simp [peek],fun i=>?_,fun i j a _ h1=>(by rw [no i] at h1; cases h1),fun x hx=>(by cases hx),fun i T h=>?_⟩
  · have z:=I.slot i
    rw [pk]
    cases q:δ[i]? with
    | none=>trivial
    | some s =>
      rw [q] at z
      cases s with
      | no=>trivial
      | v d=>obtain ⟨u,z1,z2⟩:=z; exact ⟨u,z1,Rep.mono zde d z2⟩
      | o d=>obtain ⟨a,z1,_,_,z4⟩:=z; exact ⟨_,z1,zhr I.same (.inr (.inl ⟨a,rfl,z4⟩))⟩
      | l d=>obtain ⟨a,z1,_,_,z4⟩:=z; exact ⟨_,z1,zhr I.same (.inr (.inl ⟨a,rfl,z4⟩))⟩
      | p T=>obtain ⟨a,bs,z1,z2,_⟩:=z; exact ⟨_,z1,zhG I.same T z2.ok⟩
  · have:=no i
    rw [h] at this; cases this
def zcc (m:En→R D) (δ:En):R D:=match m (peek δ) with | .ok d=>if zdn d=true then .ok d else .no | _=>.no
theorem zd0 (h:SE K XO E te me):SE K XO E te (zcc me):=by
  intro Λ F0 H0 F H σ δ Q I a
  refine h [] (zca F H) H (zca F H) H σ (peek δ) Q (zlG I) ?_
  unfold zcc at a
  cases q:me (peek δ) with
  | no=>rw [q] at a; exact a
  | ex x=>rw [q] at a; exact a.elim
  | ok d =>
    rw [q] at a
    dsimp only at a
    split at a
    · rename_i hc
      intro F2 H2 e2 v rv
      exact a _ H2 (zi9 e2) v (zji e2 d hc rv)
    · exact a.elim
def zgV (m:En→R D) (δ:En):R D:=match m (peek δ) with | .ok d=>if znX d=true then .ok d else .no | _=>.no
theorem zmN (h:SEo K XO E te me):SEo K XO E te (zgV me):=by
  intro Λ F0 H0 F H σ δ Q I a
  refine h [] (zca F H) H (zca F H) H σ (peek δ) Q (zlG I) ?_
  unfold zgV at a
  cases q:me (peek δ) with
  | no=>rw [q] at a; exact a
  | ex x=>rw [q] at a; exact a.elim
  | ok d =>
    rw [q] at a
    dsimp only at a
    split at a
    · rename_i hc
      intro F2 H2 e2 p h0 h1 o
      refine a _ H2 (zi9 e2) p ?_ h1 ?_
      · unfold minH
        split
        · rfl
        · exact h0
      · cases d with
        | lst l=>obtain ⟨ws,g1,g2⟩:=o; exact ⟨ws,g1,zfU e2 l hc g2⟩
        | dct ks l=>obtain ⟨ws,g1,g0,g2⟩:=o; exact ⟨ws,g1,g0,zfU e2 l hc g2⟩
        | obj c ks l=>cases hc
        | _=>exact o.elim
    · exact a.elim
variable (K XO E) in
def SEp (t:TE) (m:En→R (List (List Int))):Prop:=∀ Λ F0 H0 F H σ δ Q,EnvOk K Λ F0 H0 F H σ δ→Aft E XO σ F H (fun ll F' H'=>∀ a bs,TabO H' a bs ll→(∀ b ∈ a :: bs,F' b=none∧H b=none)→Q (.ref a) H') (m δ)→t σ H Q
def asIl:D→Option (List Int)
  | .lst l=>asIs l
  | _=>none
theorem zli {d:D} {l:List Int} (h:asIl d=some l):d=iL l:=by
  cases d with
  | lst x=>rw [zb8 h]; rfl
  | _=>cases h
def zhm (b:D→En→Option En) (me:En→R D) (δ:En) (d:D):R (List Int):=match b d δ with
  | none=>.no
  | some δ1=>(me δ1).nev.bind fun x=>R.of (asIl x)
def zcd (f:D→R (List Int)):List D→R (List (List Int))
  | []=>.ok []
  | d :: l=>(f d).bind fun o=>(zcd f l).bind fun r=>.ok (o :: r)
def zhZ (mi:En→R (List D)) (ix:List Nat) (n:Nat) (b:D→En→Option En) (me:En→R D) (δ:En):R (List (List Int)) :=
  (mi δ).bind fun ds=>ifC (ds.length ≤ sizeLine) (zcd (zhm b me (zaF δ ix n)) ds).nev .no
theorem ziB {f:D→R (List Int)} {d:D} {l:List D} {r:List (List Int)} (h:zcd f (d :: l) = .ok r):∃ o r',f d = .ok o∧zcd f l = .ok r'∧r=o :: r':=by
  unfold zcd at h
  cases q:f d with
  | no=>rw [q] at h; cases h
  | ex x=>rw [q] at h; cases h
  | ok o =>
    rw [q] at h
    cases q2:zcd f l with
    | no=>rw [R.bind_ok,q2] at h; cases h
    | ex x=>rw [R.bind_ok,q2] at h; cases h
    | ok r'=>rw [R.bind_ok,q2] at h; cases h; exact ⟨o,r',rfl,rfl,rfl⟩
theorem zjr {wi:TI} {mi:En→R (List D)} {ix:List Nat} {n:Nat} {g:TG} {b:D→En→Option En}
    (hi:SIc K XO E wi mi) (hix:ix.Nodup) (hg:SG K g b) (hw:BW b) (he:SEo K XO EN te me):SEp K XO E (zjk wi ix n g none te) (zhZ mi ix n b me):=by
  intro Λ F0 H0 F H σ δ Q I a
  refine hi Λ F0 H0 F H σ δ _ I (a.bind.imp fun ds F1 H1 e1 a1 J hJ p hp=>?_)
  unfold ifC at a1
  split at a1
  case isFalse=>exact a1.elim
  rename_i hsz
  have I1:=I.grow e1
  obtain ⟨Λc,Ic,hown,hall⟩:=zh6 (n:=n) I1 hix
  cases qg':(zcd (zhm b me (zaF δ ix n)) ds).nev with
  | no=>rw [qg'] at a1; exact a1.elim
  | ex x=>cases q2:zcd (zhm b me (zaF δ ix n)) ds <;> (rw [q2] at qg'; cases qg')
  | ok l =>
  rw [qg'] at a1
  have qg:=nev_ok qg'
  have hlent:∀ x ∈ Λc,∃ d,(zaF δ ix n)[x.1]?=some (.l d):=fun x hx=>(Ic.lent x hx).1
  have hpn:∀ x ∈ Λc,x.2.1 ≠ p:=fun x hx e=>by
    obtain ⟨o,ho⟩:=hall x hx
    rw [e,hp] at ho; cases ho
  have p0:H0 p=none:=I1.ext.hh.free hp
  have f1:F1 p=none:=e1.fh.free hp
  refine ⟨fun i k ys σ2 H2=>∃ F2 l1 l2 bs,EnvOk K Λc F0 H0 F2 H2 σ2 (zaF δ ix n)∧Ext F1 H1 F2 H2∧ys=bs.map .ref∧TabO H2 p bs l1∧(∀ c ∈ p :: bs,F2 c=none∧H1 c=none)∧zcd (zhm b me (zaF δ ix n)) (ds.drop i) = .ok l2∧l=l1 ++ l2∧k=ds.length - i∧i ≤ ds.length∧ys.length ≤ i,
    ⟨_,F1,[],l,[],?_,.newO e1.fh hp,rfl,⟨zal,rfl,fun i c r h=>by simp at h,by simp⟩,fun c hc=>?_,qg,rfl,rfl,Nat.zero_le _,Nat.le_refl _⟩,?_⟩
  · exact Ic.grow (.newO e1.fh hp)
  · rw [List.mem_singleton.mp hc]; exact ⟨f1,hp⟩
  rintro i k ys σ2 H2 ⟨F2,l1,l2,bs,I2,x2,rfl,tb,hfr,qd,rfl,rfl,hil,hys⟩
  refine ⟨tb.top,?_⟩
  by_cases hlt:i < ds.length
  · have e:ds.drop i=ds[i] :: ds.drop (i + 1):=List.drop_eq_getElem_cons hlt
    rw [e] at qd
    obtain ⟨row,l3,q1,q3,rfl⟩:=ziB qd
    obtain ⟨h1,h2⟩:=(hJ F2 H2 x2 i).1 ds[i] (by simp [hlt])
    refine .inr ⟨h1,fun ys' σ' H'=>∃ F' bs',EnvOk K Λc F0 H0 F' H' σ' (zaF δ ix n)∧Ext F1 H1 F' H'∧ys'=bs'.map .ref∧TabO H' p bs' (l1 ++ [row])∧(∀ c ∈ p :: bs',F' c=none∧H1 c=none)∧ys'.length ≤ i + 1,
      fun ys' σ' H' ⟨F',bs',w1,w2,w3,w4,w5,w6⟩=>⟨_,by omega,F',l1 ++ [row],l3,bs',w1,w2,w3,w4,w5,q3,by simp,rfl,hlt,w6⟩,fun x H' y=>?_⟩
    obtain ⟨F3,e3,rx⟩:=h2 x H' y
    unfold zhm at q1
    cases qb:b ds[i] (zaF δ ix n) with
    | none=>rw [qb] at q1; cases q1
    | some δ1 =>
      rw [qb] at q1
      dsimp only at q1
      have hwk:=hw _ _ _ qb
      refine hg Λc F0 H0 F3 H' σ2 _ _ x δ1 _ (I2.grow e3) rx qb fun σ3 I3=>?_
      unfold zjV
      simp only [if_true]
      cases qm:me δ1 with
      | no=>rw [qm] at q1; cases q1
      | ex x=>rw [qm] at q1; cases q1
      | ok d =>
        rw [qm] at q1
        simp only [R.nev_ok,R.bind_ok] at q1
        have ed:d=iL row:=by
          cases qa:asIl d with
          | none=>rw [qa] at q1; cases q1
          | some r=>rw [qa] at q1; cases q1; exact zli qa
        subst ed
        refine he Λc F0 H0 F3 H' σ3 δ1 _ I3 ?_
        rw [qm]
        intro F5 H5 e5 c c0 c1 co
        have z:=e3.trans e5
        obtain ⟨vs,cv,cr⟩:=co
        have ex:=zbF cr
        subst ex
        have tb5:=tb.mono z.hh
        have z2:F5 p=none:=z.nw p _ (hfr p (by simp)).1 tb.top
        have cH2:H2 c=none:=e3.hh.free c1
        have cne:∀ q ∈ p :: bs,q ≠ c:=fun q hq ee=>by
          obtain ⟨o,ho⟩:=tb.obj q hq
          rw [ee,cH2] at ho; cases ho
        refine ⟨tb5.top,?_,F5,bs ++ [c],((I3.grow e5).weakL hwk hlent).side hown hpn p0 z2,?_,by simp,⟨?_,by simp [tb.len],fun j q r g1 g2=>?_,?_⟩,fun q hq=>?_,by simpa using hys⟩
        · simp at hys ⊢; omega
        · have w:=x2.trans z
          exact ⟨w.ff,fun c o q=>by rw [zag (zaq q hp)]; exact w.hh c o q,fun c o q=>by rw [zag (zaq q z2)]; exact w.fh c o q,w.nw⟩
        · rw [zal]; simp
        · have qp:q ≠ p:=fun ee=>by
            have hm:=List.mem_of_getElem? g1
            rw [ee] at hm
            rcases List.mem_append.mp hm with w | w
            · exact (List.nodup_cons.mp tb.nd).1 w
            · exact cne p (by simp) (List.mem_singleton.mp w)
          rw [zag qp]
          by_cases hj:j < bs.length
          · rw [List.getElem?_append_left hj] at g1
            rw [List.getElem?_append_left (by rw [← tb.len]; exact hj)] at g2
            exact tb5.row j q r g1 g2
          · rw [List.getElem?_append_right (by omega)] at g1
            rw [List.getElem?_append_right (by rw [← tb.len]; omega),← tb.len] at g2
            have j0:j - bs.length=0:=by
              have:=(List.getElem?_eq_some_iff.mp g1).1
              simp at this; omega
            rw [j0] at g1 g2
            simp at g1 g2
            subst g1 g2
            exact cv
        · have nd:=tb.nd
          rw [← List.cons_append,List.nodup_append]
          exact ⟨nd,by simp,fun q hq r hr ee=>cne q hq (by rw [ee]; exact List.mem_singleton.mp hr)⟩
        · rw [← List.cons_append] at hq
          rcases List.mem_append.mp hq with w | w
          · obtain ⟨o,ho⟩:=tb.obj q w
            exact ⟨z.nw q o (hfr q w).1 ho,(hfr q w).2⟩
          · rw [List.mem_singleton.mp w]
            exact ⟨c0,x2.hh.free cH2⟩
  · have e:i=ds.length:=by omega
    subst e
    rw [List.drop_length] at qd
    cases qd
    refine .inl ⟨(hJ F2 H2 x2 _).2 (by simp),a1 F2 H2 x2 p bs (by rw [List.append_nil]; exact tb) fun c hc=>⟨(hfr c hc).1,e1.hh.free (hfr c hc).2⟩⟩
def ziT (i:Nat) (δ:En):Bool:=(List.range δ.length).all fun j=>j == i || match δ[j]? with | some (.p _)=>false | _=>true
theorem zm7 {i:Nat} (h:ziT i δ=true) (j:Nat) (T:Tr) (hj:δ[j]?=some (.p T)):j=i:=by
  have:=List.all_eq_true.mp h j (List.mem_range.mpr (List.getElem?_eq_some_iff.mp hj).1)
  rw [hj] at this
  simpa using this
theorem EnvOk.putP {i:Nat} {T:Tr} {a:Addr} {bs:List Addr} (I:EnvOk K Λ F0 H0 F H σ δ) (hl:∃ x,δ[i]?=some x∧∀ d,x ≠ .l d) (hn:∀ (j:Nat) (T':Tr),δ[j]?=some (.p T')→j=i) (e:Ext F H F' H') (t:Tab K F' H' a bs T) (h0:∀ b ∈ a :: bs,F' b=none∧H b=none) :
    EnvOk K Λ F0 H0 F' H' (σ.set i (some (.ref a))) (δ.set i (.p T)):=by
  obtain ⟨x,hx,hnl⟩:=hl
  have hi:i < δ.length:=(List.getElem?_eq_some_iff.mp hx).1
  have hi':i < σ.length:=by rw [I.len]; exact hi
  have fresh:∀ (k:Nat) (b:Addr),k ≠ i→Sl.own δ[k]?=true→σ[k]?=some (some (.ref b))→b ∉ a :: bs:=fun k b hki hk hs hb=>by
    have z:=I.slot k
    have hn':=(h0 b hb).2
    cases q:δ[k]? with
    | none=>rw [q] at hk; cases hk
    | some y =>
      rw [q] at hk z
      cases y with
      | no=>cases hk
      | v d=>cases hk
      | o d=>obtain ⟨c,z1,_,_,z4⟩:=z; rw [hs] at z1; cases z1; obtain ⟨u,hu⟩:=z4.obj; rw [hn'] at hu; cases hu
      | l d=>obtain ⟨c,z1,_,_,z4⟩:=z; rw [hs] at z1; cases z1; obtain ⟨u,hu⟩:=z4.obj; rw [hn'] at hu; cases hu
      | p l2=>exact hki (hn k l2 q)
  have J:=I.grow e
  have f3:∀ b ∈ a :: bs,H0 b=none∧F' b=none:=fun b hb=>⟨I.ext.hh.free (h0 b hb).2,(h0 b hb).1⟩
  refine ⟨J.ext,by simp [I.len],fun j=>?_,fun j k b hjk g1 g2 g3 g4=>?_,fun y hy=>?_,fun j l2 g1=>?_⟩
  · by_cases ee:i=j
    · subst ee
      rw [List.getElem?_set_self hi,List.getElem?_set_self hi']
      exact ⟨a,bs,rfl,t,f3⟩
    · rw [List.getElem?_set_ne ee,List.getElem?_set_ne ee]
      exact J.slot j
  · by_cases e1:i=j
    · subst e1
      rw [List.getElem?_set_self hi'] at g3; cases g3
      rw [List.getElem?_set_ne hjk] at g2 g4
      exact fresh k a (Ne.symm hjk) g2 g4 (by simp)
    · by_cases e2:i=k
      · subst e2
        rw [List.getElem?_set_self hi'] at g4; cases g4
        rw [List.getElem?_set_ne e1] at g1 g3
        exact fresh j a (Ne.symm e1) g1 g3 (by simp)
      · rw [List.getElem?_set_ne e1] at g1 g3
        rw [List.getElem?_set_ne e2] at g2 g4
        exact I.dist j k b hjk g1 g2 g3 g4
  · obtain ⟨⟨d',g1⟩,g2,g3⟩:=J.lent y hy
    have ne:i ≠ y.1:=by
      intro ee
      rw [← ee,hx] at g1
      exact hnl d' (Option.some.inj g1)
    exact ⟨⟨d',by rw [List.getElem?_set_ne ne]; exact g1⟩,by rw [List.getElem?_set_ne ne]; exact g2,g3⟩
  · have ji:j=i:=by
      by_cases ee:i=j
      · exact ee.symm
      · rw [List.getElem?_set_ne ee] at g1; exact hn j l2 g1
    subst ji
    rw [List.getElem?_set_self hi] at g1; cases g1
    refine ⟨a,bs,List.getElem?_set_self hi',t,f3,fun k b hk ho hs hb=>?_,fun k l3 hk=>?_⟩
    · rw [List.getElem?_set_ne (Ne.symm hk)] at ho hs
      exact fresh k b hk ho hs hb
    · by_cases ee:j=k
      · exact ee.symm
      · rw [List.getElem?_set_ne ee] at hk; exact hn k l3 hk
def zi6 (me:En→R (List (List Int))) (i:Nat) (δ:En):O:=(me δ).toO δ fun ll=>match δ[i]? with
  | none=>.no
  | some (.l _)=>.no
  | some _=>if ziT i δ=true then .nx (δ.set i (.p (tabT ll))) else .no
theorem zld {i:Nat} {mp:En→R (List (List Int))} (h:SEp K XO E te mp):SS K XO E (tAsg te (zfu i)) (zi6 mp i):=by
  intro Λ F0 H0 F H σ δ Dn I a
  refine h Λ F0 H0 F H σ δ _ I ((AftS.of I a).imp fun ll F1 H1 e c p bs t h0=>?_)
  cases q:δ[i]? with
  | none=>simp only [q] at c; exact c.elim
  | some x =>
    simp only [q] at c
    cases x with
    | l d=>exact c.elim
    | no | v d | o d | p l2 =>
      dsimp only at c
      split at c
      · rename_i hn
        exact c _ F1 H1 (I.putP ⟨_,q,fun d z=>by cases z⟩ (zm7 hn) e (tab_iff.mpr t) h0)
      · exact c.elim
structure TabAt (K:Kx) (H0 F H:Hp) (σ:St) (δ:En) (i:Nat) (a:Addr) (bs:List Addr) (T:Tr):Prop where
  is:δ[i]?=some (.p T)
  at':σ[i]?=some (some (.ref a))
  tab:Tab K F H a bs T
  free:∀ b ∈ a :: bs,H0 b=none∧F b=none
  dist:∀ (j:Nat) (b:Addr),j ≠ i→Sl.own δ[j]?=true→σ[j]?=some (some (.ref b))→b ∉ a :: bs
  one:∀ (j:Nat) (T':Tr),δ[j]?=some (.p T')→j=i
theorem EnvOk.tabAt (I:EnvOk K Λ F0 H0 F H σ δ) {i:Nat} {T:Tr} (hx:δ[i]?=some (.p T)):∃ a bs,TabAt K H0 F H σ δ i a bs T:=by
  obtain ⟨a,bs,s1,s2,s3,s4,s5⟩:=I.tab hx
  exact ⟨a,bs,hx,s1,s2,s3,s4,s5⟩
theorem TabAt.grow {i:Nat} {a:Addr} {bs:List Addr} {T:Tr} (t:TabAt K H0 F H σ δ i a bs T) (e:Ext F H F' H'):TabAt K H0 F' H' σ δ i a bs T :=
  ⟨t.is,t.at',t.tab.mono e.ff e.hh,fun b hb=>let ⟨o,ho⟩:=t.tab.obj b hb; ⟨(t.free b hb).1,e.nw b o (t.free b hb).2 ho⟩,t.dist,t.one⟩
theorem EnvOk.chgT {i:Nat} {T T':Tr} {a b:Addr} {bs bs':List Addr} {u:HO} (I:EnvOk K Λ F0 H0 F H σ δ) (t:TabAt K H0 F H σ δ i a bs T) (hb:b ∈ a :: bs) (t':Tab K F (upd H b u) a bs' T') (sub:∀ c ∈ bs',c ∈ bs) :
    EnvOk K Λ F0 H0 F (upd H b u) σ (δ.set i (.p T')):=by
  have hx:=t.is
  have hi:i < δ.length:=(List.getElem?_eq_some_iff.mp hx).1
  have fb:=t.free b hb
  have sub':∀ c ∈ a :: bs',c ∈ a :: bs:=fun c hc=>by
    rcases List.mem_cons.mp hc with rfl | hc
    · simp
    · exact List.mem_cons_of_mem _ (sub c hc)
  have oth:∀ (j:Nat) (c:Addr),i ≠ j→Sl.own δ[j]?=true→σ[j]?=some (some (.ref c))→c ≠ b:=fun j c hj ho hs ee=>t.dist j c (Ne.symm hj) ho hs (by rw [ee]; exact hb)
  have ow:∀ k2:Nat,Sl.own (δ.set i (.p T'))[k2]?=true→Sl.own δ[k2]?=true:=by
    intro k2 h
    by_cases ee:i=k2
    · subst ee; rw [hx]; rfl
    · rw [List.getElem?_set_ne ee] at h; exact h
  refine ⟨⟨I.ext.ff,fun c w q=>?_,fun c w q=>?_,I.ext.nw⟩,by simp [I.len],fun j=>?_,fun j k2 c hjk g1 g2 g3 g4=>?_,fun y hy=>?_,fun j l2 g1=>?_⟩
  · rw [zag (zaq q fb.1)]; exact I.ext.hh c w q
  · rw [zag (zaq q fb.2)]; exact I.ext.fh c w q
  · by_cases ee:i=j
    · subst ee
      rw [List.getElem?_set_self hi]
      exact ⟨a,bs',t.at',t',fun c hc=>t.free c (sub' c hc)⟩
    · rw [List.getElem?_set_ne ee]
      have w:=I.slot j
      cases q:δ[j]? with
      | none=>trivial
      | some y =>
        rw [q] at w
        cases y with
        | no=>trivial
        | v d=>exact w
        | o d=>obtain ⟨c,w1,w2,w3,w4⟩:=w; exact ⟨c,w1,w2,w3,w4.at (zag (oth j c ee (by rw [q]; rfl) w1))⟩
        | l d=>obtain ⟨c,w1,w2,w3,w4⟩:=w; exact ⟨c,w1,w2,w3,w4.at (zag (oth j c ee (by rw [q]; rfl) w1))⟩
        | p l2=>exact absurd (t.one j l2 q).symm ee
  · exact I.dist j k2 c hjk (ow j g1) (ow k2 g2) g3 g4
  · obtain ⟨⟨d2,g1⟩,g2,g3⟩:=I.lent y hy
    have ne:i ≠ y.1:=by
      intro ee
      rw [← ee,hx] at g1
      cases g1
    exact ⟨⟨d2,by rw [List.getElem?_set_ne ne]; exact g1⟩,g2,by rw [zag (oth y.1 y.2.1 ne (by rw [g1]; rfl) g2)]; exact g3⟩
  · have ji:j=i:=by
      by_cases ee:i=j
      · exact ee.symm
      · rw [List.getElem?_set_ne ee] at g1; exact t.one j l2 g1
    subst ji
    rw [List.getElem?_set_self hi] at g1; cases g1
    refine ⟨a,bs',t.at',t',fun c hc=>t.free c (sub' c hc),fun k2 c hk ho hs hc=>?_,fun k2 l3 hk=>?_⟩
    · exact t.dist k2 c hk (ow k2 ho) hs (sub' c hc)
    · by_cases ee:j=k2
      · exact ee.symm
      · rw [List.getElem?_set_ne ee] at hk; exact t.one k2 l3 hk
theorem EnvOk.chgP {i k:Nat} {ll:List (List Int)} {row:List Int} {a b:Addr} {bs:List Addr} (I:EnvOk K Λ F0 H0 F H σ δ) (t:TabAt K H0 F H σ δ i a bs (tabT ll)) (hb:bs[k]?=some b) :
    EnvOk K Λ F0 H0 F (upd H b (.lst (row.map .int))) σ (δ.set i (.p (tabT (ll.set k row)))):=by
  have tb:=tab_iff.mp t.tab
  have bm:b ∈ bs:=List.mem_of_getElem? hb
  have kl:k < bs.length:=(List.getElem?_eq_some_iff.mp hb).1
  have nd:=List.nodup_cons.mp tb.nd
  refine I.chgT t (List.mem_cons_of_mem _ bm) (tab_iff.mpr ⟨?_,by simp [tb.len],fun j c r h1 h2=>?_,tb.nd⟩) fun c hc=>hc
  · rw [zag (show a ≠ b from fun z=>nd.1 (z ▸ bm))]; exact tb.top
  · by_cases ej:k=j
    · subst ej
      rw [hb] at h1; cases h1
      rw [List.getElem?_set_self (by rw [← tb.len]; exact kl)] at h2; cases h2
      exact zal
    · rw [List.getElem?_set_ne ej] at h2
      rw [zag (fun z=>ej ((List.getElem?_inj kl nd.2).mp (by rw [hb,h1,z])))]
      exact tb.row j c r h1 h2
def tabOf:Option Sl→Option (List (List Int))
  | some (.p T)=>zm5 T
  | _=>none
theorem zg0 {x:Option Sl} {ll:List (List Int)} (h:tabOf x=some ll):x=some (.p (tabT ll)):=by
  unfold tabOf at h
  split at h
  · rw [zkE h]
  · cases h
@[simp] theorem zq3 (ll:List (List Int)):tabOf (some (.p (tabT ll)))=some ll:=zkq ll
def zdC (i:Nat) (mk mj me:En→R D) (δ:En):O:=match tabOf δ[i]? with
  | some ll=>(me δ).toO δ fun v=>(mk δ).toO δ fun k=>match v,k with
    | .int v,.int k=>(match ixN ll.length k with
      | some k'=>(match ll[k']? with
        | some row=>(mj δ).toO δ fun j=>(match j with
          | .int j=>(match ixN row.length j with | some j'=>.nx (δ.set i (.p (tabT (ll.set k' (row.set j' v))))) | none=>.no)
          | _=>.no)
        | none=>.no)
      | none=>.no)
    | _,_=>.no
  | none=>.no
theorem zeL {i:Nat} {tk tj:TE} {mk mj:En→R D} (h1:SE K XO E tk mk) (h2:SE K XO E tj mj) (h:SE K XO E te me):SS K XO E (tAsg te (gSub (tOp (rIxL K.f) (tVar i) tk) tj zqg)) (zdC i mk mj me):=by
  intro Λ F0 H0 F H σ δ Dn I a
  unfold zdC at a
  split at a
  · rename_i ll q'
    have q:=zg0 q'
    obtain ⟨p,bs,ta⟩:=I.tabAt q
    have s1:=ta.at'
    have s2:=tab_iff.mp ta.tab
    refine h Λ F0 H0 F H σ δ _ I ((AftS.of I a).imp fun v F1 H1 e c x rx=>⟨_,s1,?_⟩)
    refine h1 Λ F0 H0 F1 H1 σ δ _ (I.grow e) ((AftS.of (I.grow e) c).imp fun k F2 H2 e2 c2 y ry=>?_)
    have I2:=(I.grow e).grow e2
    have tt:=(s2.mono e.hh).mono e2.hh
    split at c2
    · rename_i v k
      simp only [Rep] at ry rx
      subst ry rx
      cases z:ixN ll.length k with
      | none=>rw [z] at c2; exact c2.elim
      | some k' =>
        rw [z] at c2
        dsimp only at c2
        cases z2:ll[k']? with
        | none=>rw [z2] at c2; exact c2.elim
        | some row =>
          rw [z2] at c2
          dsimp only at c2
          have kl:k' < bs.length:=by rw [s2.len]; exact (List.getElem?_eq_some_iff.mp z2).1
          have gb:bs[k']?=some bs[k']:=List.getElem?_eq_getElem kl
          refine ⟨p,bs.map .ref,k,.ref bs[k'],rfl,rfl,.inl (.inl tt.top),?_,?_⟩
          · unfold atI
            rw [List.length_map,s2.len,z]
            show (bs.map V.ref)[k']?=_
            rw [List.getElem?_map,gb]; rfl
          · refine h2 Λ F0 H0 F2 H2 σ δ _ I2 ((AftS.of I2 c2).imp fun j F3 H3 e3 c3 u ru=>?_)
            have I3:=I2.grow e3
            have t3:=tt.mono e3.hh
            split at c3
            · rename_i j
              simp only [Rep] at ru
              subst ru
              cases z3:ixN row.length j with
              | none=>rw [z3] at c3; exact c3.elim
              | some j' =>
                rw [z3] at c3
                dsimp only at c3
                refine ⟨bs[k'],row.map .int,j,j',rfl,rfl,t3.row k' _ row gb z2,by rw [List.length_map]; exact z3,?_⟩
                rw [← List.map_set]
                exact c3 σ F3 _ (I3.chgP (((ta.grow e).grow e2).grow e3) gb)
            · exact c3.elim
    · exact c2.elim
  · exact a.elim
def znl (i:Nat) (δ:En):O:=match δ[i]? with | some (.p T)=>.ro (trD T) | _=>.no
open Classical in
def zdU (F H:Hp) (bs:List Addr):Hp:=fun b=>if b ∈ bs then H b else F b
mutual
theorem zmo {F1:Hp} (s:Same F F1):∀ (T:Tr) {v:V} {fp:List Addr},TrOk K F H T v fp→(∀ b ∈ fp,F1 b=H b)→Rep K F1 (trD T) v
  | .d x,v,fp,h,_=>by
    simp only [TrOk] at h
    simp only [trD]
    exact Rep.mono s x h.2
  | .l ts,v,fp,h,e=>by
    simp only [TrOk] at h
    obtain ⟨a,vs,fs,rfl,h2,h3,h4⟩:=h
    subst h2
    simp only [trD,Rep]
    exact ⟨a,vs,rfl,.inl ((e a (by simp)).trans h3),zfV s ts h4 fun b hb=>e b (List.mem_cons_of_mem _ hb)⟩
  | .t ts,v,fp,h,e=>by
    simp only [TrOk] at h
    obtain ⟨a,vs,rfl,h3,h4⟩:=h
    simp only [trD,Rep]
    exact ⟨a,vs,rfl,s _ _ h3,zfV s ts h4 e⟩
theorem zfV {F1:Hp} (s:Same F F1):∀ (ts:List Tr) {vs:List V} {fp:List Addr},TrOkL K F H ts vs fp→(∀ b ∈ fp,F1 b=H b)→RepL K F1 (trDL ts) vs
  | [],vs,fp,h,_=>by
    simp only [TrOkL] at h
    rw [h.1]
    simp only [trDL]
    exact .nil
  | t :: ts,vs,fp,h,e=>by
    simp only [TrOkL] at h
    obtain ⟨v,r,f1,f2,rfl,h2,h3,h4⟩:=h
    subst h2
    simp only [trDL]
    exact .cons (zmo s t h3 fun b hb=>e b (List.mem_append_left _ hb)) (zfV s ts h4 fun b hb=>e b (List.mem_append_right _ hb))
end
theorem zmx {i:Nat}:SS K XO E (tRet (tVar i)) (znl i):=by
  intro Λ F0 H0 F H σ δ Dn I a
  unfold znl at a
  split at a
  · rename_i T q
    obtain ⟨p,bs,s1,s2,s3,_⟩:=I.tab q
    have nd:=List.nodup_cons.mp s2.nd
    have ff:Same F (zdU F H bs):=fun b o h=>by
      unfold zdU
      rw [if_neg fun z=>by rw [(s3 b (List.mem_cons_of_mem _ z)).2] at h; cases h]
      exact h
    have fh:Same (zdU F H bs) H:=fun b o h=>by
      unfold zdU at h
      split at h
      · exact h
      · exact I.same b o h
    have fp:zdU F H bs p=none:=by
      unfold zdU
      rw [if_neg nd.1]
      exact (s3 p (by simp)).2
    refine ⟨_,s1,a p (zdU F H bs) H ⟨I.ext.ff.trans ff,I.ext.hh,fh,fun b o h1 h2=>?_⟩ fp (s3 p (by simp)).1 ?_⟩
    · unfold zdU
      rw [if_neg fun z=>by rw [(s3 b (List.mem_cons_of_mem _ z)).1] at h2; cases h2]
      exact I.ext.nw b o h1 h2
    · have ok:=s2.ok
      have hb:∀ b ∈ bs,zdU F H bs b=H b:=fun b hb=>by unfold zdU; rw [if_pos hb]
      cases T with
      | d x=>simp only [TrOk] at ok; cases ok.1
      | t ts =>
        simp only [TrOk] at ok
        obtain ⟨a',vs,h1,h2,_⟩:=ok
        cases h1
        rw [(s3 p (by simp)).2] at h2; cases h2
      | l ts =>
        simp only [TrOk] at ok
        obtain ⟨a',vs,fs,h1,h2,h3,h4⟩:=ok
        cases h1; cases h2
        simp only [trD]
        exact ⟨vs,h3,zfV ff ts h4 hb⟩
  · exact a.elim
open Classical in
def zfe (H:Hp) (bs:List Addr):Hp:=fun b=>if b ∈ bs then none else H b
theorem zkZ {H:Hp} {bs:List Addr}:Same (zfe H bs) H:=fun b o h=>by
  unfold zfe at h
  split at h
  · cases h
  · exact h
def spT (K:Kx) (XO:XOT) (f:List (List Int)→R D):Sp:=fun vs H Q E=>∃ F ll a bs,vs = [.ref a]∧TabO H a bs ll∧Same F (zfe H (a :: bs))∧Aft (fun _=>E) XO [] F (zfe H (a :: bs)) (fun d F' H'=>∀ p,F' p=none→zfe H (a :: bs) p=none→Own K F' H' d p→Q (.ref p) H') (f ll)
def runT (nv:Nat) (m:En→O) (ll:List (List Int)):R D:=match m (.p (tabT ll) :: List.replicate nv .no) with | .ro d=>.ok d | .ex _ x=>.ex x | _=>.no
theorem zpd {f:List (List Int)→R D} {vs:List V} {Q:VK} {E:XK} (sp:spT K XO f vs H Q E):vs.length=1:=by
  obtain ⟨_,_,_,_,rfl,_⟩:=sp; rfl
theorem zp3 {nv:Nat} {N:List Str} {vs:List V} {Q:VK} {E:XK} (h:SS K XO (fun _=>E) t m) (hn:N.length=1 + nv) (sp:spT K XO (runT nv m) vs H Q E):t { nx:=fun _ H'=>Q .non H',rt:=Q } (L2.start N vs) H:=by
  obtain ⟨F,ll,a,bs,rfl,tb,s,aft⟩:=sp
  have fN:∀ b ∈ a :: bs,zfe H (a :: bs) b=none∧F b=none:=fun b hb=>by
    have:zfe H (a :: bs) b=none:=by unfold zfe; rw [if_pos hb]
    exact ⟨this,s.free this⟩
  have I:EnvOk K [] F (zfe H (a :: bs)) F H (L2.start N [.ref a]) (.p (tabT ll) :: List.replicate nv .no):=by
    unfold L2.start
    have en:N.length - [V.ref a].length=nv:=by simp; omega
    rw [en]
    have no:∀ j:Nat,j ≠ 0→Sl.own (Sl.p (tabT ll) :: List.replicate nv Sl.no)[j]?=true→False:=fun j hj h=>by
      cases j with
      | zero=>exact hj rfl
      | succ j =>
        rw [List.getElem?_cons_succ,List.getElem?_replicate] at h
        split at h <;> cases h
    have noP:∀ (j:Nat) (l2:Tr),(Sl.p (tabT ll) :: List.replicate nv Sl.no)[j]?=some (.p l2)→j=0:=fun j l2 h=>by
      by_cases hj:j=0
      · exact hj
      · exact (no j hj (by rw [h]; rfl)).elim
    refine ⟨⟨.refl _,zkZ,s.trans zkZ,fun p o h1 _=>h1⟩,by simp,fun j=>?_,fun i j c hij h1 h2 _ _=>?_,fun x hx=>(by cases hx),fun j l2 g1=>?_⟩
    · cases j with
      | zero=>exact ⟨a,bs,rfl,tab_iff.mpr tb,fN⟩
      | succ j =>
        rw [List.getElem?_cons_succ,List.getElem?_replicate]
        split <;> trivial
    · by_cases hi:i=0
      · subst hi; exact no j (Ne.symm hij) h2
      · exact no i hi h1
    · have j0:=noP j l2 g1
      subst j0
      cases g1
      exact ⟨a,bs,rfl,tab_iff.mpr tb,fN,fun k b hk ho _ _=>no k hk ho,fun k l3 hk=>noP k l3 hk⟩
  unfold runT at aft
  refine h [] F (zfe H (a :: bs)) F H _ _ _ I ?_
  cases q:m (.p (tabT ll) :: List.replicate nv .no) with
  | ro d=>rw [q] at aft; exact fun p F2 H2 e h0 h1 o=>aft F2 H2 e p h0 h1 o
  | ex δ x=>rw [q] at aft; exact fun σ2 F2 H2 C dct I2 hx=>aft C dct F2 H2 I2.ext hx
  | no=>rw [q] at aft; exact aft.elim
  | nx δ=>rw [q] at aft; exact aft.elim
  | rt d=>rw [q] at aft; exact aft.elim
  | bk δ=>rw [q] at aft; exact aft.elim
  | ct δ=>rw [q] at aft; exact aft.elim
def zig (f:List (List Int)→R D) (i:Nat) (δ:En):O:=match tabOf δ[i]? with
  | some ll=>(match f ll with | .ok d=>.ro d | _=>.no)
  | none=>.no
theorem zmT {i:Nat} {f:List (List Int)→R D} {E':XK}:SS K XO E (tRet (zkm (spT K XO f) [] E' (zbx (tVar i) tNil))) (zig f i):=by
  intro Λ F0 H0 F H σ δ Dn I a
  unfold zig at a
  split at a
  · rename_i ll q'
    have q:=zg0 q'
    obtain ⟨p,bs,s1,s2',s3,_⟩:=I.tab q
    have s2:=tab_iff.mp s2'
    have sF:Same F (zfe H (p :: bs)):=fun b o h=>by
      unfold zfe
      rw [if_neg fun z=>by rw [(s3 b z).2] at h; cases h]
      exact I.same b o h
    refine ⟨_,s1,F,ll,p,bs,rfl,s2,sF,?_⟩
    cases q2:f ll with
    | no=>rw [q2] at a; exact a
    | ex x=>rw [q2] at a; exact a.elim
    | ok d =>
      rw [q2] at a
      intro F2 H2 e r r0 r1 ro
      have h0:∀ (b:Addr) (o:HO),H0 b=some o→zfe H (p :: bs) b=some o:=fun b o h=>by
        unfold zfe
        rw [if_neg fun z=>by rw [(s3 b z).1] at h; cases h]
        exact I.ext.hh b o h
      refine a r F2 H2 ⟨I.ext.ff.trans e.ff,fun b o h=>e.hh b o (h0 b o h),e.fh,fun b o g1 g2=>e.nw b o (I.ext.nw b o g1 g2) (h0 b o g2)⟩ r0 ?_ ro
      cases z:H0 r with
      | none=>rfl
      | some o=>rw [h0 r o z] at r1; cases r1
  · exact a.elim
end
end PM
namespace L2
open PySem PySem.Spec PyProof.Rows
def zpS (K:PySem.W.Frag) (D':Addr) (tb:(St→XK)→TS) (th:TS):TS:=fun D σ H =>
  tb (fun σ' cls _ H'=>∃ C,cls = .ref C∧PySem.W.kitCls K (.ref C) (.ref D')=some true∧th D σ' H') D σ H
section
variable {X:Cx} {x:Str} {np hpos pos:Pos} {body:List Stmt} {b₀:Stmt} {suite:List Stmt} {D':Addr} {tb:(St→XK)→TS} {th:TS}
theorem zpk (hst:X.stack=X.env :: X.outer) (hfr:X.env.frame=some X.env.locals) (hg:Gl X x) (hmx:X.mg x=some (.ref D')) (hD:PySem.W.mroIn X.K D' (.type "BaseException")=some true)
    (hb:∀ (E:St→XK) (pl:List (Addr × Obj)) (xe:Value→Shared→Prop),zhA (CX1 X.prog X.w) (X.guard pl xe) E→PSs (X.guard pl xe) body (tb E)) (hh:∀ ea,PSs (X.suite ea) (b₀ :: suite) th) (hdb:(x == ("__debug__" : Str))=false:=by decide) :
    PS X (.Try body [.ExceptHandler (some (.Name x np)) none (b₀ :: suite) hpos] [] [] pos) (zpS X.K D' tb th):=by
  intro pins s σ H D I h
  have ok:=I.ok
  refine wpAny_Try_except ?_
  refine wpAny_mono (hb _ (X.pn ++ pins) (fun e s₁=>wpAny (model X.prog X.w) X.A (noteFrame e X.env) (fun _ s₂=>wpAny (model X.prog X.w) X.A (setFlight e none) (fun _ s₃=>wpAny (model X.prog X.w) X.A (handleBy e X.env [.ExceptHandler (some (.Name x np)) none (b₀ :: suite) hpos]) (SP X pins D) X.xe s₃) X.xe s₂) X.xe s₁) ?_ [] s σ H D (I.guard _) h) (fun f s1 q=>?_) fun _ _ q=>q
  · intro pins' σ' H1 s1 e s2 I1 hcx
    obtain ⟨ea,C,dct,H',rfl,F,C',hC',hm,hth⟩:=hcx
    cases hC'
    have J1:Inv X pins σ' H1 s1:=I1.unguard ok
    have F':Fly X.prog X.w (X.env :: X.outer) H1 s1 ea (.ref C) dct H' s2:=by
      rw [← hst]
      exact F
    obtain ⟨Fos,Fbare,Fun,B,fl,hok,third⟩:=F'
    have fr2:X.A.frames=some (X.env :: X.outer):=by rw [← hst]; exact ok.frames
    have land:∀ h' ,FlyD B (X.env :: X.outer) ea (.ref C) dct .none h'→s2.heap.UpToSlots h'→Inv X pins σ' H' { s2 with heap:=h' }:=fun h' F' up=>by
      obtain ⟨u,_⟩:=zjy (fs:=frs (X.env :: X.outer)) (fr:=frs (X.env :: X.outer)) (h0:=s1.heap) (h1:=s1.heap) (h3:=h') (B:=B) (L:=s1.heap.objs.size) Un.refl Fun (Nat.le_refl _) (fun b hb=>List.mem_cons_of_mem _ hb) (fun b hb=>hb)
        (fun b hb=>J1.stkFree b (by rw [hst]; exact hb)) (fun b hb o e=>by
          obtain ⟨_,o',ho',hn'⟩:=fl.fun'.mem hb
          rw [e] at ho'
          cases ho'
          exact hn') up F'.stays third
      obtain ⟨hh2,g2,d2,t2,os2⟩:=s2
      obtain rfl:os2=s1.os:=Fos
      show Inv X pins σ' H' { s1 with heap:=h',gens:=g2,drawn:=d2,toks:=t2 }
      exact J1.call (h':=h') (g':=g2) (d':=d2) (t':=t2) (ch:=[]) (by rw [hst]; exact u) (hok.fly F'.stays) Fbare fun b z=>absurd z (by simp)
    show wpAny (model X.prog X.w) X.A (noteFrame (.ref ea) X.env) _ _ s2
    refine zmr fr2 hfr fl fun h1 F1 up1=>?_
    refine zj6 F1 fun h2 F2 up2=>?_
    have J2:=land h2 F2 (up1.trans up2)
    obtain ⟨T,_,⟨oe,vs,_,_,he,hc,hdc,hd,_⟩,_⟩:=F2.tr
    refine wpAny_handleBy_cons (codeAny_handlers_test (zeI (X:=X.suite ea) (J2.suite ea) hg hmx ?_ hdb)) (by intro z; cases z)
    refine zhT (K:=X.K) J2.kIn he hc hm hD ?_
    refine codeAny_handlers_suite ?_
    refine zj6 F2 fun h3 F3 up3=>?_
    have J3:=land h3 F3 ((up1.trans up2).trans up3)
    refine wpAny_mono (hh ea pins _ _ _ _ (J3.suite ea) hth) (fun f s6 q6=>?_) fun _ _ z=>z.elim
    cases f with
    | next =>
      obtain ⟨σ6,H6,I6,q6⟩:=q6
      exact ⟨_,_,I6.unsuite ok,q6⟩
    | brk =>
      obtain ⟨σ6,H6,I6,q6⟩:=q6
      exact ⟨_,_,I6.unsuite ok,q6⟩
    | cont =>
      obtain ⟨σ6,H6,I6,q6⟩:=q6
      exact ⟨_,_,I6.unsuite ok,q6⟩
    | ret v =>
      obtain ⟨v6,σ6,H6,I6,r6,q6⟩:=q6
      exact ⟨v6,_,_,I6.unsuite ok,r6,q6⟩
  · cases f with
    | next =>
      obtain ⟨σ6,H6,I6,q6⟩:=q
      exact wpAny_execs_nil ⟨σ6,H6,I6.unguard ok,q6⟩
    | brk =>
      obtain ⟨σ6,H6,I6,q6⟩:=q
      exact ⟨σ6,H6,I6.unguard ok,q6⟩
    | cont =>
      obtain ⟨σ6,H6,I6,q6⟩:=q
      exact ⟨σ6,H6,I6.unguard ok,q6⟩
    | ret v =>
      obtain ⟨v6,σ6,H6,I6,r6,q6⟩:=q
      exact ⟨v6,σ6,H6,I6.unguard ok,r6,q6⟩
end
end L2
namespace PM
open PySem L2
section
variable {K:Kx} {E:L2.St→XK}
def zlw (mb:En→O) (sub:Nat→Bool) (mh:En→O) (δ:En):O:=match mb δ with
  | .ex δ' x=>if sub x.c=true then (match mh δ' with | .ex _ _=>.no | r=>r) else .no
  | r=>r
theorem zoy {D':Addr} {tb:(L2.St→XK)→TS} {th:TS} {mb mh:En→O} {sub:Nat→Bool} (hsub:∀ c,sub c=true→PySem.W.kitCls K.f (.ref (K.ca c)) (.ref D')=some true)
    (hb:∀ E',SS K (xoK K) E' (tb E') mb) (hh:SS K (xoK K) EN th mh):SS K (xoK K) E (zpS K.f D' tb th) (zlw mb sub mh):=by
  intro Λ F0 H0 F H σ δ Dn I a
  refine hb _ Λ F0 H0 F H σ δ Dn I ?_
  unfold zlw at a
  cases q:mb δ with
  | no=>rw [q] at a; exact a
  | nx δ'=>rw [q] at a; exact a
  | rt d=>rw [q] at a; exact a
  | ro d=>rw [q] at a; exact a
  | bk δ'=>rw [q] at a; exact a
  | ct δ'=>rw [q] at a; exact a
  | ex δ' x =>
    rw [q] at a
    simp only at a
    split at a
    · rename_i hs
      rintro σ1 F1 H1 C dct I1 ⟨rfl,_⟩
      refine ⟨_,rfl,hsub _ hs,?_⟩
      refine hh Λ F0 H0 _ _ σ1 δ' _ I1 ?_
      cases qh:mh δ' with
      | no=>rw [qh] at a; exact a
      | rt d=>rw [qh] at a; exact a
      | ro d=>rw [qh] at a; exact a
      | ex _ _=>rw [qh] at a; exact a.elim
      | nx δ2=>rw [qh] at a; exact a
      | bk δ2=>rw [qh] at a; exact a
      | ct δ2=>rw [qh] at a; exact a
    · exact a.elim
end
end PM
namespace PM
def lexLt:List Int→List Int→Bool
  | [],[]=>false
  | [],_ :: _=>true
  | _ :: _,[]=>false
  | a :: l,b :: m=>if a=b then lexLt l m else decide (a < b)
def minT:List (List Int)→List Int→List Int
  | [],m=>m
  | t :: l,m=>minT l (if lexLt t m=true then t else m)
theorem minT_snoc:∀ (l:List (List Int)) (m x:List Int),minT (l ++ [x]) m=if lexLt x (minT l m)=true then x else minT l m
  | [],_,_=>rfl
  | t :: l,m,x=>by
    show minT (l ++ [x]) _=_
    rw [minT_snoc l]
    rfl
end PM
namespace L2
open PySem PySem.Spec PyProof.Rows
section
variable {prog:Program} {w:World} {A:Around} {E:Value→Shared→Prop} {s:Shared}
def TupI (h:Heap) (ns:List Int) (a:Addr):Prop:=∃ its:List Value,Vals (ns.map V.int) its∧IsTup h a its.toArray
theorem TupI.typeIs {ns:List Int} {a:Addr} (x:TupI s.heap ns a):s.TypeIs (.ref a) "tuple":=by
  obtain ⟨_,_,o,e,c,_⟩:=x
  exact ⟨o,e,c⟩
theorem zf7 {i j:Int} {t u:Tok} {Q:Value→Shared→Prop} (h:Q (.bool (decide (i < j))) s):wpAny (model prog w) A (richCompare .Lt (.int i t) (.int j u)) Q E s :=
  richCompare_gives (op:=.Lt) (typeIs_int s _ t) (typeIs_int s _ u) F.slot_int_lt F.entry_int_lt (F.args_int_lt_2 _ _) (gives_int_lt _ _ t u) (fun x=>nomatch x) h
theorem zho {x y:List Int} {a b:Addr} {P:Fin→Shared→Prop} (hx:TupI s.heap x a) (hy:TupI s.heap y b) (h:P (.done (.ret (.bool (PM.lexLt x y)))) s) :
    wpAny (model prog w) A (Builtin.«tuple.__lt__» ⟨[.ref a,.ref b],[]⟩) P E s:=by
  have hTb:=hy.typeIs
  obtain ⟨xs,hia,oa,hoa,_,na,hda⟩:=hx
  obtain ⟨ys,hib,ob,hob,_,nb,hdb⟩:=hy
  show wpAny _ _ (isInstance (.ref b) (.type "tuple") >>= _) _ _ s
  refine wpAny_bind (wpAny_isInstance hTb isSubtype_tuple_tuple ?_)
  simp only [Bool.not_true,Bool.false_eq_true,if_false]
  refine wpAny_bind (wpAny_tupleItemsOf hoa hda ?_)
  refine wpAny_bind (wpAny_tupleItemsOf hob hdb ?_)
  refine wpAny_bind ?_
  refine wpAny_forIn_list _
    (fun rest r s'=>r.1=none∧s'=s∧∃ x' y' xs' ys',rest=List.zip xs' ys'∧Vals (x'.map V.int) xs'∧Vals (y'.map V.int) ys'∧PM.lexLt x' y'=PM.lexLt x y∧(decide (xs'.length < ys'.length))=decide (xs.length < ys.length))
    _ ?_ ?_ _ _ ⟨rfl,rfl,x,y,xs,ys,rfl,hia,hib,rfl,rfl⟩
  · rintro ⟨u,v⟩ rest r s' ⟨hr,rfl,x',y',xs',ys',hz,hx',hy',hdec,hlen⟩
    cases x' with
    | nil=>cases hx'; simp at hz
    | cons k1 x'' =>
      cases y' with
      | nil=>cases hy'; simp at hz
      | cons k2 y'' =>
        cases hx' with
        | cons h1 hx'' =>
          cases hy' with
          | cons h2 hy'' =>
            obtain ⟨t1,rfl⟩:=h1
            obtain ⟨t2,rfl⟩:=h2
            simp only [List.zip_cons_cons,List.cons.injEq,Prod.mk.injEq] at hz
            obtain ⟨⟨rfl,rfl⟩,rfl⟩:=hz
            refine wpAny_bind (wpAny_eqBool_int ?_)
            by_cases hk:k1=k2
            · subst hk
              rw [show (k1 == k1)=true from beq_self_eq_true _]
              simp only [Bool.not_true,Bool.false_eq_true,if_false]
              refine wpAny_pure ⟨rfl,rfl,x'',y'',_,_,rfl,hx'',hy'',?_,by simpa using hlen⟩
              rw [← hdec]
              simp [PM.lexLt]
            · rw [show (k1 == k2)=false from beq_eq_false_iff_ne.mpr hk]
              simp only [Bool.not_false,if_true]
              have hf:PM.lexLt x y=decide (k1 < k2):=by rw [← hdec]; simp [PM.lexLt,hk]
              rw [hf] at h
              refine wpAny_bind (wpAny_rule ?_)
              refine wpAny_bind (zf7 ?_)
              exact wpAny_bind (wpAny_pure (wpAny_pure (wpAny_pure h)))
  · rintro ⟨r1,r2⟩ s' ⟨hr,rfl,x',y',xs',ys',hz,hx',hy',hdec,hlen⟩
    simp only at hr
    subst hr
    refine wpAny_pure ?_
    have hfin:decide (xs.length < ys.length)=PM.lexLt x y:=by
      rw [← hdec,← hlen]
      cases x' with
      | nil =>
        cases hx'
        cases y' with
        | nil=>cases hy'; simp [PM.lexLt]
        | cons _ _=>cases hy'; simp [PM.lexLt]
      | cons _ _ =>
        cases hx' with
        | cons _ _ =>
          cases y' with
          | nil=>cases hy'; simp [PM.lexLt]
          | cons _ _=>cases hy'; simp at hz
    show P (.done (.ret (.bool (decide (xs.toArray.size < ys.toArray.size))))) s'
    rw [List.size_toArray,List.size_toArray,hfin]; exact h
theorem zkD {x y:List Int} {a b:Addr} {Q:Value→Shared→Prop} (hu:A.units < cLine) (hx:TupI s.heap x a) (hy:TupI s.heap y b) (h:Q (.bool (PM.lexLt x y)) s):wpAny (model prog w) A (richCompare .Lt (.ref a) (.ref b)) Q E s :=
  wpAny_richCompare_same_room (op:=.Lt) hx.typeIs hy.typeIs F.slot_tuple_lt (wpAny_call_entry F.slot_tuple_lt hx.typeIs F.entry_tuple_lt (zho hx hy ⟨_,rfl,(fun e=>nomatch e),h⟩) (F.args_tuple_lt_2 _ _)) hu
end
def zqr (as:List Addr) (h0 h:Heap):Prop:=∀ b ∈ as,∀ o,h0.get? b=some o→h.get? b=some o
theorem ziz {prog:Program} {w:World} {A:Around} {I:Addr} {fp wr:List Addr} {n:Nat} {P:Nat→Value→Prop} {St:Nat→Heap→Prop} (W:Walks prog w A I fp wr n P St) (as:List Addr) (h0:Heap) (hd:∀ b ∈ as,b ∉ wr) :
    Walks prog w A I (fp ++ as) wr n P (fun i h=>St i h∧zqr as h0 h) where
  sub:=fun b hb=>List.mem_append_left _ (W.sub b hb)
  frame:=fun i h h' st k=>⟨W.frame i h h' st.1 fun b hb=>k b (List.mem_append_left _ hb),fun b hb o e=>k b (List.mem_append_right _ hb) o (st.2 b hb o e)⟩
  item:=fun i s Q E hi st hQ=>W.item i s Q E hi st.1 fun v h' tk p st' k=>hQ v h' tk p ⟨st',fun b hb o e=>k b o (hd b hb) (st.2 b hb o e)⟩ k
  done:=fun s Q E st hQ=>W.done s Q E st.1 hQ
  self:=fun i s Q E st q=>W.self i s Q E st.1 q
def CmpS (prog:Program) (w:World) (A:Around) (P:Nat→Value→Prop) (St:Nat→Heap→Prop) (bt:Nat→Nat→Bool):Prop :=
  ∀ k i j vi vj (s:Shared) (Q:Value→Shared→Prop) (E:Value→Shared→Prop),St k s.heap→P i vi→P j vj→Q (.bool (bt i j)) s→wpAny (model prog w) A (richCompare .Lt vi vj) Q E s
section
variable {prog:Program} {w:World} {A:Around} {R:Result→Shared→Prop} {I S:Addr} {fp wr:List Addr} {n:Nat} {P:Nat→Value→Prop} {St:Nat→Heap→Prop} {bt:Nat→Nat→Bool}
def Cup (S:Addr) (items:Array Value) (h:Heap):Prop:=∃ c,h.get? S=some { cls:=.type "list",dict:=none,data:=.seq items c,slots:=#[] }
theorem zmX (W:Walks prog w A.in1 I fp wr n P St) (hcmp:CmpS prog w A.in1 P St bt) (hSf:S ∉ fp) (j:Nat) (s:Shared) (vb:Value) (hj:j + 1 ≤ n) (hst:St (j + 1) s.heap) (hPb:P (argBest bt j) vb) (hS:Cup S #[vb,vb] s.heap)
    (hR:∀ v h' tk,P (argBest bt (n - 1)) v→(∀ b o,b ∉ wr→b ≠ S→s.heap.get? b=some o→h'.get? b=some o)→R (.ok (.ret v)) { s with heap:=h',toks:=tk }) :
    codeAny (model prog w) A (.builtin "min.loop" ⟨[.ref I,.none,.ref S],[]⟩) R s:=by
  have hSw:S ∉ wr:=fun h=>hSf (W.sub _ h)
  have hname:(toString "min" ++ toString ".loop" : String) = "min.loop":=by decide
  obtain ⟨k,hk⟩:∃ k,n - (j + 1)=k:=⟨_,rfl⟩
  induction k generalizing j s vb with
  | zero =>
    have hin:j + 1=n:=by omega
    obtain ⟨c,hS⟩:=hS
    refine codeAny_builtin F.entry_min_loop ?_
    rw [Around.under_plainId F.plain_min_loop _]
    show wpAny _ A.in1 (seqItems? (.ref S) >>= _) _ _ s
    refine wpAny_bind (wpAny_seqItems hS rfl ?_)
    show wpAny _ A.in1 (tryCatch (pyNext (.ref I)) _ >>= _) _ _ s
    refine wpAny_bind (wpAny_tryCatch (W.done s _ _ (hin ▸ hst) fun h' tk hk'=>?_))
    have hS':=hk' S _ hSw hS
    show wpAny _ A.in1 (updateSeq S (fun _=>#[]) >>= _) _ _ _
    refine wpAny_bind ?_
    refine wpAny_updateSeq hS' rfl (wpAny_bind (wpAny_letGo (wpAny_pure ?_)))
    exact hR vb _ tk (by rw [← hin]; exact hPb) fun b o hbw hbS e=>(Heap.get?_update_other _ _ (Ne.symm hbS)).trans (hk' b o hbw e)
  | succ k ih =>
    have hlt:j + 1 < n:=by omega
    obtain ⟨c,hS⟩:=hS
    refine codeAny_builtin F.entry_min_loop ?_
    rw [Around.under_plainId F.plain_min_loop _]
    show wpAny _ A.in1 (seqItems? (.ref S) >>= _) _ _ s
    refine wpAny_bind (wpAny_seqItems hS rfl ?_)
    show wpAny _ A.in1 (tryCatch (pyNext (.ref I)) _ >>= _) _ _ s
    refine wpAny_bind (wpAny_tryCatch (W.item (j + 1) s _ _ hlt hst fun v h' tk hP hst' hk'=>?_))
    have hS':=hk' S _ hSw hS
    show wpAny _ A.in1 (tryCatch (holding [v,v] (richCompare .Lt v vb >>= _)) _ >>= _) _ _ _
    refine wpAny_bind (wpAny_tryCatch (wpAny_holding (wpAny_bind (hcmp (j + 1 + 1) (j + 1) (argBest bt j) v vb _ _ _ hst' hP hPb ?_))))
    refine wpAny_bind (wpAny_holding (wpAny_truthy_bool ?_))
    refine wpAny_bind (wpAny_letGo (wpAny_pure ?_))
    cases hb:bt (j + 1) (argBest bt j) with
    | true =>
      simp only [if_true]
      refine wpAny_bind ?_
      refine wpAny_updateSeq hS' rfl (wpAny_bind (wpAny_letGo ?_))
      rw [hname]
      refine wpAny_pure ⟨plainId_quiet F.plain_min_loop _,ih (j + 1) _ v hlt (W.frame _ _ _ hst' fun b hbf o e=>?_) (by simp only [argBest,hb,if_true]; exact hP) ⟨_,Heap.get?_update_self _ hS' rfl⟩ (fun v' h'' tk'' hP' hk''=>?_) (by omega)⟩
      · exact (Heap.get?_update_other _ _ (fun h:S=b=>hSf (by rw [h]; exact hbf))).trans e
      · exact hR v' h'' tk'' hP' fun b o hbw hbS e=>hk'' b o hbw hbS ((Heap.get?_update_other _ _ (Ne.symm hbS)).trans (hk' b o hbw e))
    | false =>
      simp only [Bool.false_eq_true,if_false]
      refine wpAny_bind (wpAny_letGo ?_)
      rw [hname]
      refine wpAny_pure ⟨plainId_quiet F.plain_min_loop _,ih (j + 1) _ vb hlt hst' (by simp only [argBest,hb,Bool.false_eq_true,if_false]; exact hPb) ⟨_,hS'⟩ (fun v' h'' tk'' hP' hk''=>?_) (by omega)⟩
      exact hR v' h'' tk'' hP' fun b o hbw hbS e=>hk'' b o hbw hbS (hk' b o hbw e)
theorem zlZ (W:Walks prog w A.in1 I fp wr n P St) (hcmp:CmpS prog w A.in1 P St bt) (hSf:S ∉ fp) (hn:0 < n) {s:Shared} (hst:St 0 s.heap) (hS:Cup S #[] s.heap)
    (hR:∀ v h' tk,P (argBest bt (n - 1)) v→(∀ b o,b ∉ wr→b ≠ S→s.heap.get? b=some o→h'.get? b=some o)→R (.ok (.ret v)) { s with heap:=h',toks:=tk }) :
    codeAny (model prog w) A (.builtin "min.loop" ⟨[.ref I,.none,.ref S],[]⟩) R s:=by
  have hSw:S ∉ wr:=fun h=>hSf (W.sub _ h)
  have hname:(toString "min" ++ toString ".loop" : String) = "min.loop":=by decide
  obtain ⟨c,hS⟩:=hS
  refine codeAny_builtin F.entry_min_loop ?_
  rw [Around.under_plainId F.plain_min_loop _]
  show wpAny _ A.in1 (seqItems? (.ref S) >>= _) _ _ s
  refine wpAny_bind (wpAny_seqItems hS rfl ?_)
  show wpAny _ A.in1 (tryCatch (pyNext (.ref I)) _ >>= _) _ _ s
  refine wpAny_bind (wpAny_tryCatch (W.item 0 s _ _ hn hst fun v h' tk hP hst' hk'=>?_))
  have hS':=hk' S _ hSw hS
  show wpAny _ A.in1 (updateSeq S (fun _=>#[v,v]) >>= _) _ _ _
  refine wpAny_bind ?_
  refine wpAny_updateSeq hS' rfl ?_
  rw [hname]
  refine wpAny_pure ⟨plainId_quiet F.plain_min_loop _,zmX W hcmp hSf 0 _ v hn (W.frame _ _ _ hst' fun b hbf o e=>?_) hP ⟨_,Heap.get?_update_self _ hS' rfl⟩ fun v' h'' tk'' hP' hk''=>?_⟩
  · exact (Heap.get?_update_other _ _ (fun h:S=b=>hSf (by rw [h]; exact hbf))).trans e
  · exact hR v' h'' tk'' hP' fun b o hbw hbS e=>hk'' b o hbw hbS ((Heap.get?_update_other _ _ (Ne.symm hbS)).trans (hk' b o hbw e))
end
section
variable {prog:Program} {w:World} {A:Around} {E:Value→Shared→Prop} {s:Shared}
theorem zh7 {x:Value} {Q:Value→Shared→Prop}
    (h:wpAny (model prog w) A.in1 (pyIter x) (fun it s₂=>∃ I fp wr n P St bt,it = .ref I∧Walks prog w A.in1 I fp wr n P St∧St 0 s₂.heap∧(∀ b ∈ fp,b < s₂.heap.objs.size)∧0 < n∧CmpS prog w A.in1 P St bt ∧
      ∀ v h' tk,P (argBest bt (n - 1)) v→(∀ b o,b ∉ wr→s₂.heap.get? b=some o→h'.get? b=some o)→Q v { s₂ with heap:=h',toks:=tk }) E s) :
    wpAny (model prog w) A (call (.builtin "min") [x]) Q E s:=by
  have hname:(toString "min" ++ toString ".loop" : String) = "min.loop":=by decide
  refine call_function_tree F.kind_min F.plain_min F.entry_min (F.args_min1 _) ?_
  show wpAny _ A.in1 (Builtin.Builtins.bindParams "min" ["key","default"] 0 ⟨[],[]⟩ >>= _) _ _ s
  refine wpAny_bind (wpAny_of_eq (show Builtin.Builtins.bindParams "min" ["key","default"] 0 ⟨[],[]⟩=pure [none,none] from rfl) ?_)
  refine wpAny_bind (wpAny_pure ?_)
  refine wpAny_bind (wpAny_mono h (fun it s₂ h₂=>?_) fun _ _ e=>e)
  obtain ⟨I,fp,wr,n,P,St,bt,rfl,W,hst,hfp,hn,hcmp,hQ⟩:=h₂
  refine wpAny_bind (wpAny_newObj_type ?_)
  rw [hname]
  refine wpAny_pure ⟨plainId_quiet F.plain_min_loop _,zlZ W hcmp (fun hm=>Nat.lt_irrefl _ (hfp _ hm)) hn (W.frame _ _ _ hst fun b _ o e=>Heap.get?_push_of_some _ e) ⟨_,Heap.get?_push_size _ rfl⟩ fun v h' tk hP hk=>?_⟩
  exact hQ v h' tk hP fun b o hbw e=>hk b o hbw (Nat.ne_of_lt (Heap.lt_size e)) (Heap.get?_push_of_some _ e)
end
section
variable {X:Cx}
theorem zfI (t:List Int) (ts:List (List Int)):∀ k,k ≤ ts.length→(t :: ts).getD (argBest (fun i j=>PM.lexLt ((t :: ts).getD i []) ((t :: ts).getD j [])) k) []=PM.minT (ts.take k) t
  | 0,_=>rfl
  | k + 1,h=>by
    have ih:=zfI t ts k (by omega)
    have ex:ts.take (k + 1)=ts.take k ++ [(t :: ts).getD (k + 1) []]:=by
      rw [List.take_succ,List.getD_cons_succ,List.getD_eq_getElem?_getD,List.getElem?_eq_getElem (by omega)]
      rfl
    rw [ex,PM.minT_snoc,← ih]
    show (t :: ts).getD (if PM.lexLt ((t :: ts).getD (k + 1) []) ((t :: ts).getD (argBest (fun i j=>PM.lexLt ((t :: ts).getD i []) ((t :: ts).getD j [])) k) [])=true then k + 1 else argBest (fun i j=>PM.lexLt ((t :: ts).getD i []) ((t :: ts).getD j [])) k) []=_
    split <;> rfl
def zpv:List V→Hp→VK→Prop:=fun xs H Q=>∃ (p:Addr) (as:List Addr) (t:List Int) (ts:List (List Int)),xs = [.ref p]∧Rd H p (.lst (as.map V.ref))∧as.length=ts.length + 1∧(∀ i a,as[i]?=some a→H a=some (.tup (((t :: ts).getD i []).map V.int))) ∧
  ∀ i a,as[i]?=some a→(t :: ts).getD i []=PM.minT ts t→Q (.ref a) H
theorem znz {as:List Addr} {its:List Value} (rv:Vals (as.map V.ref) its):its=as.map Value.ref:=by
  induction as generalizing its with
  | nil=>cases rv; rfl
  | cons a l ih =>
    cases rv with
    | cons h t =>
      have:_=Value.ref a:=h
      rw [this,ih t]; rfl
theorem zlM (hu:X.A.units + 64 < cLine) (hc:X.calm=true):zey X (.builtin "min") zpv:=by
  intro pins s σ H xs us Q I r h
  obtain ⟨p,as,t,ts,rfl,hq,hl,ht,q⟩:=h
  obtain ⟨u,rfl,rx⟩:=zfn r
  cases rx
  obtain ⟨z,its,n,rv,e⟩:=hq.ok I.hok
  have ei:=znz rv
  subst ei
  have tup:∀ i a,as[i]?=some a→TupI s.heap ((t :: ts).getD i []) a:=fun i a h=>by
    obtain ⟨_,its',v',w'⟩:=I.hok a _ (ht i a h)
    exact ⟨its',v',w'⟩
  have lt:∀ a ∈ as,a < s.heap.objs.size:=fun a ha=>by
    obtain ⟨i,hi,ea⟩:=List.getElem_of_mem ha
    obtain ⟨_,_,o,eo,_⟩:=tup i a (by rw [List.getElem?_eq_getElem hi,ea])
    exact Heap.lt_size eo
  have isl:s.heap.IsList p (as.map Value.ref).toArray:=⟨_,e,rfl,n,rfl⟩
  have plt:p < s.heap.objs.size:=Heap.lt_size e
  refine zh7 (wpAny_pyIter_list isl ?_)
  refine ⟨s.heap.objs.size,[s.heap.objs.size,p] ++ as,[s.heap.objs.size],(as.map Value.ref).toArray.size,_,_,(fun i j=>PM.lexLt ((t :: ts).getD i []) ((t :: ts).getD j [])),rfl,ziz (Walks.list (A:=X.A.in1) (I.ok.hd hc) s.heap.objs.size p (Nat.ne_of_lt plt) (as.map Value.ref).toArray) as s.heap ?_,⟨⟨⟨_,Heap.get?_push_size _ rfl,rfl,rfl⟩,isl.push _⟩,fun b _ o eo=>Heap.get?_push_of_some _ eo⟩,?_,?_,?_,?_⟩
  · intro b hb hm
    rw [List.mem_singleton.mp hm] at hb
    exact absurd (lt _ hb) (Nat.lt_irrefl _)
  · intro b hb
    show b < (s.heap.push _).objs.size
    rw [Heap.size_push]
    rcases List.mem_append.mp hb with hb | hb
    · rcases List.mem_cons.mp hb with rfl | hb
      · exact Nat.lt_succ_self _
      · rw [List.mem_singleton.mp hb]; exact Nat.lt_succ_of_lt plt
    · exact Nat.lt_succ_of_lt (lt b hb)
  · rw [List.size_toArray,List.length_map,hl]; exact Nat.succ_pos _
  · intro k i j vi vj s' Q' E' st hi hj hQ
    have gi:∀ (i:Nat) (v:Value),(as.map Value.ref).toArray[i]?=some v→∃ a,as[i]?=some a∧v = .ref a:=fun i v h=>by
      rw [List.getElem?_toArray,List.getElem?_map] at h
      cases z:as[i]? with
      | none=>rw [z] at h; cases h
      | some a=>rw [z] at h; cases h; exact ⟨a,rfl,rfl⟩
    obtain ⟨a,ea,rfl⟩:=gi i vi hi
    obtain ⟨b,eb,rfl⟩:=gi j vj hj
    have tp:∀ i a,as[i]?=some a→TupI s'.heap ((t :: ts).getD i []) a:=fun i a h=>by
      obtain ⟨its',v',o,eo,c1,c2⟩:=tup i a h
      exact ⟨its',v',o,st.2 a (List.mem_of_getElem? h) o eo,c1,c2⟩
    exact zkD (by rw [Around.in1_units]; omega) (tp i a ea) (tp j b eb) hQ
  · intro v h' tk hP hk
    have hP':(as.map Value.ref).toArray[argBest (fun i j=>PM.lexLt ((t :: ts).getD i []) ((t :: ts).getD j [])) ((as.map Value.ref).toArray.size - 1)]?=some v:=hP
    rw [List.getElem?_toArray,List.size_toArray,List.length_map,hl,List.getElem?_map,Nat.add_sub_cancel] at hP'
    have key:=zfI t ts ts.length (Nat.le_refl _)
    rw [List.take_length] at key
    cases z:as[argBest (fun i j=>PM.lexLt ((t :: ts).getD i []) ((t :: ts).getD j [])) ts.length]? with
    | none=>rw [z] at hP'; cases hP'
    | some a =>
      rw [z] at hP'
      cases hP'
      refine ⟨.ref a,H,I.kept (t':=tk) (fun b o eo=>hk b o (fun hm=>?_) (Heap.get?_push_of_some _ eo)),rfl,q _ a z key⟩
      rw [List.mem_singleton.mp hm] at eo
      exact absurd (Heap.lt_size eo) (Nat.lt_irrefl _)
end
end L2
namespace PM
open PySem L2
section
variable {K:Kx}
def asTi:D→Option (List Int)
  | .tup l=>asIs l
  | _=>none
def asTs:List D→Option (List (List Int))
  | []=>some []
  | d :: l=>(asTi d).bind fun t=>(asTs l).map fun ts=>t :: ts
def zk3:List D→Option D
  | [.lst (d :: l)]=>(asTi d).bind fun t=>(asTs l).map fun ts=>.tup ((minT ts t).map .int)
  | _=>none
theorem zjJ {d:D} {t:List Int} (h:asTi d=some t):d = .tup (t.map .int):=by
  unfold asTi at h
  split at h
  · rw [zb8 h]
  · cases h
theorem zik:∀ {l:List D} {ts:List (List Int)},asTs l=some ts→l=ts.map fun t=>.tup (t.map .int)
  | [],_,h=>by cases h; rfl
  | d :: l,ts,h=>by
    unfold asTs at h
    cases q:asTi d with
    | none=>rw [q] at h; cases h
    | some t =>
      rw [q] at h
      cases q2:asTs l with
      | none=>rw [q2] at h; cases h
      | some r =>
        rw [q2] at h
        cases h
        rw [zjJ q,zik q2]; rfl
theorem ziA {F:Hp}:∀ {ts:List (List Int)} {vs:List V},RepL K F (ts.map fun t=>.tup (t.map .int)) vs→∃ as:List Addr,vs=as.map V.ref∧as.length=ts.length∧∀ i a,as[i]?=some a→F a=some (.tup ((ts.getD i []).map V.int))
  | [],vs,h=>by
    have:vs = []:=h
    subst this
    exact ⟨[],rfl,rfl,fun i a h=>(by simp at h)⟩
  | t :: ts,vs,h=>by
    obtain ⟨v,r,rfl,h1,h2⟩:=h
    obtain ⟨a,xs,rfl,h3,h4⟩:=h1
    have ex:=zbF (ns:=t) h4
    subst ex
    obtain ⟨as,rfl,hl,h5⟩:=ziA h2
    refine ⟨a :: as,rfl,by simp [hl],fun i b hb=>?_⟩
    cases i with
    | zero=>simp at hb; subst hb; exact h3
    | succ i=>simp at hb; exact h5 i b hb
theorem zoG:SC K zpv zk3:=by
  intro F H vs ds d Q s r e q
  unfold zk3 at e
  split at e
  · rename_i d0 l
    cases q1:asTi d0 with
    | none=>rw [q1] at e; cases e
    | some t =>
      rw [q1] at e
      cases q2:asTs l with
      | none=>rw [q2] at e; cases e
      | some ts =>
        rw [q2] at e
        cases e
        cases r with
        | cons r r' =>
          cases r'
          obtain ⟨p,xs,rfl,h1,h2⟩:=r
          rw [zjJ q1,zik q2] at h2
          obtain ⟨as,rfl,hl,h5⟩:=ziA (ts:=t :: ts) h2
          refine ⟨p,as,t,ts,rfl,h1,hl,fun i a ha=>s a _ (h5 i a ha),fun i a ha em=>q _ F H (.refl s) ?_⟩
          have:=h5 i a ha
          rw [em] at this
          simp only [Rep]
          exact ⟨a,_,rfl,this,RepL.ints⟩
  · cases e
end
end PM
namespace L2
open PySem PySem.Spec PyProof.Rows
section
variable {X:Cx}
def zqA (ta:TA):TE:=fun σ H Q=>ta σ H fun vs H1=>∃ i j:Int,vs = [.int i,.int j]∧∀ r,H1 r=none→Q (.ref r) (upd H1 r (.rng i j))
theorem zpl {a b:Expr} {ta:TA} {p pos:Pos} (hg:Gl X "range") (hm:X.mg "range"=none) (ha:PA X [a,b] ta) (hs:starEach [a,b] X.env = [(false,eval a X.env),(false,eval b X.env)]:=by rfl) (hs2:starEach [b] X.env = [(false,eval b X.env)]:=by rfl):PE X (.Call (.Name "range" p) [a,b] [] pos) (zqA ta):=by
  intro pins s σ H Q I h
  refine Call_ (zfD I hg hm boot_range (PyProof.Rows.callWith_type1 (thn (ha pos pins s σ H _ I h) fun us s1 ⟨vs,H1,I1,r1,q1⟩=>?_) (by rw [hs,hs2]) (by rw [hs2]; rfl)))
  obtain ⟨i,j,e,q⟩:=q1
  subst e
  obtain ⟨u,w',rfl,⟨t,rfl⟩,⟨t',rfl⟩⟩:=znF r1
  refine call_range_2 ⟨.ref s1.heap.objs.size,_,?_,rfl,q _ (I1.hok.fresh (Nat.le_refl _))⟩
  exact I1.laid (fun b o e=>Heap.get?_push_of_some _ e) (Nat.le_refl _) ⟨_,_,_,Heap.get?_push_size _ rfl⟩
def zk5:List V→Hp→VK→Prop:=fun xs H Q=>∃ (r:Addr) (i j:Int),xs = [.ref r]∧H r=some (.rng i j)∧(0 ≤ i∧i ≤ j∧j ≤ 100000)∧∀ l,H l=none→Q (.ref l) (upd H l (.lst ((List.range (j - i).toNat).map fun k:Nat=>.int (i + (k:Int)))))
theorem zi8 (hc:X.calm=true):zey X (.type "list") zk5:=by
  intro pins s σ H xs us Q I r h
  obtain ⟨ra,i,j,rfl,hr,hj,q⟩:=h
  obtain ⟨u,rfl,rx⟩:=zfn r
  cases rx
  obtain ⟨t1,t2,t3,e⟩:=I.hok ra _ hr
  have sz:Builtin.Range.rangeSize i j 1=((j - i).toNat:Int):=by rw [rangeSize_one]; split <;> omega
  refine call_list_range (I.ok.hd hc) e (small_one (by omega) (by omega) (by omega) (by omega)) sz (by omega) fun h' tk acc c' kp hl items=>?_
  refine ⟨.ref s.heap.objs.size,_,?_,rfl,q _ (I.hok.fresh (Nat.le_refl _))⟩
  obtain ⟨i1,i2⟩:=items
  refine I.laid kp (Nat.le_refl _) ⟨(by rw [List.length_map,List.length_range]; exact Nat.le_trans (show (j - i).toNat ≤ 100000 by omega) (show 100000 ≤ sizeLine by decide)),acc.toList,c',?_,by simpa using hl⟩
  have key:∀ (n:Nat) (l:List Value) (o:Nat),l.length=n→(∀ k v,l[k]?=some v→∃ t,v=Value.int (i + ((o + k:Nat):Int)) t)→Vals ((List.range' o n).map fun k:Nat=>V.int (i + (k:Int))) l:=by
    intro n
    induction n with
    | zero=>intro l o h1 _; rw [List.length_eq_zero_iff.mp h1]; exact .nil
    | succ n ih =>
      intro l o h1 h2
      cases l with
      | nil=>simp at h1
      | cons v l =>
        obtain ⟨t,rfl⟩:=h2 0 v rfl
        refine .cons ⟨t,rfl⟩ (ih l (o + 1) (by simpa using h1) fun k v hk=>?_)
        obtain ⟨t',e'⟩:=h2 (k + 1) v (by simpa using hk)
        exact ⟨t',by rw [e']; congr 3; try omega⟩
  have:=key (j - i).toNat acc.toList 0 (by simpa using i1) fun k v hk=>by
    obtain ⟨t,e'⟩:=i2 k v (by simpa using hk)
    exact ⟨t,by rw [e']; congr 1; first | done | simp⟩
  rw [List.range_eq_range']
  exact this
end
end L2
namespace PM
open PySem L2
section
variable {K:Kx} {XO:XOT} {E:L2.St→XK}
def zlT (l:List D):Option D:=match l with
  | [.int i,.int j]=>ifC (0 ≤ i∧i ≤ j∧j ≤ 100000) (some (.lst ((List.range (j - i).toNat).map fun k:Nat=>.int (i + (k:Int))))) none
  | _=>none
def zjN (ml:En→R (List D)) (δ:En):R D:=(ml δ).bind fun l=>R.of (zlT l)
theorem zkd {l:List D} {d:D} (h:zlT l=some d):∃ i j:Int,l = [.int i,.int j]∧(0 ≤ i∧i ≤ j∧j ≤ 100000)∧d = .lst ((List.range (j - i).toNat).map fun k:Nat=>.int (i + (k:Int))):=by
  unfold zlT at h
  split at h
  · rename_i i j
    unfold ifC at h
    split at h
    · cases h; exact ⟨i,j,rfl,by assumption,rfl⟩
    · cases h
  · cases h
theorem zkG {tl:TA} {ml:En→R (List D)} (h:SA K XO E tl ml):SEo K XO E (tCB zk5 (zbx (zqA tl) tNil)) (zjN ml):=by
  intro Λ F0 H0 F H σ δ Q I a
  refine h Λ F0 H0 F H σ δ _ I (a.bind.imp fun ds F1 H1 e1 a1 vs r=>?_)
  cases q:zlT ds with
  | none=>rw [q] at a1; exact a1.elim
  | some d =>
    rw [q] at a1
    obtain ⟨i,j,rfl,hj,rfl⟩:=zkd q
    obtain ⟨v,r',rfl,rv,r2⟩:=r
    obtain ⟨v2,rfl,rv2⟩:=RepL.one r2
    simp only [Rep] at rv rv2
    subst rv rv2
    refine ⟨i,j,rfl,fun ra hra=>⟨ra,i,j,rfl,zal,hj,fun l hl=>?_⟩⟩
    have x1:Ext F1 H1 F1 (upd H1 ra (.rng i j)):=.newO e1.fh hra
    have x2:=x1.trans (.newO (o:=.lst ((List.range (j - i).toNat).map fun k:Nat=>V.int (i + (k:Int)))) x1.fh hl)
    have hl1:H1 l=none:=x1.hh.free hl
    refine a1 F1 _ x2 l (e1.fh.free hl1) (e1.hh.free hl1) ⟨_,zal,?_⟩
    have:=RepL.ints (K:=K) (F:=F1) (ns:=(List.range (j - i).toNat).map fun k:Nat=>i + (k:Int))
    rw [List.map_map,List.map_map] at this
    exact this
end
end PM
namespace L2
open PySem PySem.Spec PyProof.Rows
section
variable {X:Cx} {a b c:Expr} {ta tb tc:TE} {pos:Pos}
end
end L2
namespace PM
open PySem L2
section
variable {K:Kx} {XO:XOT} {E:L2.St→XK} {ta tb tc:TE} {ma mb mc:En→R D}
end
end PM
namespace L2
open PySem PySem.Spec PyProof.Rows
section
variable {X:Cx} {e st:Expr} {te ts:TE} {p2 pos:Pos}
end
end L2
namespace PM
open PySem L2
section
variable {K:Kx} {XO:XOT} {E:L2.St→XK} {te ts:TE} {me ms:En→R D}
end
end PM
namespace L2
open PySem PySem.Spec PyProof.Rows
section
variable {prog:Program} {w:World} {A:Around} {E:Value→Shared→Prop} {s:Shared}
end
section
variable {prog:Program} {w:World} {A:Around} {E:Value→Shared→Prop} {s:Shared}
end
section
variable {X:Cx} {l:Expr} {tl:TE}
end
end L2
namespace PM
open PySem L2
section
variable {K:Kx} {XO:XOT} {E:L2.St→XK} {te:TE} {me:En→R D}
end
end PM
namespace L2
open PySem PySem.Spec PyProof.Rows Builtin Builtin.ObjectAttr
section
variable {prog:Program} {w:World} {A:Around} {E:Value→Shared→Prop} {s:Shared} {K:PySem.W.Frag} {x C:Addr} {ox:Obj} {od:Option Obj} {name:Str} {tk:Tok} {v:Value} {R:Result→Shared→Prop}
end
section
variable {X:Cx} {o e value:Expr} {f:Str} {pos pos' tpos:Pos} {ta tv:TE}
end
section
variable {M:Model} {A:Around} {E:Value→Shared→Prop} {s:Shared} {B:Heap} {env:Env} {outer l:List Env} {L e:Addr} {Q:Unit→Shared→Prop}
end
section
variable {P:Program} {w:World} {K:PySem.W.Frag} {mg:Str→Option Value} {base:Heap} {N:List Str} {qual:Str} {scope:Scope} {f:Addr} {cd:Value} {A:Around} {outer:List Env} {s0:Shared} {H0:Hp} {E:XK}
end
section
variable {M:Model} {A:Around} {E:Value→Shared→Prop} {env:Env}
variable {nm q:Str} {C N:Addr} {bs bm:List Value} {hdct:Bool} {sn:List Str} {sub:List Value} {ab:Bool} {col:Option Bool} {dd:Option Addr} {k0 k1 k2 k3 k5:Option Value} {newId:String}
end
section
variable {P:Program} {w:World} {K:PySem.W.Frag} {mg:Str→Option Value} {base:Heap} {N:List Str} {qual:Str} {scope:Scope} {f:Addr} {cd:Value} {A:Around} {outer:List Env} {s0:Shared} {H0:Hp} {E:XK}
end
section
variable {X:Cx} {CX:CXT} {k:Nat} {fa:Addr} {fd:FuncData} {ps:List Str} {sp:Sp} {x:Str} {np cpos pos:Pos} {e₀:Expr} {rest:List Expr} {C:Addr} {bmB bmN:List Value} {newId Bn B nid inN initId:String} {E:St→XK} {t:TA}
end
end L2
namespace PM
open PySem L2
section
variable {X:Cx} {fa:Addr} {ps:List Str} {sp:Sp} {x:Str} {np cpos pos:Pos} {e₀:Expr} {rest:List Expr} {C:Addr} {bmB bmN:List Value} {newId Bn B nid inN initId:String} {E:L2.St→XK} {t:TA}
end
section
variable {K:Kx} {XO:XOT} {E:L2.St→XK} {ta:TE} {ma:En→R D} {Λ:List (Nat × Addr × HO)} {F0 H0 F H:Hp} {σ:L2.St} {δ:En}
end
end PM
namespace L2
open PySem PyProof.Rows
section
variable {N:Nat} {p:Array Nat}
end
section
variable {ky:Nat→Int} {N:Nat} {cmp:Nat→Nat→(Bool→Shared→Prop)→Shared→Prop}
end
end L2
namespace L2
open PySem PySem.Spec PyProof.Rows
section
variable {prog:Program} {w:World} {A:Around} {E:Value→Shared→Prop} {s:Shared}
end
section
variable {X:Cx} {pins:List (Addr × Obj)} {σ:St} {H:Hp} {s:Shared} {h':Heap}
end
end L2
namespace PM
open PySem L2
section
variable {K:Kx} {XO:XOT} {E:L2.St→XK}
end
end PM
namespace L2
open PySem PySem.Spec PyProof.Rows
section
variable {P:Program} {w:World} {K:PySem.W.Frag} {mg mb:Str→Option Value} {CX:CXT} {k:Nat} {fa a tP:Addr} {fd:FuncData} {x:Str} {sp:Sp} {s₁:Shared} {vs:List Value} {ns:List Int}
end
end L2
namespace L2
open PySem PySem.Spec PyProof.Rows
section
variable {X:Cx}
end
end L2
namespace PM
open PySem L2
section
variable {K:Kx} {XO:XOT} {E:L2.St→XK}
end
end PM
namespace PM
open PySem L2
section
variable {K:Kx}
end
end PM
namespace L2
open PySem PySem.Spec PyProof.Rows
section
variable {prog:Program} {w:World} {A:Around} {E:Value→Shared→Prop} {s:Shared}
end
end L2
namespace L2
open PySem PySem.Spec PyProof.Rows
section
variable {prog:Program} {w:World} {A:Around} {E:Value→Shared→Prop} {s:Shared}
end
section
variable {X:Cx} {pins:List (Addr × Obj)} {σ:St} {A:Around} {R:Result→Shared→Prop}
abbrev zhK (acc:Array Value) (c:Nat):Obj:={ cls:=.type "list",dict:=none,data:=.seq acc c,slots:=#[] }
end
end L2
namespace PM
open PySem L2
section
variable {K:Kx} {XO:XOT} {E:L2.St→XK}
end
end PM
namespace L2
open PySem PySem.Spec PyProof.Rows
theorem zlr {P:Program} {w:World} {k:Key} {u:Value} (h:(zbs P w).is k u=true):RelV (kV k) u:=by
  rcases zbg h with ⟨i,t,rfl,rfl⟩ | ⟨x,t,rfl,rfl⟩
  · exact ⟨t,rfl⟩
  · exact ⟨t,rfl⟩
theorem KV.at:∀ {kvs:List (Key × V)} {vs:List (Key × Value)},KV kvs vs→∀ {i:Nat} {k:Key} {x:V},kvs[i]?=some (k,x)→∃ u,vs[i]?=some (k,u)∧RelV x u:=by
  intro kvs vs r
  unfold KV at r
  induction r with
  | nil=>intro i k x h; simp at h
  | @cons p q ps qs hq t ih =>
    intro i k x h
    cases i with
    | zero =>
      have e:p=(k,x):=by simpa using h
      subst e
      obtain ⟨q1,q2⟩:=q
      exact ⟨q2,by rw [show k=q1 from hq.1]; rfl,hq.2⟩
    | succ i=>exact ih (by simpa using h)
section
variable {X:Cx} {pins:List (Addr × Obj)} {σ:St} {H:Hp} {s:Shared} {a:Addr} {kvs:List (Key × V)}
theorem Inv.frz (I:Inv X pins σ H s) (ha:H a=some (.dK kvs)):∃ o,Inv X pins σ (upd H a (.frz o (.dK kvs))) s:=by
  have ob:=I.hok a _ ha
  obtain ⟨_,_,_,_,o,es,ep,ho,_⟩:=id ob
  exact ⟨o,I.write (t':=s.toks) (x:=a) (e:=a) (o:=.frz o (.dK kvs)) (h':=s.heap) (by rw [ha]; exact True.intro) (.inl rfl) (fun _ _ _ q=>q) ⟨o,ho⟩ ⟨ho,ob⟩⟩
theorem Inv.dat {o:Obj} {es0:Array DictEntry} {ep:Nat} (I:Inv X pins σ H s) (ha:H a=some (.frz o (.dK kvs))) (hd:o.data = .dict es0 ep):∃ vs,KV kvs vs∧s.heap.DictAt (zbs X.prog X.w) a vs ep:=by
  obtain ⟨ho,_,_,vs,rv,o',es,ep',g1,g2,g3,g4⟩:=I.hok a _ ha
  rw [ho] at g1; cases g1
  rw [hd] at g3; cases g3
  exact ⟨vs,rv,o,es0,ho,g2,hd,g4⟩
end
def tFix (t:TE):TE:=fun σ H Q=>t σ H fun v H1=>∃ a kvs,v = .ref a∧H1 a=some (.dK kvs)∧∀ o,Q v (upd H1 a (.frz o (.dK kvs)))
theorem zqt {X:Cx} {e:Expr} {t:TE} (h:PE X e t):PE X e (tFix t):=by
  intro pins s σ H Q I q
  refine thn (h pins s σ H _ I q) fun u s1 ⟨v,H1,I1,r1,a,kvs,ev,ha,q1⟩=>?_
  obtain ⟨o,I2⟩:=I1.frz ha
  exact ⟨v,_,I2,r1,q1 o⟩
def Itk (a:Addr) (o:Obj) (kvs:List (Key × V)):It :=
  ⟨fun i H=>H a=some (.frz o (.dK kvs))∧i < kvs.length,fun i H v H'=>H'=H∧∃ k x,v=kV k∧kvs[i]?=some (k,x),fun i H=>H a=some (.frz o (.dK kvs))∧kvs.length ≤ i⟩
theorem KV.len {kvs:List (Key × V)} {vs:List (Key × Value)} (r:KV kvs vs):vs.length=kvs.length:=by
  unfold KV at r
  induction r with
  | nil=>rfl
  | cons _ _ ih=>simp [ih]
theorem zme {P:Program} {w:World} {K:PySem.W.Frag} {tg:Expr} (a it:Addr) (o:Obj) (kvs:List (Key × V)) {es0:Array DictEntry} {ep:Nat} (hd:o.data = .dict es0 ep) :
    Turn P w K tg (Itk a o kvs) [it] it (fun i h=>h.IsKeyIter it a i kvs.length ep) where
  mem:=by simp
  obj:=fun i h st b hb=>by
    obtain ⟨q,h1,c,d⟩:=st
    rw [List.mem_singleton.mp hb]
    exact ⟨q,h1,fun v z=>by rw [d] at z; cases z⟩
  keep:=fun i h h' st k=>st.at fun q e=>k it (by simp) q e
  item:=by
    intro X hP hw hK hc i pins s σ H E I hf st hg
    subst hP hw hK
    obtain ⟨ha,hi⟩:=hg
    obtain ⟨vs,rv,dd⟩:=I.dat ha hd
    obtain ⟨⟨key,x⟩,hx⟩:∃ q,kvs[i]?=some q:=⟨_,List.getElem?_eq_getElem hi⟩
    obtain ⟨u,hu,ru⟩:=rv.at hx
    obtain ⟨f0,f1,f2,f3,f4,f5⟩:=hf it (by simp)
    have st0:=st
    rw [← rv.len] at st0
    refine wpAny_pyNext_dict_item st0 dd hu fun kk h' hk st' sb=>?_
    have I1:Inv X pins σ H { s with heap:=h' }:=I.turned (t':=s.toks) (fun b o hb e=>(sb.2 b hb).trans e) f0 f1 f3 f4 f5
    rw [rv.len] at st'
    obtain ⟨q,e,c,d⟩:=id st'
    exact ⟨kk,rfl,zlt (s:={ s with heap:=h' }) e c d (by decide) ⟨kV key,H,I1,zlr hk,⟨rfl,key,x,rfl,hx⟩,st',fun b hb=>(hf b hb).1⟩⟩
  done:=by
    intro X hP hw hK hc i pins s σ H E I hf st hg
    subst hP hw hK
    obtain ⟨ha,hi⟩:=hg
    obtain ⟨vs,rv,dd⟩:=I.dat ha hd
    obtain ⟨f0,f1,f2,f3,f4,f5⟩:=hf it (by simp)
    have st0:=st
    rw [← rv.len] at st0
    exact wpAny_pyNext_dict_end (I.ok.hd hc) st0 dd (List.getElem?_eq_none (by rw [rv.len]; exact hi)) fun h' eb=>⟨rfl,I.turned (t':=s.toks) (fun b o hb e=>eb b o hb e) f0 f1 f3 f4 f5⟩
  self:=fun _ _ _ _ _ st h=>wpAny_pyIter_keyiter st h
section
variable {X:Cx}
def zm1 (td:TE):TI:=fun σ H R=>td σ H fun x H1=>∃ a o kvs,x = .ref a∧H1 a=some (.frz o (.dK kvs))∧R (Itk a o kvs) H1
theorem zps {tg l:Expr} {td:TE} (hl:PE X l td):PI X tg l (zm1 td):=by
  intro pins s σ H R I h
  refine thn (hl pins s σ H _ I h) fun v s1 ⟨x,H1,I1,r1,a,o,kvs,ex,ha,q⟩=>?_
  subst ex
  obtain rfl:v=Value.ref a:=r1
  obtain ⟨t1,t2,t3⟩:=znZ I1 (.inl ⟨kvs,.inr ⟨o,ha⟩⟩)
  obtain ⟨ho,z,sm,vs,rv,dd⟩:=I1.hok a _ ha
  obtain ⟨ep,da⟩:=dd.dictAt
  obtain ⟨o',es0,g1,g2,g3,g4⟩:=id da
  rw [ho] at g1; cases g1
  refine wpAny_pyIter_dict t3 da ?_
  refine ⟨_,[s1.heap.objs.size],_,_,H1,rfl,I1.kept (t':=s1.toks) fun b u e=>Heap.get?_push_of_some _ e,zme a _ o kvs g3,⟨_,Heap.get?_push_size _ rfl,rfl,by rw [← rv.len]; rfl⟩,fun c hc=>?_,q⟩
  rw [List.mem_singleton.mp hc]
  exact I1.fpOk (Nat.le_refl _) (I1.hok.fresh (Nat.le_refl _))
end
end L2
namespace PM
open PySem L2
section
variable {K:Kx} {XO:XOT} {E:L2.St→XK}
def kD:Key→D
  | .inl i=>.int i
  | .inr x=>.str x
theorem zoi {F:Hp} (k:Key):Rep K F (kD k) (kV k):=by
  cases k with
  | inl i=>simp only [kD,Rep]; rfl
  | inr x=>simp only [kD,Rep]; rfl
def asFd:D→Option (List Key × List D)
  | .fd ks l=>some (ks,l)
  | _=>none
def zpw (md:En→R D) (δ:En):R (List D):=(md δ).bind fun d=>(R.of (asFd d)).bind fun p=>.ok (p.1.map kD)
theorem zlD {a:Addr} {o:Obj} {kvs:List (Key × V)} {P:Hp→Hp→Prop} (h:∀ F2 H2,P F2 H2→Same F2 H2∧H2 a=some (.frz o (.dK kvs))):IsIt K (Itk a o kvs) P ((kvs.map (·.1)).map kD):=by
  intro F2 H2 p i
  obtain ⟨s2,q⟩:=h F2 H2 p
  rw [List.getElem?_map,List.getElem?_map]
  refine ⟨fun d hd=>?_,fun hn=>?_⟩
  · cases e:kvs[i]? with
    | none=>rw [e] at hd; cases hd
    | some y =>
      rw [e] at hd
      cases hd
      refine ⟨⟨q,(List.getElem?_eq_some_iff.mp e).1⟩,fun x' H' z=>?_⟩
      obtain ⟨rfl,k,x,rfl,z1⟩:=z
      rw [e] at z1
      cases z1
      exact ⟨F2,.refl s2,zoi _⟩
  · cases e:kvs[i]? with
    | none=>exact ⟨q,List.getElem?_eq_none_iff.mp e⟩
    | some y=>rw [e] at hn; cases hn
theorem zpr {td:TE} {md:En→R D} (h:SE K XO E td md):SI K XO E (zm1 td) (zpw md):=by
  intro Λ F0 H0 F H σ δ R I a
  refine h Λ F0 H0 F H σ δ _ I (a.bind.imp fun d F1 H1 e1 a1 v r=>?_)
  cases d with
  | fd ks l =>
    simp only [Rep] at r
    obtain ⟨a,o,kvs,rfl,h1,rfl,h2⟩:=r
    exact ⟨a,o,kvs,rfl,e1.fh _ _ h1,a1 F1 H1 (.refl e1.fh) _ (zlD fun F2 H2 x=>⟨x.2,x.2 _ _ (x.1 _ _ h1)⟩)⟩
  | _=>exact a1.elim
def fGet (d k:D):Option D:=match asK k,d with | some k,.fd ks l=>getK ks l k | _,_=>none
theorem zow {td ty:TE} {md my:En→R D} (hd:SE K XO E td md) (hy:SE K XO E ty my):SE K XO E (znA td ty) (m2 fGet md my):=by
  intro Λ F0 H0 F H σ δ Q I a
  refine hd Λ F0 H0 F H σ δ _ I (a.bind.imp fun dd F1 H1 e1 a1 x rx=>?_)
  refine hy Λ F0 H0 F1 H1 σ δ _ (I.grow e1) (a1.bind.imp fun dk F2 H2 e2 a2 y ry=>?_)
  unfold fGet at a2
  cases z:asK dk with
  | none=>rw [z] at a2; exact a2.elim
  | some k =>
    rw [z] at a2
    cases dd with
    | fd ks l =>
      have rx':=Rep.mono e2.ff _ rx
      simp only [Rep] at rx'
      obtain ⟨p,o,kvs,rfl,h1,h2,h3⟩:=rx'
      obtain ⟨g1,g2⟩:=zlB (k:=k) h2 h3
      cases zi2 z ry
      dsimp only at a2
      cases q:getK ks l k with
      | none=>rw [q] at a2; exact a2.elim
      | some d =>
        rw [q] at a2
        obtain ⟨v,hv,r⟩:=g1 d q
        exact ⟨p,v,rfl,.inl ⟨kvs,k,.inr ⟨o,e2.fh _ _ h1⟩,rfl,hv.symm⟩,a2 F2 H2 (.refl e2.fh) _ r⟩
    | _=>exact a2.elim
end
end PM
namespace L2
open PySem PySem.Spec PyProof.Rows
section
variable {P:Program} {w:World} {K:PySem.W.Frag} {mg:Str→Option Value} {base:Heap} {CX:CXT} {k:Nat} {x:Str} {ps:List Str} {sp:Sp} {d:V}
end
section
variable {X:Cx} {CX:CXT} {k:Nat} {x:Str} {ps:List Str} {sp:Sp} {E:XK} {p pos:Pos} {a b:Expr} {ta tb:TE} {d:V}
end
section
variable {P:Program} {w:World} {K:PySem.W.Frag} {mg:Str→Option Value} {base:Heap} {d:V}
end
end L2
namespace PM
open PySem L2
section
variable {K:Kx} {F H:Hp}
end
section
variable {K:Kx} {XO:XOT} {E:L2.St→XK} {ta te:TE} {ma me:En→R D}
end
section
variable {K:Kx} {XO:XOT} {E:L2.St→XK} {F0 H0 F H:Hp} {σ:L2.St} {δ:En}
end
end PM
namespace L2
open PySem PySem.Spec PyProof.Rows
section
variable {prog:Program} {w:World} {A:Around} {E:Value→Shared→Prop} {s:Shared}
end
end L2
namespace L2
open PySem PySem.Spec PyProof.Rows
section
variable {X:Cx}
def znc (K:PySem.W.Frag):R2:=fun x y H Q=>∃ a b xs ys,x = .ref a∧y = .ref b∧SqT K H a xs∧SqT K H b ys∧xs.length + ys.length ≤ sizeLine ∧
  (xs = []→Q (.ref b) H)∧(xs ≠ []→ys = []→Q (.ref a) H)∧(xs ≠ []→ys ≠ []→∀ p,H p=none→Q (.ref p) (upd H p (.tup (xs ++ ys))))
theorem zk8:OpR X (binaryOp .Add) (znc X.K):=by
  intro pins s σ H x y v u Q I rx ry h
  obtain ⟨a,b,xs,ys,rfl,rfl,ha,hb,hz,q0,q1,q2⟩:=h
  by_cases hx:xs = []
  · cases rx
    cases ry
    obtain ⟨its,r1,p1,_⟩:=I.tuple ha
    obtain ⟨its2,r2,p2,_⟩:=I.tuple hb
    have e0:its = []:=r1.nil_iff.mpr hx
    obtain ⟨⟨cls,dd,data,sl⟩,ho,hc,n,hd⟩:=id p1
    obtain ⟨⟨cls2,dd2,data2,sl2⟩,ho2,hc2,n2,hd2⟩:=id p2
    simp only at hc hd hc2 hd2
    subst hc hd hc2 hd2
    exact concat_meets ⟨_,ho,rfl⟩ ⟨_,ho2,rfl⟩ noFill_tuple_add seq_tuple_add PySem.F.slot_tuple_add PySem.F.entry_tuple_add (PySem.F.args_tuple_add_2 _ _)
      (tuple_addW0 a b its.toArray its2.toArray n n2 dd dd2 sl sl2 (by simp [e0])) ⟨ho,ho2,⟨.ref b,H,I,rfl,q0 hx⟩⟩
  · exact zo6 pins s σ H _ _ v u Q I rx ry ⟨a,b,xs,ys,rfl,rfl,ha,hb,hx,hz,q1 hx,q2 hx⟩
end
end L2
namespace PM
open PySem L2
section
variable {K:Kx} {XO:XOT} {E:L2.St→XK}
def zks (x y:D):Option D:=match x,y with | .tup l,.tup r=>ifC (l.length + r.length ≤ sizeLine) (some (.tup (l ++ r))) none | _,_=>none
theorem zmn:SR K (znc K.f) zks:=by
  intro F H x y dx dy d Q s hx hy e q
  unfold zks at e
  split at e
  · rename_i l r
    unfold ifC at e
    split at e
    · rename_i hl
      cases e
      simp only [Top,Rep] at hx hy
      obtain ⟨a,vs,rfl,h1,h2⟩:=hx
      obtain ⟨b,ws,rfl,h3,h4⟩:=hy
      have lv:=h2.length
      have lw:=h4.length
      refine ⟨a,b,vs,ws,rfl,rfl,.of (s _ _ h1),.of (s _ _ h3),by omega,fun z=>?_,fun z1 z2=>?_,fun z1 z2 p hp=>?_⟩
      · have:l = []:=List.eq_nil_of_length_eq_zero (by rw [← lv,z]; rfl)
        subst this
        refine q _ F H (.refl s) ?_
        simp only [Rep]
        exact ⟨b,ws,rfl,h3,h4⟩
      · have:r = []:=List.eq_nil_of_length_eq_zero (by rw [← lw,z2]; rfl)
        subst this
        refine q _ F H (.refl s) ?_
        simp only [Rep]
        exact ⟨a,vs,rfl,h1,by rw [List.append_nil]; exact h2⟩
      · have x1:Ext F H (upd F p (.tup (vs ++ ws))) (upd H p (.tup (vs ++ ws))):=.new s hp
        refine q _ _ _ x1 ?_
        simp only [Rep]
        exact ⟨p,_,rfl,zal,(h2.mono x1.ff).append (h4.mono x1.ff)⟩
    · cases e
  · cases e
end
end PM
namespace L2
open PySem PySem.Spec PyProof.Rows
structure HasC (P:Program) (w:World) (K:PySem.W.Frag) (mg:Str→Option Value) (base:Heap) (CX:CXT) (k:Nat) (x:Str) (C:Addr) (ps:List Str) (sp:Sp):Prop where
  ex:∃ (f:Addr) (fd:FuncData),Mk K C f∧FnOk P w K mg base CX k f fd ps sp∧mg x=some (.ref C)∧Binds K fd ps []
structure HasM (P:Program) (w:World) (K:PySem.W.Frag) (mg:Str→Option Value) (base:Heap) (CX:CXT) (k:Nat) (m:Str) (C:Addr) (ps:List Str) (sp:Sp):Prop where
  ex:∃ (f:Addr) (fd:FuncData),Cls K C∧Meth K C m f∧FnOk P w K mg base CX k f fd ps sp∧Binds K fd ps []
section
variable {X:Cx} {CX:CXT} {k:Nat} {x m:Str} {C:Addr} {ps:List Str} {sp:Sp} {E:XK} {p pos apos:Pos} {e o:Expr} {es:List Expr} {t:TA} {ta:TE}
theorem zoZ (G:HasC X.prog X.w X.K X.mg X.base CX k x C ps sp) (hr:Room (k + 1) X.A) (hg:Gl X x) (hx:zez CX X E) (ha:PA X (e :: es) t)
    (hdb:(x == ("__debug__" : Str))=false:=by decide) (he:starEach (e :: es) X.env=(false,eval e X.env) :: starEach es X.env:=by rfl) (hpl:(backTo pos (starEach es X.env)).any (·.1)=false:=by rfl) :
    PE X (.Call (.Name x p) (e :: es) [] pos) (zoB C sp [] E t):=by
  obtain ⟨f,fd,M,F,hm,hb⟩:=G.ex
  exact zoQ M F hr hg hm hb .nil hx ha hdb he hpl
theorem ziY {pl:Sem Bool} (G:HasM X.prog X.w X.K X.mg X.base CX k m C ps sp) (hr:Room k X.A) (hx:zez CX X E) (ho:PE X o ta) (ha:PA X (e :: es) t)
    (hst:starEach (e :: es) X.env=(false,eval e X.env) :: starEach es X.env:=by rfl) (hpl:(backTo pos (starEach es X.env)).any (·.1)=false:=by rfl)
    (ht:eval (.Call (.Attribute o m apos) (e :: es) [] pos) X.env=(eval o X.env >>= fun ov=>standAt apos.atName >>= fun _=>holding [ov] (getMethod ov m pl) >>= fun q=>callWith pos q.1 q.2 (backTo pos (starEach (e :: es) X.env)) (backToKw pos (keywordEach [] X.env))):=by rfl) :
    PE X (.Call (.Attribute o m apos) (e :: es) [] pos) (zlY C m sp [] E ta t):=by
  obtain ⟨f,fd,c,hm,F,hb⟩:=G.ex
  exact zoJ (pl:=pl) ho c hm F hr hb .nil hx ha hst hpl ht
end
end L2
namespace PM
open PySem L2
section
variable {K:Kx} {XO:XOT} {E:L2.St→XK} {F0 H0 F H:Hp} {σ:L2.St} {δ:En}
end
end PM
namespace PM
open PySem L2
section
variable {K:Kx} {XO:XOT} {E:L2.St→XK} {F0 H0 F H F1 H1 F' H':Hp}
end
end PM
namespace L2
open PySem PySem.Spec PyProof.Rows
structure MethAt (K:PySem.W.Frag) (C:Addr) (m qual:Str) (st:Stmt) (f:Addr) (fd:FuncData):Prop where
  at_:PySem.W.findIn K (.ref C) m=some (some (.ref f))
  isf:PySem.W.isFn K (.ref f)=true
  fn:Fun K m qual st f fd
theorem methAt_mk {K:PySem.W.Frag} {C:Addr} {m qual:Str} {st:Stmt} {f:Addr} {oc:Value} {od an:Option Addr} {osl:Array (Option Value)} {kV doc pm cdv ct:Value} (a:PySem.W.findIn K (.ref C) m=some (some (.ref f))) (i:PySem.W.isFn K (.ref f)=true)
    (l:K.lookup f=some ⟨oc,od,.func (PySem.W.fnOf m qual (zeh st) (zdb st) (zao st) .none kV doc pm an cdv ct),osl⟩) (c:PySem.W.codeIn K cdv qual=true) (k:PySem.W.keepIn K (.ref f)=true):∃ f fd,MethAt K C m qual st f fd :=
  ⟨f,_,a,i,zmD l c k⟩
section
variable {P:Program} {w:World} {K:PySem.W.Frag} {mg:Str→Option Value} {base:Heap} {CX:CXT} {k:Nat} {x m qual:Str} {C:Addr} {st:Stmt} {f:Addr} {fd:FuncData} {ps:List Str} {sp:Sp}
theorem MethAt.hasM (D:MethAt K C m qual st f fd) (c:Cls K C) (ok:FnOk P w K mg base CX k f fd ps sp) (b:Binds K fd ps []):HasM P w K mg base CX k m C ps sp:=⟨f,fd,c,⟨D.at_,D.isf,D.fn.kp⟩,ok,b⟩
theorem MethAt.hasC (D:MethAt K C "__init__" qual st f fd) (mk:PySem.W.makesIn K C=true) (kp:PySem.W.keepIn K (.ref C)=true) (hm:mg x=some (.ref C)) (ok:FnOk P w K mg base CX k f fd ps sp) (b:Binds K fd ps []):HasC P w K mg base CX k x C ps sp:=⟨f,fd,⟨mk,D.at_,D.isf,kp⟩,ok,hm,b⟩
end
end L2
namespace L2
open PySem PySem.Spec PyProof.Rows
section
variable {X:Cx} {CX:CXT} {k:Nat} {x:Str} {C:Addr} {ps:List Str} {sp:Sp} {E:St→XK} {p pos:Pos} {e:Expr} {es:List Expr} {t:TA}
end
end L2
namespace PM
open PySem L2
section
variable {K:Kx} {XO:XOT} {E:L2.St→XK} {F0 H0 F H F1 H1 F' H':Hp}
end
end PM
namespace L2
open PySem PySem.Spec PyProof.Rows
section
variable {prog:Program} {w:World} {A:Around} {E:Value→Shared→Prop} {s:Shared}
end
section
variable {X:Cx}
end
end L2
namespace PM
open PySem L2
section
variable {K:Kx} {XO:XOT} {E:L2.St→XK}
end
end PM
namespace L2
open PySem PySem.Spec PyProof.Rows
section
variable {prog:Program} {w:World} {A:Around} {E:Value→Shared→Prop} {s:Shared}
end
section
variable {X:Cx}
end
end L2
namespace PM
open PySem L2
section
variable {K:Kx} {XO:XOT} {E:L2.St→XK}
end
end PM
namespace L2
open PySem PySem.Spec PyProof.Rows
end L2
namespace L2
open PySem PySem.Spec PyProof.Rows
section
variable {prog:Program} {w:World} {K:Type} [DecidableEq K] {knd:KeyKind prog w K} {A:Around} {E:Value→Shared→Prop} {s:Shared}
end
section
variable {prog:Program} {w:World} {K:Type} [DecidableEq K] {knd:KeyKind prog w K} {A:Around} {E:Value→Shared→Prop} {s:Shared}
end
section
variable {prog:Program} {w:World} {K:Type} [DecidableEq K] {knd:KeyKind prog w K} {A:Around} {E:Value→Shared→Prop} {s:Shared}
end
end L2
namespace L2
open PySem PySem.Spec PyProof.Rows
theorem zln:∀ {vs:List V} {us:List Value},vs.length=us.length→(∀ (i:Nat) (x:V) (y:Value),vs[i]?=some x→us[i]?=some y→RelV x y)→Vals vs us
  | [],[],_,_=>.nil
  | [],_ :: _,h,_=>by simp at h
  | _ :: _,[],h,_=>by simp at h
  | x :: vs,y :: us,h,r=>.cons (r 0 x y rfl rfl) (zln (by simpa using h) fun i a b ha hb=>r (i + 1) a b (by simpa using ha) (by simpa using hb))
section
variable {X:Cx}
end
end L2
namespace PM
open PySem L2
section
variable {K:Kx} {XO:XOT} {E:L2.St→XK}
def zqe:D→Option D
  | .dct ks _=>some (.lst (ks.map kD))
  | _=>none
theorem zlH {F:Hp}:∀ ks:List Key,RepL K F (ks.map kD) (ks.map kV)
  | []=>.nil
  | k :: ks=>.cons (zoi k) (zlH ks)
def zqh (f:D→Option D) (md:En→R D) (δ:En):R D:=(md δ).bind fun d=>R.of (f d)
end
end PM
namespace PM
open PySem L2
section
variable {K:Kx} {XO:XOT} {E:St→XK} {ta tb te:TE} {ma mb me:En→R D} {t u:TS} {m n:En→O} {Λ:List (Nat × Addr × HO)} {F0 H0 F H F' H' F1 H1:Hp} {σ:St} {δ:En} {Dn:Ends}
end
end PM
namespace PM
open PySem L2
section
variable {K:Kx} {XO:XOT} {E:St→XK} {ta tb te:TE} {ma mb me:En→R D} {t u:TS} {m n:En→O} {Λ:List (Nat × Addr × HO)} {F0 H0 F H F' H' F1 H1:Hp} {σ:St} {δ:En} {Dn:Ends}
end
end PM
namespace PM
open PySem L2
section
variable {K:Kx} {XO:XOT} {E:St→XK} {ta tb te to:TE} {ma mb me mo:En→R D} {t u:TS} {m n:En→O} {Λ:List (Nat × Addr × HO)} {F0 H0 F H F' H' F1 H1:Hp} {σ:St} {δ:En} {Dn:Ends}
end
end PM
namespace PM
open PySem L2
section
variable {K:Kx} {XO:XOT} {E:St→XK} {te ti tj:TE} {me mi mj:En→R D} {Λ:List (Nat × Addr × HO)} {F0 H0 F H:Hp} {σ:St} {δ:En} {Dn:Ends}
end
end PM
namespace L2
open PySem PySem.Spec PyProof.Rows
section
variable {X:Cx}
end
end L2
namespace PM
open PySem L2
section
variable {K:Kx}
end
end PM
namespace L2
open PySem PySem.Spec PyProof.Rows
def zob (tk tv:TE):TE:=fun σ H Q=>∀ p,H p=none→zl5 [(tk,tv)] σ (upd H p (.dT [])) fun ps H2=>H2 p=some (.dT [])∧∃ (ks:List Key) (b:Addr) (y:V),ps = [(.ref b,y)]∧H2 b=some (.tup (ks.map kV))∧Q (.ref p) (upd H2 p (.dT [(ks,y)]))
theorem znL {X:Cx} {pos:Pos} {k v:Expr} {tk tv:TE} (hu:X.A.units < cLine) (hk:PE X k tk) (hv:PE X v tv):PE X (.Dict [some k] [v] pos) (zob tk tv):=by
  intro pins s σ H Q I q
  have hn:=I.hok.fresh (Nat.le_refl s.heap.objs.size)
  have I1:=I.laid (a:=s.heap.objs.size) (o:=.dT []) (h':=s.heap.push { cls:=.type "dict",data:=.dict #[] }) (t':=s.toks) (fun _ _ q=>Heap.get?_push_of_some _ q) (Nat.le_refl _) (zns s.heap I.big)
  refine wpAny_Dict_any rfl rfl (by simp) (by show 1 ≤ 15; decide) (thn ((znC hk hv zo8) pins _ σ _ _ I1 (q _ hn)) fun ws s2 ⟨ps,H2,I2,rel,e,ks,b,y,ep,eb,q2⟩=>?_)
  subst ep
  cases rel with
  | @cons pa pb as bs h t =>
    cases t
    obtain ⟨u,r⟩:=pb
    obtain ⟨h1,h2⟩:=h
    cases (show u=Value.ref b from h1)
    obtain ⟨z,hd,xs,rel,dd⟩:=zpU I2.hok e
    cases rel
    unfold storeAll
    rw [List.forIn_cons]
    refine wpAny_bind (wpAny_bind (wpAny_dictSet_heap (knd:=tupleKind (zbs X.prog X.w)) (hsz:=Nat.zero_le _) hu (zg7 I2.hok eb) dd fun h' dd' hs=>wpAny_pure ?_))
    show wpAny _ _ (forIn [] _ _) _ _ _
    rw [List.forIn_nil]
    refine wpAny_pure ⟨.ref s.heap.objs.size,_,?_,rfl,q2⟩
    obtain ⟨q,es,ep,hq,g2,g3,g4,_,g5⟩:=dd'
    refine zjc I2 (by rw [e]; exact True.intro) hs ⟨q,hq⟩ ⟨by show 1 ≤ sizeLine; decide,hd,_,KT.keeps (H:=H2) (.cons ⟨rfl,eb,h2⟩ .nil) fun c ys ec=>?_,q,es,ep,hq,g2,g3,g4,g5⟩
    rw [zag (zp0 ec e (fun z=>nomatch z))]
    exact ec
end L2
namespace PM
def lexB (eq lt:Nat→Bool):Nat→Nat→Bool
  | 0,0=>false
  | 0,_ + 1=>true
  | _ + 1,0=>false
  | n + 1,m + 1=>if eq 0=true then lexB (fun j=>eq (j + 1)) (fun j=>lt (j + 1)) n m else lt 0
end PM
namespace L2
open PySem PySem.Spec PyProof.Rows
def LtAt (A:Around) (s:Shared) (u v:Value) (b:Bool):Prop :=
  ∀ (prog:Program) (w:World) (E:Value→Shared→Prop) (Q:Value→Shared→Prop),Q (.bool b) s→wpAny (model prog w) A (richCompare .Lt u v) Q E s
section
variable {prog:Program} {w:World} {A:Around} {E:Value→Shared→Prop} {s:Shared}
theorem zjO {i j:Int} {t u:Tok}:LtAt A s (.int i t) (.int j u) (decide (i < j)):=fun _ _ _ _ h=>zf7 h
theorem zc7 {a:Addr} {xs:Array Value} (x:IsTup s.heap a xs):s.TypeIs (.ref a) "tuple":=by
  obtain ⟨o,e,c,_⟩:=x
  exact ⟨o,e,c⟩
theorem zio {xs ys:List Value} {a b:Addr} {eq lt:Nat→Bool} {P:Fin→Shared→Prop} (hx:IsTup s.heap a xs.toArray) (hy:IsTup s.heap b ys.toArray) (he:∀ j u v,xs[j]?=some u→ys[j]?=some v→SeqAt.EqAt A s u v (eq j))
    (hl:∀ j u v,xs[j]?=some u→ys[j]?=some v→eq j=false→LtAt A s u v (lt j)) (h:P (.done (.ret (.bool (PM.lexB eq lt xs.length ys.length)))) s):wpAny (model prog w) A (Builtin.«tuple.__lt__» ⟨[.ref a,.ref b],[]⟩) P E s:=by
  have hTb:=zc7 hy
  obtain ⟨oa,hoa,_,na,hda⟩:=hx
  obtain ⟨ob,hob,_,nb,hdb⟩:=hy
  show wpAny _ _ (isInstance (.ref b) (.type "tuple") >>= _) _ _ s
  refine wpAny_bind (wpAny_isInstance hTb isSubtype_tuple_tuple ?_)
  simp only [Bool.not_true,Bool.false_eq_true,if_false]
  refine wpAny_bind (wpAny_tupleItemsOf hoa hda ?_)
  refine wpAny_bind (wpAny_tupleItemsOf hob hdb ?_)
  refine wpAny_bind ?_
  refine wpAny_forIn_list _
    (fun rest r s'=>r.1=none∧s'=s∧∃ (xs' ys':List Value) (eq' lt':Nat→Bool),rest=List.zip xs' ys'∧(∀ j u v,xs'[j]?=some u→ys'[j]?=some v→SeqAt.EqAt A s u v (eq' j))∧(∀ j u v,xs'[j]?=some u→ys'[j]?=some v→eq' j=false→LtAt A s u v (lt' j)) ∧
      PM.lexB eq' lt' xs'.length ys'.length=PM.lexB eq lt xs.length ys.length∧(decide (xs'.length < ys'.length))=decide (xs.length < ys.length))
    _ ?_ ?_ _ _ ⟨rfl,rfl,xs,ys,eq,lt,rfl,he,hl,rfl,rfl⟩
  · rintro ⟨u,v⟩ rest r s' ⟨hr,rfl,xs',ys',eq',lt',hz,he',hl',hdec,hlen⟩
    cases xs' with
    | nil=>simp at hz
    | cons x xs'' =>
      cases ys' with
      | nil=>simp at hz
      | cons y ys'' =>
        simp only [List.zip_cons_cons,List.cons.injEq,Prod.mk.injEq] at hz
        obtain ⟨⟨rfl,rfl⟩,rfl⟩:=hz
        refine wpAny_bind (he' 0 u v rfl rfl _ _ _ _ ?_)
        cases hk:eq' 0 with
        | true =>
          simp only [Bool.not_true,Bool.false_eq_true,if_false]
          refine wpAny_pure ⟨rfl,rfl,xs'',ys'',fun j=>eq' (j + 1),fun j=>lt' (j + 1),rfl,fun j u v h1 h2=>he' (j + 1) u v h1 h2,fun j u v h1 h2=>hl' (j + 1) u v h1 h2,?_,by simpa using hlen⟩
          rw [← hdec]
          simp [PM.lexB,hk]
        | false =>
          simp only [Bool.not_false,if_true]
          have hf:PM.lexB eq lt xs.length ys.length=lt' 0:=by rw [← hdec]; simp [PM.lexB,hk]
          rw [hf] at h
          refine wpAny_bind (wpAny_rule ?_)
          refine wpAny_bind (hl' 0 u v rfl rfl hk _ _ _ _ ?_)
          exact wpAny_bind (wpAny_pure (wpAny_pure (wpAny_pure h)))
  · rintro ⟨r1,r2⟩ s' ⟨hr,rfl,xs',ys',eq',lt',hz,he',hl',hdec,hlen⟩
    simp only at hr
    subst hr
    refine wpAny_pure ?_
    have hfin:decide (xs.length < ys.length)=PM.lexB eq lt xs.length ys.length:=by
      rw [← hdec,← hlen]
      cases xs' with
      | nil=>cases ys' with
        | nil=>simp [PM.lexB]
        | cons _ _=>simp [PM.lexB]
      | cons _ _=>cases ys' with
        | nil=>simp [PM.lexB]
        | cons _ _=>simp at hz
    show P (.done (.ret (.bool (decide (xs.toArray.size < ys.toArray.size))))) s'
    rw [List.size_toArray,List.size_toArray,hfin]; exact h
theorem zkF {xs ys:List Value} {a b:Addr} {eq lt:Nat→Bool} (hu:A.units < cLine) (hx:IsTup s.heap a xs.toArray) (hy:IsTup s.heap b ys.toArray) (he:∀ j u v,xs[j]?=some u→ys[j]?=some v→SeqAt.EqAt A.in1 s u v (eq j))
    (hl:∀ j u v,xs[j]?=some u→ys[j]?=some v→eq j=false→LtAt A.in1 s u v (lt j)):LtAt A s (.ref a) (.ref b) (PM.lexB eq lt xs.length ys.length):=fun prog w E Q h =>
  wpAny_richCompare_same_room (op:=.Lt) (zc7 hx) (zc7 hy) F.slot_tuple_lt (wpAny_call_entry F.slot_tuple_lt (zc7 hx) F.entry_tuple_lt (zio hx hy he hl ⟨_,rfl,(fun e=>nomatch e),h⟩) (F.args_tuple_lt_2 _ _)) hu
end
end L2
namespace L2
open PySem PySem.Spec PyProof.Rows
def ltP:Nat→PyData→PyData→Bool
  | 0,.int i,.int j=>decide (i < j)
  | n + 1,.int i,.int j=>decide (i < j)
  | n + 1,.tuple l,.tuple r=>PM.lexB (fun j=>PyData.eqv (l.getD j .none) (r.getD j .none)) (fun j=>ltP n (l.getD j .none) (r.getD j .none)) l.length r.length
  | _,_,_=>false
def cmpP:Nat→PyData→PyData→Bool
  | 0,.int _,.int _=>true
  | n + 1,.int _,.int _=>true
  | n + 1,.tuple l,.tuple r=>(List.range (min l.length r.length)).all fun j=>cmpP n (l.getD j .none) (r.getD j .none)
  | _,_,_=>false
theorem zdr:∀ {ds:List PyData} {j:Nat} {d:PyData},PyData.canLayAll0 ds=true→ds[j]?=some d→d.canLay0=true
  | [],j,d,_,h=>by simp at h
  | x :: ds,0,d,h,e=>by
    simp at e; subst e
    simp only [PyData.canLayAll0,Bool.and_eq_true] at h
    exact h.1
  | x :: ds,j + 1,d,h,e=>by
    simp only [PyData.canLayAll0,Bool.and_eq_true] at h
    exact zdr h.2 (by simpa using e)
theorem zd7:∀ {ds:List PyData} {j:Nat} {d:PyData},ds[j]?=some d→d.depth ≤ PyData.depthAll ds
  | [],j,d,h=>by simp at h
  | x :: ds,0,d,e=>by
    simp at e; subst e
    simp only [PyData.depthAll]; omega
  | x :: ds,j + 1,d,e=>by
    have:=zd7 (ds:=ds) (j:=j) (d:=d) (by simpa using e)
    simp only [PyData.depthAll]; omega
theorem zee {h:Heap}:∀ {vs:List Value} {ds:List PyData} {as:List Addr},ReadsAll h vs ds as→vs.length=ds.length∧∀ (j:Nat) (v:Value) (d:PyData),vs[j]?=some v→ds[j]?=some d→∃ bs,Reads h v d bs
  | _,_,_,.nil=>⟨rfl,fun j v d h _=>by simp at h⟩
  | _,_,_,.cons r t=>by
    obtain ⟨h1,h2⟩:=zee t
    refine ⟨by simp [h1],fun j v d e1 e2=>?_⟩
    cases j with
    | zero=>simp at e1 e2; subst e1 e2; exact ⟨_,r⟩
    | succ j=>exact h2 j v d (by simpa using e1) (by simpa using e2)
theorem zkJ:∀ (n:Nat) (da db:PyData) (A:Around) (s:Shared) (a b:Value) (as bs:List Addr),Reads s.heap a da as→Reads s.heap b db bs→cmpP n da db=true→da.canLay0=true→db.canLay0=true→da.depth ≤ 8→db.depth ≤ 8→A.units + 16 + n < cLine →
    LtAt A s a b (ltP n da db):=by
  intro n
  induction n with
  | zero =>
    intro da db A s a b as bs ra rb c _ _ _ _ _
    cases ra with
    | int i t=>cases rb with
      | int j u=>exact zjO
      | _=>cases c
    | _=>cases c
  | succ n ih =>
    intro da db A s a b as bs ra rb c la lb ha hb hu
    cases ra with
    | int i t=>cases rb with
      | int j u=>exact zjO
      | _=>cases c
    | tuple a1 a2 a3 a4=>cases rb with
      | tuple b1 b2 b3 b4 =>
        rename_i a0 o0 vs0 n0 xs b0 o1 vs1 n1 ys
        obtain ⟨l1,g1⟩:=zee a4
        obtain ⟨l2,g2⟩:=zee b4
        have c':((List.range (min xs.length ys.length)).all fun j=>cmpP n (xs.getD j .none) (ys.getD j .none))=true:=c
        simp only [PyData.canLay0] at la lb
        simp only [PyData.depth] at ha hb
        have i1:A.in1.units=A.units + 1:=Around.in1_units ..
        have get:∀ (j:Nat) (u v:Value),vs0.toList[j]?=some u→vs1.toList[j]?=some v→∃ x y cs ds,xs[j]?=some x∧ys[j]?=some y∧Reads s.heap u x cs∧Reads s.heap v y ds∧cmpP n x y=true:=fun j u v e1 e2=>by
          have j1:=(List.getElem?_eq_some_iff.mp e1).1
          have j2:=(List.getElem?_eq_some_iff.mp e2).1
          rw [l1] at j1
          rw [l2] at j2
          have x1:xs[j]?=some xs[j]:=List.getElem?_eq_getElem j1
          have x2:ys[j]?=some ys[j]:=List.getElem?_eq_getElem j2
          obtain ⟨cs,r1⟩:=g1 j u _ e1 x1
          obtain ⟨ds,r2⟩:=g2 j v _ e2 x2
          have cj:=List.all_eq_true.mp c' j (List.mem_range.mpr (by omega))
          rw [List.getD_eq_getElem?_getD,List.getD_eq_getElem?_getD,x1,x2] at cj
          exact ⟨_,_,cs,ds,x1,x2,r1,r2,cj⟩
        have key:=zkF (s:=s) (A:=A) (xs:=vs0.toList) (ys:=vs1.toList) (a:=a0) (b:=b0) (eq:=fun j=>PyData.eqv (xs.getD j .none) (ys.getD j .none)) (lt:=fun j=>ltP n (xs.getD j .none) (ys.getD j .none)) (by omega) ⟨_,a1,a2,_,by simpa using a3⟩ ⟨_,b1,b2,_,by simpa using b3⟩
          (fun j u v e1 e2=>by
            obtain ⟨x,y,cs,ds,x1,x2,r1,r2,cj⟩:=get j u v e1 e2
            have:=SeqAt.eqAt_reads x y A.in1 s u v cs ds r1 r2 (zdr la x1) (zdr lb x2) (by have:=zd7 x1; have:=zd7 x2; omega)
            simpa only [List.getD_eq_getElem?_getD,x1,x2,Option.getD_some] using this)
          (fun j u v e1 e2 _=>by
            obtain ⟨x,y,cs,ds,x1,x2,r1,r2,cj⟩:=get j u v e1 e2
            have:=ih x y A.in1 s u v cs ds r1 r2 cj (zdr la x1) (zdr lb x2) (by have:=zd7 x1; omega) (by have:=zd7 x2; omega) (by omega)
            simpa only [List.getD_eq_getElem?_getD,x1,x2,Option.getD_some] using this)
        rw [l1,l2] at key
        exact key
      | _=>cases c
    | _=>cases c
end L2
namespace PM
open PySem L2
def ltD (x y:D):Bool:=ltP 8 (toPy 8 x) (toPy 8 y)
def minD:List D→D→D
  | [],m=>m
  | t :: l,m=>minD l (if ltD t m=true then t else m)
theorem zit:∀ (l:List D) (m x:D),minD (l ++ [x]) m=if ltD x (minD l m)=true then x else minD l m
  | [],_,_=>rfl
  | t :: l,m,x=>by
    show minD (l ++ [x]) _=_
    rw [zit l]
    rfl
def cmpD (l:List D):Bool:=l.all fun x=>zbw 8 x && l.all fun y=>cmpP 8 (toPy 8 x) (toPy 8 y)
theorem zfw (t:D) (ts:List D):∀ k,k ≤ ts.length→(t :: ts).getD (argBest (fun i j=>ltD ((t :: ts).getD i .non) ((t :: ts).getD j .non)) k) .non=minD (ts.take k) t
  | 0,_=>rfl
  | k + 1,h=>by
    have ih:=zfw t ts k (by omega)
    have ex:ts.take (k + 1)=ts.take k ++ [(t :: ts).getD (k + 1) .non]:=by
      rw [List.take_succ,List.getD_cons_succ,List.getD_eq_getElem?_getD,List.getElem?_eq_getElem (by omega)]
      rfl
    rw [ex,zit,← ih]
    show (t :: ts).getD (if ltD ((t :: ts).getD (k + 1) .non) ((t :: ts).getD (argBest (fun i j=>ltD ((t :: ts).getD i .non) ((t :: ts).getD j .non)) k) .non)=true then k + 1 else argBest (fun i j=>ltD ((t :: ts).getD i .non) ((t :: ts).getD j .non)) k) .non=_
    split <;> rfl
end PM
namespace L2
open PySem PySem.Spec PyProof.Rows PM
section
variable {X:Cx} {ca:Nat→Addr} {an:Nat→Str}
def zp6 (K:Kx):List V→Hp→VK→Prop:=fun xs H Q=>∃ (p:Addr) (F:Hp) (vs:List V) (d:D) (l:List D),xs = [.ref p]∧Rd H p (.lst vs)∧Same F H∧RepL K F (d :: l) vs∧cmpD (d :: l)=true ∧
  ∀ (i:Nat) (v:V),vs[i]?=some v→(d :: l).getD i .non=minD l d→Q v H
theorem zl0 (hu:X.A.units + 64 < cLine) (hc:X.calm=true):zey X (.builtin "min") (zp6 ⟨X.K,ca,an⟩):=by
  intro pins s σ H xs us Q I r h
  obtain ⟨p,F,vs,t,ts,rfl,hq,sm,hr,hcm,q⟩:=h
  obtain ⟨u,rfl,rx⟩:=zfn r
  cases rx
  obtain ⟨z,its,n,rv,e⟩:=hq.ok I.hok
  have hl:=hr.length
  have hl2:=rv.length
  have get:∀ (i:Nat) (w:Value),its[i]?=some w→∃ d,(t :: ts)[i]?=some d∧zbw 8 d=true∧∃ as,Reads s.heap w (toPy 8 d) as:=fun i w hw=>by
    have hi:=(List.getElem?_eq_some_iff.mp hw).1
    have hd:(t :: ts)[i]?=some (t :: ts)[i]:=List.getElem?_eq_getElem (by omega)
    obtain ⟨v,hv,rp⟩:=hr.get hd
    obtain ⟨u',hu',ru⟩:=rv.get hv
    rw [hw] at hu'
    cases hu'
    have pl:=List.all_eq_true.mp hcm _ (List.getElem_mem (by omega:i < (t :: ts).length))
    simp only [Bool.and_eq_true] at pl
    exact ⟨_,hd,pl.1,zjK I sm 8 _ v w pl.1 rp ru⟩
  have isl:s.heap.IsList p its.toArray:=⟨_,e,rfl,n,rfl⟩
  have plt:p < s.heap.objs.size:=Heap.lt_size e
  refine zh7 (wpAny_pyIter_list isl ?_)
  refine ⟨s.heap.objs.size,[s.heap.objs.size,p] ++ List.range s.heap.objs.size,[s.heap.objs.size],its.toArray.size,_,_,(fun i j=>ltD ((t :: ts).getD i .non) ((t :: ts).getD j .non)),rfl,ziz (Walks.list (A:=X.A.in1) (I.ok.hd hc) s.heap.objs.size p (Nat.ne_of_lt plt) its.toArray) (List.range s.heap.objs.size) s.heap ?_,⟨⟨⟨_,Heap.get?_push_size _ rfl,rfl,rfl⟩,isl.push _⟩,fun b _ o eo=>Heap.get?_push_of_some _ eo⟩,?_,?_,?_,?_⟩
  · intro b hb hm
    rw [List.mem_singleton.mp hm] at hb
    exact absurd (List.mem_range.mp hb) (Nat.lt_irrefl _)
  · intro b hb
    show b < (s.heap.push _).objs.size
    rw [Heap.size_push]
    rcases List.mem_append.mp hb with hb | hb
    · rcases List.mem_cons.mp hb with rfl | hb
      · exact Nat.lt_succ_self _
      · rw [List.mem_singleton.mp hb]; exact Nat.lt_succ_of_lt plt
    · exact Nat.lt_succ_of_lt (List.mem_range.mp hb)
  · rw [List.size_toArray,← hl2,hl]; exact Nat.succ_pos _
  · intro k i j vi vj s' Q' E' st hi hj hQ
    have hi':its[i]?=some vi:=by simpa using hi
    have hj':its[j]?=some vj:=by simpa using hj
    obtain ⟨di,e1,p1,as,r1⟩:=get i vi hi'
    obtain ⟨dj,e2,p2,bs,r2⟩:=get j vj hj'
    have kp:∀ b o,s.heap.get? b=some o→s'.heap.get? b=some o:=fun b o eo=>st.2 b (List.mem_range.mpr (Heap.lt_size eo)) o eo
    obtain ⟨l1,m1⟩:=zfR 8 di p1
    obtain ⟨l2,m2⟩:=zfR 8 dj p2
    have cm:cmpP 8 (toPy 8 di) (toPy 8 dj)=true:=by
      have:=List.all_eq_true.mp hcm di (List.mem_of_getElem? e1)
      simp only [Bool.and_eq_true] at this
      exact List.all_eq_true.mp this.2 dj (List.mem_of_getElem? e2)
    have:=zkJ 8 (toPy 8 di) (toPy 8 dj) X.A.in1 s' vi vj as bs (Reads.keeps kp r1) (Reads.keeps kp r2) cm l1 l2 m1 m2 (by rw [Around.in1_units]; omega)
    refine this _ _ _ _ ?_
    have g1:(t :: ts).getD i .non=di:=by rw [List.getD_eq_getElem?_getD,e1]; rfl
    have g2:(t :: ts).getD j .non=dj:=by rw [List.getD_eq_getElem?_getD,e2]; rfl
    simp only [g1,g2] at hQ
    exact hQ
  · intro v h' tk hP hk
    have hP':its.toArray[argBest (fun i j=>ltD ((t :: ts).getD i .non) ((t :: ts).getD j .non)) (its.toArray.size - 1)]?=some v:=hP
    rw [List.getElem?_toArray,List.size_toArray,← hl2,hl,List.length_cons,Nat.add_sub_cancel] at hP'
    have key:=zfw t ts ts.length (Nat.le_refl _)
    rw [List.take_length] at key
    obtain ⟨di,e1,_⟩:=get _ v hP'
    obtain ⟨x,hx,_⟩:=hr.get e1
    obtain ⟨u',hu',ru⟩:=rv.get hx
    rw [hP'] at hu'
    cases hu'
    refine ⟨x,H,I.kept (t':=tk) (fun b o eo=>hk b o (fun hm=>?_) (Heap.get?_push_of_some _ eo)),ru,q _ x hx key⟩
    rw [List.mem_singleton.mp hm] at eo
    exact absurd (Heap.lt_size eo) (Nat.lt_irrefl _)
end
end L2
namespace PM
open PySem L2
abbrev BP:=Int × List (Int × Int)
def zb9 (p:Int × Int):D:=.tup [.int p.1,.int p.2]
def encB (b:BP):D:=.tup [.int b.1,.tup (b.2.map zb9)]
def minB:List BP→BP→BP
  | [],m=>m
  | t :: l,m=>minB l (if ltD (encB t) (encB m)=true then t else m)
theorem zoa:∀ (l:List BP) (m:BP),minD (l.map encB) (encB m)=encB (minB l m)
  | [],_=>rfl
  | t :: l,m=>by
    show minD (l.map encB) (if ltD (encB t) (encB m)=true then encB t else encB m)=encB (minB l (if ltD (encB t) (encB m)=true then t else m))
    rw [← zoa l]
    congr 1
    split <;> rfl
def cutO (rest:List Int) (k:Nat):List Int:=(rest.drop 1).take (k - 1) ++ rest.drop (k + 1)
def bwW (d:Int→Int→Int) (f:List Int→BP) (rest:List Int) (k:Nat):BP:=(d (rest.getD 0 0) (rest.getD k 0) + (f (cutO rest k)).1,(rest.getD 0 0,rest.getD k 0) :: (f (cutO rest k)).2)
def least:List BP→BP
  | []=>(0,[])
  | b :: l=>minB l b
def bpF (d:Int→Int→Int):Nat→List Int→BP
  | 0,_=>(0,[])
  | m + 1,rest=>least ((List.range (rest.length - 1)).map fun j=>bwW d (bpF d m) rest (j + 1))
def cn:Nat→Nat
  | 0=>0
  | m + 1=>1 + (2 * m + 1) * cn m
def zlm (L:D) (d:Int→Int→Int) (rest:List Int):Prop:=∀ i ∈ rest,∀ j ∈ rest,∃ row,oIxL L (.int i)=some row∧oIxL row (.int j)=some (.int (d i j))
theorem zjq {rest:List Int} {k:Nat}:∀ i ∈ cutO rest k,i ∈ rest:=fun i h=>by
  rcases List.mem_append.mp h with z | z
  · exact List.mem_of_mem_drop (List.mem_of_mem_take z)
  · exact List.mem_of_mem_drop z
theorem zmQ {rest:List Int} {k:Nat} (h1:1 ≤ k) (h2:k < rest.length):(cutO rest k).length + 2=rest.length:=by
  simp only [cutO,List.length_append,List.length_take,List.length_drop]; omega
structure KPs (K:Kx) (c:Nat) (d:Int→Int→Int) (L:D) (F H:Hp) (x kp dx:Addr) (lv:V) (kvs:List (List Key × V)):Prop where
  fh:Same F H
  hx:H x=some (.ins (K.ca c) dx [("lengths",lv),("known",.ref kp)])
  hk:H kp=some (.dT kvs)
  fx:F x=none
  fk:F kp=none
  rl:Rep K F L lv
  good:∀ e ∈ kvs,∃ ks:List Int,e.1=ks.map Sum.inl∧Rep K F (encB (bpF d (ks.length / 2) ks)) e.2
  emp:∃ v,valV kvs []=some v
structure Stp (kp:Addr) (F H F' H':Hp):Prop where
  ff:Same F F'
  hh:∀ b o,b ≠ kp→H b=some o→H' b=some o
  nw:∀ b o,F b=none→H b=some o→F' b=none
section
variable {K:Kx} {c:Nat} {d:Int→Int→Int} {L:D} {F H F' H' F'' H'':Hp} {x kp dx:Addr} {lv:V} {kvs:List (List Key × V)}
theorem Stp.of (e:Ext F H F' H'):Stp kp F H F' H':=⟨e.ff,fun b o _ h=>e.hh b o h,e.nw⟩
theorem Stp.trans (a:Stp kp F H F' H') (b:Stp kp F' H' F'' H'') (hk:F'' kp=none):Stp kp F H F'' H'' :=
  ⟨a.ff.trans b.ff,fun c o n h=>b.hh c o n (a.hh c o n h),fun c o h1 h2=>by
    by_cases e:c=kp
    · rw [e]; exact hk
    · exact b.nw c o (a.nw c o h1 h2) (a.hh c o e h2)⟩
theorem KPs.ext (k:KPs K c d L F H x kp dx lv kvs) (e:Ext F H F' H'):KPs K c d L F' H' x kp dx lv kvs :=
  ⟨e.fh,e.hh _ _ k.hx,e.hh _ _ k.hk,e.nw _ _ k.fx k.hx,e.nw _ _ k.fk k.hk,Rep.mono e.ff _ k.rl,fun p hp=>let ⟨ks,h1,h2⟩:=k.good p hp; ⟨ks,h1,Rep.mono e.ff _ h2⟩,k.emp⟩
theorem zlW {σ:L2.St} {δ:En} (s:Same F H) (hl:σ.length=δ.length) (hs:∀ (i:Nat) (t:Sl),δ[i]?=some t→t = .no∨∃ dd u,t = .v dd∧σ[i]?=some (some u)∧Rep K F dd u):EnvOk K [] F H F H σ δ:=by
  have no:∀ i:Nat,Sl.own δ[i]?=false:=fun i=>by
    cases q:δ[i]? with
    | none=>rfl
    | some t=>rcases hs i t q with rfl | ⟨dd,u,rfl,_⟩ <;> rfl
  refine ⟨.refl s,hl,fun i=>?_,fun i j a _ h1 _ _ _=>(by rw [no i] at h1; cases h1),fun y hy=>(by cases hy),fun i T h1=>(by have:=no i; rw [h1] at this; cases this)⟩
  cases q:δ[i]? with
  | none=>trivial
  | some t =>
    rcases hs i t q with rfl | ⟨dd,u,rfl,e1,e2⟩
    · trivial
    · exact ⟨u,e1,e2⟩
end
variable (K:Kx) (c:Nat) (d:Int→Int→Int) (L:D) in
def spKB (m:Nat):Sp:=fun vs H Q _=>∃ (x kp dx r:Addr) (lv:V) (F:Hp) (kvs:List (List Key × V)) (rest:List Int),vs = [.ref x,.ref r]∧KPs K c d L F H x kp dx lv kvs∧Rep K F (.tup (rest.map .int)) (.ref r)∧rest.length=2 * m∧zlm L d rest∧kvs.length + cn m ≤ 100000 ∧
  ∀ (v:V) (F' H':Hp) (kvs':List (List Key × V)),Stp kp F H F' H'→KPs K c d L F' H' x kp dx lv kvs'→kvs'.length ≤ kvs.length + cn m→Rep K F' (encB (bpF d m rest)) v→Q v H'
variable (K:Kx) (c:Nat) (d:Int→Int→Int) (L:D) in
def spKW (m:Nat):Sp:=fun vs H Q _=>∃ (x kp dx r:Addr) (lv:V) (F:Hp) (kvs:List (List Key × V)) (rest:List Int) (k:Nat),vs = [.ref x,.ref r,.int k]∧KPs K c d L F H x kp dx lv kvs∧Rep K F (.tup (rest.map .int)) (.ref r)∧rest.length=2 * (m + 1)∧zlm L d rest∧1 ≤ k∧k < rest.length∧kvs.length + cn m ≤ 100000 ∧
  ∀ (v:V) (F' H':Hp) (kvs':List (List Key × V)),Stp kp F H F' H'→KPs K c d L F' H' x kp dx lv kvs'→kvs'.length ≤ kvs.length + cn m→Rep K F' (encB (bwW d (bpF d m) rest k)) v→Q v H'
section
variable {K:Kx} {XO:XOT} {E:L2.St→XK}
def mSlT (me:En→R D) (ml mh:En→R (Option Int)) (δ:En):R D:=(me δ).bind fun d=>(ml δ).bind fun lo=>(mh δ).bind fun hi=>(R.of (asT d)).bind fun l=>ifC (HT.sIx l.length 0 lo=0∧HT.sIx l.length l.length hi=l.length) .no (.ok (.tup (cutD l lo hi)))
theorem zh8 {te:TE} {me:En→R D} {tl th:TO} {ml mh:En→R (Option Int)} (h:SEr K XO E te me) (hl:SO K XO E tl ml) (hh:SO K XO E th mh):SE K XO E (tSl (rSlT K.f) te tl th) (mSlT me ml mh):=by
  intro Λ F0 H0 F H σ δ Q I a
  refine h Λ F0 H0 F H σ δ _ I (a.bind.imp fun d F1 H1 e1 a1 v r=>?_)
  refine hl Λ F0 H0 F1 H1 σ δ _ (I.grow e1) (a1.bind.imp fun lo F2 H2 e2 a2=>?_)
  refine hh Λ F0 H0 F2 H2 σ δ _ ((I.grow e1).grow e2) (a2.bind.imp fun hi F3 H3 e3 a3=>?_)
  cases d with
  | tup l =>
    have r':Rep K F1 (.tup l) v:=r
    simp only [Rep] at r'
    obtain ⟨p,vs,rfl,h1,h2⟩:=r'
    change Aft E XO σ F3 H3 _ (ifC _ _ _) at a3
    unfold ifC at a3
    split at a3
    · exact a3.elim
    · rename_i hn
      have ln:=h2.length
      refine ⟨p,vs,rfl,.inl (.inl (e3.hh _ _ (e2.hh _ _ (e1.fh _ _ h1)))),by rw [ln]; exact hn,fun q hq=>?_⟩
      refine a3 _ _ (.new e3.fh hq) (.ref q) ?_
      simp only [Rep]
      refine ⟨q,_,rfl,zal,?_⟩
      have h3:=(h2.mono (e2.ff.trans e3.ff)).mono (show Same F3 (upd F3 q (.tup (cutV vs lo hi))) from Same.upd (e3.fh.free hq))
      generalize upd F3 q (.tup (cutV vs lo hi))=G at h3 ⊢
      unfold cutV cutD
      rw [ln]
      exact (h3.drop _).take _
  | _=>exact a3.elim
end
end PM
namespace PM
open PySem L2
section
variable {K:Kx} {c m:Nat} {d:Int→Int→Int} {L:D} {E:XK}
def tsBW (K:Kx) (c:Nat) (sp:Sp) (E:XK):TS :=
  tSeq (tAsg (zlY (K.ca c) "best" sp [] E (tVar 0) (zbx (tOp (znc K.f) (tSl (rSlT K.f) (tVar 1) (zll (tC (.int 1))) (zll (tVar 2))) (tSl (rSlT K.f) (tVar 1) (zll (tOp (rI0 fun i j=>.int (i + j)) (tVar 2) (tC (.int 1)))) zjo)) tNil)) (zfu 3))
  (tSeq (tAsg (tTup (zbx (tOp (rIxT K.f) (tVar 1) (tC (.int 0))) (zbx (tOp (rIxT K.f) (tVar 1) (tVar 2)) tNil))) (zfu 4))
  (tRet (tTup (zbx (tOp (rI0 fun i j=>.int (i + j)) (tOp (rIxL K.f) (tOp (rIxL K.f) (tFld K.f (tVar 0) "lengths") (tOp (rIxT K.f) (tVar 4) (tC (.int 0)))) (tOp (rIxT K.f) (tVar 4) (tC (.int 1)))) (tOp (rIxT K.f) (tVar 3) (tC (.int 0))))
    (zbx (tOp (znc K.f) (tTup (zbx (tVar 4) tNil)) (tOp (rIxT K.f) (tVar 3) (tC (.int 1)))) tNil)))))
abbrev XOn:XOT:=fun _ _ _ _ _=>False
abbrev En0:L2.St→XK:=fun _ _ _ _=>False
theorem zlg (n z k:Nat) (h:k ≤ n):HT.sIx n z (some (k:Int))=k:=by
  show (if (k:Int) < 0 then ((k:Int) + (n:Int)).toNat else min (k:Int).toNat n)=k
  rw [if_neg (by omega)]; omega
theorem zng {rest:List Int} {k:Nat} (h1:1 ≤ k) (h2:k < rest.length) (h3:rest.length ≤ 1000) {s0 s3 s4:Sl} :
    m2 zks (mSlT (mRd 1) (zhD (mC (.int 1))) (zhD (mVar 2))) (mSlT (mRd 1) (zhD (m2 oAdd (mRd 2) (mC (.int 1)))) mNoP) [s0,.v (.tup (rest.map .int)),.v (.int k),s3,s4] = .ok (.tup ((cutO rest k).map .int)):=by
  have a1:mSlT (mRd 1) (zhD (mC (.int 1))) (zhD (mVar 2)) [s0,.v (.tup (rest.map .int)),.v (.int k),s3,s4] = .ok (.tup (((rest.drop 1).take (k - 1)).map .int)):=by
    have e1:=zlg (rest.map D.int).length 0 1 (by rw [List.length_map]; omega)
    have e2:=zlg (rest.map D.int).length (rest.map D.int).length k (by rw [List.length_map]; omega)
    have e1':HT.sIx (rest.map D.int).length 0 (some 1)=1:=e1
    simp only [mSlT,mRd,zhD,mC,mVar,List.getElem?_cons_succ,List.getElem?_cons_zero,R.bind_ok,zqq,zqu,R.of_some]
    rw [e1',e2,ifC,if_neg (by omega)]
    unfold cutD
    rw [e1',e2,List.map_take,List.map_drop]
  have a2:mSlT (mRd 1) (zhD (m2 oAdd (mRd 2) (mC (.int 1)))) mNoP [s0,.v (.tup (rest.map .int)),.v (.int k),s3,s4] = .ok (.tup ((rest.drop (k + 1)).map .int)):=by
    have e1:=zlg (rest.map D.int).length 0 (k + 1) (by rw [List.length_map]; omega)
    have e1':HT.sIx (rest.map D.int).length 0 (some ((k:Int) + 1))=k + 1:=e1
    have e2:HT.sIx (rest.map D.int).length (rest.map D.int).length none=(rest.map D.int).length:=rfl
    simp only [mSlT,mRd,zhD,mC,mNoP,ze7,List.getElem?_cons_succ,List.getElem?_cons_zero,R.bind_ok,zpT,zqq,zqu,R.of_some]
    rw [e1',ifC,if_neg (by omega)]
    unfold cutD
    rw [e1',e2,List.map_drop,List.take_of_length_le (by simp)]
  simp only [ze7,a1,a2,R.bind_ok]
  have e:zks (.tup (((rest.drop 1).take (k - 1)).map .int)) (.tup ((rest.drop (k + 1)).map .int))=some (.tup ((cutO rest k).map .int)):=by
    show ifC _ _ _=_
    rw [za8 (by simp only [List.length_map,List.length_take,List.length_drop,sizeLine_eq]; omega),cutO,List.map_append]
  rw [e,R.of_some]
theorem zjZ:∀ (l:List BP) (m:BP),minB l m ∈ m :: l
  | [],m=>by simp [minB]
  | t :: l,m=>by
    unfold minB
    have:=zjZ l (if ltD (encB t) (encB m)=true then t else m)
    split at this <;> simp only [List.mem_cons] at this ⊢ <;> grind
theorem ziP (d:Int→Int→Int):∀ (m:Nat) (rest:List Int),(bpF d m rest).2.length ≤ m
  | 0,_=>by simp [bpF]
  | m + 1,rest=>by
    have key:∀ b ∈ (List.range (rest.length - 1)).map fun j=>bwW d (bpF d m) rest (j + 1),b.2.length ≤ m + 1:=fun b hb=>by
      obtain ⟨j,_,rfl⟩:=List.mem_map.mp hb
      simp only [bwW,List.length_cons]
      have:=ziP d m (cutO rest (j + 1))
      omega
    unfold bpF
    cases q:(List.range (rest.length - 1)).map fun j=>bwW d (bpF d m) rest (j + 1) with
    | nil=>simp [least]
    | cons b l =>
      rw [q] at key
      exact key _ (zjZ l b)
theorem zq0 (hC:Cls K.f (K.ca c)) (hL:NoAttr K.f (K.ca c) "lengths") {vs:List V} {H:Hp} {Q:VK} {E E':XK} (hm:m ≤ 6) (h:spKW K c d L m vs H Q E):tsBW K c (spKB K c d L m) E' { nx:=fun _ H'=>Q .non H',rt:=Q } (L2.start ["self","rest","k","others","pair"] vs) H:=by
  obtain ⟨x,kp,dx,r,lv,F,kvs,rest,k,rfl,hK,hr,hl,ht,k1,k2,hn,fin⟩:=h
  have st:L2.start ["self","rest","k","others","pair"] [V.ref x,.ref r,.int k] = [some (.ref x),some (.ref r),some (.int k),none,none]:=rfl
  rw [st]
  refine ⟨.ref x,rfl,x,dx,_,rfl,hK.hx,rfl,?_⟩
  have I1:EnvOk K [] F H F H [some (.ref x),some (.ref r),some (.int k),none,none] [.no,.v (.tup (rest.map .int)),.v (.int k),.no,.no]:=zlW hK.fh rfl fun i t q=>by
    match i,q with
    | 0,q=>cases q; exact .inl rfl
    | 1,q=>cases q; exact .inr ⟨_,_,rfl,rfl,hr⟩
    | 2,q=>cases q; exact .inr ⟨_,_,rfl,rfl,by simp only [Rep]⟩
    | 3,q=>cases q; exact .inl rfl
    | 4,q=>cases q; exact .inl rfl
    | n + 5,q=>cases q
  refine zak (XO:=XOn) (E:=En0) (zmn (K:=K)) (zh8 zac (zjj se_int) (zjj zai)).r (zh8 zac (zjj (zak zbj zac se_int.r)) zqQ).r [] F H F H _ _ _ I1 ?_
  rw [zng k1 k2 (by omega)]
  intro F1 H1 e1 v1 r1
  have r1':=r1
  simp only [Rep] at r1'
  obtain ⟨r0,ws,rfl,_,_⟩:=r1'
  have cl:=zmQ k1 k2
  refine ⟨x,kp,dx,r0,lv,F1,kvs,cutO rest k,rfl,hK.ext e1,r1,by omega,fun i hi j hj=>ht i (zjq i hi) j (zjq j hj),hn,fun v2 F2 H2 kvs2 s2 K2 hl2 rv2=>?_⟩
  have g0:rest[0]?=some (rest.getD 0 0):=by rw [List.getD_eq_getElem?_getD,List.getElem?_eq_getElem (by omega)]; rfl
  have gk:rest[k]?=some (rest.getD k 0):=by rw [List.getD_eq_getElem?_getD,List.getElem?_eq_getElem k2]; rfl
  obtain ⟨p0,hp0⟩:∃ p0,p0=rest.getD 0 0:=⟨_,rfl⟩
  obtain ⟨pk,hpk⟩:∃ pk,pk=rest.getD k 0:=⟨_,rfl⟩
  rw [← hp0] at g0
  rw [← hpk] at gk
  obtain ⟨ob,hob⟩:∃ ob,ob=bpF d m (cutO rest k):=⟨_,rfl⟩
  rw [← hob] at rv2
  have ff2:=e1.ff.trans s2.ff
  have I2:EnvOk K [] F2 H2 F2 H2 [some (.ref x),some (.ref r),some (.int k),some v2,none] [.no,.v (.tup (rest.map .int)),.v (.int k),.v (encB ob),.no]:=zlW K2.fh rfl fun i t q=>by
    match i,q with
    | 0,q=>cases q; exact .inl rfl
    | 1,q=>cases q; exact .inr ⟨_,_,rfl,rfl,Rep.mono ff2 _ hr⟩
    | 2,q=>cases q; exact .inr ⟨_,_,rfl,rfl,by simp only [Rep]⟩
    | 3,q=>cases q; exact .inr ⟨_,_,rfl,rfl,rv2⟩
    | 4,q=>cases q; exact .inl rfl
    | n + 5,q=>cases q
  dsimp only [zfu,tSeq,tAsg,List.set_cons_succ,List.set_cons_zero]
  refine zgD (XO:=XOn) (E:=En0) (zad (zak zcG zac se_int.r) (zad (zak zcG zac zac) zar)) [] F2 H2 F2 H2 _ _ _ I2 ?_
  have pe:mTup (zaa (m2 oIxT (mRd 1) (mC (.int 0))) (zaa (m2 oIxT (mRd 1) (mRd 2)) mNil)) [.no,.v (.tup (rest.map .int)),.v (.int k),.v (encB ob),.no] = .ok (zb9 (p0,pk)):=by
    have i0:oIxT (.tup (rest.map .int)) (.int 0)=some (.int p0):=atI_nat (k:=0) (by rw [List.getElem?_map,g0]; rfl)
    have i1:oIxT (.tup (rest.map .int)) (.int k)=some (.int pk):=atI_nat (by rw [List.getElem?_map,gk]; rfl)
    simp [mTup,zaa,mNil,mRd,mC,i0,i1,sizeLine,zb9]
  rw [pe]
  intro F3 H3 e3 v4 r4
  have K3:=K2.ext e3
  have I3:EnvOk K [] F3 H3 F3 H3 [some (.ref x),some (.ref r),some (.int k),some v2,some v4] [.no,.v (.tup (rest.map .int)),.v (.int k),.v (encB ob),.v (zb9 (p0,pk))]:=zlW K3.fh rfl fun i t q=>by
    match i,q with
    | 0,q=>cases q; exact .inl rfl
    | 1,q=>cases q; exact .inr ⟨_,_,rfl,rfl,Rep.mono (ff2.trans e3.ff) _ hr⟩
    | 2,q=>cases q; exact .inr ⟨_,_,rfl,rfl,by simp only [Rep]⟩
    | 3,q=>cases q; exact .inr ⟨_,_,rfl,rfl,Rep.mono e3.ff _ rv2⟩
    | 4,q=>cases q; exact .inr ⟨_,_,rfl,rfl,r4⟩
    | n + 5,q=>cases q
  obtain ⟨row,rw1,rw2⟩:=ht p0 (List.mem_of_getElem? g0) pk (List.mem_of_getElem? gk)
  refine ⟨.ref x,rfl,x,_,dx,_,lv,rfl,K3.hx,hC,hL,rfl,?_⟩
  refine zak (XO:=XOn) (E:=En0) zcG zac se_int.r [] F3 H3 F3 H3 _ _ _ I3 ?_
  have v40:m2 oIxT (mRd 4) (mC (.int 0)) [.no,.v (.tup (rest.map .int)),.v (.int k),.v (encB ob),.v (zb9 (p0,pk))] = .ok (.int p0):=rfl
  have v41:m2 oIxT (mRd 4) (mC (.int 1)) [.no,.v (.tup (rest.map .int)),.v (.int k),.v (encB ob),.v (zb9 (p0,pk))] = .ok (.int pk):=rfl
  have v30:m2 oIxT (mRd 3) (mC (.int 0)) [.no,.v (.tup (rest.map .int)),.v (.int k),.v (encB ob),.v (zb9 (p0,pk))] = .ok (.int ob.1):=rfl
  rw [v40]
  intro F4 H4 e4 u4 w4
  refine zaG F4 H4 lv u4 L (.int p0) row _ e4.fh ((Rep.mono e4.ff _ K3.rl).top e4.fh) (w4.top e4.fh) rw1 fun u5 F5 H5 e5 w5=>?_
  refine zak (XO:=XOn) (E:=En0) zcG zac se_int.r [] F3 H3 F5 H5 _ _ _ (I3.grow (e4.trans e5)) ?_
  rw [v41]
  intro F6 H6 e6 u6 w6
  refine zaG F6 H6 u5 u6 row (.int pk) (.int (d p0 pk)) _ e6.fh ((Rep.mono e6.ff _ w5).top e6.fh) (w6.top e6.fh) rw2 fun u7 F7 H7 e7 w7=>?_
  refine zak (XO:=XOn) (E:=En0) zcG zac se_int.r [] F3 H3 F7 H7 _ _ _ (I3.grow (((e4.trans e5).trans e6).trans e7)) ?_
  rw [v30]
  intro F8 H8 e8 u8 w8
  simp only [Rep] at w7 w8
  subst w7 w8
  refine ⟨d p0 pk,ob.1,rfl,rfl,?_⟩
  have e38:=(((e4.trans e5).trans e6).trans e7).trans e8
  refine zak (XO:=XOn) (E:=En0) (zmn (K:=K)) (zgD (zad zai zar)).r (zak zcG zac se_int.r).r [] F3 H3 F8 H8 _ _ _ (I3.grow e38) ?_
  have ol:ob.2.length ≤ m:=by rw [hob]; exact ziP ..
  have vc:m2 zks (mTup (zaa (mVar 4) mNil)) (m2 oIxT (mRd 3) (mC (.int 1))) [.no,.v (.tup (rest.map .int)),.v (.int k),.v (encB ob),.v (zb9 (p0,pk))] = .ok (.tup (((p0,pk) :: ob.2).map zb9)):=by
    have t4:mTup (zaa (mVar 4) mNil) [.no,.v (.tup (rest.map .int)),.v (.int k),.v (encB ob),.v (zb9 (p0,pk))] = .ok (.tup [zb9 (p0,pk)]):=by simp [mTup,zaa,mNil,mVar,sizeLine]
    have t3:m2 oIxT (mRd 3) (mC (.int 1)) [.no,.v (.tup (rest.map .int)),.v (.int k),.v (encB ob),.v (zb9 (p0,pk))] = .ok (.tup (ob.2.map zb9)):=rfl
    have e:zks (.tup [zb9 (p0,pk)]) (.tup (ob.2.map zb9))=some (.tup (((p0,pk) :: ob.2).map zb9)):=by
      show ifC _ _ _=_
      rw [za8 (by simp only [List.length_map,List.length_cons,List.length_nil,sizeLine_eq]; omega)]; rfl
    show R.bind (mTup (zaa (mVar 4) mNil) _) _=_
    rw [t4,R.bind_ok]
    show R.bind (m2 oIxT (mRd 3) (mC (.int 1)) _) _=_
    rw [t3,R.bind_ok,e,R.of_some]
  rw [vc]
  intro F9 H9 e9 u9 w9
  refine ⟨by show 2 ≤ sizeLine; decide,fun p hp=>?_⟩
  have e39:=e38.trans e9
  have x9:Ext F9 H9 (upd F9 p (.tup [.int (d p0 pk + ob.1),u9])) (upd H9 p (.tup [.int (d p0 pk + ob.1),u9])):=.new e9.fh hp
  have K9:=(K3.ext e39).ext x9
  refine fin (.ref p) _ _ kvs2 ((((Stp.of e1).trans s2 K2.fk).trans (Stp.of (e3.trans e39)) (K3.ext e39).fk).trans (Stp.of x9) K9.fk) K9 hl2 ?_
  have eb:bwW d (bpF d m) rest k=(d p0 pk + ob.1,(p0,pk) :: ob.2):=by unfold bwW; rw [← hp0,← hpk,← hob]
  rw [eb]
  unfold encB
  simp only [Rep]
  refine ⟨p,_,rfl,zal,.cons (by simp only [Rep]) (.cons (Rep.mono x9.ff _ w9) .nil)⟩
end
end PM
namespace PM
open PySem L2
section
variable {K:Kx} {c m:Nat} {d:Int→Int→Int} {L:D}
def tsB0 (K:Kx):TS:=tSeq (tIfS (tB (zjl (tVar 1) (tFld K.f (tVar 0) "known"))) znV zmY) (tRet (znA (tFld K.f (tVar 0) "known") (tVar 1)))
def teC (K:Kx) (c:Nat) (sp:Sp) (E:XK):TE:=zjk (zp9 (zbx (tC (.int 1)) (zbx (tCB (fun xs H Q=>∃ p ys,xs = [.ref p]∧(SqL K.f H p ys∨SqT K.f H p ys)∧Q (.int ys.length) H) (zbx (tVar 1) tNil)) tNil))) [0,1] 1 (zfu 2) none (zlY (K.ca c) "best_with" sp [] E (tVar 0) (zbx (tVar 1) (zbx (tVar 2) tNil)))
def tsB (K:Kx) (c:Nat) (sp:Sp) (E:XK):TS:=tSeq (tIfS (tB (zjl (tVar 1) (tFld K.f (tVar 0) "known"))) (zoU (tFld K.f (tVar 0) "known") (tVar 1) (tCB (zp6 K) (zbx (teC K c sp E) tNil))) zmY) (tRet (znA (tFld K.f (tVar 0) "known") (tVar 1)))
theorem znp {kvs:List (List Key × V)} {k:List Key} {v:V} (h:valV kvs k=some v):∃ e ∈ kvs,e.1=k∧e.2=v:=by
  unfold valV at h
  obtain ⟨e,h1,h2⟩:=Option.map_eq_some_iff.mp h
  have h3:=List.find?_some h1
  exact ⟨e,List.mem_of_find?_eq_some h1,by simpa using h3,h2⟩
theorem znJ {kvs:List (List Key × V)} {k:List Key} {v:V} {e:List Key × V} (h:e ∈ putK kvs k v):e ∈ kvs∨e=(k,v):=by
  unfold putK at h
  split at h
  · obtain ⟨a,h1,rfl⟩:=List.mem_map.mp h
    split
    · rename_i z; exact .inr (by rw [z])
    · exact .inl h1
  · rcases List.mem_append.mp h with z | z
    · exact .inl z
    · exact .inr (List.mem_singleton.mp z)
theorem zpa {a b:List Int} (h:a.map (Sum.inl:Int→Key)=b.map Sum.inl):a=b:=by
  induction a generalizing b with
  | nil=>cases b with
    | nil=>rfl
    | cons _ _=>cases h
  | cons x a ih=>cases b with
    | nil=>cases h
    | cons y b =>
      simp only [List.map_cons,List.cons.injEq] at h
      obtain ⟨h1,h2⟩:=h
      cases h1
      rw [ih h2]
theorem zl8 {F H:Hp} {rest:List Int} {r:Addr} (s:Same F H) (h:Rep K F (.tup (rest.map .int)) (.ref r)):H r=some (.tup ((rest.map (Sum.inl:Int→Key)).map kV)):=by
  simp only [Rep] at h
  obtain ⟨a,vs,e,h1,h2⟩:=h
  cases e
  rw [zbF h2] at h1
  rw [s _ _ h1,List.map_map]; rfl
theorem zg9 {F H:Hp} {x kp dx:Addr} {lv v:V} {kvs:List (List Key × V)} {rest:List Int} (k:KPs K c d L F H x kp dx lv kvs) (hl:rest.length=2 * m) (h:valV kvs (rest.map Sum.inl)=some v):Rep K F (encB (bpF d m rest)) v:=by
  obtain ⟨e,h1,h2,h3⟩:=znp h
  obtain ⟨ks,h4,h5⟩:=k.good e h1
  have:ks=rest:=zpa (h4.symm.trans h2)
  subst this
  rw [show ks.length / 2=m by omega,h3] at h5
  exact h5
theorem KPs.side {F H:Hp} {x kp dx:Addr} {lv:V} {kvs:List (List Key × V)} (k:KPs K c d L F H x kp dx lv kvs) {p:Addr} {o:HO} (hf:F p=none) (nx:p ≠ x) (nk:p ≠ kp):KPs K c d L F (upd H p o) x kp dx lv kvs :=
  ⟨fun b u q=>by rw [zag (zaq q hf)]; exact k.fh _ _ q,by rw [zag (Ne.symm nx)]; exact k.hx,by rw [zag (Ne.symm nk)]; exact k.hk,k.fx,k.fk,k.rl,k.good,k.emp⟩
theorem zq6 (hC:Cls K.f (K.ca c)) (hN:NoAttr K.f (K.ca c) "known") {vs:List V} {H:Hp} {Q:VK} {E:XK} (h:spKB K c d L 0 vs H Q E):tsB0 K { nx:=fun _ H'=>Q .non H',rt:=Q } (L2.start ["self","rest"] vs) H:=by
  obtain ⟨x,kp,dx,r,lv,F,kvs,rest,rfl,hK,hr,hl,ht,hn,fin⟩:=h
  have e0:rest = []:=List.length_eq_zero_iff.mp (by omega)
  subst e0
  obtain ⟨v,hv⟩:=hK.emp
  have hk:=zl8 hK.fh hr
  have g:=DGet.t (k:=[]) hK.hk hk
  rw [hv] at g
  refine ⟨.ref r,rfl,.ref x,rfl,x,_,dx,_,.ref kp,rfl,hK.hx,hC,hN,rfl,kp,_,rfl,g,false,rfl,?_⟩
  show (if false=true then _ else _)
  rw [if_neg Bool.false_ne_true]
  refine ⟨.ref x,rfl,x,_,dx,_,.ref kp,rfl,hK.hx,hC,hN,rfl,.ref r,rfl,kp,v,rfl,g,?_⟩
  exact fin v F H kvs ⟨.refl _,fun _ _ _ h=>h,fun _ _ h _=>h⟩ hK (by omega) (zg9 (m:=0) hK (rest:=[]) rfl hv)
theorem zq5 (a b:BP):cmpP 8 (toPy 8 (encB a)) (toPy 8 (encB b))=true:=by
  have pr:∀ p q:Int × Int,cmpP 6 (toPy 6 (zb9 p)) (toPy 6 (zb9 q))=true:=fun p q=>rfl
  have e:∀ a:BP,toPy 8 (encB a) = .tuple [.int a.1,.tuple ((a.2.map zb9).map (toPy 6))]:=fun a=>rfl
  rw [e,e]
  show ((List.range 2).all _)=true
  rw [List.all_eq_true]
  intro j hj
  have hj':=List.mem_range.mp hj
  match j,hj' with
  | 0,_=>rfl
  | 1,_ =>
    show ((List.range (min ((a.2.map zb9).map (toPy 6)).length ((b.2.map zb9).map (toPy 6)).length)).all _)=true
    rw [List.all_eq_true]
    intro i hi
    have hi':=List.mem_range.mp hi
    simp only [List.length_map] at hi'
    have g:∀ (l:List (Int × Int)),i < l.length→((l.map zb9).map (toPy 6)).getD i .none=toPy 6 (zb9 (l.getD i (0,0))):=fun l h=>by
      rw [List.getD_eq_getElem?_getD,List.getElem?_map,List.getElem?_map,List.getD_eq_getElem?_getD,List.getElem?_eq_getElem h]; rfl
    rw [g a.2 (by omega),g b.2 (by omega)]
    exact pr _ _
theorem zoC (b:BP):zbw 8 (encB b)=true:=by
  show ([D.int b.1,.tup (b.2.map zb9)]).all (zbw 7)=true
  simp only [List.all_cons,List.all_nil,Bool.and_true]
  show (true && (b.2.map zb9).all (zbw 6))=true
  rw [Bool.true_and,List.all_map,List.all_eq_true]
  intro x _; rfl
theorem zqD (l:List BP):cmpD (l.map encB)=true:=by
  unfold cmpD
  rw [List.all_eq_true]
  intro x hx
  obtain ⟨a,_,rfl⟩:=List.mem_map.mp hx
  rw [Bool.and_eq_true]
  refine ⟨zoC a,?_⟩
  rw [List.all_eq_true]
  intro y hy
  obtain ⟨b,_,rfl⟩:=List.mem_map.mp hy
  exact zq5 a b
theorem b_ok (hC:Cls K.f (K.ca c)) (hN:NoAttr K.f (K.ca c) "known") {vs:List V} {H:Hp} {Q:VK} {E E':XK} (hm:m ≤ 6) (h:spKB K c d L (m + 1) vs H Q E):tsB K c (spKW K c d L m) E' { nx:=fun _ H'=>Q .non H',rt:=Q } (L2.start ["self","rest"] vs) H:=by
  obtain ⟨x,kp,dx,r,lv,F,kvs,rest,rfl,hK,hr,hl,ht,hn,fin⟩:=h
  have hk:=zl8 hK.fh hr
  have g:=DGet.t (k:=rest.map Sum.inl) hK.hk hk
  refine ⟨.ref r,rfl,.ref x,rfl,x,_,dx,_,.ref kp,rfl,hK.hx,hC,hN,rfl,kp,_,rfl,g,_,rfl,?_⟩
  cases q:valV kvs (rest.map Sum.inl) with
  | some v =>
    rw [q] at g
    show (if false=true then _ else _)
    rw [if_neg Bool.false_ne_true]
    refine ⟨.ref x,rfl,x,_,dx,_,.ref kp,rfl,hK.hx,hC,hN,rfl,.ref r,rfl,kp,v,rfl,g,?_⟩
    exact fin v F H kvs ⟨.refl _,fun _ _ _ h=>h,fun _ _ h _=>h⟩ hK (by omega) (zg9 hK hl q)
  | none =>
    show (if true=true then _ else _)
    rw [if_pos rfl]
    obtain ⟨n,hnn⟩:∃ n,n=2 * m + 1:=⟨_,rfl⟩
    have hr':=hr
    simp only [Rep] at hr'
    obtain ⟨r0,ws,er,hr1,hr2⟩:=hr'
    cases er
    have wl:=hr2.length
    rw [List.length_map] at wl
    have cn1:cn (m + 1)=1 + n * cn m:=by rw [hnn]; rfl
    refine ⟨.ref r,rfl,r,ws,rfl,.inr (.inl (.inl (hK.fh _ _ hr1))),1,_,rfl,⟨by decide,by decide,by rw [wl]; omega,by rw [wl]; omega⟩,fun D hD=>?_⟩
    have nn:((ws.length:Int) - 1).toNat=n:=by rw [wl]; omega
    rw [nn]
    have Dx:D ≠ x:=fun e=>by rw [e,hK.hx] at hD; cases hD
    have Dk:D ≠ kp:=fun e=>by rw [e,hK.hk] at hD; cases hD
    refine ⟨fun i mm ys σ2 H2=>∃ (o:Option V) (F2:Hp) (kvs2:List (List Key × V)),σ2 = [some (.ref x),some (.ref r),o]∧H2 D=some (.lst ys)∧F2 D=none∧KPs K c d L F2 H2 x kp dx lv kvs2∧Stp kp F H F2 H2∧RepL K F2 ((List.range i).map fun j=>encB (bwW d (bpF d m) rest (j + 1))) ys∧kvs2.length ≤ kvs.length + i * cn m∧i ≤ n∧mm=n - i,
      ⟨n,none,F,kvs,rfl,zal,hK.fh.free hD,hK.side (hK.fh.free hD) Dx Dk,⟨.refl _,fun b u _ q=>by rw [zag (zaq q hD)]; exact q,fun _ _ h _=>h⟩,.nil,by omega,by omega,rfl⟩,?_⟩
    rintro i mm ys σ2 H2 ⟨o,F2,kvs2,rfl,hD2,fD2,K2,S2,R2,l2,i2,rfl⟩
    refine ⟨hD2,?_⟩
    rcases Nat.lt_or_ge i n with hi | hi
    · refine .inr ⟨hi,fun ys' σ' H'=>∃ (o:Option V) (F2:Hp) (kvs2:List (List Key × V)),σ' = [some (.ref x),some (.ref r),o]∧H' D=some (.lst ys')∧F2 D=none∧KPs K c d L F2 H' x kp dx lv kvs2∧Stp kp F H F2 H'∧RepL K F2 ((List.range (i + 1)).map fun j=>encB (bwW d (bpF d m) rest (j + 1))) ys'∧kvs2.length ≤ kvs.length + (i + 1) * cn m,
        fun ys' σ' H' ⟨o',F',kvs',w1,w2,w3,w4,w5,w6,w7⟩=>⟨n - (i + 1),by omega,o',F',kvs',w1,w2,w3,w4,w5,w6,w7,hi,rfl⟩,?_⟩
      rintro y H' ⟨rfl,rfl⟩
      dsimp only [zfu,zjV,List.set_cons_succ,List.set_cons_zero]
      rw [if_pos rfl]
      have rr:Rep K F2 (.tup (rest.map .int)) (.ref r):=Rep.mono S2.ff _ hr
      have mul:(i + 1) * cn m=i * cn m + cn m:=by rw [Nat.add_mul,Nat.one_mul]
      have mle:i * cn m + cn m ≤ n * cn m:=by rw [← mul]; exact Nat.mul_le_mul_right _ (by omega)
      refine ⟨.ref x,rfl,x,dx,_,rfl,K2.hx,rfl,.ref r,rfl,.int (1 + i),rfl,x,kp,dx,r,lv,F2,kvs2,rest,i + 1,?_,K2,rr,hl,ht,by omega,by omega,by omega,fun v F3 H3 kvs3 s3 K3 l3 r3=>?_⟩
      · show [V.ref x,.ref r,.int (1 + (i:Int))]=_
        rw [show (1:Int) + (i:Int)=((i + 1:Nat):Int) by omega]
      · have hD3:=s3.hh D _ Dk hD2
        have fD3:=s3.nw D _ fD2 hD2
        have yl:=R2.length
        rw [List.length_map,List.length_range] at yl
        refine ⟨hD3,by rw [yl,sizeLine_eq]; omega,some (.int (1 + i)),F3,kvs3,rfl,zal,fD3,K3.side fD3 Dx Dk,?_,?_,by omega⟩
        · have:=S2.trans s3 K3.fk
          exact ⟨this.ff,fun b u n q=>by rw [zag (zaq q hD)]; exact this.hh b u n q,this.nw⟩
        · rw [List.range_succ,List.map_append]
          exact (R2.mono s3.ff).append (.cons r3 .nil)
    · refine .inl ⟨hi,?_⟩
      have ei:i=n:=by omega
      subst ei
      obtain ⟨ms,ems⟩:∃ ms,ms=(List.range i).map fun j=>bwW d (bpF d m) rest (j + 1):=⟨_,rfl⟩
      have em:(List.range i).map (fun j=>encB (bwW d (bpF d m) rest (j + 1)))=ms.map encB:=by rw [ems,List.map_map]; rfl
      rw [em] at R2
      have lm:ms.length=i:=by rw [ems,List.length_map,List.length_range]
      cases ms with
      | nil=>simp at lm; omega
      | cons b l =>
        refine ⟨D,F2,ys,encB b,l.map encB,rfl,.inl hD2,K2.fh,R2,zqD (b :: l),fun j v hv hj=>?_⟩
        rw [zoa] at hj
        have eb:bpF d (m + 1) rest=minB l b:=by
          show least ((List.range (rest.length - 1)).map fun j=>bwW d (bpF d m) rest (j + 1))=_
          rw [show rest.length - 1=i by omega,← ems]; rfl
        have rv:Rep K F2 (encB (bpF d (m + 1) rest)) v:=by
          rw [eb,← hj]
          have jl:=(List.getElem?_eq_some_iff.mp hv).1
          rw [R2.length] at jl
          have gd:((b :: l).map encB)[j]?=some (((b :: l).map encB).getD j .non):=by rw [List.getD_eq_getElem?_getD,List.getElem?_eq_getElem jl]; rfl
          obtain ⟨v',h1,h2⟩:=R2.get gd
          rw [hv] at h1
          cases h1
          exact h2
        have rr:Rep K F2 (.tup (rest.map .int)) (.ref r):=Rep.mono S2.ff _ hr
        have hk2:=zl8 K2.fh rr
        refine ⟨.ref x,rfl,x,_,dx,_,.ref kp,rfl,K2.hx,hC,hN,rfl,.ref r,rfl,kp,_,rfl,DPut.t K2.hk hk2 (by rw [sizeLine_eq]; omega),?_⟩
        have xk:x ≠ kp:=fun e=>by have h1:=K2.hx; rw [e,K2.hk] at h1; cases h1
        have rk:r ≠ kp:=fun e=>by rw [e,K2.hk] at hk2; cases hk2
        have rne:rest.map (Sum.inl:Int→Key) ≠ []:=fun e=>by have:=congrArg List.length e; simp at this; rw [this] at hl; simp at hl
        have K4:KPs K c d L F2 (upd H2 kp (.dT (putK kvs2 (rest.map Sum.inl) v))) x kp dx lv (putK kvs2 (rest.map Sum.inl) v) :=
          ⟨fun b u q=>by rw [zag (zaq q K2.fk)]; exact K2.fh _ _ q,by rw [zag xk]; exact K2.hx,zal,K2.fx,K2.fk,K2.rl,fun e he=>by
            rcases znJ he with z | z
            · exact K2.good e z
            · rw [z]
              refine ⟨rest,rfl,?_⟩
              rw [show rest.length / 2=m + 1 by omega]
              exact rv,by
            obtain ⟨w,hw⟩:=K2.emp
            exact ⟨w,by rw [zjs,if_neg (fun e=>rne e.symm)]; exact hw⟩⟩
        have gd:=DGet.t (k:=rest.map Sum.inl) K4.hk (by rw [zag rk]; exact hk2)
        rw [zjs,if_pos rfl] at gd
        refine ⟨.ref x,rfl,x,_,dx,_,.ref kp,rfl,K4.hx,hC,hN,rfl,.ref r,rfl,kp,v,rfl,gd,?_⟩
        refine fin v F2 _ _ ⟨S2.ff,fun b u n q=>by rw [zag n]; exact S2.hh b u n q,S2.nw⟩ K4 ?_ rv
        have:=zeU kvs2 (rest.map Sum.inl) v
        omega
end
end PM
namespace L2
open PySem PySem.Spec PyProof.Rows
section
variable {P:Program} {w:World} {K:PySem.W.Frag} {mg:Str→Option Value} {base:Heap} {CX:CXT} {k:Nat} {m:Str} {C:Addr} {ps:List Str} {sp sp':Sp}
theorem HasM.imp (G:HasM P w K mg base CX k m C ps sp) (h:∀ vs H Q E,sp' vs H Q E→sp vs H Q E):HasM P w K mg base CX k m C ps sp':=by
  obtain ⟨f,fd,a,b,F,B⟩:=G.ex
  exact ⟨f,fd,a,b,F.imp h,B⟩
end
end L2
namespace PM
open PySem L2
section
variable {K:Kx} {c m:Nat} {d:Int→Int→Int} {L:D}
def tsI (K:Kx):TS:=tSeq (sFld K.f (tVar 0) (tVar 1) "lengths") (sFld K.f (tVar 0) (zob (tTup tNil) (tTup (zbx (tC (.int 0)) (zbx (tTup tNil) tNil)))) "known")
variable (K:Kx) (c:Nat) (d:Int→Int→Int) (L:D) in
def spKI:Sp:=fun vs H Q _=>∃ (x dx:Addr) (F Hb:Hp) (lv:V),vs = [.ref x,lv]∧H=upd (upd Hb dx (.own x)) x (.ins (K.ca c) dx [])∧Hb x=none∧Hb dx=none∧dx ≠ x∧Same F Hb∧Rep K F L lv ∧
  ∀ (F' H':Hp) (kp:Addr) (kvs:List (List Key × V)),Ext F Hb F' H'→KPs K c d L F' H' x kp dx lv kvs→kvs.length ≤ 1→Hb kp=none→Q .non H'
theorem i_ok (hC:Cls K.f (K.ca c)) (hL:NoAttr K.f (K.ca c) "lengths") (hN:NoAttr K.f (K.ca c) "known") {vs:List V} {H:Hp} {Q:VK} {E:XK} (h:spKI K c d L vs H Q E):tsI K { nx:=fun _ H'=>Q .non H',rt:=Q } (L2.start ["self","lengths"] vs) H:=by
  obtain ⟨x,dx,F,Hb,lv,rfl,rfl,hx,hdx,ne,s,rl,fin⟩:=h
  refine ⟨lv,rfl,.ref x,rfl,x,_,dx,[],rfl,zal,hC,hL,by decide,fun kp hkp=>?_⟩
  have e1:upd (upd (upd Hb dx (.own x)) x (.ins (K.ca c) dx [])) x (.ins (K.ca c) dx (putF "lengths" lv []))=upd (upd Hb dx (.own x)) x (.ins (K.ca c) dx [("lengths",lv)]):=by rw [zor]; rfl
  rw [e1] at hkp ⊢
  have kx:kp ≠ x:=fun e=>by rw [e,zal] at hkp; cases hkp
  rw [zag kx] at hkp
  have kd:kp ≠ dx:=fun e=>by rw [e,zal] at hkp; cases hkp
  rw [zag kd] at hkp
  have E1:Ext F Hb F (upd (upd (upd Hb dx (.own x)) x (.ins (K.ca c) dx [("lengths",lv)])) kp (.dT [])):=by
    have a1:Ext F Hb F (upd Hb dx (.own x)):=.newO s hdx
    have a2:=a1.trans (.newO (o:=.ins (K.ca c) dx [("lengths",lv)]) a1.fh (by rw [zag (Ne.symm ne)]; exact hx))
    exact a2.trans (.newO (o:=.dT []) a2.fh (by rw [zag kx,zag kd]; exact hkp))
  refine ⟨by decide,fun p hp=>?_⟩
  have E2:Ext F Hb (upd F p (.tup [])) (upd _ p (.tup [])):=E1.trans (.new E1.fh hp)
  refine ⟨by decide,fun q hq=>⟨by show 2 ≤ sizeLine; decide,fun w hw=>?_⟩⟩
  have E3:=E2.trans (.new (o:=.tup []) E2.fh hq)
  have E4:=E3.trans (.new (o:=.tup [.int 0,.ref q]) E3.fh hw)
  have pq:p ≠ q:=fun e=>by rw [← e,zal] at hq; cases hq
  have pw:p ≠ w:=fun e=>by rw [← e,zag pq,zal] at hw; cases hw
  have qw:q ≠ w:=fun e=>by rw [← e,zal] at hw; cases hw
  have kpp:kp ≠ p:=fun e=>by rw [← e,zal] at hp; cases hp
  have kq:kp ≠ q:=fun e=>by rw [← e,zag kpp,zal] at hq; cases hq
  have kw:kp ≠ w:=fun e=>by rw [← e,zag kq,zag kpp,zal] at hw; cases hw
  have xp:x ≠ p:=fun e=>by rw [← e,zag (Ne.symm kx),zal] at hp; cases hp
  have xq:x ≠ q:=fun e=>by rw [← e,zag xp,zag (Ne.symm kx),zal] at hq; cases hq
  have xw:x ≠ w:=fun e=>by rw [← e,zag xq,zag xp,zag (Ne.symm kx),zal] at hw; cases hw
  refine ⟨by rw [zag kw,zag kq,zag kpp,zal],[],p,.ref w,rfl,by rw [zag pw,zag pq,zal]; rfl,.ref x,rfl,x,K.ca c,dx,[("lengths",lv)],rfl,?_,hC,hN,by show 1 < 1000; decide,?_⟩
  · rw [zag (Ne.symm kx),zag xw,zag xq,zag xp,zag (Ne.symm kx),zal]
  · have fx:F x=none:=s.free hx
    have fk:F kp=none:=s.free hkp
    have f4x:upd (upd (upd F p (.tup [])) q (.tup [])) w (.tup [.int 0,.ref q]) x=none:=by rw [zag xw,zag xq,zag xp]; exact fx
    have f4k:upd (upd (upd F p (.tup [])) q (.tup [])) w (.tup [.int 0,.ref q]) kp=none:=by rw [zag kw,zag kq,zag kpp]; exact fk
    refine fin (upd (upd (upd F p (.tup [])) q (.tup [])) w (.tup [.int 0,.ref q])) _ kp [([],.ref w)] ?_ ⟨?_,?_,?_,f4x,f4k,Rep.mono E4.ff _ rl,?_,⟨.ref w,rfl⟩⟩ (Nat.le_refl 1) hkp
    · refine ⟨E4.ff,fun b o z=>?_,fun b o z=>?_,E4.nw⟩
      · rw [zag (zaq z hx),zag (zaq z hkp)]; exact E4.hh b o z
      · rw [zag (zaq z f4x),zag (zaq z f4k)]; exact E4.fh b o z
    · intro b o z
      rw [zag (zaq z f4x),zag (zaq z f4k)]; exact E4.fh b o z
    · rw [zal]; rfl
    · rw [zag kx,zal]
    · intro e he
      rw [List.mem_singleton.mp he]
      refine ⟨[],rfl,?_⟩
      show Rep K _ (.tup [.int 0,.tup []]) (.ref w)
      simp only [Rep]
      exact ⟨w,_,rfl,zal,.cons (by simp only [Rep]) (.cons (by simp only [Rep]; exact ⟨q,[],rfl,by rw [zag qw,zal],.nil⟩) .nil)⟩
variable (K:Kx) (c:Nat) in
def spIu (_:Unit):Sp:=fun vs H Q E=>∃ (d:Int→Int→Int) (L:D),spKI K c d L vs H Q E
variable (K:Kx) (c:Nat) in
def spBm (m:Nat):Sp:=fun vs H Q E=>∃ (d:Int→Int→Int) (L:D),spKB K c d L m vs H Q E
variable (K:Kx) (c:Nat) in
def spWm (m:Nat):Sp:=fun vs H Q E=>∃ (d:Int→Int→Int) (L:D),spKW K c d L m vs H Q E
variable (K:Kx) (c:Nat) in
def spBu (_:Unit):Sp:=fun vs H Q E=>∃ m,m ≤ 6∧spBm K c m vs H Q E
def zpj (K:Kx) (c:Nat) (E1 E2:XK):TE :=
  tCB (fun xs H Q=>∃ p ys,xs = [.ref p]∧(SqL K.f H p ys∨SqT K.f H p ys)∧∀ l,H l=none→Q (.ref l) (upd H l (.lst ys)))
    (zbx (tOp (rIxT K.f) (zlY (K.ca c) "best" (spBu K c ()) [] E2 (zoB (K.ca c) (spIu K c ()) [] E1 (zbx (tVar 0) tNil))
      (zbx (tCB (fun xs H Q=>∃ p ys,xs = [.ref p]∧((SqL K.f H p ys∧∀ l,H l=none→Q (.ref l) (upd H l (.tup ys)))∨(SqT K.f H p ys∧Q (.ref p) H))) (zbx (tCB ziS (zbx (tVar 1) tNil)) tNil)) tNil)) (tC (.int 1))) tNil)
def srt (ns:List Int):List Int:=ns.mergeSort fun a b=>decide (a ≤ b)
def dOf (L:D) (i j:Int):Int:=match (oIxL L (.int i)).bind fun r=>oIxL r (.int j) with | some (.int x)=>x | _=>0
def zeV (L:D) (ns:List Int):List (Int × Int):=(bpF (dOf L) (ns.length / 2) (srt ns)).2
def zh5 (δ:En):R D:=match δ[(0:Nat)]?,δ[(1:Nat)]? with
  | some (.v L),some (.v (.lst l))=>(match asIs l with | some ns=>ifC (ns.length % 2=0∧ns.length ≤ 12∧zlm L (dOf L) ns) (.ok (.lst ((zeV L ns).map zb9))) .no | none=>.no)
  | _,_=>.no
theorem zrc:∀ m,m ≤ 6→cn m ≤ 20000
  | 0,_=>by decide
  | 1,_=>by decide
  | 2,_=>by decide
  | 3,_=>by decide
  | 4,_=>by decide
  | 5,_=>by decide
  | 6,_=>by decide
  | n + 7,h=>by omega
theorem zmd {XO:XOT} {E:L2.St→XK} {E1 E2:XK}:SEo K XO E (zpj K c E1 E2) zh5:=by
  intro Λ F0 H0 F H σ δ Q I a
  unfold zh5 at a
  split at a
  case h_2=>exact a.elim
  rename_i L l q0 q1
  split at a
  case h_2=>exact a.elim
  rename_i ns qn
  rw [zb8 qn] at q1
  unfold ifC at a
  split at a
  case isFalse=>exact a.elim
  rename_i hc
  obtain ⟨h2,h12,ht⟩:=hc
  have s0:=I.slot 0
  rw [q0] at s0
  obtain ⟨u0,e0,r0⟩:=s0
  have s1:=I.slot 1
  rw [q1] at s1
  obtain ⟨u1,e1,r1⟩:=s1
  simp only [Rep] at r1
  obtain ⟨p1,vs,rfl,hp1,hv1⟩:=r1
  rw [zbF hv1] at hp1
  refine ⟨u0,e0,fun x dx hx hdx ne=>⟨dOf L,L,x,dx,F,H,u0,rfl,rfl,hx,hdx,ne,I.ext.fh,r0,fun F1 H1 kp kvs x1 K1 kl hkp=>⟨rfl,x,dx,_,rfl,K1.hx,rfl,?_⟩⟩⟩
  have hp2:Rd H1 p1 (.lst (ns.map V.int)):=Same.rd (x1.ff.trans x1.fh) (by first | exact hp1 | exact .inl hp1)
  refine ⟨.ref p1,e1,p1,ns,rfl,hp2,by omega,fun w hw=>⟨w,(srt ns).map V.int,rfl,.inl ⟨.inl (.inl zal),fun t htt=>?_⟩⟩⟩
  have y1:Ext F1 H1 F1 (upd H1 w (.lst ((srt ns).map V.int))):=.newO x1.fh hw
  have y2:=y1.trans (.new (o:=.tup ((srt ns).map V.int)) y1.fh htt)
  have rt:Rep K (upd F1 t (.tup ((srt ns).map V.int))) (.tup ((srt ns).map .int)) (.ref t):=by
    simp only [Rep]
    exact ⟨t,_,rfl,zal,RepL.ints⟩
  have sl:(srt ns).length=ns.length:=List.length_mergeSort ..
  have m6:ns.length / 2 ≤ 6:=by omega
  have cl:=zrc _ m6
  refine ⟨ns.length / 2,m6,dOf L,L,x,kp,dx,t,u0,_,kvs,srt ns,rfl,K1.ext y2,rt,by omega,fun i hi j hj=>ht i (List.mem_mergeSort.mp hi) j (List.mem_mergeSort.mp hj),by omega,fun v F3 H3 kvs3 s3 K3 l3 r3=>?_⟩
  have x3:Ext F H F3 H3:=by
    have z:=x1.trans y2
    refine ⟨z.ff.trans s3.ff,fun b o hb=>s3.hh b o (fun e=>by rw [e,hkp] at hb; cases hb) (z.hh b o hb),K3.fh,fun b o h1 h2=>s3.nw b o (z.nw b o h1 h2) (z.hh b o h2)⟩
  refine zcG F3 H3 v (.int 1) (encB (bpF (dOf L) (ns.length / 2) (srt ns))) (.int 1) (.tup ((zeV L ns).map zb9)) _ K3.fh (r3.top K3.fh) (show Rep K F3 (.int 1) (.int 1) by simp only [Rep]) rfl fun v4 F4 H4 e4 r4=>?_
  simp only [Rep] at r4
  obtain ⟨q,ws,rfl,hq,hws⟩:=r4
  refine ⟨q,ws,rfl,.inr (.inl (.inl (e4.fh _ _ hq))),fun lq hlq=>?_⟩
  have x4:=x3.trans e4
  exact a F4 _ (x4.trans (.newO (o:=.lst ws) e4.fh hlq)) lq (e4.fh.free hlq) (x4.hh.free hlq) ⟨ws,zal,hws⟩
end
end PM
namespace L2
open PySem PySem.Spec PyProof.Rows
section
variable {prog:Program} {w:World} {K:Type} [DecidableEq K] {knd:KeyKind prog w K} {A:Around} {E:Value→Shared→Prop} {s:Shared}
theorem zlP {v:Addr} {Q:Bool→Shared→Prop} (hv:s.TypeIs (.ref v) "dict") (h:Q false s):wpAny (model prog w) A (Builtin.List.listLengthHint (.ref v)) Q E s:=by
  unfold Builtin.List.listLengthHint
  refine wpAny_bind (wpAny_specialOf hv PySem.F.slot_dict_len.lookup ?_)
  generalize hid:("dict.__len__" : String)=id0
  wp_delta
  rw [show splitId id0=some ("dict","__len__") from by subst hid; decide +kernel]
  subst hid
  refine wpAny_bind (wpAny_isInstance (T:="dict") (b:=true) hv (by rw [isSubtype_type]; kernel_rfl) ?_)
  refine wpAny_ite_split (fun c=>absurd c (by decide)) (fun _=>?_)
  refine wpAny_ite_split (fun _=>?_) (fun c=>absurd (show _=true by decide +kernel) c)
  exact wpAny_bind (wpAny_typeOf hv (wpAny_pure h))
theorem zmP {R:Result→Shared→Prop} {a:Addr} {kvs:List (K × Value)} {ep:Nat} (hh:A.handled=none) (hm:(a == sysModules)=false) (hd:s.heap.DictAt knd a kvs ep) (hlen:kvs.length ≤ sizeLine) (S:Addr) (res:Value) (c₀:Nat) (hS:s.heap.get? S=some (zhK #[] c₀))
    (hR:∀ h' tk acc c,(∀ b o,b ≠ S→s.heap.get? b=some o→h'.get? b=some o)→h'.get? S=some (zhK acc c)→ItemsOf (fun i x=>∃ k y,kvs[i]?=some (k,y)∧knd.is k x=true) acc kvs.length→R (.ok (.ret res)) { s with heap:=h',toks:=tk }) :
    wpAny (model prog w) A.in1 (Builtin.List.listExtendWith (.ref S) (.ref a) res) (fun fin s'=>match fin with | .done f=>R (.ok f) s' | .again c'=>c'.quiet=true∧codeAny (model prog w) A c' R s') (fun e s'=>R (.error e) s') s:=by
  obtain ⟨oa,es,ga,ca,_⟩:=id hd
  have Sl:S < s.heap.objs.size:=Heap.lt_size hS
  have SI:S ≠ s.heap.objs.size:=Nat.ne_of_lt Sl
  have al:a < s.heap.objs.size:=Heap.lt_size ga
  have Sa:S ≠ a:=fun e=>by
    obtain ⟨c1,c2⟩:=ca
    rw [e,ga] at hS; cases hS; simp at c1
  have nf:S ∉ [s.heap.objs.size,a]:=by
    simp only [List.mem_cons,List.not_mem_nil,or_false,not_or]; exact ⟨SI,Sa⟩
  have W:=(Walks.dictKeys (prog:=prog) (w:=w) (A:=A.in1) (knd:=knd) hh s.heap.objs.size a (Nat.ne_of_lt al) kvs ep).toS
  have key:∀ (h:Heap) (c₁ tk:Nat),h.IsKeyIter s.heap.objs.size a 0 kvs.length ep→(∀ b o,b ≠ S→s.heap.get? b=some o→h.get? b=some o)→h.get? S=some (zhK #[] c₁)→codeAny (model prog w) A (.builtin "list.extend.loop" ⟨[.ref S,.ref s.heap.objs.size,res],[]⟩) R { s with heap:=h,toks:=tk }:=by
    intro h c₁ tk hit hk hS₁
    refine codeAny_extend_loopS W hlen S nf res kvs.length 0 _ #[] c₁ rfl (Nat.zero_le _) ⟨hit,hd.at' fun o e=>hk a o (Ne.symm Sa) e⟩ hS₁ (ItemsOf.nil _) fun s' acc c mv hS' hacc=>?_
    rw [Moved.eq_with mv]
    refine hR s'.heap s'.toks acc c (fun b o hb e=>mv.heap b o (fun m=>?_) (hk b o hb e)) hS' hacc
    rcases List.mem_cons.mp m with e' | m
    · exact hb e'
    · exact absurd (Heap.lt_size e) (by rw [List.mem_singleton.mp m]; exact Nat.lt_irrefl _)
  have tv:s.TypeIs (.ref a) "dict":=⟨oa,ga,ca.1⟩
  unfold Builtin.List.listExtendWith
  refine wpAny_bind (wpAny_typeOf (T:="dict") tv ?_)
  have e1:Builtin.List.listSameRef (.ref S) (.ref a)=false:=by simp [Builtin.List.listSameRef,Sa]
  have e2:(Value.type "dict" == Value.type "list")=false:=by decide
  have e3:(Value.type "dict" == Value.type "tuple")=false:=by decide
  simp only [e1,e2,e3,Bool.or_false,Bool.false_eq_true,if_false]
  refine wpAny_bind (wpAny_pyIter_dict hm hd ?_)
  obtain ⟨itO,eit⟩:∃ itO:Obj,itO = { cls:=.type "dict_keyiterator",data:=.fields #[.ref a,.int 0 0,.int kvs.length 0,.int ep 0] }:=⟨_,rfl⟩
  have it0:(s.heap.push itO).IsKeyIter s.heap.objs.size a 0 kvs.length ep:=⟨itO,Heap.get?_push_size _ (by rw [eit]; rfl),by rw [eit],by rw [eit]; rfl⟩
  rw [← eit]
  refine wpAny_bind (wpAny_holding (zlP ⟨oa,Heap.get?_push_of_some _ ga,ca.1⟩ ?_))
  have hS₁:(s.heap.push itO).get? S=some (zhK #[] c₀):=Heap.get?_push_of_some _ hS
  refine wpAny_ite_split (fun _=>?_) (fun c=>absurd (show _=true by decide +kernel) c)
  refine wpAny_bind (wpAny_rule (wpAny_bind ?_))
  show wpAny _ A.in1 (updateSeq S (·.push .none) >>= fun _=>updateSeq S (·.pop)) _ _ _
  refine wpAny_bind (wpAny_updateSeq hS₁ rfl ?_)
  have hS₂:=Heap.get?_update_self (Obj.mapSeq (·.push Value.none)) hS₁ rfl
  refine wpAny_updateSeq (hz:=by seq_fits) hS₂ rfl ?_
  have hS₃:=Heap.get?_update_self (Obj.mapSeq (·.pop)) hS₂ rfl
  refine wpAny_pure ⟨plainId_quiet F.plain_extend_loop _,key _ _ _ ?_ (fun b o hb e=>?_) hS₃⟩
  · exact it0.at fun o e=>(Heap.get?_update_other _ _ SI).trans ((Heap.get?_update_other _ _ SI).trans e)
  · exact (Heap.get?_update_other _ _ (Ne.symm hb)).trans ((Heap.get?_update_other _ _ (Ne.symm hb)).trans (Heap.get?_push_of_some _ e))
theorem zlb {Q:Value→Shared→Prop} {a:Addr} {kvs:List (K × Value)} {ep:Nat} (hh:A.handled=none) (hm:(a == sysModules)=false) (hd:s.heap.DictAt knd a kvs ep) (hlen:kvs.length ≤ sizeLine)
    (hQ:∀ h' tk acc c,(∀ b o,s.heap.get? b=some o→h'.get? b=some o)→h'.get? s.heap.objs.size=some (zhK acc c)→ItemsOf (fun i x=>∃ k y,kvs[i]?=some (k,y)∧knd.is k x=true) acc kvs.length→Q (.ref s.heap.objs.size) { s with heap:=h',toks:=tk }) :
    wpAny (model prog w) A (call (.type "list") [.ref a]) Q E s:=by
  refine callType_codes (Q₁:=fun ob s₁=>ob = .ref s.heap.objs.size∧s₁ = { s with heap:=s.heap.push (zhK #[] 0) }) F.called_list (F.typeCall_list_1 _) F.entry_list_init (code_list_new _ ⟨rfl,rfl⟩) fun ob s₁ h₁=>?_
  obtain ⟨rfl,rfl⟩:=h₁
  have gS:(s.heap.push (zhK #[] 0)).get? s.heap.objs.size=some (zhK #[] 0):=Heap.get?_push_size _ rfl
  obtain ⟨oa,es,ga,ra⟩:=id hd
  have aS:a ≠ s.heap.objs.size:=Nat.ne_of_lt (Heap.lt_size ga)
  refine ⟨⟨_,gS,rfl⟩,F.args_list_init_2 _ _,?_⟩
  show wpAny _ A.in1.in1 (Builtin.List.listItems (.ref s.heap.objs.size) >>= fun old=>Builtin.List.listUpdate (.ref s.heap.objs.size) (fun _=>#[]) >>= fun _=>letGo old.toList.reverse >>= fun _=>Builtin.List.listExtendWith (.ref s.heap.objs.size) (.ref a) .none) _ _ _
  refine wpAny_bind ?_
  unfold Builtin.List.listItems
  refine wpAny_bind (wpAny_seqItems gS rfl (wpAny_pure ?_))
  show wpAny _ A.in1.in1 (updateSeq s.heap.objs.size (fun _=>#[]) >>= fun _=>letGo (#[]:Array Value).toList.reverse >>= fun _=>Builtin.List.listExtendWith (.ref s.heap.objs.size) (.ref a) .none) _ _ _
  refine wpAny_bind (wpAny_updateSeq gS rfl ?_)
  have g2:=Heap.get?_update_self (Obj.mapSeq (fun _=>(#[]:Array Value))) gS rfl
  have oth:∀ b o,b ≠ s.heap.objs.size→s.heap.get? b=some o→((s.heap.push (zhK #[] 0)).update s.heap.objs.size (Obj.mapSeq (fun _=>(#[]:Array Value)))).get? b=some o:=fun b o hb e=>(Heap.get?_update_other _ _ (Ne.symm hb)).trans (Heap.get?_push_of_some _ e)
  refine wpAny_bind (wpAny_letGo ?_)
  refine zmP (A:=A.in1) hh (knd:=knd) (kvs:=kvs) (ep:=ep) (a:=a) hm ⟨oa,es,oth a _ aS ga,ra⟩ hlen _ .none _ g2 fun h' tk acc c hk hS' hacc=>?_
  exact ⟨rfl,hQ h' tk acc c (fun b o e=>hk b o (Nat.ne_of_lt (Heap.lt_size e)) (oth b o (Nat.ne_of_lt (Heap.lt_size e)) e)) hS' hacc⟩
end
section
variable {X:Cx}
def zpY:List V→Hp→VK→Prop:=fun xs H Q=>∃ (a:Addr) (kvs:List (Key × V)),xs = [.ref a]∧Rd H a (.dK kvs)∧∀ l,H l=none→Q (.ref l) (upd H l (.lst (kvs.map fun kv=>kV kv.1)))
theorem zmt (hc:X.calm=true):zey X (.type "list") zpY:=by
  intro pins s σ H xs us Q I r h
  obtain ⟨a,kvs,rfl,ha,q⟩:=h
  obtain ⟨u,rfl,rx⟩:=zfn r
  cases rx
  obtain ⟨z,sm,vs,rv,dd⟩:=zjh I.hok ha
  obtain ⟨ep,da⟩:=dd.dictAt
  have ln:=rv.len
  refine zlb (knd:=zbs X.prog X.w) (I.ok.hd hc) sm da (by rw [ln]; exact z) fun h' tk acc c kp hS items=>?_
  refine ⟨.ref s.heap.objs.size,_,?_,rfl,q _ (I.hok.fresh (Nat.le_refl _))⟩
  obtain ⟨i1,i2⟩:=items
  refine I.laid kp (Nat.le_refl _) ⟨by rw [List.length_map]; exact z,acc.toList,c,?_,by simpa using hS⟩
  refine zln (by rw [List.length_map,← ln]; simpa using i1.symm) fun i x y hx hy=>?_
  rw [List.getElem?_map] at hx
  obtain ⟨⟨key,w1⟩,e1,e2⟩:=Option.map_eq_some_iff.mp hx
  obtain ⟨w2,e3,e4⟩:=rv.at e1
  obtain ⟨k',y',e5,e6⟩:=i2 i y (by simpa using hy)
  rw [e3] at e5; cases e5; cases e2
  exact zlr e6
end
end L2
namespace PM
open PySem L2
section
variable {K:Kx} {XO:XOT} {E:L2.St→XK}
theorem znK {td:TE} {md:En→R D} (h:SEr K XO E td md):SEo K XO E (tCB zpY (zbx td tNil)) (zqh zqe md):=by
  intro Λ F0 H0 F H σ δ Q I a
  refine h Λ F0 H0 F H σ δ _ I (a.bind.imp fun d F1 H1 e1 a1 x rx=>?_)
  cases d with
  | dct ks l =>
    obtain ⟨p,kvs,rfl,h1,h2,h3⟩:=rx
    refine ⟨p,kvs,rfl,.inl h1,fun q hq=>?_⟩
    refine a1 F1 _ (.newO e1.fh hq) q (e1.fh.free hq) (e1.hh.free hq) ⟨_,zal,?_⟩
    have:kvs.map (fun kv=>kV kv.1)=ks.map kV:=by rw [← h2,List.map_map]; rfl
    rw [this]
    exact zlH ks
  | _=>exact a1.elim
def ze2 (j i:Nat) (δ:En):O:=match δ[j]?,δ[i]? with
  | some (.o (.lst r)),some (.o (.lst l))=>if i=j then .no else (match l[l.length - 1]? with | some d=>if r.length < 100000 then .nx ((δ.set i (.o (.lst l.dropLast))).set j (.o (.lst (r ++ [d])))) else .no | none=>.no)
  | _,_=>.no
theorem zkB {j i:Nat}:SS K XO E (zmy (tBM K.f "list" ziK (tVar j) (zbx (tBM0 K.f "list" rPop (tVar i)) tNil))) (ze2 j i):=by
  intro Λ F0 H0 F H σ δ Dn I a
  unfold ze2 at a
  split at a
  · rename_i r l q1 q2
    split at a
    · exact a.elim
    · rename_i hij
      obtain ⟨pr,t1,ws,t2,t3⟩:=I.own q1
      obtain ⟨p,s1,vs,s2,s3⟩:=I.own q2
      cases e:l[l.length - 1]? with
      | none=>simp only [e] at a; exact a.elim
      | some d =>
        simp only [e] at a
        split at a
        · rename_i hr
          obtain ⟨v,hv,rv⟩:=s3.get e
          have I2:=I.chg (u:=.lst vs.dropLast) (d':=.lst l.dropLast) q2 s1 ⟨_,zal,s3.dropLast⟩
          have q1':(δ.set i (.o (.lst l.dropLast)))[j]?=some (.o (.lst r)):=by rw [List.getElem?_set_ne hij]; exact q1
          obtain ⟨pr2,u1,ws2,u2,u3⟩:=I2.own q1'
          have epr:pr2=pr:=by rw [t1] at u1; cases u1; rfl
          subst epr
          refine ⟨_,t1,.inl ⟨rfl,ws,.inl (.inl t2)⟩,?_⟩
          refine ⟨_,s1,.inl ⟨rfl,vs,.inl (.inl s2)⟩,p,vs,v,rfl,rfl,s2,by rw [s3.length]; exact hv,?_⟩
          refine ⟨pr2,ws2,v,rfl,rfl,u2,by rw [u3.length]; exact zl2 (by omega),?_⟩
          exact a σ F _ (I2.chg q1' u1 ⟨_,zal,u3.append (.cons rv .nil)⟩)
        · exact a.elim
  · exact a.elim
end
end PM
namespace PM
open PySem L2
section
variable {K:Kx} {XO:XOT} {E:L2.St→XK} {Λ:List (Nat × Addr × HO)} {F0 H0 F H:Hp} {σ:L2.St} {δ:En}
theorem EnvOk.frzD {i:Nat} {ks:List Key} {l:List D} {a:Addr} {kvs:List (Key × V)} {o:Obj} (I:EnvOk K Λ F0 H0 F H σ δ) (hx:δ[i]?=some (.o (.dct ks l))) (ha:σ[i]?=some (some (.ref a))) (hk:H a=some (.dK kvs)) :
    EnvOk K Λ F0 H0 (upd F a (.frz o (.dK kvs))) (upd H a (.frz o (.dK kvs))) σ (δ.set i (.v (.fd ks l))):=by
  have hi:i < δ.length:=(List.getElem?_eq_some_iff.mp hx).1
  have z:=I.slot i
  rw [hx] at z
  obtain ⟨a',z1,z2,z3,z4⟩:=z
  rw [ha] at z1; cases z1
  obtain ⟨u,eu⟩:∃ u,u=HO.frz o (.dK kvs):=⟨_,rfl⟩
  rw [← eu]
  have ht:∀ b,b ≠ a→upd H a u b=H b:=fun b e=>zag e
  have hs:Same F (upd F a u):=Same.upd z3
  have sl:∀ j:Nat,i ≠ j→Sl.own δ[j]?=true→σ[j]? ≠ some (some (V.ref a)):=fun j hj h e=>I.dist i j a hj (by rw [hx]; rfl) h ha e
  refine ⟨⟨I.ext.ff.trans hs,fun b w q=>(by rw [ht b (zaq q z2)]; exact I.ext.hh b w q),fun b w q=>?_,fun p o h1 h2=>?_⟩,by simp [I.len],fun j=>?_,fun j k b hjk g1 g2 g3 g4=>?_,fun y hy=>?_,I.tabsOf (fun k ll h=>by
      by_cases e:i=k
      · subst e; rw [List.getElem?_set_self hi] at h; cases h
      · rw [List.getElem?_set_ne e] at h; exact ⟨h,rfl⟩) (fun k r bs T g1 g2 t f dj=>by
      have e:i ≠ k:=fun e=>by subst e; rw [hx] at g1; cases g1
      exact ⟨(t.mono hs (.refl _)).at' fun b hb=>ht b fun e'=>dj i a e (by rw [hx]; rfl) ha (e' ▸ hb),fun b hb=>by rw [zag (show b ≠ a from fun e'=>dj i a e (by rw [hx]; rfl) ha (e' ▸ hb))]; exact (f b hb).2⟩) fun k j ll r b bs _ _ _ _ ho hs=>.inl (by
      by_cases e:i=j
      · subst e; rw [List.getElem?_set_self hi] at ho; cases ho
      · rw [List.getElem?_set_ne e] at ho; exact ⟨ho,hs⟩)⟩
  · by_cases e:b=a
    · subst e; rw [zal] at q ⊢; exact q
    · rw [zag e] at q; rw [ht b e]; exact I.ext.fh _ _ q
  · rw [zag (zaq h2 z2)]; exact I.ext.nw p o h1 h2
  · by_cases e:i=j
    · subst e
      rw [List.getElem?_set_self hi]
      refine ⟨.ref a,ha,?_⟩
      obtain ⟨kvs',h2,h3,h4⟩:=z4
      rw [hk] at h2; cases h2
      simp only [Rep]
      exact ⟨a,o,kvs,rfl,by rw [zal,eu],h3,h4.mono hs⟩
    · rw [List.getElem?_set_ne e]
      have w:=I.slot j
      cases q:δ[j]? with
      | none=>trivial
      | some y =>
        rw [q] at w
        cases y with
        | no=>trivial
        | v d=>obtain ⟨v,w1,w2⟩:=w; exact ⟨v,w1,Rep.mono hs d w2⟩
        | o d =>
          obtain ⟨b,w1,w2,w3,w4⟩:=w
          exact ⟨b,w1,w2,by rw [zag (show b ≠ a from fun e'=>sl j e (by rw [q]; rfl) (by rw [w1,e']))]; exact w3,(w4.mono hs (.refl _)).at (ht b fun e'=>sl j e (by rw [q]; rfl) (by rw [w1,e']))⟩
        | p ll =>
          obtain ⟨r,bs,t1,t2,t3,t4,t5⟩:=I.tab q
          exact ⟨r,bs,t1,(t2.mono hs (.refl _)).at' fun b hb=>ht b fun e'=>t4 i a e (by rw [hx]; rfl) ha (e' ▸ hb),fun b hb=>⟨(t3 b hb).1,by rw [zag (show b ≠ a from fun e'=>t4 i a e (by rw [hx]; rfl) ha (e' ▸ hb))]; exact (t3 b hb).2⟩⟩
        | l d =>
          obtain ⟨b,w1,w2,w3,w4⟩:=w
          exact ⟨b,w1,w2,by rw [zag (show b ≠ a from fun e'=>sl j e (by rw [q]; rfl) (by rw [w1,e']))]; exact w3,(w4.mono hs (.refl _)).at (ht b fun e'=>sl j e (by rw [q]; rfl) (by rw [w1,e']))⟩
  · have ow:∀ k:Nat,Sl.own (δ.set i (.v (.fd ks l)))[k]?=true→Sl.own δ[k]?=true:=by
      intro k h
      by_cases e:i=k
      · subst e; rw [List.getElem?_set_self hi] at h; cases h
      · rw [List.getElem?_set_ne e] at h; exact h
    exact I.dist j k b hjk (ow j g1) (ow k g2) g3 g4
  · obtain ⟨⟨d2,g1⟩,g2,g3⟩:=I.lent y hy
    have n:i ≠ y.1:=by
      intro e
      rw [← e,hx] at g1
      cases g1
    exact ⟨⟨d2,by rw [List.getElem?_set_ne n]; exact g1⟩,g2,by rw [ht _ (fun e'=>sl y.1 n (by rw [g1]; rfl) (by rw [g2,e']))]; exact g3⟩
def zoL (i:Nat) (m:En→O) (δ:En):O:=match δ[i]? with | some (.o (.dct ks l))=>m (δ.set i (.v (.fd ks l))) | _=>.no
theorem zlv {i:Nat} {r:List V→Hp→VK→Prop} {ix:List Nat} {n:Nat} {g:TG} {tc:Option TT} {te:TE} {m:En→O} (h:SS K XO E (tRet (tCB r (zbx (zjk (zm1 (tVar i)) ix n g tc te) tNil))) m) :
    SS K XO E (tRet (tCB r (zbx (zjk (zm1 (tFix (tVar i))) ix n g tc te) tNil))) (zoL i m):=by
  intro Λ F0 H0 F H σ δ Dn I a
  unfold zoL at a
  split at a
  · rename_i ks l q
    obtain ⟨p,s1,kvs,s2,s3,s4⟩:=I.own q
    refine ⟨.ref p,s1,p,kvs,rfl,s2,fun o=>?_⟩
    obtain ⟨v,hv,k⟩:=h Λ F0 H0 _ _ σ _ Dn (I.frzD (o:=o) q s1 s2) a
    rw [s1] at hv
    cases hv
    exact k
  · exact a.elim
end
end PM
namespace PM
open PySem L2
section
variable {K:Kx} {XO:XOT} {E:L2.St→XK} {Λ:List (Nat × Addr × HO)} {F0 H0 F H:Hp} {σ:L2.St} {δ:En} {t:TS} {m:En→O}
theorem EnvOk.frzT {i:Nat} {T:Tr} (I:EnvOk K Λ F0 H0 F H σ δ) (hx:δ[i]?=some (.p T)):∃ F',EnvOk K Λ F0 H0 F' H σ (δ.set i (.v (trD T))):=by
  have hi:i < δ.length:=(List.getElem?_eq_some_iff.mp hx).1
  obtain ⟨p,bs,s1,s2,s3,s4,s5⟩:=I.tab hx
  have inB:∀ b ∈ p :: bs,zdU F H (p :: bs) b=H b:=fun b hb=>by unfold zdU; rw [if_pos hb]
  have outB:∀ b,b ∉ p :: bs→zdU F H (p :: bs) b=F b:=fun b hb=>by unfold zdU; rw [if_neg hb]
  have ff:Same F (zdU F H (p :: bs)):=fun b o h=>by
    rw [outB b fun z=>by rw [(s3 b z).2] at h; cases h]
    exact h
  have fh:Same (zdU F H (p :: bs)) H:=fun b o h=>by
    unfold zdU at h
    split at h
    · exact h
    · exact I.same b o h
  have set_own:∀ k:Nat,Sl.own (δ.set i (.v (trD T)))[k]?=true→Sl.own δ[k]?=true∧k ≠ i:=fun k h=>by
    by_cases e:i=k
    · subst e; rw [List.getElem?_set_self hi] at h; cases h
    · rw [List.getElem?_set_ne e] at h; exact ⟨h,fun z=>e z.symm⟩
  refine ⟨zdU F H (p :: bs),⟨I.ext.ff.trans ff,I.ext.hh,fh,fun b o h1 h2=>?_⟩,by simp [I.len],fun j=>?_,fun j k b hjk g1 g2 g3 g4=>I.dist j k b hjk (set_own j g1).1 (set_own k g2).1 g3 g4,fun y hy=>?_,fun k T' h=>?_⟩
  · rw [outB b fun z=>by rw [(s3 b z).1] at h2; cases h2]
    exact I.ext.nw b o h1 h2
  · by_cases e:i=j
    · subst e
      rw [List.getElem?_set_self hi]
      exact ⟨.ref p,s1,zmo ff T s2.ok inB⟩
    · rw [List.getElem?_set_ne e]
      have w:=I.slot j
      cases q:δ[j]? with
      | none=>trivial
      | some y =>
        rw [q] at w
        cases y with
        | no=>trivial
        | v d=>obtain ⟨v,w1,w2⟩:=w; exact ⟨v,w1,Rep.mono ff d w2⟩
        | o d =>
          obtain ⟨b,w1,w2,w3,w4⟩:=w
          exact ⟨b,w1,w2,by rw [outB b (s4 j b (fun z=>e z.symm) (by rw [q]; rfl) w1)]; exact w3,w4.mono ff (.refl _)⟩
        | p ll=>exact absurd (s5 j ll q).symm e
        | l d =>
          obtain ⟨b,w1,w2,w3,w4⟩:=w
          exact ⟨b,w1,w2,by rw [outB b (s4 j b (fun z=>e z.symm) (by rw [q]; rfl) w1)]; exact w3,w4.mono ff (.refl _)⟩
  · obtain ⟨⟨d2,g1⟩,g2,g3⟩:=I.lent y hy
    have n:i ≠ y.1:=by
      intro e
      rw [← e,hx] at g1
      cases g1
    exact ⟨⟨d2,by rw [List.getElem?_set_ne n]; exact g1⟩,g2,g3⟩
  · by_cases e:i=k
    · subst e; rw [List.getElem?_set_self hi] at h; cases h
    · rw [List.getElem?_set_ne e] at h; exact absurd (s5 k T' h).symm e
def zfb (i:Nat) (m:En→O) (δ:En):O:=match δ[i]? with | some (.p T)=>m (δ.set i (.v (trD T))) | _=>.no
theorem zjn {i:Nat} (h:SS K XO E t m):SS K XO E t (zfb i m):=by
  intro Λ F0 H0 F H σ δ Dn I a
  unfold zfb at a
  split at a
  · rename_i T q
    obtain ⟨F',I'⟩:=I.frzT q
    exact h Λ F0 H0 F' H σ _ Dn I' a
  · exact a.elim
end
end PM
namespace My
open PySem L2 PM
def zdK:Nat→Bool
  | 2=>true
  | _=>false
def zc2 (c:Nat):Bool:=zdK (c % 16)
def zeG:Nat→Bool
  | 2=>true
  | _=>false
def zdz (c:Nat):Bool:=zeG (c % 16)
def zfE:Nat→Option Bool
  | 2=>some false
  | _=>none
def zfY (c:Nat):Option Bool:=zfE (c % 16)
def zfF:Nat→Option Bool
  | 2=>some false
  | _=>none
def zgx (c:Nat):Option Bool:=zfF (c % 16)
def zfx:Nat→Option Bool
  | 2=>some false
  | _=>none
def zf4 (c:Nat):Option Bool:=zfx (c % 16)
def zgt:Nat→Option Bool
  | 2=>some false
  | _=>none
def zhe (c:Nat):Option Bool:=zgt (c % 16)
def zfZ:Nat→Option Bool
  | 2=>some false
  | _=>none
def zg8 (c:Nat):Option Bool:=zfZ (c % 16)
def zd8:Nat→Option Bool
  | 2=>some true
  | _=>none
def zeB (c:Nat):Option Bool:=zd8 (c % 16)
def znM:Nat→Bool
  | _=>false
def zq4 (c:Nat):Bool:=znM (c % 16)
def zlE:Nat→Bool
  | _=>false
def zqM (c:Nat):Bool:=zlE (c % 16)
def znB:Nat→Bool
  | 7=>true
  | _=>false
def zkz:Nat→Bool
  | 7=>true
  | _=>false
def zmM:Nat→Option Bool
  | 7=>some true
  | _=>none
def zcN:En→O:=(mSeq (mIfS (zap (m2 oLt (mRd 1) (mCB fLen (zaa (mRd 0) mNil))))
  (mRet (m2 oIxL (mRd 0) (mRd 1)))
  zbm)
  (mRet (mC (.int 0))))
def zaE:List D→R D:=runF 2 0 zcN
def zfy:En→O:=(mSeq (mAsg (m2 oMod (zau zaE (zaa (mVar 0) (zaa (mVar 1) mNil))) (m2 oPow (mC (.int 10)) (mC (.int 20)))) (zan 3))
  (mSeq (mAsg (m2 oMod (m2 oAdd (m2 oMul (mRd 3) (mC (.int 48271))) (m2 oMul (m2 oMul (m2 oAdd (mRd 1) (mC (.int 1))) (m2 oAdd (mRd 1) (mC (.int 7)))) (mC (.int 69621)))) (mC (.int 2147483647))) (zan 4))
  (mSeq (mAsg (m2 oMod (m2 oAdd (m2 oAdd (m2 oMul (mRd 3) (mC (.int 16807))) (m2 oMul (m2 oMul (mRd 1) (mRd 1)) (mC (.int 40692)))) (mC (.int 7))) (mC (.int 2147483629))) (zan 5))
  (mRet (m2 oMod (m2 oAdd (m2 oMul (mRd 4) (mC (.int 2147483629))) (mRd 5)) (m2 oAdd (mRd 2) (mC (.int 1))))))))
def zaK:List D→R D:=runF 3 3 zfy
def zeM:En→R D:=zfQ (mRng (zaa (mVar 1) mNil)) [0,2] 1 (zaX 2) none (mTup (zaa (zau zaK (zaa (mVar 0) (zaa (m2 oAdd (mC (.int 1)) (m2 oMul (mC (.int 2)) (mRd 2))) (zaa (mVar 1) mNil)))) (zaa (zau zaK (zaa (mVar 0) (zaa (m2 oAdd (mC (.int 2)) (m2 oMul (mC (.int 2)) (mRd 2))) (zaa (mVar 1) mNil)))) mNil)))
def zgF:En→R D:=zfQ (mItL (mRd 3)) [5,6] 1 (zaX 2) none (m2 oAdd (mCB fAbs (zaa (m2 oSub (mRd 0) (m2 oIxT (mRd 2) (mC (.int 0)))) mNil)) (mCB fAbs (zaa (m2 oSub (mRd 1) (m2 oIxT (mRd 2) (mC (.int 1)))) mNil)))
def zea:En→O:=(zbD 4 zgF)
def zgz:En→O:=mFor (mItL (mVar 3)) (bTup 2 (zbH (zan 5) (zbH (zan 6) bNil))) zea
def zhd:En→O:=(mSeq (mAsg zeM (zan 3))
  (mSeq (mAsg (mLst mNil) (bNew 4))
  (mSeq zgz
  (ziF 4))))
def zci:List D→R D:=runO 3 4 zhd
def zdP:En→O:=(mSeq (mAsg (zcc (m2 oAdd (m2 oIxL (m2 oIxL (mRd 0) (mRd 2)) (mRd 1)) (m2 oIxL (m2 oIxL (mRd 0) (mRd 1)) (mRd 3)))) (zan 4))
  (zdC 0 (mVar 2) (mVar 3) (zcc (mCB zkQ (zaa (m2 oIxL (m2 oIxL (mRd 0) (mRd 2)) (mRd 3)) (zaa (mRd 4) mNil))))))
def zdZ:En→O:=mFor (mRng (zaa (zcc (mCB fLen (zaa (mRd 0) mNil))) mNil)) (zan 3) zdP
def zdO:En→O:=zdZ
def zd2:En→O:=mFor (mRng (zaa (zcc (mCB fLen (zaa (mRd 0) mNil))) mNil)) (zan 2) zdO
def zdM:En→O:=zd2
def zeg:En→O:=mFor (mRng (zaa (zcc (mCB fLen (zaa (mRd 0) mNil))) mNil)) (zan 1) zdM
def zco:En→O:=(mSeq zeg
  (znl 0))
def zbe:List (List Int)→R D:=runT 4 zco
def zdl:En→R D:=zfQ (mRng (zaa (mVar 0) mNil)) [] 1 (zaX 0) none (mC (.int 0))
def zcn:En→R (List (List Int)):=zhZ (mRng (zaa (mVar 3) mNil)) [3] 1 (zaX 1) zdl
def zed:En→O:=(mSeq (mAsg (zau zaK (zaa (mVar 0) (zaa (m2 oAdd (m2 oAdd (mC (.int 1)) (m2 oDiv (m2 oMul (mRd 7) (m2 oSub (mRd 7) (mC (.int 1)))) (mC (.int 2)))) (mRd 8)) (zaa (mVar 5) mNil)))) (zan 9))
  (mSeq (mIfS (zap (m2 oEq (mRd 4) (mC (.int 1))))
  (mAsg (m2 oAdd (mRd 9) (mRd 5)) (zan 9))
  zbm)
  (mSeq (zdC 6 (mVar 7) (mVar 8) (mVar 9))
  (zdC 6 (mVar 8) (mVar 7) (mVar 9)))))
def zeF:En→O:=mFor (mRng (zaa (mVar 7) mNil)) (zan 8) zed
def zek:En→O:=zeF
def zeD:En→O:=mFor (mRng (zaa (mVar 3) mNil)) (zan 7) zek
def zfi:En→O:=(mSeq (mAsg (zau zaE (zaa (mVar 0) (zaa (mC (.int 0)) mNil))) (zan 2))
  (mSeq (mAsg (m2 oAdd (mC (.int 1)) (m2 oMod (mRd 2) (mC (.int 7)))) (zan 3))
  (mSeq (mIfS (zap (m2 oEq (m2 oMod (m2 oDiv (mRd 2) (mC (.int 7))) (mC (.int 8))) (mC (.int 3))))
  (mAsg (m2 oAdd (mC (.int 8)) (m2 oMod (m2 oDiv (mRd 2) (mC (.int 56))) (mC (.int 4)))) (zan 3))
  zbm)
  (mSeq (mAsg (m2 oMod (m2 oDiv (mRd 2) (mC (.int 112))) (mC (.int 3))) (zan 4))
  (mSeq (mAsg (m2 oIxL (mLst (zaa (mC (.int 6)) (zaa (mC (.int 60)) (zaa (mVar 1) mNil)))) (m2 oMod (m2 oDiv (mRd 2) (mC (.int 336))) (mC (.int 3)))) (zan 5))
  (mSeq (mIfS (zap (m2 oEq (mRd 4) (mC (.int 0))))
  (zbZ (zau zci (zaa (mVar 0) (zaa (mVar 3) (zaa (mVar 5) mNil)))))
  zbm)
  (mSeq (zi6 zcn 6)
  (mSeq zeD
  (mSeq (mIfS (zap (m2 oEq (mRd 4) (mC (.int 2))))
  (zig zbe 6)
  zbm)
  (znl 6))))))))))
def zbp:List D→R D:=runO 2 8 zfi
def zcm:En→R (List (List Int)):=zhZ (mItL (mRd 0)) [] 1 (zaX 0) (mCB zfs (zaa (mRd 0) mNil))
def zcp:En→R D:=zfQ (mRng (zaa (mVar 3) mNil)) [5,2,4] 1 (zaX 3) (some (mAnd (zap (m2 oNe (mRd 3) (mRd 2))) (zap (m2 oNe (mRd 3) (mRd 0))))) (m2 oAdd (m2 oIxL (m2 oIxL (mRd 1) (mRd 2)) (mRd 3)) (m2 oIxL (m2 oIxL (mRd 1) (mRd 3)) (mRd 0)))
def ze4:En→O:=(mSeq (zi6 zcm 2)
  (mSeq (mAsg (zcc (mCB fLen (zaa (mRd 2) mNil))) (zan 3))
  (mSeq (mAsg (m2 oMod (mRd 1) (mRd 3)) (zan 4))
  (mSeq (mIfS (mOr (zap (m2 oEq (mRd 3) (mC (.int 1)))) (zap (m2 oEq (m2 oMod (m2 oDiv (mRd 1) (mC (.int 9))) (mC (.int 3))) (mC (.int 0)))))
  (mSeq (zdC 2 (mVar 4) (mVar 4) (m2 oAdd (mC (.int 1)) (m2 oMod (m2 oDiv (mRd 1) (mC (.int 27))) (m2 oPow (mC (.int 10)) (mC (.int 9))))))
  (zfb 2 (zbZ (mLst (zaa (mVar 2) (zaa (mVar 4) (zaa (mVar 4) mNil)))))))
  zbm)
  (mSeq (mAsg (m2 oMod (m2 oAdd (m2 oAdd (mRd 4) (mC (.int 1))) (m2 oMod (m2 oDiv (mRd 1) (mC (.int 27))) (m2 oSub (mRd 3) (mC (.int 1))))) (mRd 3)) (zan 5))
  (mSeq (mIfS (mOr (zap (m2 oEq (mRd 3) (mC (.int 2)))) (zap (m2 oEq (m2 oMod (m2 oDiv (mRd 1) (mC (.int 9))) (mC (.int 3))) (mC (.int 1)))))
  (mSeq (zdC 2 (mVar 4) (mVar 5) (zcc (m2 oAdd (m2 oIxL (m2 oIxL (mRd 2) (mRd 4)) (mRd 5)) (mC (.int 1)))))
  (zfb 2 (zbZ (mLst (zaa (mVar 2) (zaa (mVar 4) (zaa (mVar 5) mNil)))))))
  zbm)
  (mSeq (mAsg (zgV zcp) (zan 6))
  (mSeq (zdC 2 (mVar 4) (mVar 5) (m2 oAdd (m2 oAdd (mCB (zia minI) (zaa (mRd 6) mNil)) (mC (.int 1))) (m2 oMod (m2 oDiv (mRd 1) (mC (.int 729))) (mC (.int 3)))))
  (mSeq (zdC 2 (mVar 5) (mVar 4) (zcc (m2 oIxL (m2 oIxL (mRd 2) (mRd 4)) (mRd 5))))
  (zfb 2 (zbZ (mLst (zaa (mVar 2) (zaa (mVar 4) (zaa (mVar 5) mNil)))))))))))))))
def zbu:List D→R D:=runO 2 5 ze4
def zbt:En→O:=(mIfS (zap (m2 oNe (m2 oIxL (m2 oIxL (mRd 0) (mRd 2)) (mRd 2)) (mC (.int 0))))
  (zg2 2 (zaa (mC (.str "a place is away from itself")) mNil))
  zbm)
def zeu:En→O:=mFor (mRng (zaa (mVar 1) mNil)) (zan 2) zbt
def zbo:En→O:=(mIfS (zap (m2 oNe (m2 oIxL (m2 oIxL (mRd 0) (mRd 2)) (mRd 3)) (m2 oIxL (m2 oIxL (mRd 0) (mRd 3)) (mRd 2))))
  (zg2 2 (zaa (mC (.str "two places have two unlike lengths")) mNil))
  zbm)
def zkw:En→O:=mFor (mRng (zaa (mVar 2) mNil)) (zan 3) zbo
def zcS:En→O:=zkw
def zet:En→O:=mFor (mRng (zaa (mVar 1) mNil)) (zan 2) zcS
def zbq:En→O:=(mIfS (zap (m2 oLt (m2 oAdd (m2 oIxL (m2 oIxL (mRd 0) (mRd 2)) (mRd 3)) (m2 oIxL (m2 oIxL (mRd 0) (mRd 3)) (mRd 4))) (m2 oIxL (m2 oIxL (mRd 0) (mRd 2)) (mRd 4))))
  (zg2 2 (zaa (mC (.str "a way by a third place is shorter than the straight one")) mNil))
  zbm)
def zkW:En→O:=mFor (mRng (zaa (mVar 1) mNil)) (zan 4) zbq
def zcW:En→O:=zkW
def zki:En→O:=mFor (mRng (zaa (mVar 1) mNil)) (zan 3) zcW
def zcX:En→O:=zki
def zev:En→O:=mFor (mRng (zaa (mVar 1) mNil)) (zan 2) zcX
def zfW:En→O:=(mSeq (mAsg (mCB fLen (zaa (mRd 0) mNil)) (zan 1))
  (mSeq zeu
  (mSeq zet
  zev)))
def zaO:List D→R D:=runF 1 4 zfW
def zch:En→O:=(zbD 3 (mTup (zaa (m2 oIxL (m2 oIxL (mRd 0) (mRd 5)) (mRd 4)) (zaa (mVar 4) (zaa (mVar 5) mNil)))))
def zdJ:En→O:=mFor (mItL (mVar 1)) (zan 5) zch
def zcf:En→O:=zdJ
def zdI:En→O:=mFor (mItL (mVar 2)) (zan 4) zcf
def zei:En→O:=(mSeq (mAsg (mLst mNil) (bNew 3))
  (mSeq zdI
  (mSeq (mAsg (mCB zk3 (zaa (mRd 3) mNil)) (zan 6))
  (mRet (mTup (zaa (m2 oIxT (mRd 6) (mC (.int 2))) (zaa (m2 oIxT (mRd 6) (mC (.int 1))) mNil)))))))
def zbk:List D→R D:=runF 3 4 zei
def zby:En→R Bool:=(zap (m2 oGt (mCB fLen (zaa (mRd 2) mNil)) (mC (.int 0))))
def zdh:En→O:=(mSeq (mAsg (zeY zbk (zaa (mVar 0) (zaa (mRd 1) (zaa (mRd 2) mNil)))) (zan 4))
  (mSeq (zbD 3 (mVar 4))
  (mSeq (zbD 1 (m2 oIxT (mRd 4) (mC (.int 1))))
  (zft 2 (m2 oIxT (mRd 4) (mC (.int 1)))))))
def zfa:En→O:=zf8 zby zdh
def zen:En→O:=(mSeq (mDo (zaV zaO (zaa (mVar 0) mNil)))
  (mSeq (mAsg (mLst (zaa (mC (.int 0)) mNil)) (bNew 1))
  (mSeq (mAsg (zjN (zaa (mC (.int 1)) (zaa (mCB fLen (zaa (mRd 0) mNil)) mNil))) (bNew 2))
  (mSeq (mAsg (mLst mNil) (bNew 3))
  (mSeq zfa
  (ziF 3))))))
def zaD:List D→R D:=runO 1 4 zen
def zdN:En→O:=(mIfS (zap (m2 oEq (mRd 5) (mRd 4)))
  (zbD 3 (mVar 6))
  zbm)
def zeo:En→O:=mFor (mRev (zaa (mVar 1) mNil)) (bTup 2 (zbH (zan 5) (zbH (zan 6) bNil))) zdN
def za9:En→R Bool:=(zap (m2 oGt (mCB fLen (zaa (mRd 3) mNil)) (mC (.int 0))))
def zcz:En→O:=(mSeq (zlV 3 (zan 4))
  (mSeq (zbD 2 (mVar 4))
  zeo))
def zep:En→O:=zf8 za9 zcz
def zdm:En→O:=(mSeq (mAsg (zaV zaD (zaa (mVar 0) mNil)) (zan 1))
  (mSeq (mAsg (mLst mNil) (bNew 2))
  (mSeq (mAsg (mLst (zaa (mC (.int 0)) mNil)) (bNew 3))
  (mSeq zep
  (ziF 2)))))
def zbA:List D→R D:=runO 1 6 zdm
def zcT:En→O:=(mSeq (mDo (zaV zaO (zaa (mVar 0) mNil)))
  (zbZ zh5))
def zaB:List D→R D:=runO 2 0 zcT
def zfB:En→O:=(zi0 1 (mVar 3) (zhE (ziG (mRd 1) (mVar 3) (mC (.bl false)))))
def zgj:En→O:=mFor (mItT (mVar 2)) (zan 3) zfB
def zeb:En→O:=zgj
def zgC:En→O:=mFor (mItL (mVar 0)) (zan 2) zeb
def zeT:En→R D:=zfQ (zpw (mVar 1)) [1] 1 (zaX 1) (some (zap (m2 fGet (mVar 0) (mVar 1)))) (mVar 1)
def zhc:En→O:=(mSeq (mAsg (mC (.dct [] [])) (bNew 1))
  (mSeq zgC
  (zoL 1 (zbZ (mCB zeW (zaa zeT mNil))))))
def zbJ:List D→R D:=runO 1 3 zhc
def zbS:En→O:=(mIfS (zap (m2 oIn (mRd 1) (mRd 3)))
  (mRet (mVar 2))
  zbm)
def zkU:En→O:=mFor (zou (zaa (mVar 0) mNil)) (bTup 2 (zbH (zan 2) (zbH (zan 3) bNil))) zbS
def zie:En→O:=(mSeq zkU
  (mRet (mC .non)))
def zcx:List D→R D:=runF 2 2 zie
def zdE:En→O:=(mRet (mIf (zap (m2 oEq (m2 oIxT (mRd 0) (mC (.int 0))) (mRd 1))) (m2 oIxT (mRd 0) (mC (.int 1))) (m2 oIxT (mRd 0) (mC (.int 0)))))
def zcj:List D→R D:=runF 2 0 zdE
def za2:En→R Bool:=(zap (m2 oGt (mCB fLen (zaa (mRd 2) mNil)) (mC (.int 0))))
def zcr:En→O:=(mSeq (mAsg (m2 oIxL (mRd 2) (m1 oNeg (mC (.int 1)))) (zan 4))
  (mSeq (mAsg (zeY zcx (zaa (mRd 1) (zaa (mVar 4) mNil))) (zan 5))
  (mIfS (zap (m2 oIs (mRd 5) (mC .non)))
  (ze2 3 2)
  (mSeq (zmg 1 (mVar 5) (zan 6))
  (zbD 2 (zau zcj (zaa (mVar 6) (zaa (mVar 4) mNil))))))))
def zff:En→O:=zf8 za2 zcr
def zfA:En→O:=(mSeq (mAsg (mCB zfs (zaa (mRd 0) mNil)) (bNew 1))
  (mSeq (mAsg (mLst (zaa (mC (.int 0)) mNil)) (bNew 2))
  (mSeq (mAsg (mLst mNil) (bNew 3))
  (mSeq zff
  (ziF 3)))))
def zbT:List D→R D:=runO 1 6 zfA
def zdx:En→O:=(mSeq (mAsg (zaV zaD (zaa (mVar 0) mNil)) (zan 1))
  (zbZ (zau zbT (zaa (m2 oCat (mRd 1) (zaV zaB (zaa (mVar 0) (zaa (zau zbJ (zaa (mVar 1) mNil)) mNil)))) mNil))))
def zbc:List D→R D:=runO 1 1 zdx
def zcA:En→O:=(zi0 1 (mVar 2) (mC (.bl true)))
def zbW:En→O:=mFor (mItL (zaV zbc (zaa (mVar 0) mNil))) (zan 2) zcA
def zdi:En→O:=(mSeq (mAsg (mC (.dct [] [])) (bNew 1))
  (mSeq zbW
  (zbZ (zqh zqe (mRd 1)))))
def zbz:List D→R D:=runO 1 2 zdi
def zct:En→O:=(mIfS (zap (m2 oEq (mRd 1) (mC (.int 0))))
  (mDo (zaV zaO (zaa (mVar 0) mNil)))
  (mIfS (zap (m2 oEq (mRd 1) (mC (.int 1))))
  (mDo (zaV zaD (zaa (mVar 0) mNil)))
  (mIfS (zap (m2 oEq (mRd 1) (mC (.int 2))))
  (mDo (zaV zbA (zaa (mVar 0) mNil)))
  (mIfS (zap (m2 oEq (mRd 1) (mC (.int 3))))
  (mDo (zaV zaB (zaa (mVar 0) (zaa (mLst mNil) mNil))))
  (mIfS (zap (m2 oEq (mRd 1) (mC (.int 4))))
  (mDo (zaV zbc (zaa (mVar 0) mNil)))
  (mDo (zaV zbz (zaa (mVar 0) mNil))))))))
def zaY:List D→R D:=runF 2 0 zct
def zfk:En→O:=(mSeq (mAsg (mC .non) (zan 2))
  (mSeq (mTry (mDo (zaV zaY (zaa (mVar 0) (zaa (mVar 1) mNil)))) zdz 3 (mAsg (mVar 3) (zan 2)))
  (mSeq (mIfS (mOr (zap (m2 oIs (mRd 2) (mC .non))) (mOr (mNot (zap (m1 (zhV zeB) (mRd 2)))) (zap (m1 (zhV zfY) (mRd 2)))))
  (mRet (mC (.bl false)))
  zbm)
  (mSeq (mIfS (mOr (zap (m1 (zhV zgx) (mRd 2))) (mOr (zap (m1 (zhV zf4) (mRd 2))) (zap (m1 (zhV zhe) (mRd 2)))))
  (mRet (mC (.bl false)))
  zbm)
  (mRet (zhE (m1 (zhV zg8) (mRd 2))))))))
def zbG:List D→R D:=runF 2 2 zfk
def zcF:En→O:=(mSeq (zlw (mDo (zaV zaY (zaa (mVar 0) (zaa (mVar 1) mNil)))) zc2 (mRet (mC (.bl true))))
  (mRet (mC (.bl false))))
def zaQ:List D→R D:=runF 2 0 zcF
def zbU:En→R D:=zfQ (mItL (mRd 0)) [] 1 (zaX 0) none (mCB zfs (zaa (mRd 0) mNil))
def zbQ:En→O:=(mIfS (mOr (mNot (zap (zau zbG (zaa (mVar 0) (zaa (mVar 2) mNil))))) (mNot (zap (zau zaQ (zaa (mVar 0) (zaa (mVar 2) mNil))))))
  (mRet (mC (.bl false)))
  zbm)
def zc4:En→O:=mFor (mRng (zaa (mC (.int 6)) mNil)) (zan 2) zbQ
def zdt:En→O:=(mSeq (mAsg zbU (zan 1))
  (mSeq zc4
  (mRet (m2 oEqD (mRd 0) (mRd 1)))))
def zaT:List D→R D:=runF 1 2 zdt
def ze6:En→R D:=zfQ (mRng (zaa (m2 oSub (mCB fLen (zaa (mRd 1) mNil)) (mC (.int 1))) mNil)) [0,1] 1 (zaX 2) none (m2 oIxL (m2 oIxL (mRd 0) (m2 oIxL (mRd 1) (mRd 2))) (m2 oIxL (mRd 1) (m2 oAdd (mRd 2) (mC (.int 1)))))
def zfz:En→O:=(mRet (mCB fSum (zaa ze6 mNil)))
def zbb:List D→R D:=runF 2 0 zfz
def zf1:En→O:=(mRet (zkr (m1 (oIsi "int") (mRd 0)) (zkr (zhE (m1 (oIsi "bool") (mRd 0))) (m2 oEq (mRd 0) (mRd 1)))))
def za5:List D→R D:=runF 2 0 zf1
def zel:En→R D:=zfQ (mItL (mRd 1)) [0] 2 (bTup 2 (zbH (zaX 1) (zbH (zaX 2) bNil))) none (m2 oIxL (m2 oIxL (mRd 0) (mRd 1)) (mRd 2))
def zeH:En→O:=(mRet (mCB fSum (zaa zel mNil)))
def za0:List D→R D:=runF 2 0 zeH
def zmj:En→R D:=zfQ (mItL (mRd 1)) [] 1 (zaX 0) none (mCB zfs (zaa (mRd 0) mNil))
def ziV:En→O:=(mDo (zau zaY (zaa (mVar 1) (zaa (mVar 6) mNil))))
def zof:En→O:=mFor (mRng (zaa (mC (.int 6)) mNil)) (zan 6) ziV
def zqK:En→O:=(mSeq (mAsg (zau zbp (zaa (mVar 0) (zaa (m2 oMul (mC (.int 2)) (m2 oPow (mC (.int 10)) (mC (.int 17)))) mNil))) (zan 1))
  (mSeq (mAsg zmj (zan 2))
  (mSeq (mAsg (zau zbu (zaa (mVar 1) (zaa (zau zaK (zaa (mVar 0) (zaa (mC (.int 37)) (zaa (m2 oPow (mC (.int 10)) (mC (.int 12))) mNil)))) mNil))) (bLst 3 (zbH (zan 3) (zbH (zan 4) (zbH (zan 5) bNil)))))
  (mSeq (mIfS (mOr (zap (m2 zmF (zau zaO (zaa (mVar 1) mNil)) (mC .non))) (mNot (zap (zau zaT (zaa (mVar 3) mNil)))))
  (mRet (mC (.bl false)))
  zbm)
  (mSeq (mIfS (zap (m2 oNe (mRd 4) (mRd 5)))
  (mSeq (mIfS (mNot (zap (zau za5 (zaa (zau zbb (zaa (mVar 3) (zaa (mLst (zaa (mVar 4) (zaa (mVar 5) (zaa (mVar 4) mNil)))) mNil))) (zaa (m2 oAdd (m2 oIxL (m2 oIxL (mRd 3) (mRd 4)) (mRd 5)) (m2 oIxL (m2 oIxL (mRd 3) (mRd 5)) (mRd 4))) mNil)))))
  (mRet (mC (.bl false)))
  zbm)
  (mIfS (mNot (zap (zau za5 (zaa (zau za0 (zaa (mVar 3) (zaa (mLst (zaa (mTup (zaa (mVar 4) (zaa (mVar 5) mNil))) (zaa (mTup (zaa (mVar 4) (zaa (mVar 5) mNil))) mNil))) mNil))) (zaa (m2 oMul (mC (.int 2)) (m2 oIxL (m2 oIxL (mRd 3) (mRd 4)) (mRd 5))) mNil)))))
  (mRet (mC (.bl false)))
  zbm))
  zbm)
  (mSeq zof
  (mRet (zkr (m2 oEqD (mRd 1) (mRd 2)) (m2 oEq (mCB fLen (zaa (zau zaD (zaa (mVar 1) mNil)) mNil)) (m2 oSub (mCB fLen (zaa (mRd 1) mNil)) (mC (.int 1))))))))))))
def zpQ:List D→R D:=runF 1 6 zqK
end My
namespace My
open PySem L2 PM
def upt (n:Nat):List Int:=(List.range n).map fun (k:Nat)=>(k:Int)
theorem mem_upt {n:Nat} {t:Int}:t ∈ upt n ↔ 0 ≤ t∧t < (n:Int):=by
  unfold upt
  rw [List.mem_map]
  constructor
  · rintro ⟨a,h,rfl⟩
    have:=List.mem_range.mp h
    omega
  · rintro ⟨h0,h1⟩
    exact ⟨t.toNat,List.mem_range.mpr (by omega),by omega⟩
theorem zaU {n:Nat}:(upt n).length=n:=by simp [upt]
theorem zlX (n:Nat):(upt n).Nodup:=List.Pairwise.map _ (fun a b h e=>h (Int.ofNat.inj e)) List.nodup_range
theorem rngT {n:Nat} (h:n ≤ 1000):rng [.int (n:Int)]=some ((upt n).map .int):=by
  rw [rng1 (by omega) (by omega),Int.toNat_natCast,zoX,upt,List.map_map]; rfl
theorem zlp (ns:List Int):fSum [iL ns]=some (.int ns.sum):=by simp [fSum,iL,zc9]
theorem zes {i:Nat} {me:En→R D} {δ:En} {L:List Int} {y:Int} (h:δ[i]?=some (.o (iL L))) (hy:me δ = .ok (.int y)) (hl:L.length ≤ 100000):zbD i me δ = .nx (δ.set i (.o (iL (L ++ [y])))):=by
  unfold zbD
  rw [h]
  simp only [iL,hy,R.toO_ok]
  rw [za8 (by rw [List.length_map]; exact Nat.lt_of_le_of_lt hl (by decide))]
  simp
end My
namespace My
open PySem L2 PM
theorem p20:oPow (.int 10) (.int 20)=some (.int 100000000000000000000):=zj4 ⟨by decide,by decide,by decide⟩
theorem zgY (ns:List Int) (k:Nat):zaE [.scr ns,.int k] = .ok (.int (ns.getD k 0)):=by
  by_cases h:k < ns.length
  · have e:oIxL (.scr ns) (.int (k:Int))=some (.int (ns.getD k 0)):=by
      show (atI ns (k:Int)).map D.int=_
      rw [atI_nat (d:=ns.getD k 0) (by simp [h,List.getD_eq_getElem?_getD])]; rfl
    simp [zaE,runF,zb2,zcN,mSeq,mIfS,zap,mRet,mRd,mC,mCB,zaa,mNil,fLen,h,e]
  · have e:ns.getD k 0=0:=by simp [List.getD_eq_getElem?_getD,List.getElem?_eq_none_iff.mpr (Nat.le_of_not_lt h)]
    rw [e]
    simp [zaE,runF,zb2,zcN,mSeq,mIfS,zap,mRet,mRd,mC,mCB,zaa,mNil,fLen,h,zbm]
theorem zl9 (ns:List Int) {k:Int} (h:0 ≤ k):zaE [.scr ns,.int k] = .ok (.int (ns.getD k.toNat 0)):=by
  have:=zgY ns k.toNat
  rwa [show ((k.toNat:Nat):Int)=k by omega] at this
theorem zov {m n:En→O} {δ:En} {d:D} (h:m δ = .rt d):mSeq m n δ = .rt d:=by unfold mSeq; rw [h]
theorem zeS {i:Nat} {me:En→R D} {δ:En} {l:List D} {d:D} (h:δ[i]?=some (.o (.lst l))) (hy:me δ = .ok d) (hl:l.length ≤ 100000):zbD i me δ = .nx (δ.set i (.o (.lst (l ++ [d])))):=by
  unfold zbD
  rw [h]
  simp only [hy,R.toO_ok]
  rw [za8 (Nat.lt_of_le_of_lt hl (by decide))]
theorem zdL (a:Int) {b:Int} (h:0 < b):0 ≤ a % b:=Int.emod_nonneg _ (by omega)
theorem zej (a:Int) {b:Int} (h:0 < b):a % b < b:=Int.emod_lt_of_pos _ h
end My
namespace My
open PySem L2 PM
theorem zgy (ns:List Int) {k top:Int} (h0:0 ≤ k) (h1:k ≤ 1000) (t0:0 ≤ top):∃ x:Int,(0 ≤ x∧x ≤ top)∧zaK [.scr ns,.int k,.int top] = .ok (.int x):=by
  obtain ⟨c,ec⟩:∃ c,c=ns.getD k.toNat 0 % 100000000000000000000:=⟨_,rfl⟩
  have c0:0 ≤ c:=by rw [ec]; exact zdL _ (by decide)
  have c1:c < 100000000000000000000:=by rw [ec]; exact zej _ (by decide)
  have k2:k * k ≤ 1000 * 1000:=Int.mul_le_mul h1 h1 h0 (by decide)
  have k3:0 ≤ k * k:=Int.mul_nonneg h0 h0
  have k4:(k + 1) * (k + 7) ≤ 1001 * 1007:=Int.mul_le_mul (by omega) (by omega) (by omega) (by decide)
  have k5:0 ≤ (k + 1) * (k + 7):=Int.mul_nonneg (by omega) (by omega)
  have f1:Fit c:=fitN (10 ^ 20) (by omega)
  have f2:Fit 48271:=fitN 100000 (by decide)
  have f3:Fit (k + 1):=fitN 2000 (by omega)
  have f4:Fit (k + 7):=fitN 2000 (by omega)
  have f5:Fit ((k + 1) * (k + 7)):=fitN (10 ^ 20) (by omega)
  have f6:Fit 69621:=fitN 100000 (by decide)
  have f7:Fit 16807:=fitN 100000 (by decide)
  have f8:Fit k:=fitN 2000 (by omega)
  have f9:Fit (k * k):=fitN (10 ^ 20) (by omega)
  have f10:Fit 40692:=fitN 100000 (by decide)
  obtain ⟨a,ea⟩:∃ a,a=(c * 48271 + (k + 1) * (k + 7) * 69621) % 2147483647:=⟨_,rfl⟩
  obtain ⟨b,eb⟩:∃ b,b=(c * 16807 + k * k * 40692 + 7) % 2147483629:=⟨_,rfl⟩
  have a0:0 ≤ a:=by rw [ea]; exact zdL _ (by decide)
  have a1:a < 2147483647:=by rw [ea]; exact zej _ (by decide)
  have f11:Fit a:=fitN (10 ^ 10) (by omega)
  have f12:Fit 2147483629:=fitN (10 ^ 10) (by decide)
  have tp:(0:Int) < top + 1:=by omega
  refine ⟨(a * 2147483629 + b) % (top + 1),⟨zdL _ tp,by have:=zej (a * 2147483629 + b) tp; omega⟩,zcB ?_⟩
  show mSeq _ _ [.v (.scr ns),.v (.int k),.v (.int top),.no,.no,.no]=_
  have q1:mAsg (m2 oMod (zau zaE (zaa (mVar 0) (zaa (mVar 1) mNil))) (m2 oPow (mC (.int 10)) (mC (.int 20)))) (zan 3) [.v (.scr ns),.v (.int k),.v (.int top),.no,.no,.no] = .nx [.v (.scr ns),.v (.int k),.v (.int top),.v (.int c),.no,.no]:=by
    refine zaz (d:=.int c) ?_ rfl
    simp only [ze7,zau,zaa,mNil,mVar,mC,List.getElem?_cons_succ,List.getElem?_cons_zero,R.bind_ok,zl9 ns h0,R.nev_ok,p20,R.of_some,zcU (show (0:Int) < 100000000000000000000 by decide),ec]
  have q2:mAsg (m2 oMod (m2 oAdd (m2 oMul (mRd 3) (mC (.int 48271))) (m2 oMul (m2 oMul (m2 oAdd (mRd 1) (mC (.int 1))) (m2 oAdd (mRd 1) (mC (.int 7)))) (mC (.int 69621)))) (mC (.int 2147483647))) (zan 4) [.v (.scr ns),.v (.int k),.v (.int top),.v (.int c),.no,.no] = .nx [.v (.scr ns),.v (.int k),.v (.int top),.v (.int c),.v (.int a),.no]:=by
    refine zaz (d:=.int a) ?_ rfl
    simp [mRd,mC,zd5 f1 f2,zd5 f3 f4,zd5 f5 f6,zcU,ea]
  have q3:mAsg (m2 oMod (m2 oAdd (m2 oAdd (m2 oMul (mRd 3) (mC (.int 16807))) (m2 oMul (m2 oMul (mRd 1) (mRd 1)) (mC (.int 40692)))) (mC (.int 7))) (mC (.int 2147483629))) (zan 5) [.v (.scr ns),.v (.int k),.v (.int top),.v (.int c),.v (.int a),.no] = .nx [.v (.scr ns),.v (.int k),.v (.int top),.v (.int c),.v (.int a),.v (.int b)]:=by
    refine zaz (d:=.int b) ?_ rfl
    simp [mRd,mC,zd5 f1 f7,zd5 f8 f8,zd5 f9 f10,zcU,eb]
  refine (zaj q1).trans ((zaj q2).trans ((zaj q3).trans ?_))
  simp [mRet,mRd,mC,zd5 f11 f12,zcU tp]
end My
namespace My
open PySem L2 PM
def tabF (n:Nat) (d:Int→Int→Int):List (List Int):=(upt n).map fun a=>(upt n).map (d a)
theorem zdf {m k:Nat} (h:k < m):(upt m)[k]?=some (k:Int):=by
  unfold upt; rw [List.getElem?_map,List.getElem?_range h]; rfl
theorem zbn {n:Nat} {f:Int→Int} {b:Int} (h0:0 ≤ b) (h1:b < n):oIxL (iL ((upt n).map f)) (.int b)=some (.int (f b)):=by
  refine zn9 h0 ?_
  rw [List.getElem?_map,List.getElem?_map,zdf (show b.toNat < n by omega)]
  simp [show ((b.toNat:Nat):Int)=b by omega]
theorem zdG {n:Nat} {d:Int→Int→Int} {a:Int} (h0:0 ≤ a) (h1:a < n):oIxL (tabD (tabF n d)) (.int a)=some (iL ((upt n).map (d a))):=by
  unfold tabD tabF
  refine zn9 h0 ?_
  rw [List.getElem?_map,List.getElem?_map,zdf (show a.toNat < n by omega)]
  simp [show ((a.toNat:Nat):Int)=a by omega]
theorem zfq {n:Nat} {d:Int→Int→Int}:fLen [tabD (tabF n d)]=some (.int n):=by
  simp [tabD,tabF,zaU]
def upd2 (d:Int→Int→Int) (a b v:Int):Int→Int→Int:=fun x y=>if x=a∧y=b then v else d x y
theorem zo2 {n:Nat} {f:Int→Int} {b v:Int} (h0:0 ≤ b) (h1:b < n):((upt n).map f).set b.toNat v=(upt n).map fun y=>if y=b then v else f y:=by
  apply List.ext_getElem?
  intro i
  by_cases hi:i < n
  · rw [List.getElem?_map,zdf hi]
    by_cases e:b.toNat=i
    · rw [e,List.getElem?_set_self (by rw [List.length_map,zaU]; exact hi)]
      have:(i:Int)=b:=by omega
      simp [this]
    · rw [List.getElem?_set_ne e,List.getElem?_map,zdf hi]
      have:¬ (i:Int)=b:=by omega
      simp [this]
  · rw [List.getElem?_eq_none_iff.mpr (by rw [List.length_set,List.length_map,zaU]; omega),List.getElem?_eq_none_iff.mpr (by rw [List.length_map,zaU]; omega)]
theorem zoS {n:Nat} {d:Int→Int→Int} {a b v:Int} (a0:0 ≤ a) (a1:a < n) (b0:0 ≤ b) (b1:b < n):(tabF n d).set a.toNat (((upt n).map (d a)).set b.toNat v)=tabF n (upd2 d a b v):=by
  rw [zo2 b0 b1]
  unfold tabF
  apply List.ext_getElem?
  intro i
  by_cases hi:i < n
  · rw [List.getElem?_map,zdf hi]
    by_cases e:a.toNat=i
    · rw [e,List.getElem?_set_self (by rw [List.length_map,zaU]; exact hi)]
      have:(i:Int)=a:=by omega
      simp [upd2,this]
    · rw [List.getElem?_set_ne e,List.getElem?_map,zdf hi]
      have:¬ (i:Int)=a:=by omega
      simp [upd2,this]
  · rw [List.getElem?_eq_none_iff.mpr (by rw [List.length_set,List.length_map,zaU]; omega),List.getElem?_eq_none_iff.mpr (by rw [List.length_map,zaU]; omega)]
def tabG (n:Nat) (d:Int→Int→Int):Tr:=tabT (tabF n d)
theorem zlR {n:Nat} {d:Int→Int→Int}:tabOf (some (.p (tabG n d)))=some (tabF n d):=by simp [tabG]
theorem zcR {i:Nat} {mk mj me:En→R D} {δ:En} {n:Nat} {d:Int→Int→Int} {a b v:Int} (h:δ[i]?=some (.p (tabG n d))) (hk:mk δ = .ok (.int a)) (hj:mj δ = .ok (.int b)) (hv:me δ = .ok (.int v)) (a0:0 ≤ a) (a1:a < n) (b0:0 ≤ b) (b1:b < n) :
    zdC i mk mj me δ = .nx (δ.set i (.p (tabG n (upd2 d a b v)))):=by
  have l1:(tabF n d).length=n:=by simp [tabF,zaU]
  have e1:ixN (tabF n d).length a=some a.toNat:=by unfold ixN; rw [if_pos a0,l1,if_pos a1]
  have e2:(tabF n d)[a.toNat]?=some ((upt n).map (d a)):=by
    unfold tabF
    rw [List.getElem?_map,zdf (show a.toNat < n by omega)]
    simp [show ((a.toNat:Nat):Int)=a by omega]
  have e3:ixN ((upt n).map (d a)).length b=some b.toNat:=by unfold ixN; rw [if_pos b0,List.length_map,zaU,if_pos b1]
  unfold zdC
  rw [h,zlR]
  simp only [hv,hk,hj,R.toO_ok,e1,e2,e3,zoS a0 a1 b0 b1,tabG]
structure LenOk (n:Nat) (B:Int) (d:Int→Int→Int):Prop where
  nn:∀ a b:Int,0 ≤ a→a < n→0 ≤ b→b < n→0 ≤ d a b∧d a b ≤ B
  self:∀ a:Int,0 ≤ a→a < n→d a a=0
  sym:∀ a b:Int,0 ≤ a→a < n→0 ≤ b→b < n→d a b=d b a
  tri:∀ a b c:Int,0 ≤ a→a < n→0 ≤ b→b < n→0 ≤ c→c < n→d a c ≤ d a b + d b c
theorem zbO {mi:En→R (List D)} {b:D→En→Option En} {m:En→O} {δ:En} {n:Nat} (h:mi δ = .ok ((upt n).map .int)):mFor mi b m δ=zb3 b m ((upt n).map .int) δ:=zbB h
theorem zew {n:Nat} {B:Int} {d:Int→Int→Int} (hn:n ≤ 100) (ok:LenOk n B d):zaO [tabD (tabF n d)] = .ok .non:=by
  obtain ⟨T,eT⟩:∃ T,T=tabD (tabF n d):=⟨_,rfl⟩
  have tix:∀ a:Int,0 ≤ a→a < n→oIxL T (.int a)=some (iL ((upt n).map (d a))):=fun a h0 h1=>by rw [eT]; exact zdG h0 h1
  rw [← eT]
  have rn:=rngT (show n ≤ 1000 by omega)
  have l1:∀ o2 o3 o4:Option D,∃ p2,zeu [.v T,.v (.int n),sv o2,sv o3,sv o4] = .nx [.v T,.v (.int n),sv p2,sv o3,sv o4]:=fun o2 o3 o4=>by
    obtain ⟨δ,h1,p2,rfl⟩:=zaZ (b:=zan 2) (m:=zbt) D.int (fun _ δ=>∃ p2,δ = [.v T,.v (.int n),sv p2,sv o3,sv o4]) (upt n)
      (by
        rintro pre a post δ hall ⟨p2,rfl⟩
        obtain ⟨a0,a1⟩:=mem_upt.mp (show a ∈ upt n by rw [hall]; simp)
        have r:=zbn (n:=n) (f:=d a) a0 a1
        rw [ok.self a a0 a1] at r
        refine ⟨[.v T,.v (.int n),.v (.int a),sv o3,sv o4],[.v T,.v (.int n),.v (.int a),sv o3,sv o4],zaw rfl,.inl ?_,some _,rfl⟩
        unfold zbt
        rw [za7 (by simp [zap,mRd,mC,tix a a0 a1,r])]; rfl)
      [.v T,.v (.int n),sv o2,sv o3,sv o4] ⟨o2,rfl⟩
    exact ⟨p2,(zbO (by simp [mRng,zaa,mNil,mVar,rn])).trans h1⟩
  have l3:∀ o2 o3 o4:Option D,∃ p2 p3,zet [.v T,.v (.int n),sv o2,sv o3,sv o4] = .nx [.v T,.v (.int n),sv p2,sv p3,sv o4]:=fun o2 o3 o4=>by
    obtain ⟨δ,h1,p2,p3,rfl⟩:=zaZ (b:=zan 2) (m:=zcS) D.int (fun _ δ=>∃ p2 p3,δ = [.v T,.v (.int n),sv p2,sv p3,sv o4]) (upt n)
      (by
        rintro pre a post δ hall ⟨p2,p3,rfl⟩
        obtain ⟨a0,a1⟩:=mem_upt.mp (show a ∈ upt n by rw [hall]; simp)
        obtain ⟨δ2,g1,r3,rfl⟩:=zaZ (b:=zan 3) (m:=zbo) D.int (fun _ δ=>∃ r3,δ = [.v T,.v (.int n),.v (.int a),sv r3,sv o4]) (upt a.toNat)
          (by
            rintro pre2 b post2 δ hall2 ⟨r3,rfl⟩
            obtain ⟨b0,b1⟩:=mem_upt.mp (show b ∈ upt a.toNat by rw [hall2]; simp)
            have r1:=zbn (n:=n) (f:=d a) b0 (by omega)
            have r2:=zbn (n:=n) (f:=d b) a0 a1
            rw [ok.sym a b a0 a1 b0 (by omega)] at r1
            refine ⟨[.v T,.v (.int n),.v (.int a),.v (.int b),sv o4],[.v T,.v (.int n),.v (.int a),.v (.int b),sv o4],zaw rfl,.inl ?_,some _,rfl⟩
            unfold zbo
            rw [za7 (by simp [zap,mRd,mC,tix a a0 a1,tix b b0 (by omega),r1,r2])]; rfl)
          [.v T,.v (.int n),.v (.int a),sv p3,sv o4] ⟨p3,rfl⟩
        refine ⟨[.v T,.v (.int n),.v (.int a),sv p3,sv o4],[.v T,.v (.int n),.v (.int a),sv r3,sv o4],zaw rfl,.inl ?_,some _,r3,rfl⟩
        have ra:=rngT (show a.toNat ≤ 1000 by omega)
        rw [show ((a.toNat:Nat):Int)=a by omega] at ra
        exact (zbO (n:=a.toNat) (by simp [mRng,zaa,mNil,mVar,ra])).trans g1)
      [.v T,.v (.int n),sv o2,sv o3,sv o4] ⟨o2,o3,rfl⟩
    exact ⟨p2,p3,(zbO (by simp [mRng,zaa,mNil,mVar,rn])).trans h1⟩
  have l6:∀ o2 o3 o4:Option D,∃ p2 p3 p4,zev [.v T,.v (.int n),sv o2,sv o3,sv o4] = .nx [.v T,.v (.int n),sv p2,sv p3,sv p4]:=fun o2 o3 o4=>by
    obtain ⟨δ,h1,p2,p3,p4,rfl⟩:=zaZ (b:=zan 2) (m:=zcX) D.int (fun _ δ=>∃ p2 p3 p4,δ = [.v T,.v (.int n),sv p2,sv p3,sv p4]) (upt n)
      (by
        rintro pre a post δ hall ⟨p2,p3,p4,rfl⟩
        obtain ⟨a0,a1⟩:=mem_upt.mp (show a ∈ upt n by rw [hall]; simp)
        obtain ⟨δ2,g1,r3,r4,rfl⟩:=zaZ (b:=zan 3) (m:=zcW) D.int (fun _ δ=>∃ r3 r4,δ = [.v T,.v (.int n),.v (.int a),sv r3,sv r4]) (upt n)
          (by
            rintro pre2 b post2 δ hall2 ⟨r3,r4,rfl⟩
            obtain ⟨b0,b1⟩:=mem_upt.mp (show b ∈ upt n by rw [hall2]; simp)
            obtain ⟨δ3,k1,t4,rfl⟩:=zaZ (b:=zan 4) (m:=zbq) D.int (fun _ δ=>∃ t4,δ = [.v T,.v (.int n),.v (.int a),.v (.int b),sv t4]) (upt n)
              (by
                rintro pre3 c post3 δ hall3 ⟨t4,rfl⟩
                obtain ⟨c0,c1⟩:=mem_upt.mp (show c ∈ upt n by rw [hall3]; simp)
                have r1:=zbn (n:=n) (f:=d a) b0 b1
                have r2:=zbn (n:=n) (f:=d b) c0 c1
                have r5:=zbn (n:=n) (f:=d a) c0 c1
                have tr:¬ d a b + d b c < d a c:=by have:=ok.tri a b c a0 a1 b0 b1 c0 c1; omega
                refine ⟨[.v T,.v (.int n),.v (.int a),.v (.int b),.v (.int c)],[.v T,.v (.int n),.v (.int a),.v (.int b),.v (.int c)],zaw rfl,.inl ?_,some _,rfl⟩
                unfold zbq
                rw [za7 (by simp [zap,mRd,mC,tix a a0 a1,tix b b0 b1,r1,r2,r5,tr])]; rfl)
              [.v T,.v (.int n),.v (.int a),.v (.int b),sv r4] ⟨r4,rfl⟩
            refine ⟨[.v T,.v (.int n),.v (.int a),.v (.int b),sv r4],[.v T,.v (.int n),.v (.int a),.v (.int b),sv t4],zaw rfl,.inl ?_,some _,t4,rfl⟩
            exact (zbO (by simp [mRng,zaa,mNil,mVar,rn])).trans k1)
          [.v T,.v (.int n),.v (.int a),sv p3,sv p4] ⟨p3,p4,rfl⟩
        refine ⟨[.v T,.v (.int n),.v (.int a),sv p3,sv p4],[.v T,.v (.int n),.v (.int a),sv r3,sv r4],zaw rfl,.inl ?_,some _,r3,r4,rfl⟩
        exact (zbO (by simp [mRng,zaa,mNil,mVar,rn])).trans g1)
      [.v T,.v (.int n),sv o2,sv o3,sv o4] ⟨o2,o3,o4,rfl⟩
    exact ⟨p2,p3,p4,(zbO (by simp [mRng,zaa,mNil,mVar,rn])).trans h1⟩
  have lT:fLen [T]=some (.int n):=by rw [eT]; exact zfq
  obtain ⟨p2,e1⟩:=l1 none none none
  obtain ⟨q2,q3,e2⟩:=l3 p2 none none
  obtain ⟨r2,r3,r4,e3⟩:=l6 q2 q3 none
  refine zpm (δ:=[.v T,.v (.int n),sv r2,sv r3,sv r4]) ?_
  show mSeq _ _ [.v T,.no,.no,.no,.no]=_
  have s1:mAsg (mCB fLen (zaa (mRd 0) mNil)) (zan 1) [.v T,.no,.no,.no,.no] = .nx [.v T,.v (.int n),sv none,sv none,sv none]:=zaz (d:=.int n) (by simp [mCB,zaa,mNil,mRd,lT]) rfl
  exact (zaj s1).trans ((zaj e1).trans ((zaj e2).trans e3))
end My
namespace My
open PySem L2 PM
theorem zp2 (z:Int):fAbs [.int z]=some (.int (z.natAbs:Int)):=by
  have:fAbs [.int z]=some (.int (if z < 0 then -z else z)):=rfl
  rw [this]; congr 2; split <;> omega
def encQ (p:Int × Int):D:=.tup [.int p.1,.int p.2]
theorem zpt (ns:List Int) {n:Nat} {top:Int} (hn:n ≤ 12) (t0:0 ≤ top):∃ d,LenOk n (2 * top) d∧zci [.scr ns,.int n,.int top] = .ok (tabD (tabF n d)):=by
  obtain ⟨F,hF⟩:=Classical.axiomOfChoice (r:=fun (k:Int) (x:Int)=>0 ≤ k∧k ≤ 100→(0 ≤ x∧x ≤ top)∧zaK [.scr ns,.int k,.int top] = .ok (.int x)) (fun k=>by
    by_cases hk:0 ≤ k∧k ≤ 100
    · obtain ⟨x,a,b⟩:=zgy ns (k:=k) (top:=top) (by omega) (by omega) t0
      exact ⟨x,fun _=>⟨a,b⟩⟩
    · exact ⟨0,fun z=>absurd z hk⟩)
  let sp:Int→Int × Int:=fun k=>(F (1 + 2 * k),F (2 + 2 * k))
  let d:Int→Int→Int:=fun a b=>(((sp a).1 - (sp b).1).natAbs:Int) + (((sp a).2 - (sp b).2).natAbs:Int)
  have bd:∀ k:Int,0 ≤ k→k < n→(0 ≤ (sp k).1∧(sp k).1 ≤ top)∧(0 ≤ (sp k).2∧(sp k).2 ≤ top):=fun k h0 h1=>⟨(hF (1 + 2 * k) (by omega)).1,(hF (2 + 2 * k) (by omega)).1⟩
  refine ⟨d,⟨fun a b a0 a1 b0 b1=>?_,fun a _ _=>?_,fun a b _ _ _ _=>?_,fun a b c _ _ _ _ _ _=>?_⟩,zda ?_⟩
  · have:=bd a a0 a1
    have:=bd b b0 b1
    show 0 ≤ _ + _∧_ + _ ≤ _
    omega
  · show (((sp a).1 - (sp a).1).natAbs:Int) + (((sp a).2 - (sp a).2).natAbs:Int)=0
    omega
  · show (((sp a).1 - (sp b).1).natAbs:Int) + (((sp a).2 - (sp b).2).natAbs:Int)=(((sp b).1 - (sp a).1).natAbs:Int) + (((sp b).2 - (sp a).2).natAbs:Int)
    omega
  · show (((sp a).1 - (sp c).1).natAbs:Int) + (((sp a).2 - (sp c).2).natAbs:Int) ≤ (((sp a).1 - (sp b).1).natAbs:Int) + (((sp a).2 - (sp b).2).natAbs:Int) + ((((sp b).1 - (sp c).1).natAbs:Int) + (((sp b).2 - (sp c).2).natAbs:Int))
    omega
  · obtain ⟨S,eS⟩:∃ S,S=D.lst ((upt n).map fun k=>encQ (sp k)):=⟨_,rfl⟩
    have f2:Fit 2:=fitN 100 (by decide)
    have k1:zeM [.v (.scr ns),.v (.int n),.v (.int top),.no,.no,.no,.no] = .ok S:=by
      rw [eS]
      refine zcJ (l:=(upt n).map .int) (by simp [mRng,zaa,mNil,mVar,rngT (show n ≤ 1000 by omega)]) (by rw [List.length_map,zaU]; omega) ?_
      refine zck .int (fun k=>encQ (sp k)) _ fun k hk=>?_
      obtain ⟨a,b⟩:=mem_upt.mp hk
      have fk:Fit k:=fitN 100 (by omega)
      have h1:=(hF (1 + 2 * k) (by omega)).2
      have h2:=(hF (2 + 2 * k) (by omega)).2
      simp [zdT,zaF,zkb,zaX,mTup,zau,zaa,mNil,mVar,mRd,mC,zd5 f2 fk,h1,h2,sizeLine,encQ,sp]
    obtain ⟨δ,h1,o5,o6,rfl⟩:=zaZ (b:=bTup 2 (zbH (zan 5) (zbH (zan 6) bNil))) (m:=zea) (fun k=>encQ (sp k)) (fun pre δ=>∃ o5 o6,δ = [.v (.scr ns),.v (.int n),.v (.int top),.v S,.o (.lst (pre.map fun a=>iL ((upt n).map (d a)))),sv o5,sv o6]) (upt n)
      (by
        rintro pre a post δ hall ⟨o5,o6,rfl⟩
        have pl:pre.length ≤ 12:=by
          have:(upt n).length=n:=zaU
          rw [hall] at this; simp at this; omega
        have k2:∀ L:Sl,zgF [.v (.scr ns),.v (.int n),.v (.int top),.v S,L,.v (.int (sp a).1),.v (.int (sp a).2)] = .ok (iL ((upt n).map (d a))):=fun L=>by
          refine Eq.trans (zcJ (l:=(upt n).map fun k=>encQ (sp k)) (r:=(upt n).map fun b=>.int (d a b)) (by simp [mItL,mRd,eS]) (by rw [List.length_map,zaU]; omega) ?_) (by simp [iL])
          refine zck (fun k=>encQ (sp k)) (fun b=>.int (d a b)) _ fun b _=>?_
          simp [zdT,zaF,zkb,zaX,mCB,zaa,mNil,mRd,mC,encQ,zp2,d]
        refine ⟨[.v (.scr ns),.v (.int n),.v (.int top),.v S,.o (.lst (pre.map fun a=>iL ((upt n).map (d a)))),.v (.int (sp a).1),.v (.int (sp a).2)],[.v (.scr ns),.v (.int n),.v (.int top),.v S,.o (.lst ((pre ++ [a]).map fun a=>iL ((upt n).map (d a)))),.v (.int (sp a).1),.v (.int (sp a).2)],?_,.inl ?_,some _,some _,rfl⟩
        · rcases o5 with _ | o5 <;> rcases o6 with _ | o6 <;> rfl
        · unfold zea
          refine (zeS (d:=iL ((upt n).map (d a))) rfl (k2 _) (by rw [List.length_map]; omega)).trans ?_
          simp)
      [.v (.scr ns),.v (.int n),.v (.int top),.v S,.o (.lst []),.no,.no] ⟨none,none,rfl⟩
    show mSeq _ _ [.v (.scr ns),.v (.int n),.v (.int top),.no,.no,.no,.no]=_
    have q1:mAsg zeM (zan 3) [.v (.scr ns),.v (.int n),.v (.int top),.no,.no,.no,.no] = .nx [.v (.scr ns),.v (.int n),.v (.int top),.v S,.no,.no,.no]:=zaz k1 rfl
    have q2:mAsg (mLst mNil) (bNew 4) [.v (.scr ns),.v (.int n),.v (.int top),.v S,.no,.no,.no] = .nx [.v (.scr ns),.v (.int n),.v (.int top),.v S,.o (.lst []),.no,.no]:=zaz (d:=.lst []) (by simp [mLst,mNil,sizeLine]) rfl
    have q3:zgz [.v (.scr ns),.v (.int n),.v (.int top),.v S,.o (.lst []),.no,.no] = .nx [.v (.scr ns),.v (.int n),.v (.int top),.v S,.o (.lst ((upt n).map fun a=>iL ((upt n).map (d a)))),sv o5,sv o6]:=(zbB (by simp [mItL,mVar,eS])).trans h1
    refine (zaj q1).trans ((zaj q2).trans ((zaj q3).trans ?_))
    simp [ziF,tabD,tabF]
structure SymOk (n:Nat) (B:Int) (d:Int→Int→Int):Prop where
  nn:∀ a b:Int,0 ≤ a→a < n→0 ≤ b→b < n→0 ≤ d a b∧d a b ≤ B
  self:∀ a:Int,0 ≤ a→a < n→d a a=0
  sym:∀ a b:Int,0 ≤ a→a < n→0 ≤ b→b < n→d a b=d b a
def newD (d:Int→Int→Int) (k:Int):Int→Int→Int:=fun a b=>if d a k + d k b < d a b then d a k + d k b else d a b
theorem znD {n:Nat} {B:Int} {d:Int→Int→Int} {k:Int} (h:SymOk n B d) (k0:0 ≤ k) (k1:k < n):SymOk n B (newD d k):=by
  refine ⟨fun a b a0 a1 b0 b1=>?_,fun a a0 a1=>?_,fun a b a0 a1 b0 b1=>?_⟩
  · have:=h.nn a b a0 a1 b0 b1
    have:=h.nn a k a0 a1 k0 k1
    have:=h.nn k b k0 k1 b0 b1
    unfold newD; split <;> omega
  · have:=h.self a a0 a1
    have:=h.nn a k a0 a1 k0 k1
    have:=h.nn k a k0 k1 a0 a1
    unfold newD; split <;> omega
  · have:=h.sym a b a0 a1 b0 b1
    have:=h.sym a k a0 a1 k0 k1
    have:=h.sym k b k0 k1 b0 b1
    unfold newD; split <;> split <;> omega
theorem znh {n:Nat} {B:Int} {d:Int→Int→Int} {k:Int} (h:SymOk n B d) (k0:0 ≤ k) (k1:k < n) {M:List Int} (hM:∀ m ∈ M,0 ≤ m∧m < n) (met:∀ m ∈ M,∀ a b:Int,0 ≤ a→a < n→0 ≤ b→b < n→d a b ≤ d a m + d m b) :
    ∀ m ∈ M ++ [k],∀ a b:Int,0 ≤ a→a < n→0 ≤ b→b < n→newD d k a b ≤ newD d k a m + newD d k m b:=by
  intro m hm a b a0 a1 b0 b1
  have kk:=h.self k k0 k1
  rcases List.mem_append.mp hm with z | z
  · obtain ⟨m0,m1⟩:=hM m z
    have e1:=met m z a b a0 a1 b0 b1
    have e2:=met m z k b k0 k1 b0 b1
    have e3:=met m z a k a0 a1 k0 k1
    have p1:=h.nn k m k0 k1 m0 m1
    have p2:=h.nn m k m0 m1 k0 k1
    unfold newD
    split <;> split <;> split <;> omega
  · rw [List.mem_singleton.mp z]
    have p1:=h.nn a k a0 a1 k0 k1
    have p2:=h.nn k b k0 k1 b0 b1
    unfold newD
    split <;> split <;> split <;> omega
def half (d:Int→Int→Int) (k a b:Int):Int→Int→Int:=fun x y=>if x < a∨(x=a∧y < b) then newD d k x y else d x y
theorem zkf {n:Nat} {d e:Int→Int→Int} (h:∀ a b:Int,0 ≤ a→a < n→0 ≤ b→b < n→d a b=e a b):tabF n d=tabF n e:=by
  unfold tabF
  refine List.map_congr_left fun a ha=>List.map_congr_left fun b hb=>?_
  obtain ⟨a0,a1⟩:=mem_upt.mp ha
  obtain ⟨b0,b1⟩:=mem_upt.mp hb
  exact h a b a0 a1 b0 b1
theorem ze5 {n:Nat} {pre post:List Int} {x:Int} (h:upt n=pre ++ x :: post):x=pre.length∧pre.length < n∧pre=upt pre.length:=by
  have ul:(upt n).length=n:=zaU
  have pl:pre.length < n:=by rw [h] at ul; simp at ul; omega
  refine ⟨?_,pl,?_⟩
  · have h1:(upt n)[pre.length]?=some x:=by rw [h]; simp
    rw [zdf pl] at h1
    exact (Option.some.inj h1).symm
  · apply List.ext_getElem?
    intro i
    by_cases hi:i < pre.length
    · have h1:(upt n)[i]?=pre[i]?:=by rw [h,List.getElem?_append_left hi]
      rw [zdf hi,← h1,zdf (by omega)]
    · rw [List.getElem?_eq_none_iff.mpr (by omega),List.getElem?_eq_none_iff.mpr (by rw [zaU]; omega)]
theorem zoc {ll:List (List Int)} {l:En}:peek (.p (tabT ll) :: l) = .v (tabD ll) :: peek l:=by
  show Sl.v (trD (tabT ll)) :: _=_
  rw [zdF]; rfl
theorem zer {n:Nat} {d e:Int→Int→Int} (h:∀ a b:Int,0 ≤ a→a < n→0 ≤ b→b < n→d a b=e a b):tabG n d=tabG n e:=by unfold tabG; rw [zkf h]
theorem zp7 {n:Nat} {e:Int→Int→Int} {l:En}:peek (.p (tabG n e) :: l) = .v (tabD (tabF n e)) :: peek l:=by
  show Sl.v (trD (tabT (tabF n e))) :: _=_
  rw [zdF]; rfl
theorem ziW {n:Nat} {B:Int} {d:Int→Int→Int} (hn:n ≤ 100) (h:SymOk n B d):∃ e,LenOk n B e∧zbe (tabF n d) = .ok (tabD (tabF n e)):=by
  have rn:=rngT (show n ≤ 1000 by omega)
  have rng':∀ (e:Int→Int→Int) (l:En),mRng (zaa (zcc (mCB fLen (zaa (mRd 0) mNil))) mNil) (.p (tabG n e) :: l) = .ok ((upt n).map .int):=fun e l=>by
    have p:zcc (mCB fLen (zaa (mRd 0) mNil)) (.p (tabG n e) :: l) = .ok (.int n):=by
      unfold zcc
      rw [zp7]
      simp [mCB,zaa,mNil,mRd,zfq,zdn]
    simp [mRng,zaa,mNil,p,rn]
  have inner:∀ (d:Int→Int→Int) (k a:Int) (o3 o4:Option D),SymOk n B d→0 ≤ k→k < n→0 ≤ a→a < n→∃ p3 p4,zdZ [.p (tabG n (half d k a 0)),.v (.int k),.v (.int a),sv o3,sv o4] = .nx [.p (tabG n (half d k (a + 1) 0)),.v (.int k),.v (.int a),sv p3,sv p4]:=fun d k a o3 o4 hs k0 k1 a0 a1=>by
    have kk:=hs.self k k0 k1
    obtain ⟨δ,h1,p3,p4,rfl⟩:=zaZ (b:=zan 3) (m:=zdP) D.int (fun pre δ=>∃ p3 p4,δ = [.p (tabG n (half d k a pre.length)),.v (.int k),.v (.int a),sv p3,sv p4]) (upt n)
      (by
        rintro pre b post δ hall ⟨p3,p4,rfl⟩
        obtain ⟨eb,_,_⟩:=ze5 hall
        obtain ⟨b0,b1⟩:=mem_upt.mp (show b ∈ upt n by rw [hall]; simp)
        rw [← eb]
        obtain ⟨T,eT⟩:∃ T,T=tabF n (half d k a b):=⟨_,rfl⟩
        have v1:half d k a b a k=d a k:=by
          have:=hs.nn a k a0 a1 k0 k1
          unfold half newD; (repeat' split) <;> omega
        have v2:half d k a b k b=d k b:=by
          have:=hs.nn k b k0 k1 b0 b1
          unfold half newD; (repeat' split) <;> omega
        have v3:half d k a b a b=d a b:=by
          unfold half; rw [if_neg (by omega)]
        have ta:=zdG (n:=n) (d:=half d k a b) a0 a1
        have tk:=zdG (n:=n) (d:=half d k a b) k0 k1
        have r1:=zbn (n:=n) (f:=half d k a b a) k0 k1
        have r2:=zbn (n:=n) (f:=half d k a b k) b0 b1
        have r3:=zbn (n:=n) (f:=half d k a b a) b0 b1
        rw [v1] at r1
        rw [v2] at r2
        rw [v3] at r3
        rw [← eT] at ta tk
        rw [show tabG n (half d k a b)=tabT T by rw [eT]; rfl]
        have q1:mAsg (zcc (m2 oAdd (m2 oIxL (m2 oIxL (mRd 0) (mRd 2)) (mRd 1)) (m2 oIxL (m2 oIxL (mRd 0) (mRd 1)) (mRd 3)))) (zan 4) [.p (tabT T),.v (.int k),.v (.int a),.v (.int b),sv p4] = .nx [.p (tabT T),.v (.int k),.v (.int a),.v (.int b),.v (.int (d a k + d k b))]:=by
          refine zaz (d:=.int (d a k + d k b)) ?_ (zaw rfl)
          unfold zcc
          rw [zoc]
          simp [peek,zkh,mRd,ta,tk,r1,r2,zdn]
        have pv:zcc (mCB zkQ (zaa (m2 oIxL (m2 oIxL (mRd 0) (mRd 2)) (mRd 3)) (zaa (mRd 4) mNil))) [.p (tabT T),.v (.int k),.v (.int a),.v (.int b),.v (.int (d a k + d k b))] = .ok (.int (newD d k a b)):=by
          unfold zcc
          rw [zoc]
          simp [peek,zkh,mCB,zaa,mNil,mRd,ta,r3,zkQ,zdn,newD]
        have q2:=zcR (i:=0) (mk:=mVar 2) (mj:=mVar 3) (me:=zcc (mCB zkQ (zaa (m2 oIxL (m2 oIxL (mRd 0) (mRd 2)) (mRd 3)) (zaa (mRd 4) mNil)))) (δ:=[.p (tabT T),.v (.int k),.v (.int a),.v (.int b),.v (.int (d a k + d k b))]) (d:=half d k a b) (n:=n) (by rw [eT]; rfl) rfl rfl pv a0 a1 b0 b1
        have eq2:tabG n (upd2 (half d k a b) a b (newD d k a b))=tabG n (half d k a (pre ++ [b]).length):=zer fun x y _ _ _ _=>by
          have:((pre ++ [b]).length:Int)=b + 1:=by simp; omega
          rw [this]
          unfold upd2 half
          by_cases c1:x=a∧y=b
          · rw [if_pos c1,if_pos (by omega),c1.1,c1.2]
          · rw [if_neg c1]
            by_cases c2:x < a∨x=a∧y < b
            · rw [if_pos c2,if_pos (by omega)]
            · rw [if_neg c2,if_neg (by omega)]
        rw [eq2] at q2
        exact ⟨[.p (tabT T),.v (.int k),.v (.int a),.v (.int b),sv p4],_,zaw rfl,.inl ((zaj q1).trans q2),some (.int b),some (.int (d a k + d k b)),rfl⟩)
      [.p (tabG n (half d k a 0)),.v (.int k),.v (.int a),sv o3,sv o4] ⟨o3,o4,rfl⟩
    refine ⟨p3,p4,(zbB (rng' _ _)).trans (h1.trans ?_)⟩
    have:tabG n (half d k a (upt n).length)=tabG n (half d k (a + 1) 0):=zer fun x y _ _ _ hy=>by
      rw [zaU]
      unfold half
      by_cases c:x < a∨x=a∧y < (n:Int)
      · rw [if_pos c,if_pos (by omega)]
      · rw [if_neg c,if_neg (by omega)]
    rw [this]
  have mid:∀ (d:Int→Int→Int) (k:Int) (o2 o3 o4:Option D),SymOk n B d→0 ≤ k→k < n→∃ p2 p3 p4,zd2 [.p (tabG n d),.v (.int k),sv o2,sv o3,sv o4] = .nx [.p (tabG n (newD d k)),.v (.int k),sv p2,sv p3,sv p4]:=fun d k o2 o3 o4 hs k0 k1=>by
    obtain ⟨δ,h1,p2,p3,p4,rfl⟩:=zaZ (b:=zan 2) (m:=zdO) D.int (fun pre δ=>∃ p2 p3 p4,δ = [.p (tabG n (half d k pre.length 0)),.v (.int k),sv p2,sv p3,sv p4]) (upt n)
      (by
        rintro pre a post δ hall ⟨p2,p3,p4,rfl⟩
        obtain ⟨ea,_,_⟩:=ze5 hall
        obtain ⟨a0,a1⟩:=mem_upt.mp (show a ∈ upt n by rw [hall]; simp)
        rw [← ea]
        obtain ⟨r3,r4,e⟩:=inner d k a p3 p4 hs k0 k1 a0 a1
        refine ⟨[.p (tabG n (half d k a 0)),.v (.int k),.v (.int a),sv p3,sv p4],_,zaw rfl,.inl e,some (.int a),r3,r4,?_⟩
        have:((pre ++ [a]).length:Int)=a + 1:=by simp; omega
        rw [this]; rfl)
      [.p (tabG n (half d k 0 0)),.v (.int k),sv o2,sv o3,sv o4] ⟨o2,o3,o4,rfl⟩
    have e0:tabG n (half d k 0 0)=tabG n d:=zer fun x y x0 _ y0 _=>by unfold half; rw [if_neg (by omega)]
    have e1:tabG n (half d k (upt n).length 0)=tabG n (newD d k):=zer fun x y _ x1 _ _=>by rw [zaU]; unfold half; rw [if_pos (by omega)]
    rw [e0,e1] at h1
    exact ⟨p2,p3,p4,(zbB (rng' _ _)).trans h1⟩
  obtain ⟨δ,h1,e,p1,p2,p3,p4,rfl,hs,met⟩:=zaZ (b:=zan 1) (m:=zdM) D.int (fun pre δ=>∃ (e:Int→Int→Int) (p1 p2 p3 p4:Option D),δ = [.p (tabG n e),sv p1,sv p2,sv p3,sv p4]∧SymOk n B e∧∀ m ∈ pre,∀ a b:Int,0 ≤ a→a < n→0 ≤ b→b < n→e a b ≤ e a m + e m b) (upt n)
    (by
      rintro pre k post δ hall ⟨e,p1,p2,p3,p4,rfl,hs,met⟩
      obtain ⟨k0,k1⟩:=mem_upt.mp (show k ∈ upt n by rw [hall]; simp)
      obtain ⟨r2,r3,r4,e2⟩:=mid e k p2 p3 p4 hs k0 k1
      exact ⟨[.p (tabG n e),.v (.int k),sv p2,sv p3,sv p4],_,zaw rfl,.inl e2,newD e k,some (.int k),r2,r3,r4,rfl,znD hs k0 k1,znh hs k0 k1 (fun m hm=>mem_upt.mp (show m ∈ upt n by rw [hall]; exact List.mem_append_left _ hm)) met⟩)
    [.p (tabG n d),.no,.no,.no,.no] ⟨d,none,none,none,none,rfl,h,fun m hm=>by cases hm⟩
  refine ⟨e,⟨hs.nn,hs.self,hs.sym,fun a b c a0 a1 b0 b1 c0 c1=>met b (mem_upt.mpr ⟨b0,b1⟩) a c a0 a1 c0 c1⟩,?_⟩
  have q:zco [.p (tabG n d),.no,.no,.no,.no] = .ro (tabD (tabF n e)):=by
    have q1:zeg [.p (tabG n d),.no,.no,.no,.no] = .nx [.p (tabG n e),sv p1,sv p2,sv p3,sv p4]:=(zbB (rng' _ _)).trans h1
    exact (zaj q1).trans (show O.ro (trD (tabT (tabF n e)))=_ by rw [zdF])
  show runT 4 zco (tabF n d)=_
  unfold runT
  rw [show (Sl.p (tabT (tabF n d)) :: List.replicate 4 Sl.no) = [.p (tabG n d),.no,.no,.no,.no] from rfl,q]
end My
namespace My
open PySem L2 PM
theorem zgv {α:Type} {f:D→R (List Int)} (enc:α→D) (g:α→List Int) (l:List α) (h:∀ x ∈ l,f (enc x) = .ok (g x)):zcd f (l.map enc) = .ok (l.map g):=by
  induction l with
  | nil=>rfl
  | cons a l ih=>rw [List.map_cons,zcd,h a (by simp),R.bind_ok,ih fun x hx=>h x (by simp [hx]),R.bind_ok]; rfl
theorem znE {n:Nat} {B:Int} {d:Int→Int→Int} {a b v:Int} (h:SymOk n B d) (a0:0 ≤ a) (b0:0 ≤ b) (ne:a ≠ b) (v0:0 ≤ v) (v1:v ≤ B):SymOk n B (upd2 (upd2 d a b v) b a v):=by
  refine ⟨fun x y x0 x1 y0 y1=>?_,fun x x0 x1=>?_,fun x y x0 x1 y0 y1=>?_⟩
  · have:=h.nn x y x0 x1 y0 y1
    unfold upd2; (repeat' split) <;> omega
  · have:=h.self x x0 x1
    unfold upd2; (repeat' split) <;> omega
  · have:=h.sym x y x0 x1 y0 y1
    unfold upd2; (repeat' split) <;> omega
theorem zkk (ns:List Int) {most:Int} (t0:0 ≤ most) (t1:most ≤ 1000000000000000000):∃ (n:Nat) (d:Int→Int→Int),(1 ≤ n∧n ≤ 11)∧LenOk n 2000000000000000000 d∧zbp [.scr ns,.int most] = .ok (tabD (tabF n d)):=by
  obtain ⟨c,ec⟩:∃ c,c=ns.getD 0 0:=⟨_,rfl⟩
  have c0:zaE [.scr ns,.int 0] = .ok (.int c):=by rw [ec]; exact zgY ns 0
  have f7:Fit 7:=fitN 1000 (by decide)
  have f56:Fit 56:=fitN 1000 (by decide)
  have f112:Fit 112:=fitN 1000 (by decide)
  have f336:Fit 336:=fitN 1000 (by decide)
  obtain ⟨n,hn1,hn2,hn⟩:∃ n:Nat,1 ≤ n∧n ≤ 11∧(n:Int)=if c / 7 % 8=3 then 8 + c / 56 % 4 else 1 + c % 7:=by
    have a1:=zdL (c / 56) (show (0:Int) < 5 by decide)
    have a2:=zej (c / 56) (show (0:Int) < 5 by decide)
    have a3:=zdL c (show (0:Int) < 7 by decide)
    have a4:=zej c (show (0:Int) < 7 by decide)
    by_cases h:c / 7 % 8=3
    · exact ⟨(8 + c / 56 % 4).toNat,by omega,by omega,by rw [if_pos h]; omega⟩
    · exact ⟨(1 + c % 7).toNat,by omega,by omega,by rw [if_neg h]; omega⟩
  obtain ⟨w,ew⟩:∃ w,w=c / 112 % 3:=⟨_,rfl⟩
  have w0:0 ≤ w:=by rw [ew]; exact zdL _ (by decide)
  have w1:w < 3:=by rw [ew]; exact zej _ (by decide)
  obtain ⟨top,⟨p0,p1⟩,itop⟩:∃ top:Int,(0 ≤ top∧top ≤ 1000000000000000000)∧oIxL (.lst [.int 6,.int 60,.int most]) (.int (c / 336 % 3))=some (.int top):=by
    have h0:=zdL (c / 336) (show (0:Int) < 3 by decide)
    have h1:=zej (c / 336) (show (0:Int) < 3 by decide)
    rcases (show c / 336 % 3=0∨c / 336 % 3=1∨c / 336 % 3=2 by omega) with e | e | e <;> rw [e]
    · exact ⟨6,by decide,rfl⟩
    · exact ⟨60,by decide,rfl⟩
    · exact ⟨most,⟨t0,t1⟩,rfl⟩
  have rn:=rngT (show n ≤ 1000 by omega)
  have big:∀ {d:Int→Int→Int} {B:Int},B ≤ 2000000000000000000→LenOk n B d→LenOk n 2000000000000000000 d:=fun hB h=>⟨fun a b a0 a1 b0 b1=>by have:=h.nn a b a0 a1 b0 b1; omega,h.self,h.sym,h.tri⟩
  have q1:mAsg (zau zaE (zaa (mVar 0) (zaa (mC (.int 0)) mNil))) (zan 2) [.v (.scr ns),.v (.int most),.no,.no,.no,.no,.no,.no,.no,.no] = .nx [.v (.scr ns),.v (.int most),.v (.int c),.no,.no,.no,.no,.no,.no,.no]:=zaz (d:=.int c) (by simp [zau,zaa,mNil,mVar,mC,c0]) rfl
  have q2:mAsg (m2 oAdd (mC (.int 1)) (m2 oMod (mRd 2) (mC (.int 7)))) (zan 3) [.v (.scr ns),.v (.int most),.v (.int c),.no,.no,.no,.no,.no,.no,.no] = .nx [.v (.scr ns),.v (.int most),.v (.int c),.v (.int (1 + c % 7)),.no,.no,.no,.no,.no,.no]:=zaz (d:=.int (1 + c % 7)) (by simp [mRd,mC,zcU]) rfl
  have q3:mIfS (zap (m2 oEq (m2 oMod (m2 oDiv (mRd 2) (mC (.int 7))) (mC (.int 8))) (mC (.int 3)))) (mAsg (m2 oAdd (mC (.int 8)) (m2 oMod (m2 oDiv (mRd 2) (mC (.int 56))) (mC (.int 4)))) (zan 3)) zbm [.v (.scr ns),.v (.int most),.v (.int c),.v (.int (1 + c % 7)),.no,.no,.no,.no,.no,.no] = .nx [.v (.scr ns),.v (.int most),.v (.int c),.v (.int n),.no,.no,.no,.no,.no,.no]:=by
    by_cases h:c / 7 % 8=3
    · rw [if_pos h] at hn
      rw [zbC (by simp [zap,mRd,mC,zcU,zfh,f7,h])]
      exact zaz (d:=.int n) (by simp [mRd,mC,zcU,zfh,f56,hn]) rfl
    · rw [if_neg h] at hn
      rw [za7 (by simp [zap,mRd,mC,zcU,zfh,f7,h]),hn]; rfl
  have q4:mAsg (m2 oMod (m2 oDiv (mRd 2) (mC (.int 112))) (mC (.int 3))) (zan 4) [.v (.scr ns),.v (.int most),.v (.int c),.v (.int n),.no,.no,.no,.no,.no,.no] = .nx [.v (.scr ns),.v (.int most),.v (.int c),.v (.int n),.v (.int w),.no,.no,.no,.no,.no]:=zaz (d:=.int w) (by simp [mRd,mC,zcU,zfh,f112,ew]) rfl
  have q5:mAsg (m2 oIxL (mLst (zaa (mC (.int 6)) (zaa (mC (.int 60)) (zaa (mVar 1) mNil)))) (m2 oMod (m2 oDiv (mRd 2) (mC (.int 336))) (mC (.int 3)))) (zan 5) [.v (.scr ns),.v (.int most),.v (.int c),.v (.int n),.v (.int w),.no,.no,.no,.no,.no] = .nx [.v (.scr ns),.v (.int most),.v (.int c),.v (.int n),.v (.int w),.v (.int top),.no,.no,.no,.no]:=zaz (d:=.int top) (by simp [mLst,zaa,mNil,mVar,mRd,mC,sizeLine,zcU,zfh,f336,itop]) rfl
  have run:∀ X,_→zbp [.scr ns,.int most] = .ok X:=fun X hX=>zda ((zaj q1).trans ((zaj q2).trans ((zaj q3).trans ((zaj q4).trans ((zaj q5).trans hX)))))
  by_cases hw0:w=0
  · obtain ⟨d,hd,hg⟩:=zpt ns (n:=n) (top:=top) (by omega) p0
    refine ⟨n,d,⟨hn1,hn2⟩,big (by omega) hd,run _ ?_⟩
    have:mIfS (zap (m2 oEq (mRd 4) (mC (.int 0)))) (zbZ (zau zci (zaa (mVar 0) (zaa (mVar 3) (zaa (mVar 5) mNil))))) zbm [.v (.scr ns),.v (.int most),.v (.int c),.v (.int n),.v (.int w),.v (.int top),.no,.no,.no,.no] = .ro (tabD (tabF n d)):=by
      rw [zbC (by simp [zap,mRd,mC,hw0])]
      simp [zbZ,zau,zaa,mNil,mVar,hg]
    unfold mSeq
    rw [this]
  · have q6:mIfS (zap (m2 oEq (mRd 4) (mC (.int 0)))) (zbZ (zau zci (zaa (mVar 0) (zaa (mVar 3) (zaa (mVar 5) mNil))))) zbm [.v (.scr ns),.v (.int most),.v (.int c),.v (.int n),.v (.int w),.v (.int top),.no,.no,.no,.no] = .nx [.v (.scr ns),.v (.int most),.v (.int c),.v (.int n),.v (.int w),.v (.int top),.no,.no,.no,.no]:=by
      rw [za7 (by simp [zap,mRd,mC,hw0])]; rfl
    obtain ⟨lo,elo⟩:∃ lo:Int,lo=if w=1 then top else 0:=⟨_,rfl⟩
    have lo0:0 ≤ lo∧lo ≤ top:=by rw [elo]; split <;> omega
    have k2:zcn [.v (.scr ns),.v (.int most),.v (.int c),.v (.int n),.v (.int w),.v (.int top),.no,.no,.no,.no] = .ok (tabF n fun _ _=>0):=by
      unfold zcn zhZ
      have r:mRng (zaa (mVar 3) mNil) [.v (.scr ns),.v (.int most),.v (.int c),.v (.int n),.v (.int w),.v (.int top),.no,.no,.no,.no] = .ok ((upt n).map .int):=by simp [mRng,zaa,mNil,mVar,rn]
      rw [r,R.bind_ok,za8 (by rw [List.length_map,zaU]; exact Nat.le_trans hn2 (by decide))]
      have g:zcd (zhm (zaX 1) zdl (zaF [.v (.scr ns),.v (.int most),.v (.int c),.v (.int n),.v (.int w),.v (.int top),.no,.no,.no,.no] [3] 1)) ((upt n).map .int) = .ok ((upt n).map fun _=>(upt n).map fun _=>(0:Int)):=by
        refine zgv .int _ _ fun a _=>?_
        have k1:zdl [.v (.int n),.v (.int a)] = .ok (iL ((upt n).map fun _=>(0:Int))):=by
          refine Eq.trans (zcJ (l:=(upt n).map .int) (r:=(upt n).map fun _=>.int 0) (by simp [mRng,zaa,mNil,mVar,rn]) (by rw [List.length_map,zaU]; omega) ?_) (by simp [iL])
          exact zck .int (fun _=>.int 0) _ fun k _=>by simp [zdT,zaF,zaX,mC]
        have e:zaF [.v (.scr ns),.v (.int most),.v (.int c),.v (.int n),.v (.int w),.v (.int top),.no,.no,.no,.no] [3] 1 = [.v (.int n),.no]:=rfl
        have al:asIl (iL ((upt n).map fun _=>(0:Int)))=some ((upt n).map fun _=>(0:Int)):=zc9 _
        rw [e]
        simp [zhm,zaX,k1,al]
      rw [g]; rfl
    have q7:zi6 zcn 6 [.v (.scr ns),.v (.int most),.v (.int c),.v (.int n),.v (.int w),.v (.int top),.no,.no,.no,.no] = .nx [.v (.scr ns),.v (.int most),.v (.int c),.v (.int n),.v (.int w),.v (.int top),.p (tabG n fun _ _=>0),.no,.no,.no]:=by
      unfold zi6
      rw [k2]; rfl
    have inner:∀ (d:Int→Int→Int) (a:Int) (o8 o9:Option D),SymOk n (2 * top) d→0 ≤ a→a < n→(∀ x y:Int,0 ≤ x→x < a→0 ≤ y→y < a→x ≠ y→lo ≤ d x y) →
        ∃ d' p8 p9,zeF [.v (.scr ns),.v (.int most),.v (.int c),.v (.int n),.v (.int w),.v (.int top),.p (tabG n d),.v (.int a),sv o8,sv o9] = .nx [.v (.scr ns),.v (.int most),.v (.int c),.v (.int n),.v (.int w),.v (.int top),.p (tabG n d'),.v (.int a),sv p8,sv p9]∧SymOk n (2 * top) d'∧∀ x y:Int,0 ≤ x→x < a + 1→0 ≤ y→y < a + 1→x ≠ y→lo ≤ d' x y:=fun d a o8 o9 hs a0 a1 hd=>by
      obtain ⟨δ,h1,e,p8,p9,rfl,es,ed⟩:=zaZ (b:=zan 8) (m:=zed) D.int (fun pre δ=>∃ (e:Int→Int→Int) (p8 p9:Option D),δ = [.v (.scr ns),.v (.int most),.v (.int c),.v (.int n),.v (.int w),.v (.int top),.p (tabG n e),.v (.int a),sv p8,sv p9]∧SymOk n (2 * top) e∧∀ x y:Int,0 ≤ x→x < a + 1→0 ≤ y→y < a + 1→x ≠ y→(x < a∨y < pre.length)→(y < a∨x < pre.length)→lo ≤ e x y) (upt a.toNat)
        (by
          rintro pre b post δ hall ⟨e,p8,p9,rfl,es,ed⟩
          obtain ⟨eb,_,_⟩:=ze5 hall
          obtain ⟨b0,b1⟩:=mem_upt.mp (show b ∈ upt a.toNat by rw [hall]; simp)
          have aa:0 ≤ a * (a - 1):=Int.mul_nonneg a0 (by omega)
          have ab:a * (a - 1) ≤ 12 * 12:=Int.mul_le_mul (by omega) (by omega) (by omega) (by decide)
          obtain ⟨x,⟨x0,x1⟩,hx⟩:=zgy ns (k:=1 + a * (a - 1) / 2 + b) (top:=top) (by omega) (by omega) p0
          have fa:Fit a:=fitN 100 (by omega)
          have fa1:Fit (a - 1):=fitN 100 (by omega)
          have f2:Fit 2:=fitN 100 (by decide)
          obtain ⟨v,ev⟩:∃ v,v=if w=1 then x + top else x:=⟨_,rfl⟩
          have v0:lo ≤ v∧0 ≤ v∧v ≤ 2 * top:=by rw [ev,elo]; split <;> omega
          have s1:mAsg (zau zaK (zaa (mVar 0) (zaa (m2 oAdd (m2 oAdd (mC (.int 1)) (m2 oDiv (m2 oMul (mRd 7) (m2 oSub (mRd 7) (mC (.int 1)))) (mC (.int 2)))) (mRd 8)) (zaa (mVar 5) mNil)))) (zan 9) [.v (.scr ns),.v (.int most),.v (.int c),.v (.int n),.v (.int w),.v (.int top),.p (tabG n e),.v (.int a),.v (.int b),sv p9] = .nx [.v (.scr ns),.v (.int most),.v (.int c),.v (.int n),.v (.int w),.v (.int top),.p (tabG n e),.v (.int a),.v (.int b),.v (.int x)]:=by
            refine zaz (d:=.int x) ?_ (zaw rfl)
            simp [zau,zaa,mNil,mVar,mRd,mC,zd5 fa fa1,zfh,f2,hx]
          have s2:mIfS (zap (m2 oEq (mRd 4) (mC (.int 1)))) (mAsg (m2 oAdd (mRd 9) (mRd 5)) (zan 9)) zbm [.v (.scr ns),.v (.int most),.v (.int c),.v (.int n),.v (.int w),.v (.int top),.p (tabG n e),.v (.int a),.v (.int b),.v (.int x)] = .nx [.v (.scr ns),.v (.int most),.v (.int c),.v (.int n),.v (.int w),.v (.int top),.p (tabG n e),.v (.int a),.v (.int b),.v (.int v)]:=by
            by_cases h:w=1
            · rw [if_pos h] at ev
              rw [zbC (by simp [zap,mRd,mC,h])]
              exact zaz (d:=.int v) (by simp [mRd,ev]) rfl
            · rw [if_neg h] at ev
              rw [za7 (by simp [zap,mRd,mC,h]),ev]; rfl
          have s3:=zcR (i:=6) (mk:=mVar 7) (mj:=mVar 8) (me:=mVar 9) (δ:=[.v (.scr ns),.v (.int most),.v (.int c),.v (.int n),.v (.int w),.v (.int top),.p (tabG n e),.v (.int a),.v (.int b),.v (.int v)]) (n:=n) (d:=e) rfl rfl rfl rfl a0 a1 b0 (by omega)
          have s4:=zcR (i:=6) (mk:=mVar 8) (mj:=mVar 7) (me:=mVar 9) (δ:=[.v (.scr ns),.v (.int most),.v (.int c),.v (.int n),.v (.int w),.v (.int top),.p (tabG n (upd2 e a b v)),.v (.int a),.v (.int b),.v (.int v)]) (n:=n) (d:=upd2 e a b v) rfl rfl rfl rfl b0 (by omega) a0 a1
          refine ⟨[.v (.scr ns),.v (.int most),.v (.int c),.v (.int n),.v (.int w),.v (.int top),.p (tabG n e),.v (.int a),.v (.int b),sv p9],_,zaw rfl,.inl ((zaj s1).trans ((zaj s2).trans ((zaj s3).trans s4))),upd2 (upd2 e a b v) b a v,some (.int b),some (.int v),rfl,znE es a0 b0 (by omega) v0.2.1 v0.2.2,fun y z y0 y1 z0 z1 yz h1 h2=>?_⟩
          have pl:((pre ++ [b]).length:Int)=b + 1:=by simp; omega
          rw [pl] at h1 h2
          have h3:=ed y z y0 y1 z0 z1 yz
          have v1:=v0.1
          unfold upd2
          (repeat' split) <;> first | exact v1 | (refine h3 ?_ ?_ <;> omega))
        [.v (.scr ns),.v (.int most),.v (.int c),.v (.int n),.v (.int w),.v (.int top),.p (tabG n d),.v (.int a),sv o8,sv o9] ⟨d,o8,o9,rfl,hs,fun x y x0 x1 y0 y1 xy h1 h2=>by
          simp at h1 h2
          exact hd x y x0 (by omega) y0 (by omega) xy⟩
      refine ⟨e,p8,p9,(zbB (l:=(upt a.toNat).map .int) ?_).trans h1,es,fun x y x0 x1 y0 y1 xy=>ed x y x0 x1 y0 y1 xy (by rw [zaU]; omega) (by rw [zaU]; omega)⟩
      have ra:=rngT (show a.toNat ≤ 1000 by omega)
      rw [show ((a.toNat:Nat):Int)=a by omega] at ra
      simp [mRng,zaa,mNil,mVar,ra]
    obtain ⟨δ,h1,d,o7,o8,o9,rfl,hs,hd⟩:=zaZ (b:=zan 7) (m:=zek) D.int (fun pre δ=>∃ (d:Int→Int→Int) (o7 o8 o9:Option D),δ = [.v (.scr ns),.v (.int most),.v (.int c),.v (.int n),.v (.int w),.v (.int top),.p (tabG n d),sv o7,sv o8,sv o9]∧SymOk n (2 * top) d∧∀ x y:Int,0 ≤ x→x < pre.length→0 ≤ y→y < pre.length→x ≠ y→lo ≤ d x y) (upt n)
      (by
        rintro pre a post δ hall ⟨d,o7,o8,o9,rfl,hs,hd⟩
        obtain ⟨ea,_,_⟩:=ze5 hall
        obtain ⟨a0,a1⟩:=mem_upt.mp (show a ∈ upt n by rw [hall]; simp)
        rw [← ea] at hd
        obtain ⟨d',p8,p9,e1,e2,e3⟩:=inner d a o8 o9 hs a0 a1 hd
        refine ⟨[.v (.scr ns),.v (.int most),.v (.int c),.v (.int n),.v (.int w),.v (.int top),.p (tabG n d),.v (.int a),sv o8,sv o9],_,zaw rfl,.inl e1,d',some (.int a),p8,p9,rfl,e2,?_⟩
        have pl:((pre ++ [a]).length:Int)=a + 1:=by simp; omega
        rw [pl]; exact e3)
      [.v (.scr ns),.v (.int most),.v (.int c),.v (.int n),.v (.int w),.v (.int top),.p (tabG n fun _ _=>0),.no,.no,.no] ⟨fun _ _=>0,none,none,none,rfl,⟨fun _ _ _ _ _ _=>⟨Int.le_refl _,by omega⟩,fun _ _ _=>rfl,fun _ _ _ _ _ _=>rfl⟩,fun x y x0 x1=>by simp at x1; omega⟩
    have q8:zeD [.v (.scr ns),.v (.int most),.v (.int c),.v (.int n),.v (.int w),.v (.int top),.p (tabG n fun _ _=>0),.no,.no,.no] = .nx [.v (.scr ns),.v (.int most),.v (.int c),.v (.int n),.v (.int w),.v (.int top),.p (tabG n d),sv o7,sv o8,sv o9]:=(zbB (l:=(upt n).map .int) (by simp [mRng,zaa,mNil,mVar,rn])).trans h1
    rw [zaU] at hd
    by_cases hw2:w=2
    · obtain ⟨e,he,hsh⟩:=ziW (show n ≤ 100 by omega) hs
      refine ⟨n,e,⟨hn1,hn2⟩,big (by omega) he,run _ ((zaj q6).trans ((zaj q7).trans ((zaj q8).trans ?_)))⟩
      have:mIfS (zap (m2 oEq (mRd 4) (mC (.int 2)))) (zig zbe 6) zbm [.v (.scr ns),.v (.int most),.v (.int c),.v (.int n),.v (.int w),.v (.int top),.p (tabG n d),sv o7,sv o8,sv o9] = .ro (tabD (tabF n e)):=by
        rw [zbC (by simp [zap,mRd,mC,hw2])]
        show (match tabOf (some (Sl.p (tabG n d))) with | some ll=>_ | none=>_)=_
        rw [zlR]
        simp only [hsh]
      unfold mSeq
      rw [this]
    · have hw1:w=1:=by omega
      rw [if_pos hw1] at elo
      rw [elo] at hd
      refine ⟨n,d,⟨hn1,hn2⟩,big (by omega) ⟨hs.nn,hs.self,hs.sym,fun a b c a0 a1 b0 b1 c0 c1=>?_⟩,run _ ((zaj q6).trans ((zaj q7).trans ((zaj q8).trans ?_)))⟩
      · have n1:=hs.nn a c a0 a1 c0 c1
        by_cases e1:a=b
        · subst e1; have:=hs.self a a0 a1; omega
        · by_cases e2:b=c
          · subst e2; have:=hs.self b b0 b1; omega
          · have:=hd a b a0 a1 b0 b1 e1
            have:=hd b c b0 b1 c0 c1 e2
            omega
      · have:mIfS (zap (m2 oEq (mRd 4) (mC (.int 2)))) (zig zbe 6) zbm [.v (.scr ns),.v (.int most),.v (.int c),.v (.int n),.v (.int w),.v (.int top),.p (tabG n d),sv o7,sv o8,sv o9] = .nx [.v (.scr ns),.v (.int most),.v (.int c),.v (.int n),.v (.int w),.v (.int top),.p (tabG n d),sv o7,sv o8,sv o9]:=by
          rw [za7 (by simp [zap,mRd,mC,hw2])]; rfl
        exact (zaj this).trans (show O.ro (trD (tabT (tabF n d)))=_ by rw [zdF])
end My
namespace My
open PySem L2 PM
theorem zfX:∀ {x y z:List Int},PM.lexLt x y=true→PM.lexLt y z=true→PM.lexLt x z=true
  | [],[],_,h,_=>by simp [PM.lexLt] at h
  | [],_ :: _,[],_,h=>by simp [PM.lexLt] at h
  | [],_ :: _,_ :: _,_,_=>rfl
  | _ :: _,[],_,h,_=>by simp [PM.lexLt] at h
  | _ :: _,_ :: _,[],_,h=>by simp [PM.lexLt] at h
  | a :: x,b :: y,c :: z,h1,h2=>by
    unfold PM.lexLt at h1 h2 ⊢
    split at h1 <;> split at h2 <;> rename_i e1 e2
    · rw [if_pos (e1.trans e2)]; exact zfX h1 h2
    · rw [if_neg (by rw [e1]; exact e2),e1]; exact h2
    · rw [if_neg (by rw [← e2]; exact e1),← e2]; exact h1
    · have l1:a < b:=by simpa using h1
      have l2:b < c:=by simpa using h2
      rw [if_neg (by omega)]
      simp; omega
theorem zhM:∀ {x y:List Int},PM.lexLt x y=false→PM.lexLt y x=false→x=y
  | [],[],_,_=>rfl
  | [],_ :: _,h,_=>by simp [PM.lexLt] at h
  | _ :: _,[],_,h=>by simp [PM.lexLt] at h
  | a :: x,b :: y,h1,h2=>by
    unfold PM.lexLt at h1 h2
    split at h1
    · rename_i e
      rw [if_pos e.symm] at h2
      rw [e,zhM h1 h2]
    · rename_i e
      rw [if_neg (fun z=>e z.symm)] at h2
      simp at h1 h2
      omega
def mnT:List (List Int)→List Int
  | []=>[]
  | t :: l=>minT l t
theorem zmG:∀ (l:List (List Int)) (m:List Int),(minT l m=m∨minT l m ∈ l)∧PM.lexLt m (minT l m)=false∧∀ x ∈ l,PM.lexLt x (minT l m)=false
  | [],m=>⟨.inl rfl,by
      show PM.lexLt m m=false
      induction m with
      | nil=>rfl
      | cons a m ih=>simp [PM.lexLt,ih],fun _ h=>(by cases h)⟩
  | t :: l,m=>by
    have irr:∀ z:List Int,PM.lexLt z z=false:=fun z=>by
      induction z with
      | nil=>rfl
      | cons a m ih=>simp [PM.lexLt,ih]
    obtain ⟨h1,h2,h3⟩:=zmG l (if PM.lexLt t m=true then t else m)
    show (minT l (if PM.lexLt t m=true then t else m)=m∨minT l (if PM.lexLt t m=true then t else m) ∈ t :: l)∧PM.lexLt m (minT l (if PM.lexLt t m=true then t else m))=false∧∀ x ∈ t :: l,PM.lexLt x (minT l (if PM.lexLt t m=true then t else m))=false
    by_cases c:PM.lexLt t m=true
    · rw [if_pos c] at h1 h2 h3 ⊢
      refine ⟨.inr ?_,?_,fun x hx=>?_⟩
      · rcases h1 with e | e
        · rw [e]; simp
        · exact List.mem_cons_of_mem _ e
      · cases z:PM.lexLt m (minT l t) with
        | false=>rfl
        | true=>rw [zfX c z] at h2; cases h2
      · rcases List.mem_cons.mp hx with rfl | hx
        · exact h2
        · exact h3 x hx
    · rw [if_neg c] at h1 h2 h3 ⊢
      refine ⟨?_,h2,fun x hx=>?_⟩
      · rcases h1 with e | e
        · exact .inl e
        · exact .inr (List.mem_cons_of_mem _ e)
      · rcases List.mem_cons.mp hx with rfl | hx
        · cases z:PM.lexLt x (minT l m) with
          | false=>rfl
          | true =>
            rcases h1 with e | e
            · rw [e] at z; exact absurd z c
            · have c':PM.lexLt x m=false:=by simpa using c
              -- m is not below the least,x is below it: then m is not below x; they are alike or x is below m
              cases w:PM.lexLt m x with
              | true=>rw [zfX w z] at h2; cases h2
              | false =>
                have e2:=zhM c' w
                rw [e2] at z
                rw [z] at h2; cases h2
        · exact h3 x hx
theorem zgs {ts:List (List Int)} (h:ts ≠ []):mnT ts ∈ ts∧∀ x ∈ ts,PM.lexLt x (mnT ts)=false:=by
  cases ts with
  | nil=>exact absurd rfl h
  | cons t l =>
    obtain ⟨h1,h2,h3⟩:=zmG l t
    refine ⟨?_,fun x hx=>?_⟩
    · rcases h1 with e | e
      · show minT l t ∈ _; rw [e]; simp
      · exact List.mem_cons_of_mem _ e
    · rcases List.mem_cons.mp hx with rfl | hx
      · exact h2
      · exact h3 x hx
theorem zm9 {ts us:List (List Int)} (h:ts ≠ []) (e:∀ x,x ∈ ts ↔ x ∈ us):mnT ts=mnT us:=by
  have h':us ≠ []:=fun z=>by
    have:=(e _).mp (zgs h).1
    rw [z] at this; cases this
  exact zhM ((zgs h').2 _ ((e _).mp (zgs h).1)) ((zgs h).2 _ ((e _).mpr (zgs h').1))
def tri3 (x:List Int):D:=.tup (x.map .int)
theorem znx {ts:List (List Int)} (h:ts ≠ []):zk3 [.lst (ts.map tri3)]=some (tri3 (mnT ts)):=by
  cases ts with
  | nil=>exact absurd rfl h
  | cons t l =>
    have a1:∀ t:List Int,asTi (tri3 t)=some t:=fun t=>zc9 t
    have a2:∀ l:List (List Int),asTs (l.map tri3)=some l:=fun l=>by
      induction l with
      | nil=>rfl
      | cons t l ih=>simp [asTs,a1,ih]
    show (asTi (tri3 t)).bind (fun t=>(asTs (l.map tri3)).map fun ts=>D.tup ((minT ts t).map .int))=_
    rw [a1,a2]; rfl
def offL (n:Nat) (d:Int→Int→Int) (W V:List Int):List (List Int):=V.flatMap fun i=>((upt n).filter fun o=>o ∉ W).map fun o=>[d i o,o,i]
def offP (d:Int→Int→Int) (W U:List Int):List (List Int):=U.flatMap fun o=>W.map fun i=>[d i o,o,i]
theorem mem_offL {n:Nat} {d:Int→Int→Int} {W V x}:x ∈ offL n d W V ↔ ∃ i o,i ∈ V∧(0 ≤ o∧o < (n:Int))∧o ∉ W∧x = [d i o,o,i]:=by
  simp only [offL,List.mem_flatMap,List.mem_map,List.mem_filter,decide_eq_true_eq]
  constructor
  · rintro ⟨i,hi,o,⟨ho,hw⟩,rfl⟩
    exact ⟨i,o,hi,mem_upt.mp ho,by simpa using hw,rfl⟩
  · rintro ⟨i,o,hi,ho,hw,rfl⟩
    exact ⟨i,hi,o,⟨mem_upt.mpr ho,by simpa using hw⟩,rfl⟩
theorem zmR {d:Int→Int→Int} {W U x}:x ∈ offP d W U ↔ ∃ i o,i ∈ W∧o ∈ U∧x = [d i o,o,i]:=by
  simp only [offP,List.mem_flatMap,List.mem_map]
  constructor
  · rintro ⟨o,ho,i,hi,rfl⟩
    exact ⟨i,o,hi,ho,rfl⟩
  · rintro ⟨i,o,hi,ho,rfl⟩
    exact ⟨o,ho,i,hi,rfl⟩
theorem zjG (d:Int→Int→Int) (W:List Int):∀ U:List Int,(offP d W U).length=U.length * W.length
  | []=>by simp [offP]
  | o :: U=>by
    have:=zjG d W U
    unfold offP at this ⊢
    rw [List.flatMap_cons,List.length_append,List.length_map,this,List.length_cons,Nat.succ_mul]; omega
def nt (n:Nat) (d:Int→Int→Int) (W:List Int):List Int:=mnT (offL n d W W)
def nI (n:Nat) (d:Int→Int→Int) (W:List Int):Int:=(nt n d W).getD 2 0
def nO (n:Nat) (d:Int→Int→Int) (W:List Int):Int:=(nt n d W).getD 1 0
theorem zmc {n:Nat} {d:Int→Int→Int} {W:List Int} (h:W ≠ []) (hl:W.length < n):offL n d W W ≠ []∧nt n d W = [d (nI n d W) (nO n d W),nO n d W,nI n d W]∧nI n d W ∈ W∧(0 ≤ nO n d W∧nO n d W < n)∧nO n d W ∉ W:=by
  have ne:offL n d W W ≠ []:=fun e=>by
    obtain ⟨o,ho,hw⟩:∃ o ∈ upt n,o ∉ W:=by
      apply Classical.byContradiction
      intro hno
      have:=List.Nodup.length_le_of_subset (l₂:=W) (zlX n) (fun q hq=>Classical.byContradiction fun z=>hno ⟨q,hq,z⟩)
      rw [zaU] at this; omega
    cases W with
    | nil=>exact h rfl
    | cons i W =>
      have : [d i o,o,i] ∈ offL n d (i :: W) (i :: W):=mem_offL.mpr ⟨i,o,by simp,mem_upt.mp ho,hw,rfl⟩
      rw [e] at this; cases this
  obtain ⟨i,o,hi,ho,hw,e⟩:=mem_offL.mp (zgs ne).1
  have e':nt n d W = [d i o,o,i]:=e
  have e1:nI n d W=i:=by unfold nI; rw [e']; rfl
  have e2:nO n d W=o:=by unfold nO; rw [e']; rfl
  rw [e1,e2]
  exact ⟨ne,e',hi,ho,hw⟩
def stW (n:Nat) (d:Int→Int→Int):Nat→List Int
  | 0=>[0]
  | k + 1=>stW n d k ++ [nO n d (stW n d k)]
def stR (n:Nat) (d:Int→Int→Int):Nat→List (Int × Int)
  | 0=>[]
  | k + 1=>stR n d k ++ [(nI n d (stW n d k),nO n d (stW n d k))]
theorem zeQ (n:Nat) (d:Int→Int→Int) (k:Nat):(stW n d k).length=k + 1:=by
  induction k with
  | zero=>rfl
  | succ k ih=>simp [stW,ih]
theorem zhl (n:Nat) (d:Int→Int→Int) (k:Nat):(stR n d k).length=k:=by
  induction k with
  | zero=>rfl
  | succ k ih=>simp [stR,ih]
theorem zij (n:Nat) (d:Int→Int→Int) (k:Nat):stW n d k ≠ []:=fun e=>by
  have:=zeQ n d k
  rw [e] at this; simp at this
theorem ziX {n:Nat} {d:Int→Int→Int} (hn:0 < n):∀ k,k < n→∀ q ∈ stW n d k,0 ≤ q∧q < (n:Int)
  | 0,_,q,hq=>by rw [List.mem_singleton.mp hq]; omega
  | k + 1,h,q,hq=>by
    rcases List.mem_append.mp hq with z | z
    · exact ziX hn k (by omega) q z
    · rw [List.mem_singleton.mp z]
      exact (zmc (zij n d k) (by rw [zeQ]; omega)).2.2.2.1
theorem zlj {n:Nat} {d:Int→Int→Int} (hn:0 < n):∀ k,k < n→∀ p ∈ stR n d k,(0 ≤ p.1∧p.1 < (n:Int))∧(0 ≤ p.2∧p.2 < (n:Int))
  | 0,_,q,hq=>by cases hq
  | k + 1,h,q,hq=>by
    rcases List.mem_append.mp hq with z | z
    · exact zlj hn k (by omega) q z
    · rw [List.mem_singleton.mp z]
      obtain ⟨_,_,a,b,_⟩:=zmc (d:=d) (zij n d k) (show (stW n d k).length < n by rw [zeQ]; omega)
      exact ⟨ziX hn k (by omega) _ a,b⟩
def encR (p:Int × Int):D:=.tup [.int p.1,.int p.2]
end My
namespace My
open PySem L2 PM
def odd (E:List Int) (k:Int):Bool:=decide (E.count k % 2=1)
def insO (L:List Int) (t:Int):List Int:=if t ∈ L then L else L ++ [t]
def zaC (E:List Int):List Int:=E.foldl insO []
theorem zg6 (E:List Int) (x:Int):zaC (E ++ [x])=insO (zaC E) x:=by simp [zaC]
theorem zc0:∀ E:List Int,(zaC E).Nodup∧∀ x,x ∈ zaC E ↔ x ∈ E:=by
  have key:∀ (E L:List Int),L.Nodup→(E.foldl insO L).Nodup∧∀ x,x ∈ E.foldl insO L ↔ x ∈ L∨x ∈ E:=by
    intro E
    induction E with
    | nil=>intro L h; exact ⟨h,by simp⟩
    | cons a E ih =>
      intro L h
      have h2:(insO L a).Nodup:=by
        unfold insO
        split
        · exact h
        · rename_i z
          refine List.nodup_append.mpr ⟨h,by simp,fun x hx y hy e=>?_⟩
          rw [List.mem_singleton.mp hy] at e
          rw [e] at hx; exact z hx
      have m2:∀ x,x ∈ insO L a ↔ x ∈ L∨x=a:=fun x=>by
        unfold insO
        split
        · rename_i z
          exact ⟨.inl,fun w=>w.elim id fun e=>by rw [e]; exact z⟩
        · simp
      obtain ⟨i1,i2⟩:=ih (insO L a) h2
      refine ⟨i1,fun x=>?_⟩
      rw [List.foldl_cons,i2,m2,List.mem_cons,or_assoc]
  intro E
  obtain ⟨a,b⟩:=key E [] List.nodup_nil
  exact ⟨a,fun x=>by rw [show zaC E=E.foldl insO [] from rfl,b]; simp⟩
theorem zfv (E:List Int):(zaC E).length ≤ E.length:=by
  have:=zc0 E
  exact List.Nodup.length_le_of_subset this.1 fun x hx=>(this.2 x).mp hx
def dF (E:List Int):D:=.dct ((zaC E).map .inl) ((zaC E).map fun k=>.bl (odd E k))
theorem get_map (ks:List Int) (f:Int→D) (t:Int):getK (ks.map .inl) (ks.map f) (.inl t)=if t ∈ ks then some (f t) else none:=by
  induction ks with
  | nil=>rfl
  | cons a l ih =>
    simp only [List.map_cons,getK,ih]
    by_cases h:a=t
    · subst h; simp
    · have h':¬ (Sum.inl a:Key)=Sum.inl t:=fun e=>h (Sum.inl.inj e)
      rw [if_neg h']
      by_cases z:t ∈ l
      · rw [if_pos z,if_pos (List.mem_cons_of_mem _ z)]
      · rw [if_neg z,if_neg (fun w=>by rcases List.mem_cons.mp w with e | e; exact h e.symm; exact z e)]
theorem zjp (ks:List Int) (f:Int→D) (t:Int) (v:D) (hn:ks.Nodup):putL (ks.map .inl) (ks.map f) (.inl t) v=ks.map fun k=>if k=t then v else f k:=by
  induction ks with
  | nil=>rfl
  | cons a l ih =>
    have hl:=(List.nodup_cons.mp hn)
    simp only [List.map_cons,putL]
    by_cases h:a=t
    · subst h
      simp only [if_true,ih hl.2]
    · have h':¬ (Sum.inl a:Key)=Sum.inl t:=fun e=>h (Sum.inl.inj e)
      rw [if_neg h',if_neg h,ih hl.2]
theorem any_map (L:List Int) (t:Int):(L.map (.inl:Int→Key)).any (fun a=>decide (a = .inl t))=decide (t ∈ L):=by
  rw [Bool.eq_iff_iff]
  simp only [List.any_eq_true,List.mem_map,decide_eq_true_eq]
  constructor
  · rintro ⟨x,⟨a,h1,rfl⟩,h2⟩
    cases h2; exact h1
  · intro h
    exact ⟨_,⟨t,h,rfl⟩,rfl⟩
theorem zfT (E:List Int) (x k:Int):odd (E ++ [x]) k=if k=x then !odd E k else odd E k:=by
  unfold odd
  rw [List.count_append]
  by_cases h:k=x
  · subst h
    rw [if_pos rfl,List.count_singleton_self]
    by_cases z:E.count k % 2=1 <;> simp [z] <;> omega
  · rw [if_neg h,List.count_singleton]
    have:(x == k)=false:=beq_eq_false_iff_ne.mpr fun e=>h e.symm
    simp [this]
theorem zoO (E:List Int) (x:Int):putD ((zaC E).map .inl) ((zaC E).map fun k=>.bl (odd E k)) (.inl x) (.bl (!odd E x))=dF (E ++ [x]):=by
  have ok:=zc0 E
  unfold putD dF
  rw [any_map,zg6]
  by_cases h:x ∈ zaC E
  · rw [if_pos (by simpa using h),zjp _ _ _ _ ok.1]
    simp only [insO,if_pos h]
    congr 1
    refine List.map_congr_left fun k _=>?_
    rw [zfT]
    by_cases e:k=x
    · subst e; simp
    · simp [e]
  · rw [if_neg (by simpa using h)]
    simp only [insO,if_neg h,List.map_append,List.map_cons,List.map_nil]
    congr 2
    · refine List.map_congr_left fun k hk=>?_
      rw [zfT,if_neg (fun e=>h (by rw [← e]; exact hk))]
    · rw [zfT,if_pos rfl]
def ends (R:List (Int × Int)):List Int:=R.flatMap fun p=>[p.1,p.2]
theorem zhs (R:List (Int × Int)):(ends R).length=2 * R.length:=by
  induction R with
  | nil=>rfl
  | cons p R ih=>simp only [ends,List.flatMap_cons,List.length_append,List.length_cons,List.length_nil] at *; omega
def oddL (R:List (Int × Int)):List Int:=(zaC (ends R)).filter (odd (ends R))
theorem ziO {R:List (Int × Int)} (hR:R.length ≤ 30):zbJ [.lst (R.map encR)] = .ok (iL (srt (oddL R))):=by
  obtain ⟨A,eA⟩:∃ A,A=D.lst (R.map encR):=⟨_,rfl⟩
  have step:∀ (E:List Int) (x:Int) (s2:Sl),E.length ≤ 100→zfB [.v A,.o (dF E),s2,.v (.int x)] = .nx [.v A,.o (dF (E ++ [x])),s2,.v (.int x)]:=fun E x s2 hE=>by
    have g:ziG (mRd 1) (mVar 3) (mC (.bl false)) [.v A,.o (dF E),s2,.v (.int x)] = .ok (.bl (odd E x)):=by
      have gk:=get_map (zaC E) (fun k=>D.bl (odd E k)) x
      by_cases h:x ∈ zaC E
      · rw [if_pos h] at gk
        simp [ziG,mRd,mVar,mC,dF,asK,gk,zoY]
      · rw [if_neg h] at gk
        have z:odd E x=false:=by
          unfold odd
          have:x ∉ E:=fun w=>h ((zc0 E).2 x |>.mpr w)
          rw [List.count_eq_zero.mpr this]; rfl
        simp [ziG,mRd,mVar,mC,dF,asK,gk,z,zoY]
    have fl:=zfv E
    show zi0 1 (mVar 3) (zhE (ziG (mRd 1) (mVar 3) (mC (.bl false)))) _=_
    unfold zi0
    have nv:zhE (ziG (mRd 1) (mVar 3) (mC (.bl false))) [.v A,.o (dF E),s2,.v (.int x)] = .ok (.bl (!odd E x)):=by
      unfold zhE
      rw [g]; rfl
    show (PM.R.toO (zhE _ _) _ _)=_
    rw [nv]
    simp only [PM.R.toO_ok]
    show (PM.R.toO (mVar 3 _) _ _)=_
    have v3:mVar 3 [.v A,.o (dF E),s2,.v (.int x)] = .ok (.int x):=rfl
    rw [v3]
    simp only [PM.R.toO_ok,asK]
    rw [za8 (by rw [List.length_map]; exact zl2 (by omega)),zoO]
    rfl
  obtain ⟨δ1,h1,o2,o3,rfl⟩:=zaZ (b:=zan 2) (m:=zeb) encR (fun pre δ=>∃ o2 o3,δ = [.v A,.o (dF (ends pre)),sv o2,sv o3]) R
    (by
      rintro pre p post δ hall ⟨o2,o3,rfl⟩
      have pl:pre.length ≤ 30:=by rw [hall] at hR; simp at hR; omega
      have el:=zhs pre
      have s1:=step (ends pre) p.1 (.v (encR p)) (by omega)
      have s2:=step (ends pre ++ [p.1]) p.2 (.v (encR p)) (by simp; omega)
      refine ⟨[.v A,.o (dF (ends pre)),.v (encR p),sv o3],_,zaw rfl,.inl ?_,some (encR p),some (.int p.2),rfl⟩
      have e:ends (pre ++ [p])=ends pre ++ [p.1] ++ [p.2]:=by simp [ends]
      rw [e]
      unfold zeb zgj
      refine (zbB (l:=[.int p.1,.int p.2]) rfl).trans ?_
      unfold zb3
      rw [show zan 3 (.int p.1) [.v A,.o (dF (ends pre)),.v (encR p),sv o3]=some [.v A,.o (dF (ends pre)),.v (encR p),.v (.int p.1)] from zaw rfl]
      simp only [s1]
      unfold zb3
      rw [show zan 3 (.int p.2) [.v A,.o (dF (ends pre ++ [p.1])),.v (encR p),.v (.int p.1)]=some [.v A,.o (dF (ends pre ++ [p.1])),.v (encR p),.v (.int p.2)] from rfl]
      simp only [s2]
      rfl)
    [.v A,.o (dF []),.no,.no] ⟨none,none,rfl⟩
  have q0:mAsg (mC (.dct [] [])) (bNew 1) [.v A,.no,.no,.no] = .nx [.v A,.o (dF []),.no,.no]:=rfl
  have q1:zgC [.v A,.o (dF []),.no,.no]=_:=(zbB (l:=R.map encR) (by rw [eA]; rfl)).trans h1
  have fl:=zfv (ends R)
  have el:=zhs R
  have k:zeT [.v A,.v (.fd ((zaC (ends R)).map .inl) ((zaC (ends R)).map fun k=>.bl (odd (ends R) k))),sv o2,sv o3] = .ok (iL (oddL R)):=by
    refine zcJ (l:=(zaC (ends R)).map .int) ?_ (by rw [List.length_map]; omega) ?_
    · show PM.R.ok (((zaC (ends R)).map .inl).map kD)=_
      rw [List.map_map]; rfl
    · refine zhz .int _ _ fun x hx=>?_
      have e:zaF [.v A,.v (.fd ((zaC (ends R)).map .inl) ((zaC (ends R)).map fun k=>.bl (odd (ends R) k))),sv o2,sv o3] [1] 1 = [.v (.fd ((zaC (ends R)).map .inl) ((zaC (ends R)).map fun k=>.bl (odd (ends R) k))),.no]:=rfl
      rw [e]
      have gk:=get_map (zaC (ends R)) (fun k=>D.bl (odd (ends R) k)) x
      rw [if_pos hx] at gk
      have fg:fGet (.fd ((zaC (ends R)).map .inl) ((zaC (ends R)).map fun k=>.bl (odd (ends R) k))) (.int x)=some (.bl (odd (ends R) x)):=gk
      cases z:odd (ends R) x <;> simp [zdT,zaX,zap,mVar,fg,z]
  have ol:(oddL R).length < 64:=Nat.lt_of_le_of_lt (List.length_filter_le ..) (by omega)
  refine zda ?_
  rw [← eA]
  refine (zaj q0).trans ((zaj q1).trans ?_)
  show zbZ (mCB zeW (zaa zeT mNil)) [.v A,.v (.fd ((zaC (ends R)).map .inl) ((zaC (ends R)).map fun k=>.bl (odd (ends R) k))),sv o2,sv o3]=_
  have fs:zeW [iL (oddL R)]=some (iL (srt (oddL R))):=by
    unfold zeW iL
    simp only [zc9,Option.bind]
    rw [za8 ol]; rfl
  simp only [zbZ,mCB,zaa,mNil,k,PM.R.bind_ok,fs,PM.R.of_some]; rfl
theorem flip {x:Int} {E:List Int}:∀ {K:List Int},K.Nodup→((K.filter (odd (E ++ [x]))).length + (K.filter (odd E)).length) % 2=if x ∈ K then 1 else 0
  | [],_=>rfl
  | a :: K,h=>by
    have hk:=List.nodup_cons.mp h
    have ih:=flip (x:=x) (E:=E) hk.2
    rw [List.filter_cons,List.filter_cons,zfT]
    by_cases e:a=x
    · subst e
      rw [if_neg hk.1] at ih
      rw [if_pos rfl,if_pos (List.mem_cons_self)]
      cases z:odd E a <;> simp <;> omega
    · rw [if_neg e]
      have m:(x ∈ a :: K) ↔ x ∈ K:=by
        rw [List.mem_cons]; exact ⟨fun w=>w.resolve_left fun q=>e q.symm,.inr⟩
      have ei:(if x ∈ a :: K then 1 else 0)=(if x ∈ K then 1 else 0:Nat):=by simp only [m]
      rw [ei]
      cases z:odd E a <;> simp <;> omega
theorem zkM:∀ (n:Nat) (E:List Int),E.length=n→∀ K:List Int,K.Nodup→(∀ x ∈ E,x ∈ K)→(K.filter (odd E)).length % 2=E.length % 2:=by
  intro n
  induction n with
  | zero =>
    intro E hE K _ _
    rw [List.length_eq_zero_iff.mp hE]
    have:K.filter (odd []) = []:=List.filter_eq_nil_iff.mpr fun a _=>by simp [odd]
    rw [this]
  | succ n ih =>
    intro E hE K hn hs
    have ne:E ≠ []:=fun e=>by rw [e] at hE; simp at hE
    obtain ⟨E',x,rfl⟩:∃ E' x,E=E' ++ [x]:=⟨E.dropLast,E.getLast ne,(List.dropLast_concat_getLast ne).symm⟩
    have l:E'.length=n:=by simp at hE; exact hE
    have i:=ih E' l K hn fun y hy=>hs y (by simp [hy])
    have f:=flip (x:=x) (E:=E') hn
    rw [if_pos (hs x (by simp))] at f
    rw [List.length_append,List.length_singleton]
    omega
theorem zle (R:List (Int × Int)):(oddL R).length % 2=0:=by
  have ok:=zc0 (ends R)
  have:=zkM _ (ends R) rfl (zaC (ends R)) ok.1 fun x hx=>(ok.2 x).mpr hx
  rw [zhs] at this
  unfold oddL
  omega
theorem znr {R:List (Int × Int)} {x:Int} (h:x ∈ oddL R):x ∈ ends R:=((zc0 (ends R)).2 x).mp (List.mem_filter.mp h).1
theorem zkl (R:List (Int × Int)):(oddL R).Nodup:=(zc0 (ends R)).1.filter _
end My
namespace My
open PySem L2 PM
theorem zh9 {α β:Type} (f:α→β):∀ (l:List α) (k:Nat),(l.map f).eraseIdx k=(l.eraseIdx k).map f
  | [],_=>by simp
  | _ :: _,0=>rfl
  | a :: l,k + 1=>by simp [zh9 f l k]
theorem zkS {S:List (Int × Int)} (hS:S.length ≤ 100) (x:Int):(∃ (k:Nat) (p:Int × Int),S[k]?=some p∧(x=p.1∨x=p.2)∧zcx [.lst (S.map encR),.int x] = .ok (.int k))∨((∀ p ∈ S,x ≠ p.1∧x ≠ p.2)∧zcx [.lst (S.map encR),.int x] = .ok .non):=by
  obtain ⟨A,eA⟩:∃ A,A=D.lst (S.map encR):=⟨_,rfl⟩
  let enc:(Int × Int) × Nat→D:=fun q=>.tup [.int q.2,encR q.1]
  have ee:ziy (S.map encR)=S.zipIdx.map enc:=by rw [zm0,List.zipIdx_map,List.map_map]; rfl
  have it:zou (zaa (mVar 0) mNil) [.v A,.v (.int x),.no,.no] = .ok (S.zipIdx.map enc):=by
    rw [eA]
    show R.of (some (ziy (S.map encR)))=_
    rw [ee]; rfl
  have tt:∀ (q:(Int × Int) × Nat),zap (m2 oIn (mRd 1) (mRd 3)) [.v A,.v (.int x),.v (.int q.2),.v (encR q.1)] = .ok (decide (x=q.1.1∨x=q.1.2)):=fun q=>by
    simp [zap,mRd,oIn,encR,asIs]
  have run:∀ (l:List ((Int × Int) × Nat)) (o2 o3:Option D),(∃ q ∈ l,(x=q.1.1∨x=q.1.2)∧zb3 (bTup 2 (zbH (zan 2) (zbH (zan 3) bNil))) zbS (l.map enc) [.v A,.v (.int x),sv o2,sv o3] = .rt (.int q.2))∨((∀ q ∈ l,¬ (x=q.1.1∨x=q.1.2))∧∃ p2 p3,zb3 (bTup 2 (zbH (zan 2) (zbH (zan 3) bNil))) zbS (l.map enc) [.v A,.v (.int x),sv o2,sv o3] = .nx [.v A,.v (.int x),sv p2,sv p3]):=by
    intro l
    induction l with
    | nil=>intro o2 o3; exact .inr ⟨by simp,o2,o3,rfl⟩
    | cons q l ih =>
      intro o2 o3
      have b1:bTup 2 (zbH (zan 2) (zbH (zan 3) bNil)) (enc q) [.v A,.v (.int x),sv o2,sv o3]=some [.v A,.v (.int x),.v (.int q.2),.v (encR q.1)]:=by rcases o2 with _ | o2 <;> rcases o3 with _ | o3 <;> rfl
      have t1:=tt q
      by_cases h:x=q.1.1∨x=q.1.2
      · rw [decide_eq_true h] at t1
        refine .inl ⟨q,by simp,h,?_⟩
        rw [List.map_cons]
        unfold zb3
        rw [b1]
        have:zbS [.v A,.v (.int x),.v (.int q.2),.v (encR q.1)] = .rt (.int q.2):=(zbC t1).trans rfl
        simp only [this]
      · rw [decide_eq_false h] at t1
        have bd:zbS [.v A,.v (.int x),.v (.int q.2),.v (encR q.1)] = .nx [.v A,.v (.int x),.v (.int q.2),.v (encR q.1)]:=(za7 t1).trans rfl
        have un:zb3 (bTup 2 (zbH (zan 2) (zbH (zan 3) bNil))) zbS ((q :: l).map enc) [.v A,.v (.int x),sv o2,sv o3]=zb3 (bTup 2 (zbH (zan 2) (zbH (zan 3) bNil))) zbS (l.map enc) [.v A,.v (.int x),sv (some (.int q.2)),sv (some (encR q.1))]:=by
          rw [List.map_cons]
          conv=>lhs; unfold zb3
          rw [b1]
          simp only [bd]
          rfl
        rcases ih (some (.int q.2)) (some (encR q.1)) with ⟨q',h1,h2,h3⟩ | ⟨h1,p2,p3,h3⟩
        · exact .inl ⟨q',List.mem_cons_of_mem _ h1,h2,un.trans h3⟩
        · exact .inr ⟨fun z hz=>by rcases List.mem_cons.mp hz with rfl | hz; exact h; exact h1 z hz,p2,p3,un.trans h3⟩
  rw [← eA]
  rcases run S.zipIdx none none with ⟨q,h1,h2,h3⟩ | ⟨h1,p2,p3,h3⟩
  · obtain ⟨p,k⟩:=q
    have hk:S[k]?=some p:=by
      have:=List.mem_zipIdx_iff_getElem?.mp h1
      simpa using this
    exact .inl ⟨k,p,hk,h2,zcB (zov ((zbB it).trans h3))⟩
  · refine .inr ⟨fun p hp=>?_,zcB ((zaj ((zbB it).trans h3)).trans rfl)⟩
    obtain ⟨k,hk,e⟩:=List.getElem_of_mem hp
    have:=h1 (p,k) (List.mem_zipIdx_iff_getElem?.mpr (by simp [List.getElem?_eq_getElem hk,e]))
    exact ⟨fun z=>this (.inl z),fun z=>this (.inr z)⟩
def zgU (p:Int × Int) (x:Int):Int:=if p.1=x then p.2 else p.1
theorem zil (p:Int × Int) (x:Int):zcj [encR p,.int x] = .ok (.int (zgU p x)):=by
  refine zcB ?_
  show zdE [.v (encR p),.v (.int x)]=_
  unfold zdE zgU
  by_cases h:p.1=x <;> simp [mRet,mIf,zap,mRd,mC,encR,h]
theorem zma {A:D} {S:List (Int × Int)} {G:List Int} {x:Int} {W:List Int} {o4 o5 o6:Option D} (hS:S.length ≤ 100) (hG:G.length ≤ 1000) (hW:W.length ≤ 1000) :
    (∃ (k:Nat) (p:Int × Int) (o4' o5' o6':Option D),S[k]?=some p∧(x=p.1∨x=p.2)∧zcr [.v A,.o (.lst (S.map encR)),.o (iL (G ++ [x])),.o (iL W),sv o4,sv o5,sv o6] = .nx [.v A,.o (.lst ((S.eraseIdx k).map encR)),.o (iL (G ++ [x] ++ [zgU p x])),.o (iL W),sv o4',sv o5',sv o6']) ∨
    (∃ (o4' o5':Option D),(∀ p ∈ S,x ≠ p.1∧x ≠ p.2)∧zcr [.v A,.o (.lst (S.map encR)),.o (iL (G ++ [x])),.o (iL W),sv o4,sv o5,sv o6] = .nx [.v A,.o (.lst (S.map encR)),.o (iL G),.o (iL (W ++ [x])),sv o4',sv o5',sv o6]):=by
  have q1:mAsg (m2 oIxL (mRd 2) (m1 oNeg (mC (.int 1)))) (zan 4) [.v A,.o (.lst (S.map encR)),.o (iL (G ++ [x])),.o (iL W),sv o4,sv o5,sv o6] = .nx [.v A,.o (.lst (S.map encR)),.o (iL (G ++ [x])),.o (iL W),.v (.int x),sv o5,sv o6]:=by
    refine zaz (d:=.int x) ?_ (zaw rfl)
    have ix:oIxL (iL (G ++ [x])) (.int (-1))=some (.int x):=by
      show atI ((G ++ [x]).map D.int) (-1)=_
      unfold atI ixN
      rw [if_neg (by decide),List.length_map,List.length_append,List.length_singleton]
      rw [if_pos (by omega)]
      have:((-1:Int) + ((G.length + 1:Nat):Int)).toNat=G.length:=by omega
      simp only [this]
      simp
    simp [mRd,mC,ix]
  have len:(iL (G ++ [x])) = .lst ((G ++ [x]).map .int):=rfl
  rcases zkS hS x with ⟨k,p,hk,hx,hr⟩ | ⟨hx,hr⟩
  · have q2:mAsg (zeY zcx (zaa (mRd 1) (zaa (mVar 4) mNil))) (zan 5) [.v A,.o (.lst (S.map encR)),.o (iL (G ++ [x])),.o (iL W),.v (.int x),sv o5,sv o6] = .nx [.v A,.o (.lst (S.map encR)),.o (iL (G ++ [x])),.o (iL W),.v (.int x),.v (.int k),sv o6]:=by
      refine zaz (d:=.int k) ?_ (zaw rfl)
      simp [zeY,zaa,mNil,mRd,mVar,hr,zdn]
    have kl:=(List.getElem?_eq_some_iff.mp hk).1
    have t3:zap (m2 oIs (mRd 5) (mC .non)) [.v A,.o (.lst (S.map encR)),.o (iL (G ++ [x])),.o (iL W),.v (.int x),.v (.int k),sv o6] = .ok false:=rfl
    have q4:zmg 1 (mVar 5) (zan 6) [.v A,.o (.lst (S.map encR)),.o (iL (G ++ [x])),.o (iL W),.v (.int x),.v (.int k),sv o6] = .nx [.v A,.o (.lst ((S.eraseIdx k).map encR)),.o (iL (G ++ [x])),.o (iL W),.v (.int x),.v (.int k),.v (encR p)]:=by
      have g : [Sl.v A,.o (.lst (S.map encR)),.o (iL (G ++ [x])),.o (iL W),.v (.int x),.v (.int k),sv o6][1]?=some (.o (.lst (S.map encR))):=rfl
      have v:mVar 5 [Sl.v A,.o (.lst (S.map encR)),.o (iL (G ++ [x])),.o (iL W),.v (.int x),.v (.int k),sv o6] = .ok (.int k):=rfl
      have gk:(S.map encR)[k]?=some (encR p):=by rw [List.getElem?_map,hk]; rfl
      have er:(S.map encR).eraseIdx k=(S.eraseIdx k).map encR:=zh9 _ _ _
      unfold zmg
      rw [g]
      simp only [v,R.toO_ok]
      show (match (S.map encR)[k]? with | some d=>if k < 2 ^ 63 then O.of (zan 6 d _) else O.no | none=>O.no)=_
      rw [gk]
      simp only
      rw [if_pos (by omega),er]
      rcases o6 with _ | o6 <;> rfl
    have q5:zbD 2 (zau zcj (zaa (mVar 6) (zaa (mVar 4) mNil))) [.v A,.o (.lst ((S.eraseIdx k).map encR)),.o (iL (G ++ [x])),.o (iL W),.v (.int x),.v (.int k),.v (encR p)] = .nx [.v A,.o (.lst ((S.eraseIdx k).map encR)),.o (iL (G ++ [x] ++ [zgU p x])),.o (iL W),.v (.int x),.v (.int k),.v (encR p)] :=
      zes (L:=G ++ [x]) (y:=zgU p x) rfl (by simp [zau,zaa,mNil,mVar,zil]) (by simp; omega)
    exact .inl ⟨k,p,some (.int x),some (.int k),some (encR p),hk,hx,(zaj q1).trans ((zaj q2).trans ((za7 t3).trans ((zaj q4).trans q5)))⟩
  · have q2:mAsg (zeY zcx (zaa (mRd 1) (zaa (mVar 4) mNil))) (zan 5) [.v A,.o (.lst (S.map encR)),.o (iL (G ++ [x])),.o (iL W),.v (.int x),sv o5,sv o6] = .nx [.v A,.o (.lst (S.map encR)),.o (iL (G ++ [x])),.o (iL W),.v (.int x),.v .non,sv o6]:=by
      refine zaz (d:=.non) ?_ (zaw rfl)
      simp [zeY,zaa,mNil,mRd,mVar,hr,zdn]
    have t3:zap (m2 oIs (mRd 5) (mC .non)) [.v A,.o (.lst (S.map encR)),.o (iL (G ++ [x])),.o (iL W),.v (.int x),.v .non,sv o6] = .ok true:=rfl
    have q4:ze2 3 2 [.v A,.o (.lst (S.map encR)),.o (iL (G ++ [x])),.o (iL W),.v (.int x),.v .non,sv o6] = .nx [.v A,.o (.lst (S.map encR)),.o (iL G),.o (iL (W ++ [x])),.v (.int x),.v .non,sv o6]:=by
      have g1 : [Sl.v A,.o (.lst (S.map encR)),.o (iL (G ++ [x])),.o (iL W),.v (.int x),.v .non,sv o6][3]?=some (.o (.lst (W.map .int))):=rfl
      have g2 : [Sl.v A,.o (.lst (S.map encR)),.o (iL (G ++ [x])),.o (iL W),.v (.int x),.v .non,sv o6][2]?=some (.o (.lst ((G ++ [x]).map .int))):=rfl
      have gk:((G ++ [x]).map D.int)[((G ++ [x]).map D.int).length - 1]?=some (.int x):=by simp
      have dl:((G ++ [x]).map D.int).dropLast=G.map .int:=by rw [List.map_append]; simp
      have ap:W.map D.int ++ [.int x]=(W ++ [x]).map .int:=by simp
      unfold ze2
      rw [g1,g2]
      simp only [gk]
      rw [if_neg (by decide),if_pos (by rw [List.length_map]; omega),dl,ap]
      rcases o6 with _ | o6 <;> rfl
    exact .inr ⟨some (.int x),some .non,hx,(zaj q1).trans ((zaj q2).trans ((zbC t3).trans q4))⟩
end My
namespace My
open PySem L2 PM
theorem zno {A:D}:∀ (j:Nat) (S:List (Int × Int)) (G W:List Int) (o4 o5 o6:Option D),2 * S.length + G.length=j→S.length + G.length + W.length ≤ 101 →
    ∃ (S':List (Int × Int)) (W':List Int) (p4 p5 p6:Option D),W'.length ≤ 101∧zcO za2 zcr (j + 1) [.v A,.o (.lst (S.map encR)),.o (iL G),.o (iL W),sv o4,sv o5,sv o6] = .nx [.v A,.o (.lst (S'.map encR)),.o (iL []),.o (iL W'),sv p4,sv p5,sv p6]:=by
  intro j
  induction j with
  | zero =>
    intro S G W o4 o5 o6 h hl
    obtain rfl:G = []:=List.length_eq_zero_iff.mp (by omega)
    refine ⟨S,W,o4,o5,o6,by omega,?_⟩
    have t:za2 [.v A,.o (.lst (S.map encR)),.o (iL []),.o (iL W),sv o4,sv o5,sv o6] = .ok false:=by
      simp only [za2,zap,ze7,mCB,zaa,mNil,mRd,mC,List.getElem?_cons_succ,List.getElem?_cons_zero,R.bind_ok,zeX,R.of_some]; rfl
    unfold zcO
    rw [t]; rfl
  | succ j ih =>
    intro S G W o4 o5 o6 h hl
    rcases List.eq_nil_or_concat G with rfl | ⟨G',x,eG⟩
    · refine ⟨S,W,o4,o5,o6,by simp at hl; omega,?_⟩
      have t:za2 [.v A,.o (.lst (S.map encR)),.o (iL []),.o (iL W),sv o4,sv o5,sv o6] = .ok false:=by
        simp only [za2,zap,ze7,mCB,zaa,mNil,mRd,mC,List.getElem?_cons_succ,List.getElem?_cons_zero,R.bind_ok,zeX,R.of_some]; rfl
      unfold zcO
      rw [t]; rfl
    · rw [List.concat_eq_append] at eG
      subst eG
      rw [List.length_append,List.length_singleton] at h hl
      have t:za2 [.v A,.o (.lst (S.map encR)),.o (iL (G' ++ [x])),.o (iL W),sv o4,sv o5,sv o6] = .ok true:=by
        simp only [za2,zap,ze7,mCB,zaa,mNil,mRd,mC,List.getElem?_cons_succ,List.getElem?_cons_zero,R.bind_ok,zeX,R.of_some,zop,zpe,List.length_append,List.length_singleton]
        exact congrArg R.ok (decide_eq_true (by omega))
      unfold zcO
      rw [t,R.toO_ok,if_pos rfl]
      rcases zma (A:=A) (S:=S) (G:=G') (x:=x) (W:=W) (o4:=o4) (o5:=o5) (o6:=o6) (by omega) (by omega) (by omega) with ⟨k,p,q4,q5,q6,hk,_,hb⟩ | ⟨q4,q5,_,hb⟩
      · rw [hb]
        have kl:=(List.getElem?_eq_some_iff.mp hk).1
        have el:(S.eraseIdx k).length=S.length - 1:=List.length_eraseIdx_of_lt kl
        exact ih (S.eraseIdx k) (G' ++ [x] ++ [zgU p x]) W q4 q5 q6 (by simp only [List.length_append,List.length_singleton,el]; omega) (by simp only [List.length_append,List.length_singleton,el]; omega)
      · rw [hb]
        exact ih S G' (W ++ [x]) q4 q5 o6 (by omega) (by simp only [List.length_append,List.length_singleton]; omega)
theorem zhB {S:List (Int × Int)} (hS:S.length ≤ 100):∃ W:List Int,W.length ≤ 101∧zbT [.lst (S.map encR)] = .ok (iL W):=by
  obtain ⟨A,eA⟩:∃ A,A=D.lst (S.map encR):=⟨_,rfl⟩
  obtain ⟨S',W',p4,p5,p6,hl,hr⟩:=zno (A:=A) (2 * S.length + 1) S [0] [] none none none (by simp) (by simp; omega)
  have hw:zff [.v A,.o (.lst (S.map encR)),.o (iL [0]),.o (iL []),.no,.no,.no]=_:=zgf hr (by intro z; cases z)
  refine ⟨W',hl,zda ?_⟩
  rw [← eA]
  show mSeq _ _ [.v A,.no,.no,.no,.no,.no,.no]=_
  have q1:mAsg (mCB zfs (zaa (mRd 0) mNil)) (bNew 1) [.v A,.no,.no,.no,.no,.no,.no] = .nx [.v A,.o (.lst (S.map encR)),.no,.no,.no,.no,.no]:=zaz (d:=.lst (S.map encR)) (by rw [eA]; simp [mCB,zaa,mNil,mRd,zfs]) rfl
  have q2:mAsg (mLst (zaa (mC (.int 0)) mNil)) (bNew 2) [.v A,.o (.lst (S.map encR)),.no,.no,.no,.no,.no] = .nx [.v A,.o (.lst (S.map encR)),.o (iL [0]),.no,.no,.no,.no]:=zaz (d:=iL [0]) (by simp [mLst,zaa,mNil,mC,sizeLine,iL]) rfl
  have q3:mAsg (mLst mNil) (bNew 3) [.v A,.o (.lst (S.map encR)),.o (iL [0]),.no,.no,.no,.no] = .nx [.v A,.o (.lst (S.map encR)),.o (iL [0]),.o (iL []),.no,.no,.no]:=zaz (d:=.lst []) (by simp [mLst,mNil,sizeLine]) rfl
  exact (zaj q1).trans ((zaj q2).trans ((zaj q3).trans ((zaj hw).trans rfl)))
theorem zot {n:Nat} {d:Int→Int→Int} {ns:List Int} (h:∀ q ∈ ns,0 ≤ q∧q < (n:Int)):zlm (tabD (tabF n d)) (dOf (tabD (tabF n d))) ns:=by
  intro i hi j hj
  have a:=zdG (d:=d) (h i hi).1 (h i hi).2
  have b:=zbn (n:=n) (f:=d i) (h j hj).1 (h j hj).2
  refine ⟨_,a,?_⟩
  rw [b]
  unfold dOf
  rw [a,Option.bind_some,b]
end My
namespace My
open PySem L2 PM
theorem zpZ (a b c:Int):oIxT (tri3 [a,b,c]) (.int 1)=some (.int b):=rfl
theorem zpV (a b c:Int):oIxT (tri3 [a,b,c]) (.int 2)=some (.int c):=rfl
theorem zoV {n:Nat} {d:Int→Int→Int} {W U:List Int} (hW:W ≠ []) (hl:W.length < n) (hn:n ≤ 100) (wm:∀ q ∈ W,0 ≤ q∧q < (n:Int)) (um:∀ q,q ∈ U ↔ (0 ≤ q∧q < (n:Int))∧q ∉ W) (ul:U.length ≤ 100) :
    zbk [tabD (tabF n d),iL W,iL U] = .ok (encR (nI n d W,nO n d W)):=by
  obtain ⟨T,eT⟩:∃ T,T=tabD (tabF n d):=⟨_,rfl⟩
  have tix:∀ a:Int,0 ≤ a→a < n→oIxL T (.int a)=some (iL ((upt n).map (d a))):=fun a h0 h1=>by rw [eT]; exact zdG h0 h1
  obtain ⟨ne,e3,hi,ho,hw⟩:=zmc (d:=d) hW hl
  have same:∀ x,x ∈ offL n d W W ↔ x ∈ offP d W U:=fun x=>by
    rw [mem_offL,zmR]
    constructor
    · rintro ⟨i,o,a,b,c,e⟩; exact ⟨i,o,a,(um o).mpr ⟨b,c⟩,e⟩
    · rintro ⟨i,o,a,b,e⟩; exact ⟨i,o,a,((um o).mp b).1,((um o).mp b).2,e⟩
  have ms:mnT (offP d W U)=nt n d W:=(zm9 ne same).symm
  have neP:offP d W U ≠ []:=fun e=>by
    have:=(same _).mp (zgs ne).1
    rw [e] at this; cases this
  obtain ⟨δ,h1,o4,o5,rfl⟩:=zaZ (b:=zan 4) (m:=zcf) D.int (fun pre δ=>∃ o4 o5:Option D,δ = [.v T,.v (iL W),.v (iL U),.o (.lst ((offP d W pre).map tri3)),sv o4,sv o5,.no]) U
    (by
      rintro pre o post δ hall ⟨o4,o5,rfl⟩
      have oU:o ∈ U:=by rw [hall]; simp
      obtain ⟨⟨o0,o1⟩,_⟩:=(um o).mp oU
      obtain ⟨δ2,g1,p5,rfl⟩:=zaZ (b:=zan 5) (m:=zch) D.int (fun pw δ=>∃ p5:Option D,δ = [.v T,.v (iL W),.v (iL U),.o (.lst ((offP d W pre ++ pw.map fun i=>[d i o,o,i]).map tri3)),.v (.int o),sv p5,.no]) W
        (by
          rintro pw i qw δ hallw ⟨p5,rfl⟩
          have iW:i ∈ W:=by rw [hallw]; simp
          obtain ⟨i0,i1⟩:=wm i iW
          have r:=zbn (n:=n) (f:=d i) o0 o1
          refine ⟨[.v T,.v (iL W),.v (iL U),.o (.lst ((offP d W pre ++ pw.map fun i=>[d i o,o,i]).map tri3)),.v (.int o),.v (.int i),.no],[.v T,.v (iL W),.v (iL U),.o (.lst ((offP d W pre ++ (pw ++ [i]).map fun i=>[d i o,o,i]).map tri3)),.v (.int o),.v (.int i),.no],zaw rfl,.inl ?_,some _,rfl⟩
          unfold zch
          have tr:mTup (zaa (m2 oIxL (m2 oIxL (mRd 0) (mRd 5)) (mRd 4)) (zaa (mVar 4) (zaa (mVar 5) mNil))) [.v T,.v (iL W),.v (iL U),.o (.lst ((offP d W pre ++ pw.map fun i=>[d i o,o,i]).map tri3)),.v (.int o),.v (.int i),.no] = .ok (tri3 [d i o,o,i]):=by
            simp [mTup,zaa,mNil,mVar,mRd,tix i i0 i1,r,tri3,sizeLine]
          refine (zeS (i:=3) rfl tr ?_).trans ?_
          · have a1:=congrArg List.length hall
            have a2:=congrArg List.length hallw
            simp only [List.length_append,List.length_cons] at a1 a2
            rw [List.length_map,List.length_append,List.length_map,zjG]
            have:pre.length * W.length ≤ 100 * 100:=Nat.mul_le_mul (by omega) (by omega)
            omega
          · rw [List.map_append (l₁:=pw),← List.append_assoc,List.map_append (l₂:=List.map _ [i])]; rfl)
        [.v T,.v (iL W),.v (iL U),.o (.lst ((offP d W pre).map tri3)),.v (.int o),sv o5,.no] ⟨o5,by rw [List.map_nil,List.append_nil]⟩
      refine ⟨[.v T,.v (iL W),.v (iL U),.o (.lst ((offP d W pre).map tri3)),.v (.int o),sv o5,.no],[.v T,.v (iL W),.v (iL U),.o (.lst ((offP d W (pre ++ [o])).map tri3)),.v (.int o),sv p5,.no],zaw rfl,.inl ?_,some _,p5,rfl⟩
      have e:offP d W (pre ++ [o])=offP d W pre ++ W.map fun i=>[d i o,o,i]:=by unfold offP; rw [List.flatMap_append]; simp
      rw [e]
      unfold zcf zdJ
      refine (zbB (l:=W.map .int) ?_).trans g1
      simp [mItL,mVar])
    [.v T,.v (iL W),.v (iL U),.o (.lst []),.no,.no,.no] ⟨none,none,rfl⟩
  refine zcB ?_
  rw [← eT]
  show mSeq _ _ [.v T,.v (iL W),.v (iL U),.no,.no,.no,.no]=_
  have q1:mAsg (mLst mNil) (bNew 3) [.v T,.v (iL W),.v (iL U),.no,.no,.no,.no] = .nx [.v T,.v (iL W),.v (iL U),.o (.lst []),.no,.no,.no]:=zaz (d:=.lst []) (by simp [mLst,mNil,sizeLine]) rfl
  have q2:zdI [.v T,.v (iL W),.v (iL U),.o (.lst []),.no,.no,.no]=_:=(zbB (l:=U.map .int) (by simp [mItL,mVar])).trans h1
  have fm:=znx neP
  rw [ms,e3] at fm
  have q3:mAsg (mCB zk3 (zaa (mRd 3) mNil)) (zan 6) [.v T,.v (iL W),.v (iL U),.o (.lst ((offP d W U).map tri3)),sv o4,sv o5,.no] = .nx [.v T,.v (iL W),.v (iL U),.o (.lst ((offP d W U).map tri3)),sv o4,sv o5,.v (tri3 [d (nI n d W) (nO n d W),nO n d W,nI n d W])]:=zaz (by simp only [mCB,zaa,mNil,mRd,List.getElem?_cons_succ,List.getElem?_cons_zero,R.bind_ok,fm,R.of_some]) rfl
  refine (zaj q1).trans ((zaj q2).trans ((zaj q3).trans ?_))
  simp only [mRet,mTup,zaa,mNil,ze7,mRd,mC,List.getElem?_cons_succ,List.getElem?_cons_zero,R.bind_ok,zpZ,zpV,R.of_some]
  rw [za8 (show ([D.int (nI n d W),D.int (nO n d W)]:List D).length ≤ sizeLine from by show 2 ≤ sizeLine; decide)]
  rfl
theorem zcK {n:Nat} {B:Int} {d:Int→Int→Int} (ok:LenOk n B d) (hn0:0 < n) (hn:n ≤ 100):zaD [tabD (tabF n d)] = .ok (.lst ((stR n d (n - 1)).map encR)):=by
  obtain ⟨T,eT⟩:∃ T,T=tabD (tabF n d):=⟨_,rfl⟩
  have lT:fLen [T]=some (.int n):=by rw [eT]; exact zfq
  have look:=zew hn ok
  rw [← eT] at look
  have run:∀ (j k:Nat) (U:List Int) (o4:Option D),j + k + 1=n→(∀ q,q ∈ U ↔ (0 ≤ q∧q < (n:Int))∧q ∉ stW n d k)→U.Nodup→U.length=j →
      ∃ p4:Option D,zcO zby zdh (j + 1) [.v T,.o (iL (stW n d k)),.o (iL U),.o (.lst ((stR n d k).map encR)),sv o4] = .nx [.v T,.o (iL (stW n d (n - 1))),.o (iL []),.o (.lst ((stR n d (n - 1)).map encR)),sv p4]:=by
    intro j
    induction j with
    | zero =>
      intro k U o4 hk hU hN hl
      obtain rfl:U = []:=List.length_eq_zero_iff.mp hl
      obtain rfl:k=n - 1:=by omega
      refine ⟨o4,?_⟩
      have t:zby [.v T,.o (iL (stW n d (n - 1))),.o (iL []),.o (.lst ((stR n d (n - 1)).map encR)),sv o4] = .ok false:=by
        simp only [zby,zap,ze7,mCB,zaa,mNil,mRd,mC,List.getElem?_cons_succ,List.getElem?_cons_zero,R.bind_ok,zeX,R.of_some]; rfl
      unfold zcO
      rw [t]; rfl
    | succ j ih =>
      intro k U o4 hk hU hN hl
      have t:zby [.v T,.o (iL (stW n d k)),.o (iL U),.o (.lst ((stR n d k).map encR)),sv o4] = .ok true:=by
        have:(0:Int) < ((j + 1:Nat):Int):=by omega
        simp only [zby,zap,ze7,mCB,zaa,mNil,mRd,mC,List.getElem?_cons_succ,List.getElem?_cons_zero,R.bind_ok,zeX,hl,R.of_some,zop,zpe]
        exact congrArg R.ok (decide_eq_true (by omega))
      obtain ⟨I,eI⟩:∃ I,I=nI n d (stW n d k):=⟨_,rfl⟩
      obtain ⟨O,eO⟩:∃ O,O=nO n d (stW n d k):=⟨_,rfl⟩
      have rd:=zoV (d:=d) (U:=U) (zij n d k) (show (stW n d k).length < n by rw [zeQ]; omega) hn (ziX hn0 k (by omega)) hU (by omega)
      obtain ⟨_,_,hi,ho,hw⟩:=zmc (d:=d) (zij n d k) (show (stW n d k).length < n by rw [zeQ]; omega)
      rw [← eT,← eI,← eO] at rd
      rw [← eO] at ho hw
      have oU:O ∈ U:=(hU O).mpr ⟨ho,hw⟩
      have q1:mAsg (zeY zbk (zaa (mVar 0) (zaa (mRd 1) (zaa (mRd 2) mNil)))) (zan 4) [.v T,.o (iL (stW n d k)),.o (iL U),.o (.lst ((stR n d k).map encR)),sv o4] = .nx [.v T,.o (iL (stW n d k)),.o (iL U),.o (.lst ((stR n d k).map encR)),.v (encR (I,O))]:=by
        refine zaz (d:=encR (I,O)) ?_ (zaw rfl)
        simp [zeY,zaa,mNil,mVar,mRd,rd,encR,zdn,zeZ]
      have q2:zbD 3 (mVar 4) [.v T,.o (iL (stW n d k)),.o (iL U),.o (.lst ((stR n d k).map encR)),.v (encR (I,O))] = .nx [.v T,.o (iL (stW n d k)),.o (iL U),.o (.lst ((stR n d (k + 1)).map encR)),.v (encR (I,O))]:=by
        refine (zeS (i:=3) (d:=encR (I,O)) rfl rfl (by rw [List.length_map,zhl]; omega)).trans ?_
        rw [stR,List.map_append,← eI,← eO]; rfl
      have q3:zbD 1 (m2 oIxT (mRd 4) (mC (.int 1))) [.v T,.o (iL (stW n d k)),.o (iL U),.o (.lst ((stR n d (k + 1)).map encR)),.v (encR (I,O))] = .nx [.v T,.o (iL (stW n d (k + 1))),.o (iL U),.o (.lst ((stR n d (k + 1)).map encR)),.v (encR (I,O))]:=by
        refine (zes (i:=1) (L:=stW n d k) (y:=O) rfl (by simp [mRd,mC,encR]) (by rw [zeQ]; omega)).trans ?_
        rw [stW,← eO]; rfl
      have q4:zft 2 (m2 oIxT (mRd 4) (mC (.int 1))) [.v T,.o (iL (stW n d (k + 1))),.o (iL U),.o (.lst ((stR n d (k + 1)).map encR)),.v (encR (I,O))] = .nx [.v T,.o (iL (stW n d (k + 1))),.o (iL (U.erase O)),.o (.lst ((stR n d (k + 1)).map encR)),.v (encR (I,O))]:=by
        have g:([.v T,.o (iL (stW n d (k + 1))),.o (.lst (U.map .int)),.o (.lst ((stR n d (k + 1)).map encR)),.v (encR (I,O))]:En)[2]?=some (.o (.lst (U.map .int))):=rfl
        have v:m2 oIxT (mRd 4) (mC (.int 1)) [.v T,.o (iL (stW n d (k + 1))),.o (.lst (U.map .int)),.o (.lst ((stR n d (k + 1)).map encR)),.v (encR (I,O))] = .ok (.int O):=by simp [mRd,mC,encR]
        have ix:U.idxOf O < U.length:=List.idxOf_lt_length_iff.mpr oU
        show zft 2 _ [.v T,.o (iL (stW n d (k + 1))),.o (.lst (U.map .int)),.o (.lst ((stR n d (k + 1)).map encR)),.v (encR (I,O))]=_
        unfold zft
        rw [g]
        simp only [v,R.toO_ok,zc9,if_pos ix]
        rw [List.erase_eq_eraseIdx_of_idxOf rfl]; rfl
      obtain ⟨p4,hh⟩:=ih (k + 1) (U.erase O) (some (encR (I,O))) (by omega) (fun q=>by
          rw [List.Nodup.mem_erase_iff hN,hU,stW,List.mem_append,List.mem_singleton,← eO]
          constructor
          · rintro ⟨a,b,c⟩; exact ⟨b,fun z=>z.elim c a⟩
          · rintro ⟨b,c⟩; exact ⟨fun z=>c (.inr z),b,fun z=>c (.inl z)⟩) (hN.erase O) (by rw [List.length_erase_of_mem oU,hl]; rfl)
      refine ⟨p4,?_⟩
      unfold zcO
      rw [t,R.toO_ok,if_pos rfl]
      have bd:zdh [.v T,.o (iL (stW n d k)),.o (iL U),.o (.lst ((stR n d k).map encR)),sv o4] = .nx [.v T,.o (iL (stW n d (k + 1))),.o (iL (U.erase O)),.o (.lst ((stR n d (k + 1)).map encR)),.v (encR (I,O))]:=(zaj q1).trans ((zaj q2).trans ((zaj q3).trans q4))
      rw [bd]
      exact hh
  obtain ⟨U,eU⟩:∃ U:List Int,U=(List.range (n - 1)).map fun k:Nat=>1 + (k:Int):=⟨_,rfl⟩
  obtain ⟨p4,hr⟩:=run (n - 1) 0 U none (by omega) (fun q=>by
      rw [eU,List.mem_map]
      constructor
      · rintro ⟨k,hk,rfl⟩
        have:=List.mem_range.mp hk
        refine ⟨⟨by omega,by omega⟩,fun z=>?_⟩
        have:=List.mem_singleton.mp z
        omega
      · rintro ⟨⟨a,b⟩,c⟩
        have:q ≠ 0:=fun z=>c (List.mem_singleton.mpr z)
        exact ⟨(q - 1).toNat,List.mem_range.mpr (by omega),by omega⟩)
    (by
      rw [eU,List.Nodup,List.pairwise_map]
      exact List.nodup_range.imp fun {a b} ne e=>ne (by omega))
    (by rw [eU,List.length_map,List.length_range])
  have hw:zfa [.v T,.o (iL (stW n d 0)),.o (iL U),.o (.lst ((stR n d 0).map encR)),sv none]=_:=zgf hr (by intro z; cases z)
  refine zda ?_
  rw [← eT]
  show mSeq _ _ [.v T,.no,.no,.no,.no]=_
  have q0:mDo (zaV zaO (zaa (mVar 0) mNil)) [.v T,.no,.no,.no,.no] = .nx [.v T,.no,.no,.no,.no]:=by simp [mDo,zaV,zaa,mNil,mVar,look]
  have q1:mAsg (mLst (zaa (mC (.int 0)) mNil)) (bNew 1) [.v T,.no,.no,.no,.no] = .nx [.v T,.o (iL (stW n d 0)),.no,.no,.no]:=zaz (d:=iL [0]) (by simp [mLst,zaa,mNil,mC,sizeLine,iL]) rfl
  have q2:mAsg (zjN (zaa (mC (.int 1)) (zaa (mCB fLen (zaa (mRd 0) mNil)) mNil))) (bNew 2) [.v T,.o (iL (stW n d 0)),.no,.no,.no] = .nx [.v T,.o (iL (stW n d 0)),.o (iL U),.no,.no]:=by
    refine zaz (d:=iL U) ?_ rfl
    have ml:zaa (mC (.int 1)) (zaa (mCB fLen (zaa (mRd 0) mNil)) mNil) [.v T,.o (iL (stW n d 0)),.no,.no,.no] = .ok [.int 1,.int n]:=by simp [zaa,mNil,mC,mCB,mRd,lT]
    unfold zjN
    rw [ml,R.bind_ok]
    unfold zlT
    simp only
    rw [za8 ⟨by decide,by omega,by omega⟩,eU]
    unfold iL
    rw [List.map_map,show ((n:Int) - 1).toNat=n - 1 by omega]; rfl
  have q3:mAsg (mLst mNil) (bNew 3) [.v T,.o (iL (stW n d 0)),.o (iL U),.no,.no] = .nx [.v T,.o (iL (stW n d 0)),.o (iL U),.o (.lst ((stR n d 0).map encR)),sv none]:=zaz (d:=.lst []) (by simp [mLst,mNil,sizeLine]) rfl
  exact (zaj q0).trans ((zaj q1).trans ((zaj q2).trans ((zaj q3).trans ((zaj hw).trans rfl))))
end My
namespace My
open PySem L2 PM
theorem zg1 (n:Nat) (d:Int→Int→Int):∀ k,stW n d k=0 :: (stR n d k).map (·.2)
  | 0=>rfl
  | k + 1=>by rw [stW,stR,zg1 n d k,List.map_append]; rfl
theorem zn5 {n:Nat} {d:Int→Int→Int}:∀ k,k < n→(stW n d k).Nodup
  | 0,_=>by simp [stW]
  | k + 1,h=>by
    rw [stW]
    have z:=(zmc (d:=d) (zij n d k) (show (stW n d k).length < n by rw [zeQ]; omega)).2.2.2.2
    refine List.nodup_append.mpr ⟨zn5 k (by omega),by simp,fun x hx y hy e=>?_⟩
    rw [List.mem_singleton.mp hy] at e
    rw [e] at hx; exact z hx
def kids (R:List (Int × Int)) (p:Int):List Int:=(R.filter fun q=>decide (q.1=p)).map (·.2)
theorem znq {R:List (Int × Int)} {p x:Int}:x ∈ kids R p ↔ (p,x) ∈ R:=by
  unfold kids
  rw [List.mem_map]
  constructor
  · rintro ⟨q,h,rfl⟩
    obtain ⟨h1,h2⟩:=List.mem_filter.mp h
    have:q.1=p:=by simpa using h2
    rw [← this]; exact h1
  · intro h
    exact ⟨(p,x),List.mem_filter.mpr ⟨h,by simp⟩,rfl⟩
theorem zo5 {R:List (Int × Int)} {p:Int} (h:(R.map (·.2)).Nodup):(kids R p).Nodup:=h.sublist (List.Sublist.map _ List.filter_sublist)
structure Rnd (R:List (Int × Int)) (W Q:List Int):Prop where
  nd:(W ++ Q).Nodup
  up:∀ x ∈ W ++ Q,x=0∨∃ i,(i,x) ∈ R∧i ∈ W
theorem zlc {R:List (Int × Int)} (h:(R.map (·.2)).Nodup) {i j x:Int} (h1:(i,x) ∈ R) (h2:(j,x) ∈ R):i=j:=by
  induction R with
  | nil=>cases h1
  | cons a R ih =>
    rw [List.map_cons,List.nodup_cons] at h
    rcases List.mem_cons.mp h1 with e1 | e1 <;> rcases List.mem_cons.mp h2 with e2 | e2
    · exact congrArg Prod.fst (e1.trans e2.symm)
    · exact absurd (List.mem_map.mpr ⟨_,e2,by rw [← e1]⟩) h.1
    · exact absurd (List.mem_map.mpr ⟨_,e1,by rw [← e2]⟩) h.1
    · exact ih h.2 e1 e2
theorem Rnd.step {R:List (Int × Int)} {W Q:List Int} {p:Int} (h0:0 ∉ R.map (·.2)) (hn:(R.map (·.2)).Nodup) (h:Rnd R W (Q ++ [p])):Rnd R (W ++ [p]) (Q ++ kids R.reverse p):=by
  have hk:∀ x,x ∈ kids R.reverse p ↔ (p,x) ∈ R:=fun x=>by rw [znq,List.mem_reverse]
  have pW:p ∉ W:=fun z=>(List.nodup_append.mp h.nd).2.2 p z p (by simp) rfl
  have hnr:(R.reverse.map (·.2)).Nodup:=by rw [List.map_reverse]; exact (List.reverse_perm _).nodup_iff.mpr hn
  constructor
  · have a:((W ++ [p]) ++ Q).Nodup:=by
      have:=h.nd
      refine (List.Perm.nodup_iff ?_).mp this
      rw [List.append_assoc]
      exact List.Perm.append_left W List.perm_append_comm
    rw [← List.append_assoc]
    refine List.nodup_append.mpr ⟨a,zo5 hnr,fun x hx y hy e=>?_⟩
    subst e
    have m:=(hk x).mp hy
    have:x ∈ W ++ (Q ++ [p]):=by
      simp only [List.mem_append,List.mem_singleton] at hx ⊢
      rcases hx with (z | z) | z
      · exact .inl z
      · exact .inr (.inr z)
      · exact .inr (.inl z)
    rcases h.up x this with e | ⟨i,hi,hw⟩
    · exact h0 (List.mem_map.mpr ⟨_,m,e⟩)
    · rw [zlc hn hi m] at hw
      exact pW hw
  · intro x hx
    simp only [List.mem_append,List.mem_singleton] at hx
    have old:x ∈ W ++ (Q ++ [p])→x=0∨∃ i,(i,x) ∈ R∧i ∈ W ++ [p]:=fun z=>by
      rcases h.up x z with e | ⟨i,hi,hw⟩
      · exact .inl e
      · exact .inr ⟨i,hi,List.mem_append_left _ hw⟩
    rcases hx with (z | z) | z | z
    · exact old (List.mem_append_left _ z)
    · exact old (by rw [z]; simp)
    · exact old (by simp [z])
    · exact .inr ⟨p,(hk x).mp z,by simp⟩
theorem Rnd.len {R:List (Int × Int)} {W Q:List Int} (h:Rnd R W Q):(W ++ Q).length ≤ R.length + 1:=by
  have:=List.Nodup.length_le_of_subset (l₂:=0 :: R.map (·.2)) h.nd fun x hx=>by
    rcases h.up x hx with e | ⟨i,hi,_⟩
    · rw [e]; simp
    · exact List.mem_cons_of_mem _ (List.mem_map.mpr ⟨_,hi,rfl⟩)
  rwa [List.length_cons,List.length_map] at this
theorem zkN {T:D} {R:List (Int × Int)} {W Q:List Int} {p:Int} {o4 o5 o6:Option D} (hR:R.length ≤ 100) (hW:W.length ≤ 1000) (hQ:Q.length ≤ 1000) :
    ∃ (p4 p5 p6:Option D),zcz [.v T,.v (.lst (R.map encR)),.o (iL W),.o (iL (Q ++ [p])),sv o4,sv o5,sv o6] = .nx [.v T,.v (.lst (R.map encR)),.o (iL (W ++ [p])),.o (iL (Q ++ kids R.reverse p)),sv p4,sv p5,sv p6]:=by
  obtain ⟨A,eA⟩:∃ A,A=D.lst (R.map encR):=⟨_,rfl⟩
  rw [← eA]
  have q1:zlV 3 (zan 4) [.v T,.v A,.o (iL W),.o (iL (Q ++ [p])),sv o4,sv o5,sv o6] = .nx [.v T,.v A,.o (iL W),.o (iL Q),.v (.int p),sv o5,sv o6]:=by
    have g : [Sl.v T,.v A,.o (iL W),.o (iL (Q ++ [p])),sv o4,sv o5,sv o6][3]?=some (.o (.lst ((Q ++ [p]).map .int))):=rfl
    have gk:((Q ++ [p]).map D.int)[((Q ++ [p]).map D.int).length - 1]?=some (.int p):=by simp
    have dl:((Q ++ [p]).map D.int).dropLast=Q.map .int:=by rw [List.map_append]; simp
    unfold zlV
    rw [g]
    simp only [gk]
    rw [dl]
    rcases o4 with _ | o4 <;> rfl
  have q2:zbD 2 (mVar 4) [.v T,.v A,.o (iL W),.o (iL Q),.v (.int p),sv o5,sv o6] = .nx [.v T,.v A,.o (iL (W ++ [p])),.o (iL Q),.v (.int p),sv o5,sv o6] :=
    zes (L:=W) (y:=p) rfl rfl (by omega)
  obtain ⟨δ,h1,p5,p6,rfl⟩:=zaZ (b:=bTup 2 (zbH (zan 5) (zbH (zan 6) bNil))) (m:=zdN) encR (fun pre δ=>∃ p5 p6:Option D,δ = [.v T,.v A,.o (iL (W ++ [p])),.o (iL (Q ++ kids pre p)),.v (.int p),sv p5,sv p6]) R.reverse
    (by
      rintro pre x post δ hall ⟨p5,p6,rfl⟩
      have pl:pre.length ≤ 100:=by
        have:=congrArg List.length hall
        rw [List.length_reverse,List.length_append] at this
        omega
      have kl:(kids pre p).length ≤ 100:=by
        unfold kids
        rw [List.length_map]
        exact Nat.le_trans (List.length_filter_le _ _) pl
      have b1:bTup 2 (zbH (zan 5) (zbH (zan 6) bNil)) (encR x) [.v T,.v A,.o (iL (W ++ [p])),.o (iL (Q ++ kids pre p)),.v (.int p),sv p5,sv p6]=some [.v T,.v A,.o (iL (W ++ [p])),.o (iL (Q ++ kids pre p)),.v (.int p),.v (.int x.1),.v (.int x.2)]:=by rcases p5 with _ | p5 <;> rcases p6 with _ | p6 <;> rfl
      refine ⟨_,_,b1,.inl (?_:_=O.nx [.v T,.v A,.o (iL (W ++ [p])),.o (iL (Q ++ kids (pre ++ [x]) p)),.v (.int p),.v (.int x.1),.v (.int x.2)]),some (.int x.1),some (.int x.2),rfl⟩
      have tt:zap (m2 oEq (mRd 5) (mRd 4)) [.v T,.v A,.o (iL (W ++ [p])),.o (iL (Q ++ kids pre p)),.v (.int p),.v (.int x.1),.v (.int x.2)] = .ok (decide (x.1=p)):=by simp [zap,mRd]
      have ek:kids (pre ++ [x]) p=if x.1=p then kids pre p ++ [x.2] else kids pre p:=by
        unfold kids
        rw [List.filter_append]
        by_cases e:x.1=p <;> simp [e]
      rw [ek]
      by_cases e:x.1=p
      · rw [decide_eq_true e] at tt
        rw [if_pos e,← List.append_assoc]
        exact (zbC tt).trans (zes (L:=Q ++ kids pre p) (y:=x.2) rfl rfl (by rw [List.length_append]; omega))
      · rw [decide_eq_false e] at tt
        rw [if_neg e]
        exact (za7 tt).trans rfl)
    [.v T,.v A,.o (iL (W ++ [p])),.o (iL Q),.v (.int p),sv o5,sv o6] ⟨o5,o6,by simp [kids]⟩
  refine ⟨some (.int p),p5,p6,(zaj q1).trans ((zaj q2).trans ?_)⟩
  unfold zeo
  refine (zbB (l:=R.reverse.map encR) ?_).trans h1
  rw [eA]
  simp [mRev,zaa,mNil,mVar,rev1]
theorem zmm {T:D} {R:List (Int × Int)} (hR:R.length ≤ 100) (h0:0 ∉ R.map (·.2)) (hn:(R.map (·.2)).Nodup):∀ (j:Nat) (W Q:List Int) (o4 o5 o6:Option D),W.length + j=R.length + 1→Rnd R W Q →
    ∃ (W':List Int) (p4 p5 p6:Option D),Rnd R W' []∧zcO za9 zcz (j + 1) [.v T,.v (.lst (R.map encR)),.o (iL W),.o (iL Q),sv o4,sv o5,sv o6] = .nx [.v T,.v (.lst (R.map encR)),.o (iL W'),.o (iL []),sv p4,sv p5,sv p6]:=by
  intro j
  have done:∀ (W:List Int) (o4 o5 o6:Option D),za9 [.v T,.v (.lst (R.map encR)),.o (iL W),.o (iL []),sv o4,sv o5,sv o6] = .ok false:=fun W o4 o5 o6=>by
    simp only [za9,zap,ze7,mCB,zaa,mNil,mRd,mC,List.getElem?_cons_succ,List.getElem?_cons_zero,PM.R.bind_ok,zeX,PM.R.of_some]; rfl
  induction j with
  | zero =>
    intro W Q o4 o5 o6 hl hr
    have:=hr.len
    rw [List.length_append] at this
    obtain rfl:Q = []:=List.length_eq_zero_iff.mp (by omega)
    refine ⟨W,o4,o5,o6,hr,?_⟩
    unfold zcO
    rw [done]; rfl
  | succ j ih =>
    intro W Q o4 o5 o6 hl hr
    rcases List.eq_nil_or_concat Q with rfl | ⟨Q',p,eQ⟩
    · refine ⟨W,o4,o5,o6,hr,?_⟩
      unfold zcO
      rw [done]; rfl
    · rw [List.concat_eq_append] at eQ
      subst eQ
      have ln:=hr.len
      rw [List.length_append,List.length_append,List.length_singleton] at ln
      have t:za9 [.v T,.v (.lst (R.map encR)),.o (iL W),.o (iL (Q' ++ [p])),sv o4,sv o5,sv o6] = .ok true:=by
        simp only [za9,zap,ze7,mCB,zaa,mNil,mRd,mC,List.getElem?_cons_succ,List.getElem?_cons_zero,PM.R.bind_ok,zeX,PM.R.of_some,zop,zpe,List.length_append,List.length_singleton]
        exact congrArg PM.R.ok (decide_eq_true (by omega))
      obtain ⟨p4,p5,p6,hb⟩:=zkN (T:=T) (R:=R) (W:=W) (Q:=Q') (p:=p) (o4:=o4) (o5:=o5) (o6:=o6) hR (by omega) (by omega)
      unfold zcO
      rw [t,PM.R.toO_ok,if_pos rfl,hb]
      exact ih _ _ p4 p5 p6 (by rw [List.length_append,List.length_singleton]; omega) (hr.step h0 hn)
theorem zf3 {n:Nat} {B:Int} {d:Int→Int→Int} (ok:LenOk n B d) (hn0:0 < n) (hn:n ≤ 100):∃ W:List Int,zbA [tabD (tabF n d)] = .ok (iL W):=by
  obtain ⟨T,eT⟩:∃ T,T=tabD (tabF n d):=⟨_,rfl⟩
  have lt:=zcK ok hn0 hn
  rw [← eT] at lt
  obtain ⟨R,eR⟩:∃ R,R=stR n d (n - 1):=⟨_,rfl⟩
  rw [← eR] at lt
  have lR:R.length=n - 1:=by rw [eR]; exact zhl n d _
  have nd:=zn5 (d:=d) (n - 1) (show n - 1 < n by omega)
  rw [zg1,← eR,List.nodup_cons] at nd
  obtain ⟨W',p4,p5,p6,_,hr⟩:=zmm (T:=T) (R:=R) (by omega) nd.1 nd.2 n [] [0] none none none (by simp; omega) ⟨by simp,fun x hx=>.inl (by simpa using hx)⟩
  have hw:zep [.v T,.v (.lst (R.map encR)),.o (iL []),.o (iL [0]),.no,.no,.no]=_:=zgf hr (by intro z; cases z)
  refine ⟨W',zda ?_⟩
  rw [← eT]
  show mSeq _ _ [.v T,.no,.no,.no,.no,.no,.no]=_
  have q1:mAsg (zaV zaD (zaa (mVar 0) mNil)) (zan 1) [.v T,.no,.no,.no,.no,.no,.no] = .nx [.v T,.v (.lst (R.map encR)),.no,.no,.no,.no,.no]:=zaz (d:=.lst (R.map encR)) (by simp [zaV,zaa,mNil,mVar,lt]) rfl
  have q2:mAsg (mLst mNil) (bNew 2) [.v T,.v (.lst (R.map encR)),.no,.no,.no,.no,.no] = .nx [.v T,.v (.lst (R.map encR)),.o (iL []),.no,.no,.no,.no]:=zaz (d:=.lst []) (by simp [mLst,mNil,sizeLine]) rfl
  have q3:mAsg (mLst (zaa (mC (.int 0)) mNil)) (bNew 3) [.v T,.v (.lst (R.map encR)),.o (iL []),.no,.no,.no,.no] = .nx [.v T,.v (.lst (R.map encR)),.o (iL []),.o (iL [0]),.no,.no,.no]:=zaz (d:=iL [0]) (by simp [mLst,zaa,mNil,mC,sizeLine,iL]) rfl
  exact (zaj q1).trans ((zaj q2).trans ((zaj q3).trans ((zaj hw).trans rfl)))
end My
namespace My
open PySem L2 PM
theorem zmu (l:List Int):(srt l).length=l.length:=List.length_mergeSort l
theorem srt_mem {l:List Int} {x:Int}:x ∈ srt l ↔ x ∈ l:=List.mem_mergeSort
theorem ziJ (L:D) (ns:List Int):(zeV L ns).length ≤ ns.length / 2:=ziP _ _ _
theorem zdS {n:Nat} {B:Int} {d:Int→Int→Int} (ok:LenOk n B d) (hn:n ≤ 100) {ns:List Int} (h:∀ q ∈ ns,0 ≤ q∧q < (n:Int)) (he:ns.length % 2=0) (hl:ns.length ≤ 12) :
    zaB [tabD (tabF n d),iL ns] = .ok (.lst ((zeV (tabD (tabF n d)) ns).map encR)):=by
  have look:=zew hn ok
  have tk:=zot (d:=d) h
  obtain ⟨T,eT⟩:∃ T,T=tabD (tabF n d):=⟨_,rfl⟩
  rw [← eT] at look tk ⊢
  refine zda ?_
  show mSeq _ _ [.v T,.v (iL ns)]=_
  have q0:mDo (zaV zaO (zaa (mVar 0) mNil)) [.v T,.v (iL ns)] = .nx [.v T,.v (iL ns)]:=by simp [mDo,zaV,zaa,mNil,mVar,look]
  refine (zaj q0).trans ?_
  have p:zh5 [.v T,.v (iL ns)] = .ok (.lst ((zeV T ns).map encR)):=by
    unfold zh5
    show (match asIs (ns.map D.int) with | some ns=>ifC (ns.length % 2=0∧ns.length ≤ 12∧zlm T (dOf T) ns) (PM.R.ok (D.lst ((zeV T ns).map zb9))) .no | none=>.no)=_
    rw [zc9]
    exact za8 ⟨he,hl,tk⟩
  unfold zbZ
  rw [p]; rfl
theorem znk {R:List (Int × Int)} {x:Int} (h:x ∈ ends R):∃ p ∈ R,x=p.1∨x=p.2:=by
  unfold ends at h
  obtain ⟨p,hp,hx⟩:=List.mem_flatMap.mp h
  exact ⟨p,hp,by simpa using hx⟩
theorem zeC {n:Nat} {B:Int} {d:Int→Int→Int} (ok:LenOk n B d) (hn0:0 < n) (hn:n ≤ 12):∃ W:List Int,W.length ≤ 101∧zbc [tabD (tabF n d)] = .ok (iL W):=by
  have lt:=zcK ok hn0 (by omega)
  have sm:=zlj (d:=d) hn0 (n - 1) (by omega)
  have sl:=zhl n d (n - 1)
  obtain ⟨R,eR⟩:∃ R,R=stR n d (n - 1):=⟨_,rfl⟩
  rw [← eR] at lt sm sl
  have oe:=ziO (R:=R) (by omega)
  have om:∀ q ∈ srt (oddL R),0 ≤ q∧q < (n:Int):=fun q hq=>by
    obtain ⟨p,hp,hx⟩:=znk (znr (srt_mem.mp hq))
    rcases hx with rfl | rfl
    · exact (sm p hp).1
    · exact (sm p hp).2
  have ol:(srt (oddL R)).length ≤ 12:=by
    rw [zmu]
    have:=List.Nodup.length_le_of_subset (l₂:=upt n) (zkl R) fun q hq=>mem_upt.mpr (om q (srt_mem.mpr hq))
    rw [zaU] at this
    omega
  have lp:=zdS ok (by omega) om (by rw [zmu]; exact zle R) ol
  obtain ⟨P,eP⟩:∃ P,P=zeV (tabD (tabF n d)) (srt (oddL R)):=⟨_,rfl⟩
  have pl:P.length ≤ 6:=by
    rw [eP]
    have:=ziJ (tabD (tabF n d)) (srt (oddL R))
    omega
  rw [← eP] at lp
  obtain ⟨T,eT⟩:∃ T,T=tabD (tabF n d):=⟨_,rfl⟩
  rw [← eT] at lp lt ⊢
  obtain ⟨W,wl,hw⟩:=zhB (S:=R ++ P) (by rw [List.length_append]; omega)
  refine ⟨W,wl,zda ?_⟩
  show mSeq _ _ [.v T,.no]=_
  have q1:mAsg (zaV zaD (zaa (mVar 0) mNil)) (zan 1) [.v T,.no] = .nx [.v T,.v (.lst (R.map encR))]:=zaz (d:=.lst (R.map encR)) (by simp [zaV,zaa,mNil,mVar,lt]) rfl
  refine (zaj q1).trans ?_
  have ct:oCat (.lst (R.map encR)) (.lst (P.map encR))=some (.lst ((R ++ P).map encR)):=by
    unfold oCat
    simp only
    rw [za8 (by rw [List.length_map,List.length_map]; exact Nat.le_trans (show R.length + P.length ≤ 100 by omega) (by decide)),List.map_append]
  have e1:zau zbJ (zaa (mVar 1) mNil) [.v T,.v (.lst (R.map encR))] = .ok (iL (srt (oddL R))):=by simp [zau,zaa,mNil,mVar,oe]
  have e2:zaV zaB (zaa (mVar 0) (zaa (zau zbJ (zaa (mVar 1) mNil)) mNil)) [.v T,.v (.lst (R.map encR))] = .ok (.lst (P.map encR)):=by
    simp only [zaV,zaa,e1,mNil,mVar,List.getElem?_cons_zero,PM.R.bind_ok,lp]
  have e3:m2 oCat (mRd 1) (zaV zaB (zaa (mVar 0) (zaa (zau zbJ (zaa (mVar 1) mNil)) mNil))) [.v T,.v (.lst (R.map encR))] = .ok (.lst ((R ++ P).map encR)):=by
    simp only [ze7,e2,mRd,List.getElem?_cons_succ,List.getElem?_cons_zero,PM.R.bind_ok,ct,PM.R.of_some]
  have e4:zau zbT (zaa (m2 oCat (mRd 1) (zaV zaB (zaa (mVar 0) (zaa (zau zbJ (zaa (mVar 1) mNil)) mNil)))) mNil) [.v T,.v (.lst (R.map encR))] = .ok (iL W):=by
    simp only [zau,zaa,e3,mNil,PM.R.bind_ok,hw,PM.R.nev_ok]
  unfold zbZ
  rw [e4]; rfl
theorem znn (E:List Int) (x:Int):putD ((zaC E).map .inl) ((zaC E).map fun _=>.bl true) (.inl x) (.bl true) = .dct ((zaC (E ++ [x])).map .inl) ((zaC (E ++ [x])).map fun _=>.bl true):=by
  have ok:=zc0 E
  unfold putD
  rw [any_map,zg6]
  by_cases h:x ∈ zaC E
  · rw [if_pos (by simpa using h),zjp _ _ _ _ ok.1]
    simp only [insO,if_pos h]
    congr 1
    exact List.map_congr_left fun k _=>by split <;> rfl
  · rw [if_neg (by simpa using h)]
    simp only [insO,if_neg h,List.map_append,List.map_cons,List.map_nil]
theorem zgp {n:Nat} {B:Int} {d:Int→Int→Int} (ok:LenOk n B d) (hn0:0 < n) (hn:n ≤ 12):∃ W:List Int,zbz [tabD (tabF n d)] = .ok (iL W):=by
  obtain ⟨W,wl,cw⟩:=zeC ok hn0 hn
  obtain ⟨T,eT⟩:∃ T,T=tabD (tabF n d):=⟨_,rfl⟩
  rw [← eT] at cw ⊢
  obtain ⟨δ,h1,p2,rfl⟩:=zaZ (b:=zan 2) (m:=zcA) D.int (fun pre δ=>∃ p2:Option D,δ = [.v T,.o (.dct ((zaC pre).map .inl) ((zaC pre).map fun _=>.bl true)),sv p2]) W
    (by
      rintro pre x post δ hall ⟨p2,rfl⟩
      refine ⟨[.v T,.o (.dct ((zaC pre).map .inl) ((zaC pre).map fun _=>.bl true)),.v (.int x)],[.v T,.o (.dct ((zaC (pre ++ [x])).map .inl) ((zaC (pre ++ [x])).map fun _=>.bl true)),.v (.int x)],zaw rfl,.inl ?_,some _,rfl⟩
      have pl:(zaC pre).length ≤ 101:=by
        have a:=congrArg List.length hall
        rw [List.length_append] at a
        have:=zfv pre
        omega
      rw [← znn]
      unfold zcA zi0
      show (ifC (((zaC pre).map (.inl:Int→Key)).length < sizeLine) (O.nx _) O.no)=_
      rw [za8 (by rw [List.length_map]; exact Nat.lt_of_lt_of_le (show (zaC pre).length < 200 by omega) (by decide))]
      rfl)
    [.v T,.o (.dct [] []),.no] ⟨none,rfl⟩
  refine ⟨zaC W,zda ?_⟩
  show mSeq _ _ [.v T,.no,.no]=_
  have q1:mAsg (mC (.dct [] [])) (bNew 1) [.v T,.no,.no] = .nx [.v T,.o (.dct [] []),.no]:=rfl
  have q2:zbW [.v T,.o (.dct [] []),.no]=_:=(zbB (l:=W.map .int) (by simp [mItL,zaV,zaa,mNil,mVar,cw])).trans h1
  refine (zaj q1).trans ((zaj q2).trans ?_)
  have:((zaC W).map (.inl:Int→Key)).map kD=(zaC W).map .int:=by rw [List.map_map]; rfl
  show O.ro (.lst (((zaC W).map (.inl:Int→Key)).map kD))=_
  rw [this]; rfl
theorem zpW {n:Nat} {B:Int} {d:Int→Int→Int} (ok:LenOk n B d) (hn0:0 < n) (hn:n ≤ 12) {k:Int}:zaY [tabD (tabF n d),.int k] = .ok .non:=by
  have a0:=zew (show n ≤ 100 by omega) ok
  have a1:=zcK ok hn0 (by omega)
  obtain ⟨W2,a2⟩:=zf3 ok hn0 (by omega)
  have a3:=zdS ok (show n ≤ 100 by omega) (ns:=[]) (fun q hq=>by cases hq) rfl (by simp)
  obtain ⟨W4,_,a4⟩:=zeC ok hn0 hn
  obtain ⟨W5,a5⟩:=zgp ok hn0 hn
  obtain ⟨T,eT⟩:∃ T,T=tabD (tabF n d):=⟨_,rfl⟩
  rw [← eT] at a0 a1 a2 a3 a4 a5 ⊢
  have a3':zaB [T,.lst []]=_:=a3
  have fin:zct [.v T,.v (.int k)] = .nx [.v T,.v (.int k)]:=by
    unfold zct
    by_cases c0:k=0
    · rw [zbC (by simp [zap,mRd,mC,c0])]
      simp [mDo,zaV,zaa,mNil,mVar,a0]
    rw [za7 (by simp [zap,mRd,mC,c0])]
    by_cases c1:k=1
    · rw [zbC (by simp [zap,mRd,mC,c1])]
      simp [mDo,zaV,zaa,mNil,mVar,a1]
    rw [za7 (by simp [zap,mRd,mC,c1])]
    by_cases c2:k=2
    · rw [zbC (by simp [zap,mRd,mC,c2])]
      simp [mDo,zaV,zaa,mNil,mVar,a2]
    rw [za7 (by simp [zap,mRd,mC,c2])]
    by_cases c3:k=3
    · rw [zbC (by simp [zap,mRd,mC,c3])]
      simp [mDo,zaV,zaa,mNil,mVar,mLst,sizeLine,a3']
    rw [za7 (by simp [zap,mRd,mC,c3])]
    by_cases c4:k=4
    · rw [zbC (by simp [zap,mRd,mC,c4])]
      simp [mDo,zaV,zaa,mNil,mVar,a4]
    rw [za7 (by simp [zap,mRd,mC,c4])]
    simp [mDo,zaV,zaa,mNil,mVar,a5]
  unfold zaY runF
  rw [if_pos (show [T,D.int k].length=2 from rfl)]
  show (match zct [.v T,.v (.int k)] with | .rt d=>PM.R.ok d | .nx _=>PM.R.ok .non | .ex _ x=>PM.R.ex x | _=>PM.R.no)=_
  rw [fin]
end My
namespace My
open PySem L2 PM
theorem zl1 {np nv:Nat} {m:En→O} {ds:List D} {δ:En} {x:Xc} (h:m (zb2 nv ds) = .ex δ x) (hl:ds.length=np:=by rfl):runF np nv m ds = .ex x:=by unfold runF; rw [if_pos hl,h]
theorem zgn {np nv:Nat} {m:En→O} {ds:List D} {δ:En} {x:Xc} (h:m (zb2 nv ds) = .ex δ x) (hl:ds.length=np:=by rfl):runO np nv m ds = .ex x:=by unfold runO; rw [if_pos hl,h]
def Ex1 (o:O):Prop:=∃ δ,o = .ex δ ⟨2⟩
def Or3 (o:O) (P:En→Prop):Prop:=(∃ δ,o = .nx δ∧P δ)∨Ex1 o
theorem zeN {b:D→En→Option En} {m:En→O} {P:En→Prop}:∀ (l:List Int) (_:∀ x ∈ l,∀ δ,P δ→∃ δ1,b (.int x) δ=some δ1∧Or3 (m δ1) P) (δ:En) (_:P δ),Or3 (zb3 b m (l.map .int) δ) P
  | [],_,δ,h=>.inl ⟨δ,rfl,h⟩
  | x :: l,st,δ,h=>by
    obtain ⟨δ1,h1,h2⟩:=st x (by simp) δ h
    rw [List.map_cons]
    unfold zb3
    rw [h1]
    rcases h2 with ⟨δ2,e,p⟩ | ⟨δ2,e⟩
    · simp only [e]
      exact zeN l (fun y hy=>st y (List.mem_cons_of_mem _ hy)) δ2 p
    · simp only [e]
      exact .inr ⟨δ2,rfl⟩
theorem zeK {b:D→En→Option En} {m:En→O} {P:En→Prop}:∀ (l:List Int) (_:∀ x ∈ l,∀ δ,P δ→∃ δ1,b (.int x) δ=some δ1∧Or3 (m δ1) P) (y:Int) (_:y ∈ l) (_:∀ δ,P δ→∃ δ1,b (.int y) δ=some δ1∧Ex1 (m δ1)) (δ:En) (_:P δ),Ex1 (zb3 b m (l.map .int) δ)
  | [],_,_,hy,_,_,_=>(by cases hy)
  | x :: l,st,y,hy,bad,δ,h=>by
    rw [List.map_cons]
    unfold zb3
    by_cases e:x=y
    · subst e
      obtain ⟨δ1,h1,δ2,h2⟩:=bad δ h
      rw [h1]
      simp only [h2]
      exact ⟨δ2,rfl⟩
    · obtain ⟨δ1,h1,h2⟩:=st x (by simp) δ h
      rw [h1]
      rcases h2 with ⟨δ2,e2,p⟩ | ⟨δ2,e2⟩
      · simp only [e2]
        exact zeK l (fun y hy=>st y (List.mem_cons_of_mem _ hy)) y ((List.mem_cons.mp hy).elim (fun z=>absurd z.symm e) id) bad δ2 p
      · simp only [e2]
        exact ⟨δ2,rfl⟩
def PL (T:D) (n:Nat) (δ:En):Prop:=∃ o2 o3 o4:Option D,δ = [.v T,.v (.int n),sv o2,sv o3,sv o4]
theorem zlS {t:String} {δ:En}:zg2 2 (zaa (mC (.str t)) mNil) δ = .ex δ ⟨2⟩:=by
  simp [zg2,zaa,mNil,mC,za8 (show 1 ≤ sizeLine by decide)]
theorem zj7 {n:Nat} {d:Int→Int→Int} (hn:n ≤ 100)
    (h:(∃ a:Int,(0 ≤ a∧a < n)∧d a a ≠ 0)∨(∃ a b:Int,(0 ≤ b∧b < a∧a < n)∧d a b ≠ d b a)∨(∃ a b c:Int,(0 ≤ a∧a < n)∧(0 ≤ b∧b < n)∧(0 ≤ c∧c < n)∧d a b + d b c < d a c)) :
    zaO [tabD (tabF n d)] = .ex ⟨2⟩:=by
  obtain ⟨T,eT⟩:∃ T,T=tabD (tabF n d):=⟨_,rfl⟩
  have tix:∀ a:Int,0 ≤ a→a < n→oIxL T (.int a)=some (iL ((upt n).map (d a))):=fun a h0 h1=>by rw [eT]; exact zdG h0 h1
  have rn:=rngT (show n ≤ 1000 by omega)
  -- the bodies
  have b1:∀ (a:Int) (o3 o4:Option D),0 ≤ a→a < n→(d a a=0→zbt [.v T,.v (.int n),.v (.int a),sv o3,sv o4] = .nx [.v T,.v (.int n),.v (.int a),sv o3,sv o4])∧(d a a ≠ 0→Ex1 (zbt [.v T,.v (.int n),.v (.int a),sv o3,sv o4])):=fun a o3 o4 a0 a1=>by
    have r:=zbn (n:=n) (f:=d a) a0 a1
    refine ⟨fun e=>?_,fun e=>?_⟩
    · unfold zbt
      rw [za7 (by simp [zap,mRd,mC,tix a a0 a1,r,e])]; rfl
    · unfold zbt
      rw [zbC (by simp [zap,mRd,mC,tix a a0 a1,r,e]),zlS]
      exact ⟨_,rfl⟩
  have b2:∀ (a b:Int) (o4:Option D),0 ≤ a→a < n→0 ≤ b→b < n→(d a b=d b a→zbo [.v T,.v (.int n),.v (.int a),.v (.int b),sv o4] = .nx [.v T,.v (.int n),.v (.int a),.v (.int b),sv o4])∧(d a b ≠ d b a→Ex1 (zbo [.v T,.v (.int n),.v (.int a),.v (.int b),sv o4])):=fun a b o4 a0 a1 b0 b1=>by
    have r1:=zbn (n:=n) (f:=d a) b0 b1
    have r2:=zbn (n:=n) (f:=d b) a0 a1
    refine ⟨fun e=>?_,fun e=>?_⟩
    · unfold zbo
      rw [za7 (by simp [zap,mRd,mC,tix a a0 a1,tix b b0 b1,r1,r2,e])]; rfl
    · unfold zbo
      rw [zbC (by simp [zap,mRd,mC,tix a a0 a1,tix b b0 b1,r1,r2,e]),zlS]
      exact ⟨_,rfl⟩
  have b4:∀ (a b c:Int),0 ≤ a→a < n→0 ≤ b→b < n→0 ≤ c→c < n→(¬ d a b + d b c < d a c→zbq [.v T,.v (.int n),.v (.int a),.v (.int b),.v (.int c)] = .nx [.v T,.v (.int n),.v (.int a),.v (.int b),.v (.int c)])∧(d a b + d b c < d a c→Ex1 (zbq [.v T,.v (.int n),.v (.int a),.v (.int b),.v (.int c)])):=fun a b c a0 a1 b0 b1 c0 c1=>by
    have r1:=zbn (n:=n) (f:=d a) b0 b1
    have r2:=zbn (n:=n) (f:=d b) c0 c1
    have r5:=zbn (n:=n) (f:=d a) c0 c1
    refine ⟨fun e=>?_,fun e=>?_⟩
    · unfold zbq
      rw [za7 (by simp [zap,mRd,mC,tix a a0 a1,tix b b0 b1,r1,r2,r5,e])]; rfl
    · unfold zbq
      rw [zbC (by simp [zap,mRd,mC,tix a a0 a1,tix b b0 b1,r1,r2,r5,e]),zlS]
      exact ⟨_,rfl⟩
  -- the turns
  have s1:∀ x ∈ upt n,∀ δ,PL T n δ→∃ δ1,zan 2 (.int x) δ=some δ1∧Or3 (zbt δ1) (PL T n):=by
    rintro x hx δ ⟨o2,o3,o4,rfl⟩
    obtain ⟨x0,x1⟩:=mem_upt.mp hx
    refine ⟨[.v T,.v (.int n),.v (.int x),sv o3,sv o4],zaw rfl,?_⟩
    by_cases e:d x x=0
    · exact .inl ⟨_,(b1 x o3 o4 x0 x1).1 e,some _,o3,o4,rfl⟩
    · exact .inr ((b1 x o3 o4 x0 x1).2 e)
  have s2:∀ a:Int,0 ≤ a→a < n→∀ x ∈ upt a.toNat,∀ δ,(∃ o3 o4:Option D,δ = [.v T,.v (.int n),.v (.int a),sv o3,sv o4])→∃ δ1,zan 3 (.int x) δ=some δ1∧Or3 (zbo δ1) (fun δ=>∃ o3 o4:Option D,δ = [.v T,.v (.int n),.v (.int a),sv o3,sv o4]):=by
    rintro a a0 a1 x hx δ ⟨o3,o4,rfl⟩
    obtain ⟨x0,x1⟩:=mem_upt.mp hx
    refine ⟨[.v T,.v (.int n),.v (.int a),.v (.int x),sv o4],zaw rfl,?_⟩
    by_cases e:d a x=d x a
    · exact .inl ⟨_,(b2 a x o4 a0 a1 x0 (by omega)).1 e,some _,o4,rfl⟩
    · exact .inr ((b2 a x o4 a0 a1 x0 (by omega)).2 e)
  have f2:∀ (a:Int) (o3 o4:Option D),0 ≤ a→a < n→zcS [.v T,.v (.int n),.v (.int a),sv o3,sv o4]=zb3 (zan 3) zbo ((upt a.toNat).map .int) [.v T,.v (.int n),.v (.int a),sv o3,sv o4]:=fun a o3 o4 a0 a1=>by
    have ra:=rngT (show a.toNat ≤ 1000 by omega)
    rw [show ((a.toNat:Nat):Int)=a by omega] at ra
    exact zbO (n:=a.toNat) (by simp [mRng,zaa,mNil,mVar,ra])
  have s3:∀ x ∈ upt n,∀ δ,PL T n δ→∃ δ1,zan 2 (.int x) δ=some δ1∧Or3 (zcS δ1) (PL T n):=by
    rintro x hx δ ⟨o2,o3,o4,rfl⟩
    obtain ⟨x0,x1⟩:=mem_upt.mp hx
    refine ⟨[.v T,.v (.int n),.v (.int x),sv o3,sv o4],zaw rfl,?_⟩
    rw [f2 x o3 o4 x0 x1]
    rcases zeN _ (s2 x x0 x1) [.v T,.v (.int n),.v (.int x),sv o3,sv o4] ⟨o3,o4,rfl⟩ with ⟨δ2,e,p3,p4,rfl⟩ | e
    · exact .inl ⟨_,e,some _,p3,p4,rfl⟩
    · exact .inr e
  have s4:∀ a b:Int,0 ≤ a→a < n→0 ≤ b→b < n→∀ x ∈ upt n,∀ δ,(∃ o4:Option D,δ = [.v T,.v (.int n),.v (.int a),.v (.int b),sv o4])→∃ δ1,zan 4 (.int x) δ=some δ1∧Or3 (zbq δ1) (fun δ=>∃ o4:Option D,δ = [.v T,.v (.int n),.v (.int a),.v (.int b),sv o4]):=by
    rintro a b a0 a1 b0 b1 x hx δ ⟨o4,rfl⟩
    obtain ⟨x0,x1⟩:=mem_upt.mp hx
    refine ⟨[.v T,.v (.int n),.v (.int a),.v (.int b),.v (.int x)],zaw rfl,?_⟩
    by_cases e:d a b + d b x < d a x
    · exact .inr ((b4 a b x a0 a1 b0 b1 x0 x1).2 e)
    · exact .inl ⟨_,(b4 a b x a0 a1 b0 b1 x0 x1).1 e,some _,rfl⟩
  have f4:∀ (a b:Int) (o4:Option D),zcW [.v T,.v (.int n),.v (.int a),.v (.int b),sv o4]=zb3 (zan 4) zbq ((upt n).map .int) [.v T,.v (.int n),.v (.int a),.v (.int b),sv o4]:=fun a b o4=>zbO (by simp [mRng,zaa,mNil,mVar,rn])
  have s5:∀ a:Int,0 ≤ a→a < n→∀ x ∈ upt n,∀ δ,(∃ o3 o4:Option D,δ = [.v T,.v (.int n),.v (.int a),sv o3,sv o4])→∃ δ1,zan 3 (.int x) δ=some δ1∧Or3 (zcW δ1) (fun δ=>∃ o3 o4:Option D,δ = [.v T,.v (.int n),.v (.int a),sv o3,sv o4]):=by
    rintro a a0 a1 x hx δ ⟨o3,o4,rfl⟩
    obtain ⟨x0,x1⟩:=mem_upt.mp hx
    refine ⟨[.v T,.v (.int n),.v (.int a),.v (.int x),sv o4],zaw rfl,?_⟩
    rw [f4 a x o4]
    rcases zeN _ (s4 a x a0 a1 x0 x1) [.v T,.v (.int n),.v (.int a),.v (.int x),sv o4] ⟨o4,rfl⟩ with ⟨δ2,e,p4,rfl⟩ | e
    · exact .inl ⟨_,e,some _,p4,rfl⟩
    · exact .inr e
  have f5:∀ (a:Int) (o3 o4:Option D),zcX [.v T,.v (.int n),.v (.int a),sv o3,sv o4]=zb3 (zan 3) zcW ((upt n).map .int) [.v T,.v (.int n),.v (.int a),sv o3,sv o4]:=fun a o3 o4=>zbO (by simp [mRng,zaa,mNil,mVar,rn])
  have s6:∀ x ∈ upt n,∀ δ,PL T n δ→∃ δ1,zan 2 (.int x) δ=some δ1∧Or3 (zcX δ1) (PL T n):=by
    rintro x hx δ ⟨o2,o3,o4,rfl⟩
    obtain ⟨x0,x1⟩:=mem_upt.mp hx
    refine ⟨[.v T,.v (.int n),.v (.int x),sv o3,sv o4],zaw rfl,?_⟩
    rw [f5 x o3 o4]
    rcases zeN _ (s5 x x0 x1) [.v T,.v (.int n),.v (.int x),sv o3,sv o4] ⟨o3,o4,rfl⟩ with ⟨δ2,e,p3,p4,rfl⟩ | e
    · exact .inl ⟨_,e,some _,p3,p4,rfl⟩
    · exact .inr e
  have g1:∀ δ,PL T n δ→zeu δ=zb3 (zan 2) zbt ((upt n).map .int) δ:=by rintro δ ⟨o2,o3,o4,rfl⟩; exact zbO (by simp [mRng,zaa,mNil,mVar,rn])
  have g3:∀ δ,PL T n δ→zet δ=zb3 (zan 2) zcS ((upt n).map .int) δ:=by rintro δ ⟨o2,o3,o4,rfl⟩; exact zbO (by simp [mRng,zaa,mNil,mVar,rn])
  have g6:∀ δ,PL T n δ→zev δ=zb3 (zan 2) zcX ((upt n).map .int) δ:=by rintro δ ⟨o2,o3,o4,rfl⟩; exact zbO (by simp [mRng,zaa,mNil,mVar,rn])
  have lT:fLen [T]=some (.int n):=by rw [eT]; exact zfq
  have st:mAsg (mCB fLen (zaa (mRd 0) mNil)) (zan 1) [.v T,.no,.no,.no,.no] = .nx [.v T,.v (.int n),sv none,sv none,sv none]:=zaz (d:=.int n) (by simp [mCB,zaa,mNil,mRd,lT]) rfl
  have seq:∀ (m m':En→O) (δ:En),Or3 (m δ) (PL T n)→(∀ δ',PL T n δ'→Ex1 (m' δ'))→Ex1 (mSeq m m' δ):=fun m m' δ a k=>by
    rcases a with ⟨δ1,e,p⟩ | ⟨δ1,e⟩
    · rw [zaj e]; exact k δ1 p
    · exact ⟨δ1,by unfold mSeq; rw [e]⟩
  have seqE:∀ (m m':En→O) (δ:En),Ex1 (m δ)→Ex1 (mSeq m m' δ):=fun m m' δ ⟨δ1,e⟩=>⟨δ1,by unfold mSeq; rw [e]⟩
  have pl:PL T n [.v T,.v (.int n),sv none,sv none,sv none]:=⟨none,none,none,rfl⟩
  have fin:Ex1 (mSeq zeu (mSeq zet zev) [.v T,.v (.int n),sv none,sv none,sv none]):=by
    rcases h with ⟨a,⟨a0,a1⟩,e⟩ | ⟨a,b,⟨b0,ba,a1⟩,e⟩ | ⟨a,b,c,⟨a0,a1⟩,⟨b0,b1⟩,⟨c0,c1⟩,e⟩
    · refine seqE _ _ _ ?_
      rw [g1 _ pl]
      refine zeK _ s1 a (mem_upt.mpr ⟨a0,a1⟩) ?_ _ pl
      rintro δ ⟨o2,o3,o4,rfl⟩
      exact ⟨[.v T,.v (.int n),.v (.int a),sv o3,sv o4],zaw rfl,(b1 a o3 o4 a0 a1).2 e⟩
    · refine seq _ _ _ (by rw [g1 _ pl]; exact zeN _ s1 _ pl) fun δ p=>seqE _ _ _ ?_
      rw [g3 _ p]
      refine zeK _ s3 a (mem_upt.mpr ⟨by omega,a1⟩) ?_ _ p
      rintro δ ⟨o2,o3,o4,rfl⟩
      refine ⟨[.v T,.v (.int n),.v (.int a),sv o3,sv o4],zaw rfl,?_⟩
      rw [f2 a o3 o4 (by omega) a1]
      refine zeK _ (s2 a (by omega) a1) b (mem_upt.mpr ⟨b0,by omega⟩) ?_ _ ⟨o3,o4,rfl⟩
      rintro δ ⟨p3,p4,rfl⟩
      exact ⟨[.v T,.v (.int n),.v (.int a),.v (.int b),sv p4],zaw rfl,(b2 a b p4 (by omega) a1 b0 (by omega)).2 e⟩
    · refine seq _ _ _ (by rw [g1 _ pl]; exact zeN _ s1 _ pl) fun δ p=>seq _ _ _ (by rw [g3 _ p]; exact zeN _ s3 _ p) fun δ p=>?_
      rw [g6 _ p]
      refine zeK _ s6 a (mem_upt.mpr ⟨a0,a1⟩) ?_ _ p
      rintro δ ⟨o2,o3,o4,rfl⟩
      refine ⟨[.v T,.v (.int n),.v (.int a),sv o3,sv o4],zaw rfl,?_⟩
      rw [f5 a o3 o4]
      refine zeK _ (s5 a a0 a1) b (mem_upt.mpr ⟨b0,b1⟩) ?_ _ ⟨o3,o4,rfl⟩
      rintro δ ⟨p3,p4,rfl⟩
      refine ⟨[.v T,.v (.int n),.v (.int a),.v (.int b),sv p4],zaw rfl,?_⟩
      rw [f4 a b p4]
      refine zeK _ (s4 a b a0 a1 b0 b1) c (mem_upt.mpr ⟨c0,c1⟩) ?_ _ ⟨p4,rfl⟩
      rintro δ ⟨q4,rfl⟩
      exact ⟨[.v T,.v (.int n),.v (.int a),.v (.int b),.v (.int c)],zaw rfl,(b4 a b c a0 a1 b0 b1 c0 c1).2 e⟩
  obtain ⟨δ,ee⟩:=fin
  have all:zfW [.v T,.no,.no,.no,.no] = .ex δ ⟨2⟩:=(zaj st).trans ee
  rw [← eT]
  exact zl1 all
theorem znP {T:D} (h:zaO [T] = .ex ⟨2⟩) {k:Int}:zaY [T,.int k] = .ex ⟨2⟩:=by
  have a1:zaD [T] = .ex ⟨2⟩:=by
    have:zen (zb2 4 [T]) = .ex [.v T,.no,.no,.no,.no] ⟨2⟩:=by
      show mSeq _ _ [.v T,.no,.no,.no,.no]=_
      simp [mSeq,mDo,zaV,zaa,mNil,mVar,h,R.toO]
    exact zgn this
  have a2:zbA [T] = .ex ⟨2⟩:=by
    have:zdm (zb2 6 [T]) = .ex [.v T,.no,.no,.no,.no,.no,.no] ⟨2⟩:=by
      show mSeq _ _ [.v T,.no,.no,.no,.no,.no,.no]=_
      simp [mSeq,mAsg,zaV,zaa,mNil,mVar,a1,R.toO]
    exact zgn this
  have a3:zaB [T,.lst []] = .ex ⟨2⟩:=by
    have:zcT (zb2 0 [T,.lst []]) = .ex [.v T,.v (.lst [])] ⟨2⟩:=by
      show mSeq _ _ [.v T,.v (.lst [])]=_
      simp [mSeq,mDo,zaV,zaa,mNil,mVar,h,R.toO]
    exact zgn this
  have a4:zbc [T] = .ex ⟨2⟩:=by
    have:zdx (zb2 1 [T]) = .ex [.v T,.no] ⟨2⟩:=by
      show mSeq _ _ [.v T,.no]=_
      simp [mSeq,mAsg,zaV,zaa,mNil,mVar,a1,R.toO]
    exact zgn this
  have a5:zbz [T] = .ex ⟨2⟩:=by
    have q1:mAsg (mC (.dct [] [])) (bNew 1) [.v T,.no,.no] = .nx [.v T,.o (.dct [] []),.no]:=rfl
    have q2:zbW [.v T,.o (.dct [] []),.no] = .ex [.v T,.o (.dct [] []),.no] ⟨2⟩:=by
      unfold zbW mFor
      simp [mItL,zaV,zaa,mNil,mVar,a4,R.toO,R.bind]
    have:zdi (zb2 2 [T]) = .ex [.v T,.o (.dct [] []),.no] ⟨2⟩:=by
      show mSeq _ _ [.v T,.no,.no]=_
      rw [zaj q1]
      unfold mSeq
      rw [q2]
    exact zgn this
  have:zct (zb2 0 [T,.int k]) = .ex [.v T,.v (.int k)] ⟨2⟩:=by
    show zct [.v T,.v (.int k)]=_
    unfold zct
    by_cases c0:k=0
    · rw [zbC (by simp [zap,mRd,mC,c0])]
      simp [mDo,zaV,zaa,mNil,mVar,h,R.toO]
    rw [za7 (by simp [zap,mRd,mC,c0])]
    by_cases c1:k=1
    · rw [zbC (by simp [zap,mRd,mC,c1])]
      simp [mDo,zaV,zaa,mNil,mVar,a1,R.toO]
    rw [za7 (by simp [zap,mRd,mC,c1])]
    by_cases c2:k=2
    · rw [zbC (by simp [zap,mRd,mC,c2])]
      simp [mDo,zaV,zaa,mNil,mVar,a2,R.toO]
    rw [za7 (by simp [zap,mRd,mC,c2])]
    by_cases c3:k=3
    · rw [zbC (by simp [zap,mRd,mC,c3])]
      simp [mDo,zaV,zaa,mNil,mVar,mLst,sizeLine,a3,R.toO]
    rw [za7 (by simp [zap,mRd,mC,c3])]
    by_cases c4:k=4
    · rw [zbC (by simp [zap,mRd,mC,c4])]
      simp [mDo,zaV,zaa,mNil,mVar,a4,R.toO]
    rw [za7 (by simp [zap,mRd,mC,c4])]
    simp [mDo,zaV,zaa,mNil,mVar,a5,R.toO]
  exact zl1 this
theorem zkI {T:D} (h:zaO [T] = .ex ⟨2⟩) {k:Int}:zbG [T,.int k] = .ok (.bl true):=by
  have a:=znP h (k:=k)
  refine zcB ?_
  show mSeq _ _ [.v T,.v (.int k),.no,.no]=_
  have q1:mAsg (mC .non) (zan 2) [.v T,.v (.int k),.no,.no] = .nx [.v T,.v (.int k),.v .non,.no]:=rfl
  have q2:mTry (mDo (zaV zaY (zaa (mVar 0) (zaa (mVar 1) mNil)))) zdz 3 (mAsg (mVar 3) (zan 2)) [.v T,.v (.int k),.v .non,.no] = .nx [.v T,.v (.int k),.v (.exc 2),.no]:=by
    have:mDo (zaV zaY (zaa (mVar 0) (zaa (mVar 1) mNil))) [.v T,.v (.int k),.v .non,.no] = .ex [.v T,.v (.int k),.v .non,.no] ⟨2⟩:=by
      simp [mDo,zaV,zaa,mNil,mVar,a,R.toO]
    unfold mTry
    rw [this]
    rfl
  refine (zaj q1).trans ((zaj q2).trans ?_)
  rfl
theorem zgS {T:D} (h:zaO [T] = .ex ⟨2⟩) {k:Int}:zaQ [T,.int k] = .ok (.bl true):=by
  have a:=znP h (k:=k)
  refine zcB ?_
  show mSeq _ _ [.v T,.v (.int k)]=_
  have q2:zlw (mDo (zaV zaY (zaa (mVar 0) (zaa (mVar 1) mNil)))) zc2 (mRet (mC (.bl true))) [.v T,.v (.int k)] = .rt (.bl true):=by
    have:mDo (zaV zaY (zaa (mVar 0) (zaa (mVar 1) mNil))) [.v T,.v (.int k)] = .ex [.v T,.v (.int k)] ⟨2⟩:=by
      simp [mDo,zaV,zaa,mNil,mVar,a,R.toO]
    unfold zlw
    rw [this]
    rfl
  unfold mSeq
  rw [q2]
end My
namespace My
open PySem L2 PM
def mnL:List Int→Int
  | []=>0
  | a :: l=>minI l a
theorem zp5 {S:List Int} (h:S ≠ []):mnL S ∈ S∧∀ x ∈ S,mnL S ≤ x:=by
  cases S with
  | nil=>exact absurd rfl h
  | cons a l =>
    obtain ⟨h1,h2,h3⟩:=L2.minI_le l a
    refine ⟨?_,fun b hb=>?_⟩
    · rcases h3 with z | z
      · show minI l a ∈ _; rw [z]; simp
      · exact List.mem_cons_of_mem _ z
    · rcases List.mem_cons.mp hb with z | z
      · rw [z]; exact h1
      · exact h2 b z
theorem zpH {S:List Int} (h:S ≠ []):zia minI [iL S]=some (.int (mnL S)):=by
  cases S with
  | nil=>exact absurd rfl h
  | cons a l=>simp [zia,iL,zc9,mnL]
theorem zlC (l:List Int):znX (iL l)=true:=by
  unfold iL
  show zeZ _=true
  induction l with
  | nil=>rfl
  | cons a l ih=>simp only [List.map_cons,zeZ,zdn,ih,Bool.and_true]
def Bad (n:Nat) (d2:Int→Int→Int):Prop:=(∃ a:Int,(0 ≤ a∧a < n)∧d2 a a ≠ 0)∨(∃ a b:Int,(0 ≤ b∧b < a∧a < n)∧d2 a b ≠ d2 b a)∨(∃ a b c:Int,(0 ≤ a∧a < n)∧(0 ≤ b∧b < n)∧(0 ≤ c∧c < n)∧d2 a b + d2 b c < d2 a c)
theorem zpf {n x t:Int} (x0:0 ≤ x) (x1:x < n) (t0:0 ≤ t) (t1:t < n - 1):(x + 1 + t) % n ≠ x∧0 ≤ (x + 1 + t) % n∧(x + 1 + t) % n < n:=by
  refine ⟨?_,zdL _ (by omega),zej _ (by omega)⟩
  by_cases h:x + 1 + t < n
  · rw [Int.emod_eq_of_lt (by omega) h]; omega
  · have e:x + 1 + t=(x + 1 + t - n) + n:=by omega
    rw [e,Int.add_emod_right,Int.emod_eq_of_lt (by omega) (by omega)]; omega
theorem out4 {T:D} {N x:Int} {n:Nat} {e:Int→Int→Int} {s5 s6:Sl}:zfb 2 (zbZ (mLst (zaa (mVar 2) (zaa (mVar 4) (zaa (mVar 4) mNil))))) [.v T,.v (.int N),.p (tabG n e),.v (.int n),.v (.int x),s5,s6] = .ro (.lst [tabD (tabF n e),.int x,.int x]):=by
  show zbZ (mLst (zaa (mVar 2) (zaa (mVar 4) (zaa (mVar 4) mNil)))) [.v T,.v (.int N),.v (trD (tabT (tabF n e))),.v (.int n),.v (.int x),s5,s6]=_
  rw [zdF]
  simp [zbZ,mLst,zaa,mNil,mVar,sizeLine]
theorem out5 {T:D} {N x y:Int} {n:Nat} {e:Int→Int→Int} {s6:Sl}:zfb 2 (zbZ (mLst (zaa (mVar 2) (zaa (mVar 4) (zaa (mVar 5) mNil))))) [.v T,.v (.int N),.p (tabG n e),.v (.int n),.v (.int x),.v (.int y),s6] = .ro (.lst [tabD (tabF n e),.int x,.int y]):=by
  show zbZ (mLst (zaa (mVar 2) (zaa (mVar 4) (zaa (mVar 5) mNil)))) [.v T,.v (.int N),.v (trD (tabT (tabF n e))),.v (.int n),.v (.int x),.v (.int y),s6]=_
  rw [zdF]
  simp [zbZ,mLst,zaa,mNil,mVar,sizeLine]
theorem pk2 {T:D} {N:Int} {n:Nat} {e:Int→Int→Int} {l:En}:peek (.v T :: .v (.int N) :: .p (tabG n e) :: l) = .v T :: .v (.int N) :: .v (tabD (tabF n e)) :: peek l:=by
  show _ :: _ :: Sl.v (trD (tabT (tabF n e))) :: _=_
  rw [zdF]; rfl
theorem zkx {n:Nat} {d:Int→Int→Int} (ok:LenOk n 2000000000000000000 d) (hn0:0 < n) (hn:n ≤ 12) {N:Int} (N0:0 ≤ N) :
    ∃ (d2:Int→Int→Int) (x y:Int),(0 ≤ x∧x < n)∧(0 ≤ y∧y < n)∧(x ≠ y→0 ≤ d2 x y∧d2 x y ≤ 8000000000000000000)∧Bad n d2∧zbu [tabD (tabF n d),.int N] = .ok (.lst [tabD (tabF n d2),.int x,.int y]):=by
  obtain ⟨T,eT⟩:∃ T,T=tabD (tabF n d):=⟨_,rfl⟩
  have npos:(0:Int) < n:=by omega
  obtain ⟨x,ex⟩:∃ x:Int,x=N % (n:Int):=⟨_,rfl⟩
  have x0:0 ≤ x:=by rw [ex]; exact zdL _ npos
  have x1:x < n:=by rw [ex]; exact zej _ npos
  have k1:zcm [.v T,.v (.int N),.no,.no,.no,.no,.no] = .ok (tabF n d):=by
    unfold zcm zhZ
    have r:mItL (mRd 0) [.v T,.v (.int N),.no,.no,.no,.no,.no] = .ok ((tabF n d).map iL):=by rw [eT]; simp [mItL,mRd,tabD]
    rw [r,R.bind_ok,za8 (by simp [tabF,zaU]; exact Nat.le_trans hn (by decide))]
    have g:zcd (zhm (zaX 0) (mCB zfs (zaa (mRd 0) mNil)) (zaF [.v T,.v (.int N),.no,.no,.no,.no,.no] [] 1)) ((tabF n d).map iL) = .ok ((tabF n d).map id):=by
      refine zgv iL id _ fun l _=>?_
      have f:zfs [iL l]=some (iL l):=rfl
      have al:asIl (iL l)=some l:=zc9 _
      have e:zaF [.v T,.v (.int N),.no,.no,.no,.no,.no] [] 1 = [.no]:=rfl
      rw [e]
      simp [zhm,zaX,mCB,zaa,mNil,mRd,f,al]
    rw [g,List.map_id]; rfl
  have q1:zi6 zcm 2 [.v T,.v (.int N),.no,.no,.no,.no,.no] = .nx [.v T,.v (.int N),.p (tabG n d),.no,.no,.no,.no]:=by
    unfold zi6
    rw [k1]; rfl
  have q2:mAsg (zcc (mCB fLen (zaa (mRd 2) mNil))) (zan 3) [.v T,.v (.int N),.p (tabG n d),.no,.no,.no,.no] = .nx [.v T,.v (.int N),.p (tabG n d),.v (.int n),.no,.no,.no]:=by
    refine zaz (d:=.int n) ?_ rfl
    unfold zcc
    rw [pk2]
    simp [mCB,zaa,mNil,mRd,zfq,zdn]
  have q3:mAsg (m2 oMod (mRd 1) (mRd 3)) (zan 4) [.v T,.v (.int N),.p (tabG n d),.v (.int n),.no,.no,.no] = .nx [.v T,.v (.int N),.p (tabG n d),.v (.int n),.v (.int x),.no,.no]:=zaz (d:=.int x) (by simp [mRd,zcU npos,ex]) rfl
  have f9:Fit 9:=fitN 9 (by decide)
  have f27:Fit 27:=fitN 27 (by decide)
  have f729:Fit 729:=fitN 729 (by decide)
  have d9:=zfh (i:=N) (show (0:Int) < 9 by decide) f9
  have d27:=zfh (i:=N) (show (0:Int) < 27 by decide) f27
  have d729:=zfh (i:=N) (show (0:Int) < 729 by decide) f729
  have m3:∀ i:Int,oMod (.int i) (.int 3)=some (.int (i % 3)):=fun i=>zcU (by decide)
  have p9:oPow (.int 10) (.int 9)=some (.int 1000000000):=zj4 ⟨by decide,by decide,by decide⟩
  have mp9:∀ i:Int,oMod (.int i) (.int 1000000000)=some (.int (i % 1000000000)):=fun i=>zcU (by decide)
  have pre:∀ (o:O),(mSeq (mIfS (mOr (zap (m2 oEq (mRd 3) (mC (.int 1)))) (zap (m2 oEq (m2 oMod (m2 oDiv (mRd 1) (mC (.int 9))) (mC (.int 3))) (mC (.int 0)))))
      (mSeq (zdC 2 (mVar 4) (mVar 4) (m2 oAdd (mC (.int 1)) (m2 oMod (m2 oDiv (mRd 1) (mC (.int 27))) (m2 oPow (mC (.int 10)) (mC (.int 9))))))
      (zfb 2 (zbZ (mLst (zaa (mVar 2) (zaa (mVar 4) (zaa (mVar 4) mNil)))))))
      zbm)
      (mSeq (mAsg (m2 oMod (m2 oAdd (m2 oAdd (mRd 4) (mC (.int 1))) (m2 oMod (m2 oDiv (mRd 1) (mC (.int 27))) (m2 oSub (mRd 3) (mC (.int 1))))) (mRd 3)) (zan 5))
      (mSeq (mIfS (mOr (zap (m2 oEq (mRd 3) (mC (.int 2)))) (zap (m2 oEq (m2 oMod (m2 oDiv (mRd 1) (mC (.int 9))) (mC (.int 3))) (mC (.int 1)))))
      (mSeq (zdC 2 (mVar 4) (mVar 5) (zcc (m2 oAdd (m2 oIxL (m2 oIxL (mRd 2) (mRd 4)) (mRd 5)) (mC (.int 1)))))
      (zfb 2 (zbZ (mLst (zaa (mVar 2) (zaa (mVar 4) (zaa (mVar 5) mNil)))))))
      zbm)
      (mSeq (mAsg (zgV zcp) (zan 6))
      (mSeq (zdC 2 (mVar 4) (mVar 5) (m2 oAdd (m2 oAdd (mCB (zia minI) (zaa (mRd 6) mNil)) (mC (.int 1))) (m2 oMod (m2 oDiv (mRd 1) (mC (.int 729))) (mC (.int 3)))))
      (mSeq (zdC 2 (mVar 5) (mVar 4) (zcc (m2 oIxL (m2 oIxL (mRd 2) (mRd 4)) (mRd 5))))
      (zfb 2 (zbZ (mLst (zaa (mVar 2) (zaa (mVar 4) (zaa (mVar 5) mNil))))))))))) [.v T,.v (.int N),.p (tabG n d),.v (.int n),.v (.int x),.no,.no]=o)→∀ r,o = .ro r→zbu [T,.int N] = .ok r:=fun o h r e=>by
    refine zda ?_
    show mSeq _ _ [.v T,.v (.int N),.no,.no,.no,.no,.no]=_
    rw [← e]
    exact (zaj q1).trans ((zaj q2).trans ((zaj q3).trans h))
  by_cases cA:(n:Int)=1∨N / 9 % 3=0
  · -- a place away from itself
    obtain ⟨v,ev⟩:∃ v:Int,v=1 + N / 27 % 1000000000:=⟨_,rfl⟩
    have v1:1 ≤ v:=by
      have:=zdL (N / 27) (show (0:Int) < 1000000000 by decide)
      omega
    have s1:=zcR (i:=2) (mk:=mVar 4) (mj:=mVar 4) (me:=m2 oAdd (mC (.int 1)) (m2 oMod (m2 oDiv (mRd 1) (mC (.int 27))) (m2 oPow (mC (.int 10)) (mC (.int 9))))) (δ:=[.v T,.v (.int N),.p (tabG n d),.v (.int n),.v (.int x),.no,.no]) (n:=n) (d:=d) (v:=v) rfl rfl rfl (by simp [mC,mRd,d27,p9,mp9,ev]) x0 x1 x0 x1
    have t:mOr (zap (m2 oEq (mRd 3) (mC (.int 1)))) (zap (m2 oEq (m2 oMod (m2 oDiv (mRd 1) (mC (.int 9))) (mC (.int 3))) (mC (.int 0)))) [.v T,.v (.int N),.p (tabG n d),.v (.int n),.v (.int x),.no,.no] = .ok true:=by
      by_cases c:(n:Int)=1
      · have c':n=1:=by omega
        simp [mOr,zap,mRd,mC,c']
      · have c2:=cA.resolve_left c
        have c':n ≠ 1:=by omega
        simp [mOr,zap,mRd,mC,d9,m3,c2,c']
    rw [← eT]
    refine ⟨upd2 d x x v,x,x,⟨x0,x1⟩,⟨x0,x1⟩,fun h=>absurd rfl h,.inl ⟨x,⟨x0,x1⟩,by simp [upd2]; omega⟩,pre _ ?_ _ rfl⟩
    have body:=(zbC (m:=mSeq (zdC 2 (mVar 4) (mVar 4) (m2 oAdd (mC (.int 1)) (m2 oMod (m2 oDiv (mRd 1) (mC (.int 27))) (m2 oPow (mC (.int 10)) (mC (.int 9)))))) (zfb 2 (zbZ (mLst (zaa (mVar 2) (zaa (mVar 4) (zaa (mVar 4) mNil))))))) (m':=zbm) t).trans ((zaj s1).trans (out4 (T:=T) (N:=N) (x:=x) (n:=n) (e:=upd2 d x x v) (s5:=.no) (s6:=.no)))
    unfold mSeq at body ⊢
    rw [body]
  · have cA1:¬ (n:Int)=1:=fun z=>cA (.inl z)
    have cA2:¬ N / 9 % 3=0:=fun z=>cA (.inr z)
    have t:mOr (zap (m2 oEq (mRd 3) (mC (.int 1)))) (zap (m2 oEq (m2 oMod (m2 oDiv (mRd 1) (mC (.int 9))) (mC (.int 3))) (mC (.int 0)))) [.v T,.v (.int N),.p (tabG n d),.v (.int n),.v (.int x),.no,.no] = .ok false:=by
      have c':n ≠ 1:=by omega
      simp [mOr,zap,mRd,mC,d9,m3,cA2,cA1,c']
    have n1:(0:Int) < (n:Int) - 1:=by omega
    obtain ⟨tt,ett⟩:∃ tt:Int,tt=N / 27 % ((n:Int) - 1):=⟨_,rfl⟩
    obtain ⟨y,ey⟩:∃ y:Int,y=(x + 1 + tt) % (n:Int):=⟨_,rfl⟩
    obtain ⟨yx,y0,y1⟩:=zpf x0 x1 (t:=tt) (by rw [ett]; exact zdL _ n1) (by rw [ett]; exact zej _ n1)
    rw [← ey] at yx y0 y1
    have s1:mAsg (m2 oMod (m2 oAdd (m2 oAdd (mRd 4) (mC (.int 1))) (m2 oMod (m2 oDiv (mRd 1) (mC (.int 27))) (m2 oSub (mRd 3) (mC (.int 1))))) (mRd 3)) (zan 5) [.v T,.v (.int N),.p (tabG n d),.v (.int n),.v (.int x),.no,.no] = .nx [.v T,.v (.int N),.p (tabG n d),.v (.int n),.v (.int x),.v (.int y),.no]:=zaz (d:=.int y) (by simp [mRd,mC,d27,zcU n1,zcU npos,ey,ett]) rfl
    have tb:∀ (e:Int→Int→Int) (a:Int),0 ≤ a→a < n→oIxL (tabD (tabF n e)) (.int a)=some (iL ((upt n).map (e a))):=fun e a h0 h1=>zdG h0 h1
    have nn:=ok.nn x y x0 x1 y0 y1
    have skip:=(za7 (m:=mSeq (zdC 2 (mVar 4) (mVar 4) (m2 oAdd (mC (.int 1)) (m2 oMod (m2 oDiv (mRd 1) (mC (.int 27))) (m2 oPow (mC (.int 10)) (mC (.int 9)))))) (zfb 2 (zbZ (mLst (zaa (mVar 2) (zaa (mVar 4) (zaa (mVar 4) mNil))))))) (m':=zbm) t).trans (show zbm _ = .nx _ from rfl)
    rw [← eT]
    by_cases cB:(n:Int)=2∨N / 9 % 3=1
    · obtain ⟨v,ev⟩:∃ v:Int,v=d x y + 1:=⟨_,rfl⟩
      have pv:zcc (m2 oAdd (m2 oIxL (m2 oIxL (mRd 2) (mRd 4)) (mRd 5)) (mC (.int 1))) [.v T,.v (.int N),.p (tabG n d),.v (.int n),.v (.int x),.v (.int y),.no] = .ok (.int v):=by
        have t:=tb d x x0 x1
        have r:=zbn (n:=n) (f:=d x) y0 y1
        unfold zcc
        rw [pk2]
        simp [peek,zkh,mRd,mC,t,r,zdn,ev]
      have s2:=zcR (i:=2) (mk:=mVar 4) (mj:=mVar 5) (δ:=[.v T,.v (.int N),.p (tabG n d),.v (.int n),.v (.int x),.v (.int y),.no]) (n:=n) (d:=d) (v:=v) rfl rfl rfl pv x0 x1 y0 y1
      have t2:mOr (zap (m2 oEq (mRd 3) (mC (.int 2)))) (zap (m2 oEq (m2 oMod (m2 oDiv (mRd 1) (mC (.int 9))) (mC (.int 3))) (mC (.int 1)))) [.v T,.v (.int N),.p (tabG n d),.v (.int n),.v (.int x),.v (.int y),.no] = .ok true:=by
        by_cases c:(n:Int)=2
        · have c':n=2:=by omega
          simp [mOr,zap,mRd,mC,c']
        · have c2:=cB.resolve_left c
          have c':n ≠ 2:=by omega
          simp [mOr,zap,mRd,mC,d9,m3,c2,c']
      have u1:upd2 d x y v x y=d x y + 1:=by rw [ev]; simp [upd2]
      have u2:upd2 d x y v y x=d y x:=by simp only [upd2]; rw [if_neg fun z=>yx z.1]
      have sy:=ok.sym x y x0 x1 y0 y1
      refine ⟨upd2 d x y v,x,y,⟨x0,x1⟩,⟨y0,y1⟩,fun _=>by rw [u1]; omega,?_,pre _ ?_ _ rfl⟩
      · rcases Int.lt_or_gt_of_ne yx with lt | lt
        · exact .inr (.inl ⟨x,y,⟨y0,lt,x1⟩,by rw [u1,u2]; omega⟩)
        · exact .inr (.inl ⟨y,x,⟨x0,lt,y1⟩,by rw [u1,u2]; omega⟩)
      · have body:=(zbC (m:=mSeq (zdC 2 (mVar 4) (mVar 5) (zcc (m2 oAdd (m2 oIxL (m2 oIxL (mRd 2) (mRd 4)) (mRd 5)) (mC (.int 1))))) (zfb 2 (zbZ (mLst (zaa (mVar 2) (zaa (mVar 4) (zaa (mVar 5) mNil))))))) (m':=zbm) t2).trans ((zaj s2).trans (out5 (T:=T) (N:=N) (x:=x) (y:=y) (n:=n) (e:=upd2 d x y v) (s6:=.no)))
        refine (zaj skip).trans ((zaj s1).trans ?_)
        unfold mSeq at body ⊢
        rw [body]
    · have cB1:¬ (n:Int)=2:=fun z=>cB (.inl z)
      have cB2:¬ N / 9 % 3=1:=fun z=>cB (.inr z)
      have t2:mOr (zap (m2 oEq (mRd 3) (mC (.int 2)))) (zap (m2 oEq (m2 oMod (m2 oDiv (mRd 1) (mC (.int 9))) (mC (.int 3))) (mC (.int 1)))) [.v T,.v (.int N),.p (tabG n d),.v (.int n),.v (.int x),.v (.int y),.no] = .ok false:=by
        have c':n ≠ 2:=by omega
        simp [mOr,zap,mRd,mC,d9,m3,cB2,cB1,c']
      obtain ⟨W,eW⟩:∃ W:List Int,W=((upt n).filter fun a=>a ≠ x∧a ≠ y).map fun a=>d x a + d a y:=⟨_,rfl⟩
      have Wne:W ≠ []:=by
        intro e
        have:∀ a ∈ upt n,¬ (a ≠ x∧a ≠ y):=by
          rw [eW,List.map_eq_nil_iff,List.filter_eq_nil_iff] at e
          intro a ha
          have:=e a ha
          simpa using this
        have h0:=this 0 (mem_upt.mpr ⟨by omega,by omega⟩)
        have h1:=this 1 (mem_upt.mpr ⟨by omega,by omega⟩)
        have h2:=this 2 (mem_upt.mpr ⟨by omega,by omega⟩)
        omega
      have kW:zcp [.v T,.v (.int N),.v (tabD (tabF n d)),.v (.int n),.v (.int x),.v (.int y),.no] = .ok (iL W):=by
        obtain ⟨T1,eT1⟩:∃ T1,T1=tabD (tabF n d):=⟨_,rfl⟩
        rw [← eT1]
        refine Eq.trans (zcJ (l:=(upt n).map .int) (r:=(upt n).filterMap fun a=>if a ≠ x∧a ≠ y then some (.int (d x a + d a y)) else none) (by simp [mRng,zaa,mNil,mVar,rngT (show n ≤ 1000 by omega)]) (by rw [List.length_map,zaU]; omega) ?_) ?_
        · refine zeq .int _ _ fun a ha=>?_
          obtain ⟨a0,a1⟩:=mem_upt.mp ha
          have t1:=tb d x x0 x1
          have t2:=tb d a a0 a1
          rw [← eT1] at t1 t2
          have r1:=zbn (n:=n) (f:=d x) a0 a1
          have r2:=zbn (n:=n) (f:=d a) y0 y1
          have e:zaF [.v T,.v (.int N),.v T1,.v (.int n),.v (.int x),.v (.int y),.no] [5,2,4] 1 = [.v (.int y),.v T1,.v (.int x),.no]:=rfl
          rw [e]
          by_cases e1:a=x
          · simp [zdT,zaX,mAnd,zap,mRd,e1]
          · by_cases e2:a=y
            · simp [zdT,zaX,mAnd,zap,mRd,e1,e2,yx]
            · simp [zdT,zaX,mAnd,zap,mRd,e1,e2,t1,t2,r1,r2]
        · rw [eW]
          unfold iL
          congr 2
          generalize upt n=L
          induction L with
          | nil=>rfl
          | cons a L ih =>
            by_cases c:a ≠ x∧a ≠ y
            · simp [List.filterMap_cons,List.filter_cons,c,ih]
            · simp only [List.filterMap_cons,List.filter_cons,c,ih,if_false,decide_false]; rfl
      obtain ⟨r,er⟩:∃ r:Int,r=N / 729 % 3:=⟨_,rfl⟩
      have r0:0 ≤ r:=by rw [er]; exact zdL _ (by decide)
      have r1:r < 3:=by rw [er]; exact zej _ (by decide)
      obtain ⟨w,ew⟩:∃ w:Int,w=mnL W + 1 + r:=⟨_,rfl⟩
      have bw:=zpH Wne
      have s2:mAsg (zgV zcp) (zan 6) [.v T,.v (.int N),.p (tabG n d),.v (.int n),.v (.int x),.v (.int y),.no] = .nx [.v T,.v (.int N),.p (tabG n d),.v (.int n),.v (.int x),.v (.int y),.v (iL W)]:=by
        refine zaz (d:=iL W) ?_ rfl
        unfold zgV
        rw [pk2,show peek [.v (.int n),.v (.int x),.v (.int y),.no] = [.v (.int n),.v (.int x),.v (.int y),.no] from rfl,kW]
        simp [zlC]
      have s3:=zcR (i:=2) (mk:=mVar 4) (mj:=mVar 5) (me:=m2 oAdd (m2 oAdd (mCB (zia minI) (zaa (mRd 6) mNil)) (mC (.int 1))) (m2 oMod (m2 oDiv (mRd 1) (mC (.int 729))) (mC (.int 3)))) (δ:=[.v T,.v (.int N),.p (tabG n d),.v (.int n),.v (.int x),.v (.int y),.v (iL W)]) (n:=n) (d:=d) (v:=w) rfl rfl rfl (by simp [mCB,zaa,mNil,mRd,mC,bw,d729,m3,ew,er]) x0 x1 y0 y1
      have u0:upd2 d x y w x y=w:=by simp [upd2]
      have pv:zcc (m2 oIxL (m2 oIxL (mRd 2) (mRd 4)) (mRd 5)) [.v T,.v (.int N),.p (tabG n (upd2 d x y w)),.v (.int n),.v (.int x),.v (.int y),.v (iL W)] = .ok (.int w):=by
        have t:=tb (upd2 d x y w) x x0 x1
        have r:=zbn (n:=n) (f:=upd2 d x y w x) y0 y1
        unfold zcc
        rw [pk2]
        simp [peek,zkh,mRd,mC,t,r,zdn,u0]
      have s4:=zcR (i:=2) (mk:=mVar 5) (mj:=mVar 4) (δ:=[.v T,.v (.int N),.p (tabG n (upd2 d x y w)),.v (.int n),.v (.int x),.v (.int y),.v (iL W)]) (n:=n) (d:=upd2 d x y w) (v:=w) rfl rfl rfl pv y0 y1 x0 x1
      have skip2:=(za7 (m:=mSeq (zdC 2 (mVar 4) (mVar 5) (zcc (m2 oAdd (m2 oIxL (m2 oIxL (mRd 2) (mRd 4)) (mRd 5)) (mC (.int 1))))) (zfb 2 (zbZ (mLst (zaa (mVar 2) (zaa (mVar 4) (zaa (mVar 5) mNil))))))) (m':=zbm) t2).trans (show zbm _ = .nx _ from rfl)
      have mW:=(zp5 Wne).1
      rw [eW] at mW
      obtain ⟨a,ha,ea⟩:=List.mem_map.mp mW
      obtain ⟨ha1,ha2⟩:=List.mem_filter.mp ha
      have ha3:a ≠ x∧a ≠ y:=by simpa using ha2
      obtain ⟨a0,a1⟩:=mem_upt.mp ha1
      rw [← eW] at ea
      have ea':d x a + d a y=mnL W:=ea
      have b1:=ok.nn x a x0 x1 a0 a1
      have b2:=ok.nn a y a0 a1 y0 y1
      have u3:upd2 (upd2 d x y w) y x w x y=w:=by simp [upd2]
      refine ⟨upd2 (upd2 d x y w) y x w,x,y,⟨x0,x1⟩,⟨y0,y1⟩,fun _=>by rw [u3,ew]; omega,.inr (.inr ?_),pre _ ?_ _ rfl⟩
      · refine ⟨x,a,y,⟨x0,x1⟩,⟨a0,a1⟩,⟨y0,y1⟩,?_⟩
        have u1:upd2 (upd2 d x y w) y x w x a=d x a:=by simp [upd2,ha3.1,ha3.2]
        have u2:upd2 (upd2 d x y w) y x w a y=d a y:=by simp [upd2,ha3.1,ha3.2]
        rw [u1,u2,u3,ew]
        omega
      · exact (zaj skip).trans ((zaj s1).trans ((zaj skip2).trans ((zaj s2).trans ((zaj s3).trans ((zaj s4).trans (out5 (T:=T) (N:=N) (x:=x) (y:=y) (n:=n) (e:=upd2 (upd2 d x y w) y x w) (s6:=.v (iL W))))))))
end My
namespace My
open PySem L2 PM
theorem zg5 (n:Nat) (d:Int→Int→Int):zbw 8 (tabD (tabF n d))=true:=by
  unfold tabD tabF
  simp only [zbw,List.map_map,List.all_map]
  simp [iL,zbw]
theorem zjD (r:Int):za5 [.int r,.int r] = .ok (.bl true):=by
  refine zcB ?_
  show mRet _ [.v (.int r),.v (.int r)]=_
  have i1:oIsi "int" (.int r)=some (.bl true):=rfl
  have i2:oIsi "bool" (.int r)=some (.bl false):=rfl
  simp [mRet,zkr,zhE,mRd,i1,i2]
theorem rng6 (δ:En):mRng (zaa (mC (.int 6)) mNil) δ = .ok ([0,1,2,3,4,5].map .int):=by
  have:=rngT (show 6 ≤ 1000 by decide)
  simp only [mRng,zaa,mNil,mC,R.bind_ok]
  exact (congrArg R.of this).trans rfl
theorem zgM {n:Nat} {d:Int→Int→Int} (hn:n ≤ 100) (bad:Bad n d):zaT [tabD (tabF n d)] = .ok (.bl true):=by
  have look:=zj7 hn bad
  have pT:=zg5 n d
  obtain ⟨T,eT⟩:∃ T,T=tabD (tabF n d):=⟨_,rfl⟩
  have k1:zbU [.v T,.no,.no] = .ok T:=by
    rw [eT]
    refine zcJ (l:=(tabF n d).map iL) (r:=(tabF n d).map iL) (by simp [mItL,mRd,tabD]) (by simp [tabF,zaU]; omega) ?_
    refine zck iL iL _ fun l _=>?_
    have:zfs [iL l]=some (iL l):=rfl
    simp [zdT,zaF,zaX,mCB,zaa,mNil,mRd,this]
  rw [← eT] at look pT ⊢
  obtain ⟨δ,h1,o2,rfl⟩:=zaZ (b:=zan 2) (m:=zbQ) D.int (fun _ δ=>∃ o2:Option D,δ = [.v T,.v T,sv o2]) [0,1,2,3,4,5]
    (by
      rintro pre k post δ hall ⟨o2,rfl⟩
      refine ⟨[.v T,.v T,.v (.int k)],[.v T,.v T,.v (.int k)],zaw rfl,.inl ?_,some _,rfl⟩
      have r1:=zkI look (k:=k)
      have r2:=zgS look (k:=k)
      have p1:zau zbG (zaa (mVar 0) (zaa (mVar 2) mNil)) [.v T,.v T,.v (.int k)] = .ok (.bl true):=by simp [zau,zaa,mNil,mVar,r1]
      have p2:zau zaQ (zaa (mVar 0) (zaa (mVar 2) mNil)) [.v T,.v T,.v (.int k)] = .ok (.bl true):=by simp [zau,zaa,mNil,mVar,r2]
      unfold zbQ
      rw [za7 (by simp only [mOr,mNot,zap,p1,p2,R.bind_ok]; rfl)]; rfl)
    [.v T,.v T,.no] ⟨none,rfl⟩
  refine zcB ?_
  show mSeq _ _ [.v T,.no,.no]=_
  have q1:mAsg zbU (zan 1) [.v T,.no,.no] = .nx [.v T,.v T,.no]:=zaz (d:=T) k1 rfl
  have q2:zc4 [.v T,.v T,.no]=_:=(zbB (rng6 _)).trans h1
  have eq:=zmi pT pT rfl
  refine (zaj q1).trans ((zaj q2).trans ?_)
  simp [mRet,mRd,eq]
theorem way3 {n:Nat} {d:Int→Int→Int} {x y:Int} (x0:0 ≤ x) (x1:x < n) (y0:0 ≤ y) (y1:y < n):zbb [tabD (tabF n d),iL [x,y,x]] = .ok (.int (d x y + d y x)):=by
  have tx:=zdG (d:=d) x0 x1
  have ty:=zdG (d:=d) y0 y1
  have rxy:=zbn (n:=n) (f:=d x) y0 y1
  have ryx:=zbn (n:=n) (f:=d y) x0 x1
  obtain ⟨T,eT⟩:∃ T,T=tabD (tabF n d):=⟨_,rfl⟩
  rw [← eT] at tx ty ⊢
  have i0:oIxL (iL [x,y,x]) (.int 0)=some (.int x):=rfl
  have i1:oIxL (iL [x,y,x]) (.int 1)=some (.int y):=rfl
  have i2:oIxL (iL [x,y,x]) (.int 2)=some (.int x):=rfl
  have rg:mRng (zaa (m2 oSub (mCB fLen (zaa (mRd 1) mNil)) (mC (.int 1))) mNil) [.v T,.v (iL [x,y,x])] = .ok ([0,1].map .int):=by
    have l3:fLen [iL [x,y,x]]=some (.int 3):=rfl
    have:=rngT (show 2 ≤ 1000 by decide)
    simp only [mRng,zaa,mNil,mC,mCB,mRd,ze7,List.getElem?_cons_succ,List.getElem?_cons_zero,l3,R.bind_ok,R.of_some,zqx]
    exact (congrArg R.of this).trans rfl
  have k1:ze6 [.v T,.v (iL [x,y,x])] = .ok (iL [d x y,d y x]):=by
    refine zcJ (l:=[0,1].map .int) (r:=[.int (d x y),.int (d y x)]) rg (by simp) ?_
    have e:zaF [.v T,.v (iL [x,y,x])] [0,1] 1 = [.v T,.v (iL [x,y,x]),.no]:=rfl
    rw [e]
    refine zck (α:=Int) .int (fun k=>if k=0 then .int (d x y) else .int (d y x)) [0,1] fun k hk=>?_
    rcases List.mem_cons.mp hk with rfl | hk
    · simp [zdT,zaX,mRd,mC,i0,i1,tx,rxy]
    · obtain rfl:=List.mem_singleton.mp hk
      simp [zdT,zaX,mRd,mC,i1,i2,ty,ryx]
  refine zcB ?_
  show mRet _ [.v T,.v (iL [x,y,x])]=_
  have s:=zlp [d x y,d y x]
  simp only [mRet,mCB,zaa,mNil,k1,R.bind_ok,s,R.of_some]
  simp
theorem zqi {n:Nat} {d:Int→Int→Int} {x y:Int} (x0:0 ≤ x) (x1:x < n) (y0:0 ≤ y) (y1:y < n):za0 [tabD (tabF n d),.lst [.tup [.int x,.int y],.tup [.int x,.int y]]] = .ok (.int (2 * d x y)):=by
  have tx:=zdG (d:=d) x0 x1
  have rxy:=zbn (n:=n) (f:=d x) y0 y1
  obtain ⟨T,eT⟩:∃ T,T=tabD (tabF n d):=⟨_,rfl⟩
  rw [← eT] at tx ⊢
  obtain ⟨L,eL⟩:∃ L,L=D.lst ([(x,y),(x,y)].map encR):=⟨_,rfl⟩
  have k1:zel [.v T,.v L] = .ok (iL [d x y,d x y]):=by
    refine zcJ (l:=[(x,y),(x,y)].map encR) (r:=[.int (d x y),.int (d x y)]) (by rw [eL]; simp [mItL,mRd]) (by simp) ?_
    have e:zaF [.v T,.v L] [0] 2 = [.v T,.no,.no]:=rfl
    rw [e]
    refine zck (α:=Int × Int) encR (fun p=>.int (d p.1 p.2)) [(x,y),(x,y)] fun p hp=>?_
    have ep:p=(x,y):=by simpa using hp
    subst ep
    have b:bTup 2 (zbH (zaX 1) (zbH (zaX 2) bNil)) (encR (x,y)) [.v T,.no,.no]=some [.v T,.v (.int x),.v (.int y)]:=rfl
    simp [zdT,b,mRd,tx,rxy]
  refine zcB ?_
  show mRet _ [.v T,.v (.lst ([(x,y),(x,y)].map encR))]=_
  rw [← eL]
  have s:=zlp [d x y,d x y]
  simp only [mRet,mCB,zaa,mNil,k1,R.bind_ok,s,R.of_some]
  simp
  omega
theorem law_true (ns:List Int) (h:ns.length ≤ 63):zpQ [.scr ns] = .ok (.bl true):=by
  obtain ⟨n,d,⟨n1,n11⟩,ok,hlen⟩:=zkk ns (most:=200000000000000000) (by decide) (by decide)
  obtain ⟨N,⟨N0,_⟩,hN⟩:=zgy ns (k:=37) (top:=1000000000000) (by decide) (by decide) (by decide)
  obtain ⟨d2,x,y,⟨x0,x1⟩,⟨y0,y1⟩,bd,bad,hsp⟩:=zkx ok (by omega) (by omega) N0
  have look:=zew (show n ≤ 100 by omega) ok
  have har:=zgM (show n ≤ 100 by omega) bad
  have hway:=way3 (d:=d2) x0 x1 y0 y1
  have hroads:=zqi (d:=d2) x0 x1 y0 y1
  have hask:∀ k:Int,zaY [tabD (tabF n d),.int k] = .ok .non:=fun k=>zpW ok (by omega) (by omega)
  have htree:=zcK ok (by omega) (show n ≤ 100 by omega)
  have pT:=zg5 n d
  have lT:fLen [tabD (tabF n d)]=some (.int n):=zfq
  have tx:=zdG (d:=d2) x0 x1
  have ty:=zdG (d:=d2) y0 y1
  have rxy:=zbn (n:=n) (f:=d2 x) y0 y1
  have ryx:=zbn (n:=n) (f:=d2 y) x0 x1
  obtain ⟨T,eT⟩:∃ T,T=tabD (tabF n d):=⟨_,rfl⟩
  obtain ⟨B,eB⟩:∃ B,B=tabD (tabF n d2):=⟨_,rfl⟩
  have k1:zmj [.v (.scr ns),.v T,.no,.no,.no,.no,.no] = .ok T:=by
    rw [eT]
    refine zcJ (l:=(tabF n d).map iL) (r:=(tabF n d).map iL) (by simp [mItL,mRd,tabD]) (by simp [tabF,zaU]; omega) ?_
    refine zck iL iL _ fun l _=>?_
    have:zfs [iL l]=some (iL l):=rfl
    simp [zdT,zaF,zaX,mCB,zaa,mNil,mRd,this]
  rw [← eT] at hlen look hask htree pT lT hsp
  rw [← eB] at hsp har hway hroads tx ty
  have p17:oPow (.int 10) (.int 17)=some (.int 100000000000000000):=zj4 ⟨by decide,by decide,by decide⟩
  have p12:oPow (.int 10) (.int 12)=some (.int 1000000000000):=zj4 ⟨by decide,by decide,by decide⟩
  have f2:Fit 2:=fitN 10 (by decide)
  have fp:Fit 100000000000000000:=fitN (10 ^ 17) (by decide)
  have eq:=zmi pT pT rfl
  refine zcB ?_
  show mSeq _ _ [.v (.scr ns),.no,.no,.no,.no,.no,.no]=_
  have q1:mAsg (zau zbp (zaa (mVar 0) (zaa (m2 oMul (mC (.int 2)) (m2 oPow (mC (.int 10)) (mC (.int 17)))) mNil))) (zan 1) [.v (.scr ns),.no,.no,.no,.no,.no,.no] = .nx [.v (.scr ns),.v T,.no,.no,.no,.no,.no]:=zaz (d:=T) (by simp [zau,zaa,mNil,mVar,mC,p17,zd5 f2 fp,hlen]) rfl
  have q2:mAsg zmj (zan 2) [.v (.scr ns),.v T,.no,.no,.no,.no,.no] = .nx [.v (.scr ns),.v T,.v T,.no,.no,.no,.no]:=zaz (d:=T) k1 rfl
  have q3:mAsg (zau zbu (zaa (mVar 1) (zaa (zau zaK (zaa (mVar 0) (zaa (mC (.int 37)) (zaa (m2 oPow (mC (.int 10)) (mC (.int 12))) mNil)))) mNil))) (bLst 3 (zbH (zan 3) (zbH (zan 4) (zbH (zan 5) bNil)))) [.v (.scr ns),.v T,.v T,.no,.no,.no,.no] = .nx [.v (.scr ns),.v T,.v T,.v B,.v (.int x),.v (.int y),.no]:=zaz (d:=.lst [B,.int x,.int y]) (by simp [zau,zaa,mNil,mVar,mC,p12,hN,hsp]) rfl
  have q4:mIfS (mOr (zap (m2 zmF (zau zaO (zaa (mVar 1) mNil)) (mC .non))) (mNot (zap (zau zaT (zaa (mVar 3) mNil))))) (mRet (mC (.bl false))) zbm [.v (.scr ns),.v T,.v T,.v B,.v (.int x),.v (.int y),.no] = .nx [.v (.scr ns),.v T,.v T,.v B,.v (.int x),.v (.int y),.no]:=by
    have a1:zau zaO (zaa (mVar 1) mNil) [.v (.scr ns),.v T,.v T,.v B,.v (.int x),.v (.int y),.no] = .ok .non:=by simp [zau,zaa,mNil,mVar,look]
    have a2:zau zaT (zaa (mVar 3) mNil) [.v (.scr ns),.v T,.v T,.v B,.v (.int x),.v (.int y),.no] = .ok (.bl true):=by simp [zau,zaa,mNil,mVar,har]
    rw [za7 (by simp only [mOr,mNot,zap,ze7,mC,a1,a2,R.bind_ok]; rfl)]; rfl
  have q5:mIfS (zap (m2 oNe (mRd 4) (mRd 5)))
      (mSeq (mIfS (mNot (zap (zau za5 (zaa (zau zbb (zaa (mVar 3) (zaa (mLst (zaa (mVar 4) (zaa (mVar 5) (zaa (mVar 4) mNil)))) mNil))) (zaa (m2 oAdd (m2 oIxL (m2 oIxL (mRd 3) (mRd 4)) (mRd 5)) (m2 oIxL (m2 oIxL (mRd 3) (mRd 5)) (mRd 4))) mNil)))))
      (mRet (mC (.bl false)))
      zbm)
      (mIfS (mNot (zap (zau za5 (zaa (zau za0 (zaa (mVar 3) (zaa (mLst (zaa (mTup (zaa (mVar 4) (zaa (mVar 5) mNil))) (zaa (mTup (zaa (mVar 4) (zaa (mVar 5) mNil))) mNil))) mNil))) (zaa (m2 oMul (mC (.int 2)) (m2 oIxL (m2 oIxL (mRd 3) (mRd 4)) (mRd 5))) mNil)))))
      (mRet (mC (.bl false)))
      zbm))
      zbm [.v (.scr ns),.v T,.v T,.v B,.v (.int x),.v (.int y),.no] = .nx [.v (.scr ns),.v T,.v T,.v B,.v (.int x),.v (.int y),.no]:=by
    by_cases c:x=y
    · rw [za7 (by simp [zap,mRd,c])]; rfl
    · obtain ⟨b0,b1⟩:=bd c
      have fd:Fit (d2 x y):=fitN 8000000000000000000 (by omega)
      have a1:zau zbb (zaa (mVar 3) (zaa (mLst (zaa (mVar 4) (zaa (mVar 5) (zaa (mVar 4) mNil)))) mNil)) [.v (.scr ns),.v T,.v T,.v B,.v (.int x),.v (.int y),.no] = .ok (.int (d2 x y + d2 y x)):=by
        have l:mLst (zaa (mVar 4) (zaa (mVar 5) (zaa (mVar 4) mNil))) [.v (.scr ns),.v T,.v T,.v B,.v (.int x),.v (.int y),.no] = .ok (iL [x,y,x]):=by simp [mLst,zaa,mNil,mVar,sizeLine,iL]
        simp only [zau,zaa,mNil,l,mVar,List.getElem?_cons_succ,List.getElem?_cons_zero,R.bind_ok,hway,R.nev_ok]
      have a2:m2 oAdd (m2 oIxL (m2 oIxL (mRd 3) (mRd 4)) (mRd 5)) (m2 oIxL (m2 oIxL (mRd 3) (mRd 5)) (mRd 4)) [.v (.scr ns),.v T,.v T,.v B,.v (.int x),.v (.int y),.no] = .ok (.int (d2 x y + d2 y x)):=by simp [mRd,tx,ty,rxy,ryx]
      have a3:zau za0 (zaa (mVar 3) (zaa (mLst (zaa (mTup (zaa (mVar 4) (zaa (mVar 5) mNil))) (zaa (mTup (zaa (mVar 4) (zaa (mVar 5) mNil))) mNil))) mNil)) [.v (.scr ns),.v T,.v T,.v B,.v (.int x),.v (.int y),.no] = .ok (.int (2 * d2 x y)):=by
        have l:mLst (zaa (mTup (zaa (mVar 4) (zaa (mVar 5) mNil))) (zaa (mTup (zaa (mVar 4) (zaa (mVar 5) mNil))) mNil)) [.v (.scr ns),.v T,.v T,.v B,.v (.int x),.v (.int y),.no] = .ok (.lst [.tup [.int x,.int y],.tup [.int x,.int y]]):=by simp [mLst,mTup,zaa,mNil,mVar,sizeLine]
        simp only [zau,zaa,mNil,l,mVar,List.getElem?_cons_succ,List.getElem?_cons_zero,R.bind_ok,hroads,R.nev_ok]
      have a4:m2 oMul (mC (.int 2)) (m2 oIxL (m2 oIxL (mRd 3) (mRd 4)) (mRd 5)) [.v (.scr ns),.v T,.v T,.v B,.v (.int x),.v (.int y),.no] = .ok (.int (2 * d2 x y)):=by simp [mRd,mC,tx,rxy,zd5 f2 fd]
      have w1:=zjD (d2 x y + d2 y x)
      have w2:=zjD (2 * d2 x y)
      rw [zbC (by simp [zap,mRd,c])]
      have s1:mIfS (mNot (zap (zau za5 (zaa (zau zbb (zaa (mVar 3) (zaa (mLst (zaa (mVar 4) (zaa (mVar 5) (zaa (mVar 4) mNil)))) mNil))) (zaa (m2 oAdd (m2 oIxL (m2 oIxL (mRd 3) (mRd 4)) (mRd 5)) (m2 oIxL (m2 oIxL (mRd 3) (mRd 5)) (mRd 4))) mNil))))) (mRet (mC (.bl false))) zbm [.v (.scr ns),.v T,.v T,.v B,.v (.int x),.v (.int y),.no] = .nx [.v (.scr ns),.v T,.v T,.v B,.v (.int x),.v (.int y),.no]:=by
        have b:zau za5 (zaa (zau zbb (zaa (mVar 3) (zaa (mLst (zaa (mVar 4) (zaa (mVar 5) (zaa (mVar 4) mNil)))) mNil))) (zaa (m2 oAdd (m2 oIxL (m2 oIxL (mRd 3) (mRd 4)) (mRd 5)) (m2 oIxL (m2 oIxL (mRd 3) (mRd 5)) (mRd 4))) mNil)) [.v (.scr ns),.v T,.v T,.v B,.v (.int x),.v (.int y),.no] = .ok (.bl true):=by
          show ((zaa _ (zaa _ mNil)) _).bind _=_
          simp only [zaa,mNil,a1,a2,R.bind_ok,w1,R.nev_ok]
        rw [za7 (by simp only [mNot,zap,b,R.bind_ok]; rfl)]; rfl
      refine (zaj s1).trans ?_
      have b:zau za5 (zaa (zau za0 (zaa (mVar 3) (zaa (mLst (zaa (mTup (zaa (mVar 4) (zaa (mVar 5) mNil))) (zaa (mTup (zaa (mVar 4) (zaa (mVar 5) mNil))) mNil))) mNil))) (zaa (m2 oMul (mC (.int 2)) (m2 oIxL (m2 oIxL (mRd 3) (mRd 4)) (mRd 5))) mNil)) [.v (.scr ns),.v T,.v T,.v B,.v (.int x),.v (.int y),.no] = .ok (.bl true):=by
        show ((zaa _ (zaa _ mNil)) _).bind _=_
        simp only [zaa,mNil,a3,a4,R.bind_ok,w2,R.nev_ok]
      rw [za7 (by simp only [mNot,zap,b,R.bind_ok]; rfl)]; rfl
  obtain ⟨δ,h1,o6,rfl⟩:=zaZ (b:=zan 6) (m:=ziV) D.int (fun _ δ=>∃ o6:Option D,δ = [.v (.scr ns),.v T,.v T,.v B,.v (.int x),.v (.int y),sv o6]) [0,1,2,3,4,5]
    (by
      rintro pre k post δ hall ⟨o6,rfl⟩
      refine ⟨[.v (.scr ns),.v T,.v T,.v B,.v (.int x),.v (.int y),.v (.int k)],[.v (.scr ns),.v T,.v T,.v B,.v (.int x),.v (.int y),.v (.int k)],zaw rfl,.inl ?_,some _,rfl⟩
      unfold ziV
      simp [mDo,zau,zaa,mNil,mVar,hask k])
    [.v (.scr ns),.v T,.v T,.v B,.v (.int x),.v (.int y),.no] ⟨none,rfl⟩
  have q6:zof [.v (.scr ns),.v T,.v T,.v B,.v (.int x),.v (.int y),.no]=_:=(zbB (rng6 _)).trans h1
  refine (zaj q1).trans ((zaj q2).trans ((zaj q3).trans ((zaj q4).trans ((zaj q5).trans ((zaj q6).trans ?_)))))
  have lt:zau zaD (zaa (mVar 1) mNil) [.v (.scr ns),.v T,.v T,.v B,.v (.int x),.v (.int y),sv o6] = .ok (.lst ((stR n d (n - 1)).map encR)):=by simp [zau,zaa,mNil,mVar,htree]
  have ll:fLen [.lst ((stR n d (n - 1)).map encR)]=some (.int ((n:Int) - 1)):=by
    simp only [fLen,List.length_map,zhl]
    congr 2
    omega
  simp [mRet,zkr,mRd,mC,mCB,zaa,mNil,lt,ll,lT,eq]
end My
namespace My
open PySem L2 PM PyProof.Rows
def top (i:Nat):Stmt:=PySem.Challenge.pw_goodenough_k14_lengths_refused.main.body.getD i (.Pass ⟨0,0,0,0⟩)
abbrev XO0:XOT:=fun _ _ _ _ _=>False
structure Adr where
  EnoughError:Addr
  NoShare:Addr
  NoLengths:Addr
  TooMany:Addr
  NoCover:Addr
  NoRoom:Addr
  NoText:Addr
  KnownPairs:Addr
def caT (ad:Adr):Nat→Addr
  | 0=>ad.EnoughError
  | 1=>ad.NoShare
  | 2=>ad.NoLengths
  | 3=>ad.TooMany
  | 4=>ad.NoCover
  | 5=>ad.NoRoom
  | 6=>ad.NoText
  | 7=>ad.KnownPairs
  | _=>0
def caF (ad:Adr) (c:Nat):Addr:=caT ad (c % 16)
def anT:Nat→Str
  | _=>Str.empty
def anF (c:Nat):Str:=anT (c % 16)
abbrev KX (K:PySem.W.Frag) (ad:Adr):Kx:=⟨K,caF ad,anF⟩
def zjT (K:PySem.W.Frag):Sp:=fun vs H Q _=>∃ (a:Addr) (ns:List Int),vs = [.ref a]∧SqL K H a (ns.map V.int)∧ns.length ≤ 63∧∀ H',Q (.bl true) H'
structure Txt (K:PySem.W.Frag) (mg:Str→Option Value) (ad:Adr):Prop where
  len:mg "len"=none
  abs:mg "abs"=none
  isinstance:mg "isinstance"=none
  list:mg "list"=none
  sum:mg "sum"=none
  int:mg "int"=none
  bool:mg "bool"=none
  tuple:mg "tuple"=none
  range:mg "range"=none
  enumerate:mg "enumerate"=none
  reversed:mg "reversed"=none
  min:mg "min"=none
  sorted:mg "sorted"=none
  ValueError:mg "ValueError"=none
  m_KnownPairs:mg "KnownPairs"=some (.ref ad.KnownPairs)
  cl_KnownPairs:Cls K ad.KnownPairs
  na_KnownPairs_known:NoAttr K ad.KnownPairs "known"
  na_KnownPairs_lengths:NoAttr K ad.KnownPairs "lengths"
  m_EnoughError:mg "EnoughError"=some (.ref ad.EnoughError)
  m_NoShare:mg "NoShare"=some (.ref ad.NoShare)
  m_NoLengths:mg "NoLengths"=some (.ref ad.NoLengths)
  m_TooMany:mg "TooMany"=some (.ref ad.TooMany)
  m_NoCover:mg "NoCover"=some (.ref ad.NoCover)
  m_NoRoom:mg "NoRoom"=some (.ref ad.NoRoom)
  m_NoText:mg "NoText"=some (.ref ad.NoText)
  e_NoLengths:PySem.W.excIn K ad.NoLengths [.type "ValueError",.type "Exception",.type "BaseException",.type "object"] "ValueError.__new__"=true
  b_EnoughError:PySem.W.mroIn K ad.EnoughError (.type "BaseException")=some true
  b_NoLengths:PySem.W.mroIn K ad.NoLengths (.type "BaseException")=some true
  z_NoLengths:ExcCls K ad.NoLengths
  kc_NoLengths_EnoughError:PySem.W.kitCls K (.ref ad.NoLengths) (.ref ad.EnoughError)=some true
  kc_NoLengths_NoLengths:PySem.W.kitCls K (.ref ad.NoLengths) (.ref ad.NoLengths)=some true
  k_NoLengths_NoShare:PySem.W.kitOne K (.ref ad.NoLengths) (.ref ad.NoShare)=some false
  k_NoLengths_TooMany:PySem.W.kitOne K (.ref ad.NoLengths) (.ref ad.TooMany)=some false
  k_NoLengths_NoCover:PySem.W.kitOne K (.ref ad.NoLengths) (.ref ad.NoCover)=some false
  k_NoLengths_NoRoom:PySem.W.kitOne K (.ref ad.NoLengths) (.ref ad.NoRoom)=some false
  k_NoLengths_NoText:PySem.W.kitOne K (.ref ad.NoLengths) (.ref ad.NoText)=some false
  k_NoLengths_ValueError:PySem.W.kitOne K (.ref ad.NoLengths) (.type "ValueError")=some true
section
variable {P:Program} {w:World} {K:PySem.W.Frag} {mg:Str→Option Value} {base:Heap} {ad:Adr}
theorem zgH (T:Txt K mg ad):∀ c,zc2 c=true→PySem.W.kitCls (KX K ad).f (.ref ((KX K ad).ca c)) (.ref ad.EnoughError)=some true:=by
  have key:∀ r,zdK r=true→PySem.W.kitCls K (.ref (caT ad r)) (.ref ad.EnoughError)=some true:=by
    intro c h
    match c,h with
    | 2,_=>exact T.kc_NoLengths_EnoughError
  exact fun c h=>key (c % 16) h
theorem zh0 (T:Txt K mg ad):∀ c,zdz c=true→PySem.W.kitCls (KX K ad).f (.ref ((KX K ad).ca c)) (.ref ad.NoLengths)=some true:=by
  have key:∀ r,zeG r=true→PySem.W.kitCls K (.ref (caT ad r)) (.ref ad.NoLengths)=some true:=by
    intro c h
    match c,h with
    | 2,_=>exact T.kc_NoLengths_NoLengths
  exact fun c h=>key (c % 16) h
theorem zkg (T:Txt K mg ad):∀ c b,zfY c=some b→ExcCls (KX K ad).f ((KX K ad).ca c)∧PySem.W.kitOne (KX K ad).f (.ref ((KX K ad).ca c)) (.ref ad.NoShare)=some b:=by
  have key:∀ r b,zfE r=some b→ExcCls K (caT ad r)∧PySem.W.kitOne K (.ref (caT ad r)) (.ref ad.NoShare)=some b:=by
    intro c b h
    match c,h with
    | 2,h=>cases h; exact ⟨T.z_NoLengths,T.k_NoLengths_NoShare⟩
  exact fun c b h=>key (c % 16) b h
theorem zkK (T:Txt K mg ad):∀ c b,zgx c=some b→ExcCls (KX K ad).f ((KX K ad).ca c)∧PySem.W.kitOne (KX K ad).f (.ref ((KX K ad).ca c)) (.ref ad.TooMany)=some b:=by
  have key:∀ r b,zfF r=some b→ExcCls K (caT ad r)∧PySem.W.kitOne K (.ref (caT ad r)) (.ref ad.TooMany)=some b:=by
    intro c b h
    match c,h with
    | 2,h=>cases h; exact ⟨T.z_NoLengths,T.k_NoLengths_TooMany⟩
  exact fun c b h=>key (c % 16) b h
theorem zj8 (T:Txt K mg ad):∀ c b,zf4 c=some b→ExcCls (KX K ad).f ((KX K ad).ca c)∧PySem.W.kitOne (KX K ad).f (.ref ((KX K ad).ca c)) (.ref ad.NoCover)=some b:=by
  have key:∀ r b,zfx r=some b→ExcCls K (caT ad r)∧PySem.W.kitOne K (.ref (caT ad r)) (.ref ad.NoCover)=some b:=by
    intro c b h
    match c,h with
    | 2,h=>cases h; exact ⟨T.z_NoLengths,T.k_NoLengths_NoCover⟩
  exact fun c b h=>key (c % 16) b h
theorem zmJ (T:Txt K mg ad):∀ c b,zhe c=some b→ExcCls (KX K ad).f ((KX K ad).ca c)∧PySem.W.kitOne (KX K ad).f (.ref ((KX K ad).ca c)) (.ref ad.NoRoom)=some b:=by
  have key:∀ r b,zgt r=some b→ExcCls K (caT ad r)∧PySem.W.kitOne K (.ref (caT ad r)) (.ref ad.NoRoom)=some b:=by
    intro c b h
    match c,h with
    | 2,h=>cases h; exact ⟨T.z_NoLengths,T.k_NoLengths_NoRoom⟩
  exact fun c b h=>key (c % 16) b h
theorem zms (T:Txt K mg ad):∀ c b,zg8 c=some b→ExcCls (KX K ad).f ((KX K ad).ca c)∧PySem.W.kitOne (KX K ad).f (.ref ((KX K ad).ca c)) (.ref ad.NoText)=some b:=by
  have key:∀ r b,zfZ r=some b→ExcCls K (caT ad r)∧PySem.W.kitOne K (.ref (caT ad r)) (.ref ad.NoText)=some b:=by
    intro c b h
    match c,h with
    | 2,h=>cases h; exact ⟨T.z_NoLengths,T.k_NoLengths_NoText⟩
  exact fun c b h=>key (c % 16) b h
theorem zhv (T:Txt K mg ad):∀ c b,zeB c=some b→ExcCls (KX K ad).f ((KX K ad).ca c)∧PySem.W.kitOne (KX K ad).f (.ref ((KX K ad).ca c)) (.type "ValueError")=some b:=by
  have key:∀ r b,zd8 r=some b→ExcCls K (caT ad r)∧PySem.W.kitOne K (.ref (caT ad r)) (.type "ValueError")=some b:=by
    intro c b h
    match c,h with
    | 2,h=>cases h; exact ⟨T.z_NoLengths,T.k_NoLengths_ValueError⟩
  exact fun c b h=>key (c % 16) b h
theorem zqL (T:Txt K mg ad):∀ c,znB c=true→Cls (KX K ad).f ((KX K ad).ca c)∧NoAttr (KX K ad).f ((KX K ad).ca c) "known":=by
  intro c h
  match c,h with
  | 7,_=>exact ⟨T.cl_KnownPairs,T.na_KnownPairs_known⟩
theorem zjg (T:Txt K mg ad):Cls (KX K ad).f ((KX K ad).ca 7)∧NoAttr (KX K ad).f ((KX K ad).ca 7) "known":=⟨T.cl_KnownPairs,T.na_KnownPairs_known⟩
theorem zpu (T:Txt K mg ad):∀ c,zkz c=true→Cls (KX K ad).f ((KX K ad).ca c)∧NoAttr (KX K ad).f ((KX K ad).ca c) "lengths":=by
  intro c h
  match c,h with
  | 7,_=>exact ⟨T.cl_KnownPairs,T.na_KnownPairs_lengths⟩
theorem zhY (T:Txt K mg ad):Cls (KX K ad).f ((KX K ad).ca 7)∧NoAttr (KX K ad).f ((KX K ad).ca 7) "lengths":=⟨T.cl_KnownPairs,T.na_KnownPairs_lengths⟩
abbrev zdw:Stmt:=top 27
theorem zgI:FnScope ["_law_script","_law_k"] ["_law_script","_law_k"] (zao zdw):=⟨rfl,rfl,rfl,by decide +kernel,rfl,by decide +kernel,by decide +kernel⟩
theorem zgN {f:Addr} {fd:FuncData} (F:Fun K "_law_cell_at" "_law_cell_at" zdw f fd) (T:Txt K mg ad)  : FnOk P w K mg base CX0 1 f fd ["_law_script","_law_k"] (spM (KX K ad) (xoK (KX K ad)) zaE):=by
  refine F.ok zgI (fun vs H Q E h=>zce h) (fun cdv A outer s H vs Q E hr h=>?_)
  have hu:=zcb hr
  exact ⟨_,(zaf (zcg (zaP zp1 (pv 1) (zax zaI (by rfl) T.len PySem.boot_len (zab (pv 0) zae)) (za3 _))
      (zah (zaN (zaH zav (pv 0) (pv 1) (fun _ _=>rfl))))
      zbf)
      (zah (zaN zam))),ze3 (K:=(KX K ad)) (XO:=(xoK (KX K ad))) (E:=E) (np:=2) (nv:=0) (m:=zcN)
      (zas (zcD (zaM (zak zpN zac ((zdo zdp (zaJ zac zaW))).r))
      (zbL (zak zaG zac zac))
      zbr)
      (zbL se_int)) rfl h⟩
abbrev zef:Stmt:=top 28
theorem sc_law_number:FnScope ["_law_script","_law_k","_law_top","_law_cell","_law_high","_law_low"] ["_law_script","_law_k","_law_top"] (zao zef):=⟨rfl,rfl,rfl,by decide +kernel,rfl,by decide +kernel,by decide +kernel⟩
theorem zhI {f:Addr} {fd:FuncData} (F:Fun K "_law_number" "_law_number" zef f fd) (T:Txt K mg ad) (G_law_cell_at:Has P w K mg base CX0 1 "_law_cell_at" ["_law_script","_law_k"] (spM (KX K ad) (xoK (KX K ad)) zaE)):FnOk P w K mg base CX0 2 f fd ["_law_script","_law_k","_law_top"] (spM (KX K ad) (xoK (KX K ad)) zaK):=by
  refine F.ok sc_law_number (fun vs H Q E h=>zce h) (fun cdv A outer s H vs Q E hr h=>?_)
  have hu:=zcb hr
  exact ⟨_,(zaf (zaL (i:=3) sc_law_number.nd rfl (by first | exact Or.inl rfl | exact Or.inr rfl) (zaA zcE (zbv G_law_cell_at (hr.mono (by decide)) (by rfl) zcw (zab (pv 0) (zab (pv 1) zae))) (zaA zjY zam zam)))
      (zaf (zaL (i:=4) sc_law_number.nd rfl (by first | exact Or.inl rfl | exact Or.inr rfl) (zaA zcE (zaA zbh (zaA zcy (pv 3) zam) (zaA zcy (zaA zcy (zaA zbh (pv 1) zam) (zaA zbh (pv 1) zam)) zam)) zam))
      (zaf (zaL (i:=5) sc_law_number.nd rfl (by first | exact Or.inl rfl | exact Or.inr rfl) (zaA zcE (zaA zbh (zaA zbh (zaA zcy (pv 3) zam) (zaA zcy (zaA zcy (pv 1) (pv 1)) zam)) zam) zam))
      (zah (zaN (zaA zcE (zaA zbh (zaA zcy (pv 4) zam) (pv 5)) (zaA zbh (pv 2) zam))))))),ze3 (K:=(KX K ad)) (XO:=(xoK (KX K ad))) (E:=E) (np:=3) (nv:=3) (m:=zfy)
      (zas (zbd (zak zcI ((zbi (zad zai (zad zai zar)))).r ((zak zj3 (se_int).r (se_int).r)).r) zat)
      (zas (zbd (zak zcI ((zak zbj ((zak zdQ zac (se_int).r)).r ((zak zdQ ((zak zdQ ((zak zbj zac (se_int).r)).r ((zak zbj zac (se_int).r)).r)).r (se_int).r)).r)).r (se_int).r) zat)
      (zas (zbd (zak zcI ((zak zbj ((zak zbj ((zak zdQ zac (se_int).r)).r ((zak zdQ ((zak zdQ zac zac)).r (se_int).r)).r)).r (se_int).r)).r (se_int).r) zat)
      (zbL (zak zcI ((zak zbj ((zak zdQ zac (se_int).r)).r zac)).r ((zak zbj zac (se_int).r)).r))))) rfl h⟩
abbrev zdq:Stmt:=top 29
theorem sc_law_grid:FnScope ["_law_script","_law_many","_law_top","_law_spots","_law_lengths_here","_law_x","_law_y"] ["_law_script","_law_many","_law_top"] (zao zdq):=⟨rfl,rfl,rfl,by decide +kernel,rfl,by decide +kernel,by decide +kernel⟩
theorem ziE {f:Addr} {fd:FuncData} (F:Fun K "_law_grid" "_law_grid" zdq f fd) (T:Txt K mg ad) (G_law_number:Has P w K mg base CX0 2 "_law_number" ["_law_script","_law_k","_law_top"] (spM (KX K ad) (xoK (KX K ad)) zaK)):FnOk P w K mg base CX0 3 f fd ["_law_script","_law_many","_law_top"] (spO (KX K ad) (xoK (KX K ad)) zci):=by
  refine F.ok sc_law_grid (fun vs H Q E h=>zdg h) (fun cdv A outer s H vs Q E hr h=>?_)
  have hu:=zcb hr
  exact ⟨_,(zaf (zf9 (i:=3) sc_law_grid.nd rfl (by first | exact Or.inl rfl | exact Or.inr rfl) rfl (zaR rfl T.range (zab (pv 1) zae)) (zdR (zao zdq) ["_law_script","_law_many","_law_top","_law_spots","_law_lengths_here","_law_x","_law_y"] ["_law_script","_law_top","_law_k"] [0,2] 1 rfl rfl rfl (by decide +kernel) (by decide +kernel) (by decide +kernel) rfl (by decide +kernel) (fun cl C s H fp pins=>(zay (i:=2) (show List.Nodup (["_law_script","_law_top","_law_k"]:List Str) by decide +kernel) rfl (Or.inl rfl))) (fun cl C s H fp pins=>(zem (zab (zbv G_law_number (hr.mono (by decide)) (by rfl) zcw (zab (pv 0) (zab (zaA zbh zam (zaA zcy zam (pv 2))) (zab (pv 1) zae)))) (zab (zbv G_law_number (hr.mono (by decide)) (by rfl) zcw (zab (pv 0) (zab (zaA zbh zam (zaA zcy zam (pv 2))) (zab (pv 1) zae)))) zae)))) (Or.inl ⟨rfl,rfl⟩)) rfl)
      (zaf (zaL (i:=4) sc_law_grid.nd rfl (by first | exact Or.inl rfl | exact Or.inr rfl) (zcY zae))
      (zaf (zbM PassesOwn.never rfl (zdk (pv 3)) (zjR rfl (zb0 (zay (i:=5) sc_law_grid.nd rfl (by first | exact Or.inl rfl | exact Or.inr rfl)) (zb0 (zay (i:=6) sc_law_grid.nd rfl (by first | exact Or.inl rfl | exact Or.inr rfl)) zgq)))
      (zah (zbl (zgL PySem.F.plainAttrs_list PySem.F.slot_list_append PySem.F.type_list_append zb6 (pv 4) (zab (zeJ rfl (zdk (pv 3)) (zdR (zao zdq) ["_law_script","_law_many","_law_top","_law_spots","_law_lengths_here","_law_x","_law_y"] ["_law_x","_law_y","_law_other"] [5,6] 1 rfl rfl rfl (by decide +kernel) (by decide +kernel) (by decide +kernel) rfl (by decide +kernel) (fun cl C s H fp pins=>(zay (i:=2) (show List.Nodup (["_law_x","_law_y","_law_other"]:List Str) by decide +kernel) rfl (Or.inl rfl))) (fun cl C s H fp pins=>(zaA zbh (zax zjW (by rfl) (by exact T.abs) boot_abs (zab (zaA zg4 (pv 0) (zaH zcH (pv 2) zam (fun _ _=>rfl))) zae)) (zax zjW (by rfl) (by exact T.abs) boot_abs (zab (zaA zg4 (pv 1) (zaH zcH (pv 2) zam (fun _ _=>rfl))) zae)))) (Or.inl ⟨rfl,rfl⟩))) zae)))))
      (zah (zaN (pv 4)))))),zeE (K:=(KX K ad)) (XO:=(xoK (KX K ad))) (E:=E) (np:=3) (nv:=4) (m:=zhd)
      (zas (zbd ((zcM (zaS len1 (zad zai zar)).c (by decide) zbP zcC (Or.inl ⟨rfl,rfl⟩) (zgD (zad (zbi (zad zai (zad (zak zbj (se_int).r ((zak zdQ (se_int).r zac)).r) (zad zai zar)))) (zad (zbi (zad zai (zad (zak zbj (se_int).r ((zak zdQ (se_int).r zac)).r) (zad zai zar)))) zar))))).e zat)
      (zas (zdH (zbR zar))
      (zas (zbN (zgi zai) (zjL (zbV zat (zbV zat zgw)))
      (zc3 ((zcM (ze9 zac) (by decide) zbP zcC (Or.inl ⟨rfl,rfl⟩) (zak zbj ((zdo zn3 (zaJ ((zak zhb zac ((zak zcG zac (se_int).r)).r)).r zaW))).r ((zdo zn3 (zaJ ((zak zhb zac ((zak zcG zac (se_int).r)).r)).r zaW))).r))).e))
      zhk))) rfl h⟩
abbrev zdj:Stmt:=top 30
theorem sc_law_shortest:FnScope ["_law_lengths_here","_law_amid","_law_one","_law_other","_law_both"] ["_law_lengths_here"] (zao zdj):=⟨rfl,rfl,rfl,by decide +kernel,rfl,by decide +kernel,by decide +kernel⟩
theorem zga {f:Addr} {fd:FuncData} (F:Fun K "_law_shortest" "_law_shortest" zdj f fd) (T:Txt K mg ad)  : FnOk P w K mg base CX0 1 f fd ["_law_lengths_here"] (spT (KX K ad) (xoK (KX K ad)) zbe):=by
  refine F.ok sc_law_shortest (fun vs H Q E h=>zpd h) (fun cdv A outer s H vs Q E hr h=>?_)
  have hu:=zcb hr
  exact ⟨_,(zaf (zbM PassesOwn.never rfl (zaR rfl T.range (zab (zax zaI (by rfl) T.len PySem.boot_len (zab (pv 0) zae)) zae)) (zay (i:=1) sc_law_shortest.nd rfl (by first | exact Or.inl rfl | exact Or.inr rfl))
      (zah (zbM PassesOwn.never rfl (zaR rfl T.range (zab (zax zaI (by rfl) T.len PySem.boot_len (zab (pv 0) zae)) zae)) (zay (i:=2) sc_law_shortest.nd rfl (by first | exact Or.inl rfl | exact Or.inr rfl))
      (zah (zbM PassesOwn.never rfl (zaR rfl T.range (zab (zax zaI (by rfl) T.len PySem.boot_len (zab (pv 0) zae)) zae)) (zay (i:=3) sc_law_shortest.nd rfl (by first | exact Or.inl rfl | exact Or.inr rfl))
      (zaf (zaL (i:=4) sc_law_shortest.nd rfl (by first | exact Or.inl rfl | exact Or.inr rfl) (zaA zbh (zaH zav (zaH zav (pv 0) (pv 2) (fun _ _=>rfl)) (pv 1) (fun _ _=>rfl)) (zaH zav (zaH zav (pv 0) (pv 1) (fun _ _=>rfl)) (pv 3) (fun _ _=>rfl))))
      (zah (zfJ (zax (zlk rfl) (by rfl) T.min boot_min (zab (zaH zav (zaH zav (pv 0) (pv 2) (fun _ _=>rfl)) (pv 3) (fun _ _=>rfl)) (zab (pv 4) zae))) (zgh (zaH zav (pv 0) (pv 2) (fun _ _=>rfl)) (pv 3) zdv)))))))))
      (zah (zaN (pv 0)))),zp3 (K:=(KX K ad)) (XO:=(xoK (KX K ad))) (E:=E) (nv:=4) (m:=zco)
      (zas (zbN (zaS len1 (zad (zd0 (zdo zdp (zaJ zac zaW))) zar)) zat
      (zbN (zaS len1 (zad (zd0 (zdo zdp (zaJ zac zaW))) zar)) zat
      (zbN (zaS len1 (zad (zd0 (zdo zdp (zaJ zac zaW))) zar)) zat
      (zas (zbd (zd0 (zak zbj ((zak zaG ((zak zaG zac zac)).r zac)).r ((zak zaG ((zak zaG zac zac)).r zac)).r)) zat)
      (zeL zai zai (zd0 (zdo zoW (zaJ ((zak zaG ((zak zaG zac zac)).r zac)).r (zaJ zac zaW)))))))))
      zmx) rfl h⟩
abbrev zbX:Stmt:=top 31
theorem sc_law_lengths:FnScope ["_law_script","_law_most","_law_head","_law_many","_law_way","_law_top","_law_lengths_here","_law_one","_law_other","_law_number_here"] ["_law_script","_law_most"] (zao zbX):=⟨rfl,rfl,rfl,by decide +kernel,rfl,by decide +kernel,by decide +kernel⟩
theorem zgQ {f:Addr} {fd:FuncData} (F:Fun K "_law_lengths" "_law_lengths" zbX f fd) (T:Txt K mg ad) (G_law_cell_at:Has P w K mg base CX0 1 "_law_cell_at" ["_law_script","_law_k"] (spM (KX K ad) (xoK (KX K ad)) zaE)) (G_law_number:Has P w K mg base CX0 2 "_law_number" ["_law_script","_law_k","_law_top"] (spM (KX K ad) (xoK (KX K ad)) zaK)) (G_law_grid:Has P w K mg base CX0 3 "_law_grid" ["_law_script","_law_many","_law_top"] (spO (KX K ad) (xoK (KX K ad)) zci)) (G_law_shortest:Has P w K mg base CX0 1 "_law_shortest" ["_law_lengths_here"] (spT (KX K ad) (xoK (KX K ad)) zbe)):FnOk P w K mg base CX0 4 f fd ["_law_script","_law_most"] (spO (KX K ad) (xoK (KX K ad)) zbp):=by
  refine F.ok sc_law_lengths (fun vs H Q E h=>zdg h) (fun cdv A outer s H vs Q E hr h=>?_)
  have hu:=zcb hr
  exact ⟨_,(zaf (zaL (i:=2) sc_law_lengths.nd rfl (by first | exact Or.inl rfl | exact Or.inr rfl) (zbv G_law_cell_at (hr.mono (by decide)) (by rfl) zcw (zab (pv 0) (zab zam zae))))
      (zaf (zaL (i:=3) sc_law_lengths.nd rfl (by first | exact Or.inl rfl | exact Or.inr rfl) (zaA zbh zam (zaA zcE (pv 2) zam)))
      (zaf (zcg (zaP zd3 (zaA zcE (zaA zcl (pv 2) zam) zam) zam (za3 _))
      (zah (zaL (i:=3) sc_law_lengths.nd rfl (by first | exact Or.inl rfl | exact Or.inr rfl) (zaA zbh zam (zaA zcE (zaA zcl (pv 2) zam) zam))))
      zbf)
      (zaf (zaL (i:=4) sc_law_lengths.nd rfl (by first | exact Or.inl rfl | exact Or.inr rfl) (zaA zcE (zaA zcl (pv 2) zam) zam))
      (zaf (zaL (i:=5) sc_law_lengths.nd rfl (by first | exact Or.inl rfl | exact Or.inr rfl) (zaH zav (zcY (zab zam (zab zam (zab (pv 1) zae)))) (zaA zcE (zaA zcl (pv 2) zam) zam) (fun _ _=>rfl)))
      (zaf (zcg (zaP zd3 (pv 4) zam (za3 _))
      (zah (zaN (zbv G_law_grid (hr.mono (by decide)) (by rfl) zcw (zab (pv 0) (zab (pv 3) (zab (pv 5) zae))))))
      zbf)
      (zaf (zf9 (i:=6) sc_law_lengths.nd rfl (by first | exact Or.inl rfl | exact Or.inr rfl) rfl (zaR rfl T.range (zab (pv 3) zae)) (zdR (zao zbX) ["_law_script","_law_most","_law_head","_law_many","_law_way","_law_top","_law_lengths_here","_law_one","_law_other","_law_number_here"] ["_law_many","_law_one"] [3] 1 rfl rfl rfl (by decide +kernel) (by decide +kernel) (by decide +kernel) rfl (by decide +kernel) (fun cl C s H fp pins=>(zay (i:=1) (show List.Nodup (["_law_many","_law_one"]:List Str) by decide +kernel) rfl (by first | exact Or.inl rfl | exact Or.inr rfl))) (fun cl C s H fp pins=>(zeJ rfl (zaR (by rfl) (by exact T.range) (zab (pv 0) zae)) (zdR (znt _ (zao zbX)) ["_law_many","_law_one"] ["_law_other"] [] 1 rfl rfl rfl (by decide +kernel) (by decide +kernel) (by decide +kernel) rfl (by decide +kernel) (fun cl C s H fp pins=>(zay (i:=0) (show List.Nodup (["_law_other"]:List Str) by decide +kernel) rfl (Or.inl rfl))) (fun cl C s H fp pins=>zam) (Or.inl ⟨rfl,rfl⟩)))) (Or.inl ⟨rfl,rfl⟩)) rfl)
      (zaf (zbM PassesOwn.never rfl (zaR rfl T.range (zab (pv 3) zae)) (zay (i:=7) sc_law_lengths.nd rfl (by first | exact Or.inl rfl | exact Or.inr rfl))
      (zah (zbM PassesOwn.never rfl (zaR rfl T.range (zab (pv 7) zae)) (zay (i:=8) sc_law_lengths.nd rfl (by first | exact Or.inl rfl | exact Or.inr rfl))
      (zaf (zaL (i:=9) sc_law_lengths.nd rfl (by first | exact Or.inl rfl | exact Or.inr rfl) (zbv G_law_number (hr.mono (by decide)) (by rfl) zcw (zab (pv 0) (zab (zaA zbh (zaA zbh zam (zaA zcl (zaA zcy (pv 7) (zaA zg4 (pv 7) zam)) zam)) (pv 8)) (zab (pv 5) zae)))))
      (zaf (zcg (zaP zd3 (pv 4) zam (za3 _))
      (zah (zaL (i:=9) sc_law_lengths.nd rfl (by first | exact Or.inl rfl | exact Or.inr rfl) (zaA zbh (pv 9) (pv 5))))
      zbf)
      (zaf (zfJ (pv 9) (zgh (zaH zav (pv 6) (pv 7) (fun _ _=>rfl)) (pv 8) zdv))
      (zah (zfJ (pv 9) (zgh (zaH zav (pv 6) (pv 8) (fun _ _=>rfl)) (pv 7) zdv)))))))))
      (zaf (zcg (zaP zd3 (pv 4) zam (za3 _))
      (zah (zaN (zbv G_law_shortest (hr.mono (by decide)) (by rfl) zcw (zab (pv 6) zae))))
      zbf)
      (zah (zaN (pv 6)))))))))))),zeE (K:=(KX K ad)) (XO:=(xoK (KX K ad))) (E:=E) (np:=2) (nv:=8) (m:=zfi)
      (zas (zbd (zbi (zad zai (zad se_int zar))) zat)
      (zas (zbd (zak zbj (se_int).r ((zak zcI zac (se_int).r)).r) zat)
      (zas (zcD (zaM (zak zd9 ((zak zcI ((zak zeA zac (se_int).r)).r (se_int).r)).r (se_int).r))
      (zbd (zak zbj (se_int).r ((zak zcI ((zak zeA zac (se_int).r)).r (se_int).r)).r) zat)
      zbr)
      (zas (zbd (zak zcI ((zak zeA zac (se_int).r)).r (se_int).r) zat)
      (zas (zbd (zak zaG ((zbR (zad se_int (zad se_int (zad zai zar))))).e.r ((zak zcI ((zak zeA zac (se_int).r)).r (se_int).r)).r) zat)
      (zas (zcD (zaM (zak zd9 zac (se_int).r))
      (zd1 (zdu (zad zai (zad zai (zad zai zar)))))
      zbr)
      (zas (zld (zjr (zaS len1 (zad zai zar)).c (by decide) zbP zcC (zcM (zaS len1 (zad zai zar)).c (by decide) zbP zcC (Or.inl ⟨rfl,rfl⟩) se_int)))
      (zas (zbN (zaS len1 (zad zai zar)) zat
      (zbN (zaS len1 (zad zai zar)) zat
      (zas (zbd (zbi (zad zai (zad (zak zbj ((zak zbj (se_int).r ((zak zeA ((zak zdQ zac ((zak zhb zac (se_int).r)).r)).r (se_int).r)).r)).r zac) (zad zai zar)))) zat)
      (zas (zcD (zaM (zak zd9 zac (se_int).r))
      (zbd (zak zbj zac zac) zat)
      zbr)
      (zas (zeL zai zai zai)
      (zeL zai zai zai))))))
      (zas (zcD (zaM (zak zd9 zac (se_int).r))
      zmT
      zbr)
      zmx))))))))) rfl h⟩
abbrev zb7:Stmt:=top 32
theorem sc_law_spoiled:FnScope ["_law_lengths_here","_law_number_here","_law_bad","_law_many","_law_one","_law_other","_law_ways"] ["_law_lengths_here","_law_number_here"] (zao zb7):=⟨rfl,rfl,rfl,by decide +kernel,rfl,by decide +kernel,by decide +kernel⟩
theorem zgR {f:Addr} {fd:FuncData} (F:Fun K "_law_spoiled" "_law_spoiled" zb7 f fd) (T:Txt K mg ad)  : FnOk P w K mg base CX0 1 f fd ["_law_lengths_here","_law_number_here"] (spO (KX K ad) (xoK (KX K ad)) zbu):=by
  refine F.ok sc_law_spoiled (fun vs H Q E h=>zdg h) (fun cdv A outer s H vs Q E hr h=>?_)
  have hu:=zcb hr
  exact ⟨_,(zaf (zaL (i:=2) sc_law_spoiled.nd rfl (by first | exact Or.inl rfl | exact Or.inr rfl) (zeJ rfl (zdk (pv 0)) (zdR (zao zb7) ["_law_lengths_here","_law_number_here","_law_bad","_law_many","_law_one","_law_other","_law_ways"] ["_law_line"] [] 1 rfl rfl rfl (by decide +kernel) (by decide +kernel) (by decide +kernel) rfl (by decide +kernel) (fun cl C s H fp pins=>(zay (i:=0) (show List.Nodup (["_law_line"]:List Str) by decide +kernel) rfl (Or.inl rfl))) (fun cl C s H fp pins=>(zcv zcs (by rfl) T.list boot_list (zab (pv 0) zae))) (Or.inl ⟨rfl,rfl⟩))))
      (zaf (zaL (i:=3) sc_law_spoiled.nd rfl (by first | exact Or.inl rfl | exact Or.inr rfl) (zax zaI (by rfl) T.len PySem.boot_len (zab (pv 2) zae)))
      (zaf (zaL (i:=4) sc_law_spoiled.nd rfl (by first | exact Or.inl rfl | exact Or.inr rfl) (zaA zcE (pv 1) (pv 3)))
      (zaf (zcg ((zhW (zaP zd3 (pv 3) zam (za3 _)) (zgX (zaP zd3 (zaA zcE (zaA zcl (pv 1) zam) zam) zam (za3 _))))).pt
      (zaf (zfJ (zaA zbh zam (zaA zcE (zaA zcl (pv 1) zam) (zaA zjY zam zam))) (zgh (zaH zav (pv 2) (pv 4) (fun _ _=>rfl)) (pv 4) zdv))
      (zah (zaN (zcY (zab (pv 2) (zab (pv 4) (zab (pv 4) zae)))))))
      zbf)
      (zaf (zaL (i:=5) sc_law_spoiled.nd rfl (by first | exact Or.inl rfl | exact Or.inr rfl) (zaA zcE (zaA zbh (zaA zbh (pv 4) zam) (zaA zcE (zaA zcl (pv 1) zam) (zaA zg4 (pv 3) zam))) (pv 3)))
      (zaf (zcg ((zhW (zaP zd3 (pv 3) zam (za3 _)) (zgX (zaP zd3 (zaA zcE (zaA zcl (pv 1) zam) zam) zam (za3 _))))).pt
      (zaf (zfJ (zaA zbh (zaH zav (zaH zav (pv 2) (pv 4) (fun _ _=>rfl)) (pv 5) (fun _ _=>rfl)) zam) (zgh (zaH zav (pv 2) (pv 4) (fun _ _=>rfl)) (pv 5) zdv))
      (zah (zaN (zcY (zab (pv 2) (zab (pv 4) (zab (pv 5) zae)))))))
      zbf)
      (zaf (zf9 (i:=6) sc_law_spoiled.nd rfl (by first | exact Or.inl rfl | exact Or.inr rfl) rfl (zaR rfl T.range (zab (pv 3) zae)) (zdR (zao zb7) ["_law_lengths_here","_law_number_here","_law_bad","_law_many","_law_one","_law_other","_law_ways"] ["_law_other","_law_bad","_law_one","_law_amid"] [5,2,4] 1 rfl rfl rfl (by decide +kernel) (by decide +kernel) (by decide +kernel) rfl (by decide +kernel) (fun cl C s H fp pins=>(zay (i:=3) (show List.Nodup (["_law_other","_law_bad","_law_one","_law_amid"]:List Str) by decide +kernel) rfl (Or.inl rfl))) (fun cl C s H fp pins=>(zaA zbh (zaH zav (zaH zav (pv 1) (pv 2) (fun _ _=>rfl)) (pv 3) (fun _ _=>rfl)) (zaH zav (zaH zav (pv 1) (pv 3) (fun _ _=>rfl)) (pv 0) (fun _ _=>rfl)))) (Or.inr ⟨_,_,rfl,rfl,fun cl C s H fp pins=>((zpA (zaP zly (pv 3) (pv 2) (za3 _)) (zo9 (zaP zly (pv 3) (pv 0) (za3 _))))).pt⟩)) rfl)
      (zaf (zfJ (zaA zbh (zaA zbh (zax (zk6 rfl) (by rfl) T.min boot_min (zab (pv 6) zae)) zam) (zaA zcE (zaA zcl (pv 1) zam) zam)) (zgh (zaH zav (pv 2) (pv 4) (fun _ _=>rfl)) (pv 5) zdv))
      (zaf (zfJ (zaH zav (zaH zav (pv 2) (pv 4) (fun _ _=>rfl)) (pv 5) (fun _ _=>rfl)) (zgh (zaH zav (pv 2) (pv 5) (fun _ _=>rfl)) (pv 4) zdv))
      (zah (zaN (zcY (zab (pv 2) (zab (pv 4) (zab (pv 5) zae))))))))))))))),zeE (K:=(KX K ad)) (XO:=(xoK (KX K ad))) (E:=E) (np:=2) (nv:=5) (m:=ze4)
      (zas (zld (zjr (ze9 zac) (by decide) zbP zcC (zih zhy (zaJ zac zaW))))
      (zas (zbd (zd0 (zdo zdp (zaJ zac zaW))) zat)
      (zas (zbd (zak zcI zac zac) zat)
      (zas (zcD (ziq (zaM (zak zd9 zac (se_int).r)) (zaM (zak zd9 ((zak zcI ((zak zeA zac (se_int).r)).r (se_int).r)).r (se_int).r)))
      (zas (zeL zai zai (zak zbj (se_int).r ((zak zcI ((zak zeA zac (se_int).r)).r ((zak zj3 (se_int).r (se_int).r)).r)).r))
      (zjn (i:=2) (zd1 (zbR (zad zai (zad zai (zad zai zar)))))))
      zbr)
      (zas (zbd (zak zcI ((zak zbj ((zak zbj zac (se_int).r)).r ((zak zcI ((zak zeA zac (se_int).r)).r ((zak zhb zac (se_int).r)).r)).r)).r zac) zat)
      (zas (zcD (ziq (zaM (zak zd9 zac (se_int).r)) (zaM (zak zd9 ((zak zcI ((zak zeA zac (se_int).r)).r (se_int).r)).r (se_int).r)))
      (zas (zeL zai zai (zd0 (zak zbj ((zak zaG ((zak zaG zac zac)).r zac)).r (se_int).r)))
      (zjn (i:=2) (zd1 (zbR (zad zai (zad zai (zad zai zar)))))))
      zbr)
      (zas (zbd ((zmN (zcM (zaS len1 (zad zai zar)).c (by decide) zbP zcC (Or.inr ⟨_,_,rfl,rfl,(zpK (zaM (zak zlQ zac zac)) (zaM (zak zlQ zac zac)))⟩) (zak zbj ((zak zaG ((zak zaG zac zac)).r zac)).r ((zak zaG ((zak zaG zac zac)).r zac)).r)))).e zat)
      (zas (zeL zai zai (zak zbj ((zak zbj ((zdo zo7 (zaJ zac zaW))).r (se_int).r)).r ((zak zcI ((zak zeA zac (se_int).r)).r (se_int).r)).r))
      (zas (zeL zai zai (zd0 (zak zaG ((zak zaG zac zac)).r zac)))
      (zjn (i:=2) (zd1 (zbR (zad zai (zad zai (zad zai zar))))))))))))))) rfl h⟩
abbrev zgd:Stmt:=top 9
theorem sc_look_at:FnScope ["lengths","count","a","b","c"] ["lengths"] (zao zgd):=⟨rfl,rfl,rfl,by decide +kernel,rfl,by decide +kernel,by decide +kernel⟩
theorem zko {f:Addr} {fd:FuncData} (F:Fun K "look_at" "look_at" zgd f fd) (T:Txt K mg ad)  : FnOk P w K mg base (CX1 P w) 1 f fd ["lengths"] (spM (KX K ad) (xoK (KX K ad)) zaO):=by
  refine F.ok1 sc_look_at (fun vs H Q E h=>zce h) (fun cdv A outer s H vs Q E hr h=>?_)
  have hu:=zcb hr
  exact ⟨_,(zaf (zaL (i:=1) sc_look_at.nd rfl (by first | exact Or.inl rfl | exact Or.inr rfl) (zax zaI (by rfl) T.len PySem.boot_len (zab (pv 0) zae)))
      (zaf (zbM PassesOwn.leaving rfl (zaR rfl T.range (zab (pv 1) zae)) (zay (i:=2) sc_look_at.nd rfl (by first | exact Or.inl rfl | exact Or.inr rfl))
      (zah (zcg (zaP zly (zaH zav (zaH zav (pv 0) (pv 2) (fun _ _=>rfl)) (pv 2) (fun _ _=>rfl)) zam (za3 _))
      (zah (zhh rfl (by rfl) T.m_NoLengths T.e_NoLengths PySem.F.excBase_ValueError (by decide +kernel) PySem.F.excBase_ValueError zoP (zab zk1 zae)))
      zbf)))
      (zaf (zbM PassesOwn.leaving rfl (zaR rfl T.range (zab (pv 1) zae)) (zay (i:=2) sc_look_at.nd rfl (by first | exact Or.inl rfl | exact Or.inr rfl))
      (zah (zbM PassesOwn.leaving rfl (zaR rfl T.range (zab (pv 2) zae)) (zay (i:=3) sc_look_at.nd rfl (by first | exact Or.inl rfl | exact Or.inr rfl))
      (zah (zcg (zaP zly (zaH zav (zaH zav (pv 0) (pv 2) (fun _ _=>rfl)) (pv 3) (fun _ _=>rfl)) (zaH zav (zaH zav (pv 0) (pv 3) (fun _ _=>rfl)) (pv 2) (fun _ _=>rfl)) (za3 _))
      (zah (zhh rfl (by rfl) T.m_NoLengths T.e_NoLengths PySem.F.excBase_ValueError (by decide +kernel) PySem.F.excBase_ValueError zoP (zab zk1 zae)))
      zbf)))))
      (zah (zbM PassesOwn.leaving rfl (zaR rfl T.range (zab (pv 1) zae)) (zay (i:=2) sc_look_at.nd rfl (by first | exact Or.inl rfl | exact Or.inr rfl))
      (zah (zbM PassesOwn.leaving rfl (zaR rfl T.range (zab (pv 1) zae)) (zay (i:=3) sc_look_at.nd rfl (by first | exact Or.inl rfl | exact Or.inr rfl))
      (zah (zbM PassesOwn.leaving rfl (zaR rfl T.range (zab (pv 1) zae)) (zay (i:=4) sc_look_at.nd rfl (by first | exact Or.inl rfl | exact Or.inr rfl))
      (zah (zcg (zaP zp1 (zaA zbh (zaH zav (zaH zav (pv 0) (pv 2) (fun _ _=>rfl)) (pv 3) (fun _ _=>rfl)) (zaH zav (zaH zav (pv 0) (pv 3) (fun _ _=>rfl)) (pv 4) (fun _ _=>rfl))) (zaH zav (zaH zav (pv 0) (pv 2) (fun _ _=>rfl)) (pv 4) (fun _ _=>rfl)) (za3 _))
      (zah (zhh rfl (by rfl) T.m_NoLengths T.e_NoLengths PySem.F.excBase_ValueError (by decide +kernel) PySem.F.excBase_ValueError zoP (zab zk1 zae)))
      zbf))))))))))),ze3 (K:=(KX K ad)) (XO:=(xoK (KX K ad))) (E:=E) (np:=1) (nv:=4) (m:=zfW)
      (zas (zbd (zdo zdp (zaJ zac zaW)) zat)
      (zas (zbN (zaS len1 (zad zai zar)) zat
      (zcD (zaM (zak zlQ ((zak zaG ((zak zaG zac zac)).r zac)).r (se_int).r))
      (zhC (c:=2) rfl (by decide) (zad zlA zar))
      zbr))
      (zas (zbN (zaS len1 (zad zai zar)) zat
      (zbN (zaS len1 (zad zai zar)) zat
      (zcD (zaM (zak zlQ ((zak zaG ((zak zaG zac zac)).r zac)).r ((zak zaG ((zak zaG zac zac)).r zac)).r))
      (zhC (c:=2) rfl (by decide) (zad zlA zar))
      zbr)))
      (zbN (zaS len1 (zad zai zar)) zat
      (zbN (zaS len1 (zad zai zar)) zat
      (zbN (zaS len1 (zad zai zar)) zat
      (zcD (zaM (zak zpN ((zak zbj ((zak zaG ((zak zaG zac zac)).r zac)).r ((zak zaG ((zak zaG zac zac)).r zac)).r)).r ((zak zaG ((zak zaG zac zac)).r zac)).r))
      (zhC (c:=2) rfl (by decide) (zad zlA zar))
      zbr))))))) rfl h⟩
abbrev zcV:Stmt:=top 17
theorem sc_shortest_road:FnScope ["lengths","within","without","offers","outer","inner","least"] ["lengths","within","without"] (zao zcV):=⟨rfl,rfl,rfl,by decide +kernel,rfl,by decide +kernel,by decide +kernel⟩
theorem zfL {f:Addr} {fd:FuncData} (F:Fun K "shortest_road" "shortest_road" zcV f fd) (T:Txt K mg ad)  : FnOk P w K mg base CX0 1 f fd ["lengths","within","without"] (spM (KX K ad) (xoK (KX K ad)) zbk):=by
  refine F.ok sc_shortest_road (fun vs H Q E h=>zce h) (fun cdv A outer s H vs Q E hr h=>?_)
  have hu:=zcb hr
  exact ⟨_,(zaf (zaL (i:=3) sc_shortest_road.nd rfl (by first | exact Or.inl rfl | exact Or.inr rfl) (zcY zae))
      (zaf (zbM PassesOwn.never rfl (zdk (pv 2)) (zay (i:=4) sc_shortest_road.nd rfl (by first | exact Or.inl rfl | exact Or.inr rfl))
      (zah (zbM PassesOwn.never rfl (zdk (pv 1)) (zay (i:=5) sc_shortest_road.nd rfl (by first | exact Or.inl rfl | exact Or.inr rfl))
      (zah (zbl (zgL PySem.F.plainAttrs_list PySem.F.slot_list_append PySem.F.type_list_append zb6 (pv 3) (zab (zem (zab (zaH zav (zaH zav (pv 0) (pv 5) (fun _ _=>rfl)) (pv 4) (fun _ _=>rfl)) (zab (pv 4) (zab (pv 5) zae)))) zae)))))))
      (zaf (zaL (i:=6) sc_shortest_road.nd rfl (by first | exact Or.inl rfl | exact Or.inr rfl) (zax (zlM hr.units rfl) (by rfl) T.min boot_min (zab (pv 3) zae)))
      (zah (zaN (zem (zab (zaH zcH (pv 6) zam (fun _ _=>rfl)) (zab (zaH zcH (pv 6) zam (fun _ _=>rfl)) zae)))))))),ze3 (K:=(KX K ad)) (XO:=(xoK (KX K ad))) (E:=E) (np:=3) (nv:=4) (m:=zei)
      (zas (zdH (zbR zar))
      (zas (zbN (zgi zai) zat
      (zbN (zgi zai) zat
      (zc3 (zgD (zad (zak zaG ((zak zaG zac zac)).r zac) (zad zai (zad zai zar)))))))
      (zas (zbd (zdo zoG (zaJ zac zaW)) zat)
      (zbL (zgD (zad (zak zcG zac (se_int).r) (zad (zak zcG zac (se_int).r) zar))))))) rfl h⟩
abbrev zdX:Stmt:=top 18
theorem sc_least_tree:FnScope ["lengths","within","without","tree","road"] ["lengths"] (zao zdX):=⟨rfl,rfl,rfl,by decide +kernel,rfl,by decide +kernel,by decide +kernel⟩
theorem zhO {f:Addr} {fd:FuncData} (F:Fun K "least_tree" "least_tree" zdX f fd) (T:Txt K mg ad) (G_look_at:Has P w K mg base (CX1 P w) 1 "look_at" ["lengths"] (spM (KX K ad) (xoK (KX K ad)) zaO)) (G_shortest_road:Has P w K mg base CX0 1 "shortest_road" ["lengths","within","without"] (spM (KX K ad) (xoK (KX K ad)) zbk)):FnOk P w K mg base (CX1 P w) 2 f fd ["lengths"] (spO (KX K ad) (xoK (KX K ad)) zaD):=by
  refine F.ok1 sc_least_tree (fun vs H Q E h=>zdg h) (fun cdv A outer s H vs Q E hr h=>?_)
  have hu:=zcb hr
  exact ⟨_,(zaf (zbl (zbY G_look_at (hr.mono (by decide)) (by rfl) zfK (zab (pv 0) zae)))
      (zaf (zaL (i:=1) sc_least_tree.nd rfl (by first | exact Or.inl rfl | exact Or.inr rfl) (zcY (zab zam zae)))
      (zaf (zaL (i:=2) sc_least_tree.nd rfl (by first | exact Or.inl rfl | exact Or.inr rfl) (zcv (zi8 rfl) (by rfl) T.list boot_list (zab (zpl (by rfl) T.range (zab zam (zab (zax zaI (by rfl) T.len PySem.boot_len (zab (pv 0) zae)) zae))) zae)))
      (zaf (zaL (i:=3) sc_least_tree.nd rfl (by first | exact Or.inl rfl | exact Or.inr rfl) (zcY zae))
      (zaf (zhJ PassesOwn.leaving (zaP zoR (zax zaI (by rfl) T.len PySem.boot_len (zab (pv 2) zae)) zam (za3 _))
      (zaf (zaL (i:=4) sc_least_tree.nd rfl (by first | exact Or.inl rfl | exact Or.inr rfl) (zbv G_shortest_road (hr.mono (by decide)) (by rfl) zcw (zab (pv 0) (zab (pv 1) (zab (pv 2) zae)))))
      (zaf (zbl (zgL PySem.F.plainAttrs_list PySem.F.slot_list_append PySem.F.type_list_append zb6 (pv 3) (zab (pv 4) zae)))
      (zaf (zbl (zgL PySem.F.plainAttrs_list PySem.F.slot_list_append PySem.F.type_list_append zb6 (pv 1) (zab (zaH zcH (pv 4) zam (fun _ _=>rfl)) zae)))
      (zah (zbl (zgL PySem.F.plainAttrs_list PySem.F.slot_list_remove PySem.F.type_list_remove zkO (pv 2) (zab (zaH zcH (pv 4) zam (fun _ _=>rfl)) zae))))))))
      (zah (zaN (pv 3)))))))),zeE (K:=(KX K ad)) (XO:=(xoK (KX K ad))) (E:=E) (np:=1) (nv:=4) (m:=zen)
      (zas (zcP (ze0 (zad zai zar)))
      (zas (zdH (zbR (zad se_int zar)))
      (zas (zdH (zkG (zad se_int (zad (zdo zdp (zaJ zac zaW)) zar))))
      (zas (zdH (zbR zar))
      (zas (zhu (zaM (zak zoF ((zdo zdp (zaJ zac zaW))).r (se_int).r))
      (zas (zbd (zjS (zjQ zai (ziD (ziD zmB)))) zat)
      (zas (zc3 zai)
      (zas (zc3 (zak zcG zac (se_int).r))
      (zl4 (zak zcG zac (se_int).r))))))
      zhk))))) rfl h⟩
abbrev zdd:Stmt:=top 19
theorem sc_walked_round:FnScope ["lengths","tree","walked","waiting","place","inner","outer"] ["lengths"] (zao zdd):=⟨rfl,rfl,rfl,by decide +kernel,rfl,by decide +kernel,by decide +kernel⟩
theorem zf6 {f:Addr} {fd:FuncData} (F:Fun K "walked_round" "walked_round" zdd f fd) (T:Txt K mg ad) (G_least_tree:Has P w K mg base (CX1 P w) 2 "least_tree" ["lengths"] (spO (KX K ad) (xoK (KX K ad)) zaD)):FnOk P w K mg base (CX1 P w) 3 f fd ["lengths"] (spO (KX K ad) (xoK (KX K ad)) zbA):=by
  refine F.ok1 sc_walked_round (fun vs H Q E h=>zdg h) (fun cdv A outer s H vs Q E hr h=>?_)
  have hu:=zcb hr
  exact ⟨_,(zaf (zaL (i:=1) sc_walked_round.nd rfl (by first | exact Or.inl rfl | exact Or.inr rfl) (zbY G_least_tree (hr.mono (by decide)) (by rfl) zfK (zab (pv 0) zae)))
      (zaf (zaL (i:=2) sc_walked_round.nd rfl (by first | exact Or.inl rfl | exact Or.inr rfl) (zcY zae))
      (zaf (zaL (i:=3) sc_walked_round.nd rfl (by first | exact Or.inl rfl | exact Or.inr rfl) (zcY (zab zam zae)))
      (zaf (zhJ PassesOwn.leaving (zaP zoR (zax zaI (by rfl) T.len PySem.boot_len (zab (pv 3) zae)) zam (za3 _))
      (zaf (zaL (i:=4) sc_walked_round.nd rfl (by first | exact Or.inl rfl | exact Or.inr rfl) (zoh PySem.F.plainAttrs_list PySem.F.slot_list_pop PySem.F.type_list_pop znT (pv 3)))
      (zaf (zbl (zgL PySem.F.plainAttrs_list PySem.F.slot_list_append PySem.F.type_list_append zb6 (pv 2) (zab (pv 4) zae)))
      (zah (zbM PassesOwn.leaving rfl (zqJ rfl T.reversed (zab (pv 1) zae)) (zjR rfl (zb0 (zay (i:=5) sc_walked_round.nd rfl (by first | exact Or.inl rfl | exact Or.inr rfl)) (zb0 (zay (i:=6) sc_walked_round.nd rfl (by first | exact Or.inl rfl | exact Or.inr rfl)) zgq)))
      (zah (zcg (zaP zd3 (pv 5) (pv 4) (za3 _))
      (zah (zbl (zgL PySem.F.plainAttrs_list PySem.F.slot_list_append PySem.F.type_list_append zb6 (pv 3) (zab (pv 6) zae))))
      zbf)))))))
      (zah (zaN (pv 2))))))),zeE (K:=(KX K ad)) (XO:=(xoK (KX K ad))) (E:=E) (np:=1) (nv:=6) (m:=zdm)
      (zas (zbd ((zb4 (zad zai zar))).e zat)
      (zas (zdH (zbR zar))
      (zas (zdH (zbR (zad se_int zar)))
      (zas (zhu (zaM (zak zoF ((zdo zdp (zaJ zac zaW))).r (se_int).r))
      (zas (zoA zat)
      (zas (zc3 zai)
      (zbN (zqF (zad zai zar)) (zjL (zbV zat (zbV zat zgw)))
      (zcD (zaM (zak zd9 zac zac))
      (zc3 zai)
      zbr)))))
      zhk)))) rfl h⟩
abbrev zbE:Stmt:=zje (top 14) 0
theorem zdV:FnScope ["self","lengths"] ["self","lengths"] (zao zbE):=⟨rfl,rfl,rfl,by decide +kernel,rfl,by decide +kernel,by decide +kernel⟩
abbrev za4:Stmt:=zje (top 14) 1
theorem zc5:FnScope ["self","rest"] ["self","rest"] (zao za4):=⟨rfl,rfl,rfl,by decide +kernel,rfl,by decide +kernel,by decide +kernel⟩
abbrev za6:Stmt:=zje (top 14) 2
theorem sc_KnownPairs_best_with:FnScope ["self","rest","k","others","pair"] ["self","rest","k"] (zao za6):=⟨rfl,rfl,rfl,by decide +kernel,rfl,by decide +kernel,by decide +kernel⟩
theorem zpg {f:Addr} {fd:FuncData} (F:Fun K "__init__" "KnownPairs.__init__" zbE f fd) (T:Txt K mg ad):FnOk P w K mg base CX0 1 f fd ["self","lengths"] (spIu (KX K ad) 7 ()):=by
  refine F.ok zdV (fun vs H Q E h=>by obtain ⟨d,L,x,dx,F,Hb,lv,rfl,_⟩:=h; rfl) (fun cdv A outer s H vs Q E hr h=>?_)
  have hu:=zcb hr
  obtain ⟨d,L,h⟩:=h
  exact ⟨_,zaf (zn8 (pv 0) (pv 1) rfl) (zah (zn8 (pv 0) (znL (Nat.lt_of_succ_lt hu) (zem zae) (zem (zab zam (zab (zem zae) zae)))) rfl)),i_ok (K:=KX K ad) (c:=7) T.cl_KnownPairs T.na_KnownPairs_lengths T.na_KnownPairs_known h⟩
theorem zna {f:Addr} {fd:FuncData} (F:Fun K "best" "KnownPairs.best" za4 f fd) (T:Txt K mg ad):FnOk P w K mg base CX0 1 f fd ["self","rest"] (spBm (KX K ad) 7 0):=by
  refine F.ok zc5 (fun vs H Q E h=>by obtain ⟨d,L,x,kp,dx,r,lv,F,kvs,rest,rfl,_⟩:=h; rfl) (fun cdv A outer s H vs Q E hr h=>?_)
  have hu:=zcb hr
  obtain ⟨d,L,h⟩:=h
  exact ⟨_,zaf (zcg (znU (ziv hu (pv 1) (zgW (pv 0) rfl))) zmf zbf) (zah (zaN (ziR hu (zgW (pv 0) rfl) (pv 1) (fun _ _=>rfl)))),zq6 (K:=KX K ad) (c:=7) T.cl_KnownPairs T.na_KnownPairs_known h⟩
theorem zo3 {f:Addr} {fd:FuncData} {m n:Nat} (hm:m ≤ 6) (F:Fun K "best_with" "KnownPairs.best_with" za6 f fd) (T:Txt K mg ad) (G:HasM P w K mg base CX0 n "best" ad.KnownPairs ["self","rest"] (spBm (KX K ad) 7 m)):FnOk P w K mg base CX0 (n + 1) f fd ["self","rest","k"] (spWm (KX K ad) 7 m):=by
  refine F.ok sc_KnownPairs_best_with (fun vs H Q E h=>by obtain ⟨d,L,x,kp,dx,r,lv,F,kvs,rest,k,rfl,_⟩:=h; rfl) (fun cdv A outer s H vs Q E hr h=>?_)
  obtain ⟨d,L,h⟩:=h
  have G':=G.imp (sp':=spKB (KX K ad) 7 d L m) fun _ _ _ _ z=>⟨d,L,z⟩
  exact ⟨_,zaf (zaL (i:=3) sc_KnownPairs_best_with.nd rfl (by first | exact Or.inl rfl | exact Or.inr rfl) (ziY G' hr zcw (pv 0) (zab (zaA zk8 (zjB znO (pv 1) (ziQ zam) (ziQ (pv 2))) (zjB znO (pv 1) (ziQ (zaA zbh (pv 2) zam)) zph)) zae)))
    (zaf (zaL (i:=4) sc_KnownPairs_best_with.nd rfl (by first | exact Or.inl rfl | exact Or.inr rfl) (zem (zab (zaH zcH (pv 1) zam (fun _ _=>rfl)) (zab (zaH zcH (pv 1) (pv 2) (fun _ _=>rfl)) zae))))
    (zah (zaN (zem (zab (zaA zbh (zaH zav (zaH zav (zgW (pv 0) rfl) (zaH zcH (pv 4) zam (fun _ _=>rfl)) (fun _ _=>rfl)) (zaH zcH (pv 4) zam (fun _ _=>rfl)) (fun _ _=>rfl)) (zaH zcH (pv 3) zam (fun _ _=>rfl))) (zab (zaA zk8 (zem (zab (pv 4) zae)) (zaH zcH (pv 3) zam (fun _ _=>rfl))) zae)))))),
    zq0 (K:=KX K ad) (c:=7) T.cl_KnownPairs T.na_KnownPairs_lengths hm h⟩
theorem zon {f:Addr} {fd:FuncData} {m n:Nat} (hm:m ≤ 6) (F:Fun K "best" "KnownPairs.best" za4 f fd) (T:Txt K mg ad) (G:HasM P w K mg base CX0 n "best_with" ad.KnownPairs ["self","rest","k"] (spWm (KX K ad) 7 m)):FnOk P w K mg base CX0 (n + 1) f fd ["self","rest"] (spBm (KX K ad) 7 (m + 1)):=by
  refine F.ok zc5 (fun vs H Q E h=>by obtain ⟨d,L,x,kp,dx,r,lv,F,kvs,rest,rfl,_⟩:=h; rfl) (fun cdv A outer s H vs Q E hr h=>?_)
  have hu:=zcb hr
  obtain ⟨d,L,h⟩:=h
  have G':=G.imp (sp':=spKW (KX K ad) 7 d L m) fun _ _ _ _ z=>⟨d,L,z⟩
  exact ⟨_,zaf (zcg (znU (ziv hu (pv 1) (zgW (pv 0) rfl))) (zah (ziH hu (zgW (pv 0) rfl) (pv 1) (zax (zl0 (ca:=(KX K ad).ca) (an:=(KX K ad).an) hr.units rfl) (by rfl) T.min boot_min (zab (zeJ rfl (zmk rfl T.range (zab zam (zab (zax zaI (by rfl) T.len PySem.boot_len (zab (pv 1) zae)) zae)))
      (zdR (zao za4) ["self","rest"] ["self","rest","k"] [0,1] 1 rfl rfl rfl (by decide +kernel) (by decide +kernel) (by decide +kernel) rfl (by decide +kernel) (fun cl C s H fp pins=>(zay (i:=2) (show List.Nodup (["self","rest","k"]:List Str) by decide +kernel) rfl (Or.inl rfl))) (fun cl C s H fp pins=>(ziY (by exact G') (by exact hr) zcw (pv 0) (zab (pv 1) (zab (pv 2) zae)))) (Or.inl ⟨rfl,rfl⟩))) zae)) rfl)) zbf)
    (zah (zaN (ziR hu (zgW (pv 0) rfl) (pv 1) (fun _ _=>rfl)))),b_ok (K:=KX K ad) (c:=7) T.cl_KnownPairs T.na_KnownPairs_known hm h⟩
theorem zrb {fb fw:Addr} {gb gw:FuncData} (Mb:MethAt K ad.KnownPairs "best" "KnownPairs.best" za4 fb gb) (Mw:MethAt K ad.KnownPairs "best_with" "KnownPairs.best_with" za6 fw gw) (T:Txt K mg ad):HasM P w K mg base CX0 13 "best" ad.KnownPairs ["self","rest"] (spBu (KX K ad) 7 ()):=by
  have bb:=Mb.fn.binds (ps:=["self","rest"]) fun _ _ _ _ _ _ us hl=>match us,hl with | [_,_],_=>rfl
  have bw:=Mw.fn.binds (ps:=["self","rest","k"]) fun _ _ _ _ _ _ us hl=>match us,hl with | [_,_,_],_=>rfl
  have key:∀ m,m ≤ 6→FnOk P w K mg base CX0 (1 + 2 * m) fb gb ["self","rest"] (spBm (KX K ad) 7 m):=by
    intro m
    induction m with
    | zero=>exact fun _=>zna Mb.fn T
    | succ m ih =>
      intro hm
      have Gb:=Mb.hasM T.cl_KnownPairs (ih (by omega)) bb
      have Gw:=Mw.hasM T.cl_KnownPairs (zo3 (by omega) Mw.fn T Gb) bw
      exact (zon (by omega) Mb.fn T Gw).mono (by omega)
  refine Mb.hasM T.cl_KnownPairs ⟨fun vs H Q E h=>?_,fun A outer s H args us vs Q E hr e b v h=>?_⟩ bb
  · obtain ⟨m,hm,h⟩:=h
    exact (key m hm).len vs H Q E h
  · obtain ⟨m,hm,h⟩:=h
    exact ((key m hm).mono (by omega)).run A outer s H args us vs Q E hr e b v h
abbrev zcZ:Stmt:=top 15
theorem zfM:FnScope ["lengths","some"] ["lengths","some"] (zao zcZ):=⟨rfl,rfl,rfl,by decide +kernel,rfl,by decide +kernel,by decide +kernel⟩
theorem zfO {f:Addr} {fd:FuncData} (F:Fun K "least_pairing" "least_pairing" zcZ f fd) (T:Txt K mg ad) (G_look_at:Has P w K mg base (CX1 P w) 1 "look_at" ["lengths"] (spM (KX K ad) (xoK (KX K ad)) zaO)) (G_KnownPairs___init__:HasC P w K mg base CX0 1 "KnownPairs" ad.KnownPairs ["self","lengths"] (spIu (KX K ad) 7 ())) (G_KnownPairs_best:HasM P w K mg base CX0 13 "best" ad.KnownPairs ["self","rest"] (spBu (KX K ad) 7 ())):FnOk P w K mg base (CX1 P w) 14 f fd ["lengths","some"] (spO (KX K ad) (xoK (KX K ad)) zaB):=by
  refine F.ok1 zfM (fun vs H Q E h=>zdg h) (fun cdv A outer s H vs Q E hr h=>?_)
  have hu:=zcb hr
  exact ⟨_,(zaf (zbl (zbY G_look_at (hr.mono (by decide)) (by rfl) zfK (zab (pv 0) zae)))
      (zah (zaN (zcv zcs (by rfl) T.list boot_list (zab (zaH zcH (ziY G_KnownPairs_best (hr.mono (by decide)) zcw (zoZ G_KnownPairs___init__ (hr.mono (by decide)) (by rfl) zcw (zab (pv 0) zae)) (zab (zcv zht (by rfl) T.tuple boot_tuple (zab (zax zgB (by rfl) T.sorted boot_sorted (zab (pv 1) zae)) zae)) zae)) zam (fun _ _=>rfl)) zae))))),zeE (K:=(KX K ad)) (XO:=(xoK (KX K ad))) (E:=E) (np:=2) (nv:=0) (m:=zcT)
      (zas (zcP (ze0 (zad zai zar)))
      (zd1 (zmd (K:=KX K ad) (c:=7)))) rfl h⟩
abbrev zex:Stmt:=top 13
theorem sc_odd_ends:FnScope ["roads","odd","road","place"] ["roads"] (zao zex):=⟨rfl,rfl,rfl,by decide +kernel,rfl,by decide +kernel,by decide +kernel⟩
theorem zi5 {f:Addr} {fd:FuncData} (F:Fun K "odd_ends" "odd_ends" zex f fd) (T:Txt K mg ad)  : FnOk P w K mg base CX0 1 f fd ["roads"] (spO (KX K ad) (xoK (KX K ad)) zbJ):=by
  refine F.ok sc_odd_ends (fun vs H Q E h=>zdg h) (fun cdv A outer s H vs Q E hr h=>?_)
  have hu:=zcb hr
  exact ⟨_,(zaf (zaL (i:=1) sc_odd_ends.nd rfl (by first | exact Or.inl rfl | exact Or.inr rfl) zjF)
      (zaf (zbM PassesOwn.never rfl (zdk (pv 0)) (zay (i:=2) sc_odd_ends.nd rfl (by first | exact Or.inl rfl | exact Or.inr rfl))
      (zah (zbM PassesOwn.never rfl (zpR (pv 2)) (zay (i:=3) sc_odd_ends.nd rfl (by first | exact Or.inl rfl | exact Or.inr rfl))
      (zah (ziH hu (pv 1) (pv 3) (zk0 (znj hu (pv 1) (pv 3) zgT (zq1))) rfl)))))
      (zah (zaN (zax zgB (by rfl) T.sorted boot_sorted (zab (zeJ rfl (zps (zqt (pv 1))) (zdR (zao zex) ["roads","odd","road","place"] ["odd","place"] [1] 1 rfl rfl rfl (by decide +kernel) (by decide +kernel) (by decide +kernel) rfl (by decide +kernel) (fun cl C s H fp pins=>(zay (i:=1) (show List.Nodup (["odd","place"]:List Str) by decide +kernel) rfl (Or.inl rfl))) (fun cl C s H fp pins=>(pv 1)) (Or.inr ⟨_,_,rfl,rfl,fun cl C s H fp pins=>(zec (ziR (by exact hu) (pv 0) (pv 1) (fun _ _=>rfl)))⟩))) zae)))))),zeE (K:=(KX K ad)) (XO:=(xoK (KX K ad))) (E:=E) (np:=1) (nv:=3) (m:=zhc)
      (zas (zdH zjX)
      (zas (zbN (zgi zai) zat
      (zbN (zpJ zai) zat
      (zk2 zai (zls (zoT zac zai zgO)))))
      (zlv (zd1 (zih zk9 (zaJ ((zcM (zpr zai).c (by decide) zbP zcC (Or.inr ⟨_,_,rfl,rfl,(st_b (zow zai zai))⟩) zai)).e.r zaW)))))) rfl h⟩
abbrev zgk:Stmt:=top 21
theorem sc_road_at:FnScope ["roads","place","number","road"] ["roads","place"] (zao zgk):=⟨rfl,rfl,rfl,by decide +kernel,rfl,by decide +kernel,by decide +kernel⟩
theorem zkL {f:Addr} {fd:FuncData} (F:Fun K "road_at" "road_at" zgk f fd) (T:Txt K mg ad)  : FnOk P w K mg base CX0 1 f fd ["roads","place"] (spM (KX K ad) (xoK (KX K ad)) zcx):=by
  refine F.ok sc_road_at (fun vs H Q E h=>zce h) (fun cdv A outer s H vs Q E hr h=>?_)
  have hu:=zcb hr
  exact ⟨_,(zaf (zbM PassesOwn.never rfl (zpo rfl T.enumerate (zab (pv 0) zae)) (zjR rfl (zb0 (zay (i:=2) sc_road_at.nd rfl (by first | exact Or.inl rfl | exact Or.inr rfl)) (zb0 (zay (i:=3) sc_road_at.nd rfl (by first | exact Or.inl rfl | exact Or.inr rfl)) zgq)))
      (zah (zcg (zaP zmK (pv 1) (pv 3) (by with_unfolding_all rfl))
      (zah (zaN (pv 2)))
      zbf)))
      (zah (zaN ziu))),ze3 (K:=(KX K ad)) (XO:=(xoK (KX K ad))) (E:=E) (np:=2) (nv:=2) (m:=zie)
      (zas (zbN (zoN (zad zai zar)) (zjL (zbV zat (zbV zat zgw)))
      (zcD (zaM (zak zqX zac zac))
      (zbL zai)
      zbr))
      (zbL zic)) rfl h⟩
abbrev zeP:Stmt:=top 22
theorem zii:FnScope ["road","place"] ["road","place"] (zao zeP):=⟨rfl,rfl,rfl,by decide +kernel,rfl,by decide +kernel,by decide +kernel⟩
theorem zir {f:Addr} {fd:FuncData} (F:Fun K "other_end" "other_end" zeP f fd) (T:Txt K mg ad)  : FnOk P w K mg base CX0 1 f fd ["road","place"] (spM (KX K ad) (xoK (KX K ad)) zcj):=by
  refine F.ok zii (fun vs H Q E h=>zce h) (fun cdv A outer s H vs Q E hr h=>?_)
  have hu:=zcb hr
  exact ⟨_,(zah (zaN (znH (zaP zd3 (zaH zcH (pv 0) zam (fun _ _=>rfl)) (pv 1) (za3 _)) (zaH zcH (pv 0) zam (fun _ _=>rfl)) (zaH zcH (pv 0) zam (fun _ _=>rfl))))),ze3 (K:=(KX K ad)) (XO:=(xoK (KX K ad))) (E:=E) (np:=2) (nv:=0) (m:=zdE)
      (zbL (zq7 (zaM (zak zd9 ((zak zcG zac (se_int).r)).r zac)) (zak zcG zac (se_int).r) (zak zcG zac (se_int).r))) rfl h⟩
abbrev zdW:Stmt:=top 23
theorem sc_walk_along:FnScope ["roads","left","going","walk","place","number","road"] ["roads"] (zao zdW):=⟨rfl,rfl,rfl,by decide +kernel,rfl,by decide +kernel,by decide +kernel⟩
theorem zhL {f:Addr} {fd:FuncData} (F:Fun K "walk_along" "walk_along" zdW f fd) (T:Txt K mg ad) (G_road_at:Has P w K mg base CX0 1 "road_at" ["roads","place"] (spM (KX K ad) (xoK (KX K ad)) zcx)) (G_other_end:Has P w K mg base CX0 1 "other_end" ["road","place"] (spM (KX K ad) (xoK (KX K ad)) zcj)):FnOk P w K mg base CX0 2 f fd ["roads"] (spO (KX K ad) (xoK (KX K ad)) zbT):=by
  refine F.ok sc_walk_along (fun vs H Q E h=>zdg h) (fun cdv A outer s H vs Q E hr h=>?_)
  have hu:=zcb hr
  exact ⟨_,(zaf (zaL (i:=1) sc_walk_along.nd rfl (by first | exact Or.inl rfl | exact Or.inr rfl) (zcv zcs (by rfl) T.list boot_list (zab (pv 0) zae)))
      (zaf (zaL (i:=2) sc_walk_along.nd rfl (by first | exact Or.inl rfl | exact Or.inr rfl) (zcY (zab zam zae)))
      (zaf (zaL (i:=3) sc_walk_along.nd rfl (by first | exact Or.inl rfl | exact Or.inr rfl) (zcY zae))
      (zaf (zhJ PassesOwn.never (zaP zoR (zax zaI (by rfl) T.len PySem.boot_len (zab (pv 2) zae)) zam (za3 _))
      (zaf (zaL (i:=4) sc_walk_along.nd rfl (by first | exact Or.inl rfl | exact Or.inr rfl) (zaH zav (pv 2) (zqS zqv zam) (fun _ _=>rfl)))
      (zaf (zaL (i:=5) sc_walk_along.nd rfl (by first | exact Or.inl rfl | exact Or.inr rfl) (zbv G_road_at (hr.mono (by decide)) (by rfl) zcw (zab (pv 1) (zab (pv 4) zae))))
      (zah (zcg (zaP zog (pv 5) ziu (za3 _))
      (zah (zbl (zgL PySem.F.plainAttrs_list PySem.F.slot_list_append PySem.F.type_list_append zb6 (pv 3) (zab (zoh PySem.F.plainAttrs_list PySem.F.slot_list_pop PySem.F.type_list_pop znT (pv 2)) zae))))
      (zaf (zaL (i:=6) sc_walk_along.nd rfl (by first | exact Or.inl rfl | exact Or.inr rfl) (zgL PySem.F.plainAttrs_list PySem.F.slot_list_pop PySem.F.type_list_pop zmV (pv 1) (zab (pv 5) zae)))
      (zah (zbl (zgL PySem.F.plainAttrs_list PySem.F.slot_list_append PySem.F.type_list_append zb6 (pv 2) (zab (zbv G_other_end (hr.mono (by decide)) (by rfl) zcw (zab (pv 6) (zab (pv 4) zae))) zae))))))))))
      (zah (zaN (pv 3))))))),zeE (K:=(KX K ad)) (XO:=(xoK (KX K ad))) (E:=E) (np:=1) (nv:=6) (m:=zfA)
      (zas (zdH (zih zhy (zaJ zac zaW)))
      (zas (zdH (zbR (zad se_int zar)))
      (zas (zdH (zbR zar))
      (zas (zhu (zaM (zak zoF ((zdo zdp (zaJ zac zaW))).r (se_int).r))
      (zas (zbd (zak zaG zac ((zq9 zqE (se_int).r)).r) zat)
      (zas (zbd (zjS (ziD (zjQ zai zmB))) zat)
      (zcD (zaM (zak zqk zac (zic).r))
      zkB
      (zas (zoo zai zat)
      (zc3 (zbi (zad zai (zad zai zar)))))))))
      zhk)))) rfl h⟩
abbrev zdy:Stmt:=top 24
theorem sc_closed_walk:FnScope ["lengths","tree"] ["lengths"] (zao zdy):=⟨rfl,rfl,rfl,by decide +kernel,rfl,by decide +kernel,by decide +kernel⟩
theorem zgG {f:Addr} {fd:FuncData} (F:Fun K "closed_walk" "closed_walk" zdy f fd) (T:Txt K mg ad) (G_least_tree:Has P w K mg base (CX1 P w) 2 "least_tree" ["lengths"] (spO (KX K ad) (xoK (KX K ad)) zaD)) (G_least_pairing:Has P w K mg base (CX1 P w) 14 "least_pairing" ["lengths","some"] (spO (KX K ad) (xoK (KX K ad)) zaB)) (G_odd_ends:Has P w K mg base CX0 1 "odd_ends" ["roads"] (spO (KX K ad) (xoK (KX K ad)) zbJ)) (G_walk_along:Has P w K mg base CX0 2 "walk_along" ["roads"] (spO (KX K ad) (xoK (KX K ad)) zbT)):FnOk P w K mg base (CX1 P w) 15 f fd ["lengths"] (spO (KX K ad) (xoK (KX K ad)) zbc):=by
  refine F.ok1 sc_closed_walk (fun vs H Q E h=>zdg h) (fun cdv A outer s H vs Q E hr h=>?_)
  have hu:=zcb hr
  exact ⟨_,(zaf (zaL (i:=1) sc_closed_walk.nd rfl (by first | exact Or.inl rfl | exact Or.inr rfl) (zbY G_least_tree (hr.mono (by decide)) (by rfl) zfK (zab (pv 0) zae)))
      (zah (zaN (zbv G_walk_along (hr.mono (by decide)) (by rfl) zcw (zab (zaA zpq (pv 1) (zbY G_least_pairing (hr.mono (by decide)) (by rfl) zfK (zab (pv 0) (zab (zbv G_odd_ends (hr.mono (by decide)) (by rfl) zcw (zab (pv 1) zae)) zae)))) zae))))),zeE (K:=(KX K ad)) (XO:=(xoK (KX K ad))) (E:=E) (np:=1) (nv:=1) (m:=zdx)
      (zas (zbd ((zb4 (zad zai zar))).e zat)
      (zd1 (zdu (zad ((zpC zp8 zac ((zb4 (zad zai (zad ((zdu (zad zai zar))).e zar)))).e.r)).e zar)))) rfl h⟩
abbrev zdc:Stmt:=top 25
theorem sc_paired_round:FnScope ["lengths","first_come","place"] ["lengths"] (zao zdc):=⟨rfl,rfl,rfl,by decide +kernel,rfl,by decide +kernel,by decide +kernel⟩
theorem zf0 {f:Addr} {fd:FuncData} (F:Fun K "paired_round" "paired_round" zdc f fd) (T:Txt K mg ad) (G_closed_walk:Has P w K mg base (CX1 P w) 15 "closed_walk" ["lengths"] (spO (KX K ad) (xoK (KX K ad)) zbc)):FnOk P w K mg base (CX1 P w) 16 f fd ["lengths"] (spO (KX K ad) (xoK (KX K ad)) zbz):=by
  refine F.ok1 sc_paired_round (fun vs H Q E h=>zdg h) (fun cdv A outer s H vs Q E hr h=>?_)
  have hu:=zcb hr
  exact ⟨_,(zaf (zaL (i:=1) sc_paired_round.nd rfl (by first | exact Or.inl rfl | exact Or.inr rfl) zjF)
      (zaf (zbM PassesOwn.leaving rfl (zdk (zbY G_closed_walk (hr.mono (by decide)) (by rfl) zfK (zab (pv 0) zae))) (zay (i:=2) sc_paired_round.nd rfl (by first | exact Or.inl rfl | exact Or.inr rfl))
      (zah (ziH hu (pv 1) (pv 2) zgT rfl)))
      (zah (zaN (zcv (zmt rfl) (by rfl) T.list boot_list (zab (pv 1) zae)))))),zeE (K:=(KX K ad)) (XO:=(xoK (KX K ad))) (E:=E) (np:=1) (nv:=2) (m:=zdi)
      (zas (zdH zjX)
      (zas (zbN (zgi ((zb4 (zad zai zar))).e) zat
      (zk2 zai zgO))
      (zd1 (znK zac)))) rfl h⟩
abbrev zgg:Stmt:=top 33
theorem zkP:FnScope ["_law_lengths_here","_law_kind"] ["_law_lengths_here","_law_kind"] (zao zgg):=⟨rfl,rfl,rfl,by decide +kernel,rfl,by decide +kernel,by decide +kernel⟩
theorem zkn {f:Addr} {fd:FuncData} (F:Fun K "_law_ask" "_law_ask" zgg f fd) (T:Txt K mg ad) (G_look_at:Has P w K mg base (CX1 P w) 1 "look_at" ["lengths"] (spM (KX K ad) (xoK (KX K ad)) zaO)) (G_least_tree:Has P w K mg base (CX1 P w) 2 "least_tree" ["lengths"] (spO (KX K ad) (xoK (KX K ad)) zaD)) (G_walked_round:Has P w K mg base (CX1 P w) 3 "walked_round" ["lengths"] (spO (KX K ad) (xoK (KX K ad)) zbA)) (G_least_pairing:Has P w K mg base (CX1 P w) 14 "least_pairing" ["lengths","some"] (spO (KX K ad) (xoK (KX K ad)) zaB)) (G_closed_walk:Has P w K mg base (CX1 P w) 15 "closed_walk" ["lengths"] (spO (KX K ad) (xoK (KX K ad)) zbc)) (G_paired_round:Has P w K mg base (CX1 P w) 16 "paired_round" ["lengths"] (spO (KX K ad) (xoK (KX K ad)) zbz)):FnOk P w K mg base (CX1 P w) 17 f fd ["_law_lengths_here","_law_kind"] (spM (KX K ad) (xoK (KX K ad)) zaY):=by
  refine F.ok1 zkP (fun vs H Q E h=>zce h) (fun cdv A outer s H vs Q E hr h=>?_)
  have hu:=zcb hr
  exact ⟨_,(zah (zcg (zaP zd3 (pv 1) zam (za3 _))
      (zah (zbl (zbY G_look_at (hr.mono (by decide)) (by rfl) zfK (zab (pv 0) zae))))
      (zah (zcg (zaP zd3 (pv 1) zam (za3 _))
      (zah (zbl (zbY G_least_tree (hr.mono (by decide)) (by rfl) zfK (zab (pv 0) zae))))
      (zah (zcg (zaP zd3 (pv 1) zam (za3 _))
      (zah (zbl (zbY G_walked_round (hr.mono (by decide)) (by rfl) zfK (zab (pv 0) zae))))
      (zah (zcg (zaP zd3 (pv 1) zam (za3 _))
      (zah (zbl (zbY G_least_pairing (hr.mono (by decide)) (by rfl) zfK (zab (pv 0) (zab (zcY zae) zae)))))
      (zah (zcg (zaP zd3 (pv 1) zam (za3 _))
      (zah (zbl (zbY G_closed_walk (hr.mono (by decide)) (by rfl) zfK (zab (pv 0) zae))))
      (zah (zbl (zbY G_paired_round (hr.mono (by decide)) (by rfl) zfK (zab (pv 0) zae)))))))))))))),ze3 (K:=(KX K ad)) (XO:=(xoK (KX K ad))) (E:=E) (np:=2) (nv:=0) (m:=zct)
      (zcD (zaM (zak zd9 zac (se_int).r))
      (zcP (ze0 (zad zai zar)))
      (zcD (zaM (zak zd9 zac (se_int).r))
      (zcP ((zb4 (zad zai zar))).e)
      (zcD (zaM (zak zd9 zac (se_int).r))
      (zcP ((zb4 (zad zai zar))).e)
      (zcD (zaM (zak zd9 zac (se_int).r))
      (zcP ((zb4 (zad zai (zad ((zbR zar)).e zar)))).e)
      (zcD (zaM (zak zd9 zac (se_int).r))
      (zcP ((zb4 (zad zai zar))).e)
      (zcP ((zb4 (zad zai zar))).e)))))) rfl h⟩
abbrev zdD:Stmt:=top 34
theorem sc_law_refused:FnScope ["_law_lengths_here","_law_kind","_law_caught","error"] ["_law_lengths_here","_law_kind"] (zao zdD):=⟨rfl,rfl,rfl,by decide +kernel,rfl,by decide +kernel,by decide +kernel⟩
theorem zgK {f:Addr} {fd:FuncData} (F:Fun K "_law_refused" "_law_refused" zdD f fd) (T:Txt K mg ad) (G_law_ask:Has P w K mg base (CX1 P w) 17 "_law_ask" ["_law_lengths_here","_law_kind"] (spM (KX K ad) (xoK (KX K ad)) zaY)):FnOk P w K mg base CX0 18 f fd ["_law_lengths_here","_law_kind"] (spM (KX K ad) (xoK (KX K ad)) zbG):=by
  refine F.ok sc_law_refused (fun vs H Q E h=>zce h) (fun cdv A outer s H vs Q E hr h=>?_)
  have hu:=zcb hr
  exact ⟨_,(zaf (zaL (i:=2) sc_law_refused.nd rfl (by first | exact Or.inl rfl | exact Or.inr rfl) ziu)
      (zaf (zpF (i:=3) rfl rfl rfl sc_law_refused.nd rfl rfl (by rfl) T.m_NoLengths T.b_NoLengths (fun E pl xe hpx=>(zah (zbl (zbY G_law_ask (hr.mono (by decide)) (by rfl) hpx (zab (pv 0) (zab (pv 1) zae))))))
      (fun ea=>(zah (zaL (i:=2) sc_law_refused.nd rfl (by first | exact Or.inl rfl | exact Or.inr rfl) (pv 3)))))
      (zaf (zcg ((zhW (zaP zog (pv 2) ziu (za3 _)) (zhW (zhf (zec (zax zba (by rfl) T.isinstance boot_isinstance (zab (pv 2) (zab (ziN (v:=.ty "ValueError") (by rfl) T.ValueError PyProof.Rows.Boot.«ValueError» rfl) zae))))) (zgX (zec (zax zba (by rfl) T.isinstance boot_isinstance (zab (pv 2) (zab (zgA (v:=.ref ad.NoShare) (by rfl) T.m_NoShare rfl) zae)))))))).pt
      (zah (zaN zgT))
      zbf)
      (zaf (zcg ((zhW (zec (zax zba (by rfl) T.isinstance boot_isinstance (zab (pv 2) (zab (zgA (v:=.ref ad.TooMany) (by rfl) T.m_TooMany rfl) zae)))) (zhW (zec (zax zba (by rfl) T.isinstance boot_isinstance (zab (pv 2) (zab (zgA (v:=.ref ad.NoCover) (by rfl) T.m_NoCover rfl) zae)))) (zgX (zec (zax zba (by rfl) T.isinstance boot_isinstance (zab (pv 2) (zab (zgA (v:=.ref ad.NoRoom) (by rfl) T.m_NoRoom rfl) zae)))))))).pt
      (zah (zaN zgT))
      zbf)
      (zah (zaN (zk0 (zax zba (by rfl) T.isinstance boot_isinstance (zab (pv 2) (zab (zgA (v:=.ref ad.NoText) (by rfl) T.m_NoText rfl) zae)))))))))),ze3 (K:=(KX K ad)) (XO:=(xoK (KX K ad))) (E:=E) (np:=2) (nv:=2) (m:=zfk)
      (zas (zbd zic zat)
      (zas (zqw (zh0 T) (fun _=>(zcP (ze0 (zad zai (zad zai zar)))))
      (zbd zai zat))
      (zas (zcD (ziq (zaM (zak zqk zac (zic).r)) (ziq (zha (st_b (zfr rfl (zhv T) zac))) (st_b (zfr rfl (zkg T) zac))))
      (zbL zgO)
      zbr)
      (zas (zcD (ziq (st_b (zfr rfl (zkK T) zac)) (ziq (st_b (zfr rfl (zj8 T) zac)) (st_b (zfr rfl (zmJ T) zac))))
      (zbL zgO)
      zbr)
      (zbL (zls (zfr rfl (zms T) zac))))))) rfl h⟩
abbrev zbK:Stmt:=top 35
theorem zdY:FnScope ["_law_lengths_here","_law_kind"] ["_law_lengths_here","_law_kind"] (zao zbK):=⟨rfl,rfl,rfl,by decide +kernel,rfl,by decide +kernel,by decide +kernel⟩
theorem zd6 {f:Addr} {fd:FuncData} (F:Fun K "_law_refused_by_any" "_law_refused_by_any" zbK f fd) (T:Txt K mg ad) (G_law_ask:Has P w K mg base (CX1 P w) 17 "_law_ask" ["_law_lengths_here","_law_kind"] (spM (KX K ad) (xoK (KX K ad)) zaY)):FnOk P w K mg base CX0 18 f fd ["_law_lengths_here","_law_kind"] (spM (KX K ad) (xoK (KX K ad)) zaQ):=by
  refine F.ok zdY (fun vs H Q E h=>zce h) (fun cdv A outer s H vs Q E hr h=>?_)
  have hu:=zcb hr
  exact ⟨_,(zaf (zpk rfl rfl (by rfl) T.m_EnoughError T.b_EnoughError (fun E pl xe hpx=>(zah (zbl (zbY G_law_ask (hr.mono (by decide)) (by rfl) hpx (zab (pv 0) (zab (pv 1) zae))))))
      (fun ea=>(zah (zaN zgT))))
      (zah (zaN zgT))),ze3 (K:=(KX K ad)) (XO:=(xoK (KX K ad))) (E:=E) (np:=2) (nv:=0) (m:=zcF)
      (zas (zoy (zgH T) (fun _=>(zcP (ze0 (zad zai (zad zai zar)))))
      (zbL zgO))
      (zbL zgO)) rfl h⟩
abbrev zbI:Stmt:=top 37
theorem sc_law_all_refused:FnScope ["_law_bad","_law_kept","_law_kind"] ["_law_bad"] (zao zbI):=⟨rfl,rfl,rfl,by decide +kernel,rfl,by decide +kernel,by decide +kernel⟩
theorem zfd {f:Addr} {fd:FuncData} (F:Fun K "_law_all_refused" "_law_all_refused" zbI f fd) (T:Txt K mg ad) (G_law_refused:Has P w K mg base CX0 18 "_law_refused" ["_law_lengths_here","_law_kind"] (spM (KX K ad) (xoK (KX K ad)) zbG)) (G_law_refused_by_any:Has P w K mg base CX0 18 "_law_refused_by_any" ["_law_lengths_here","_law_kind"] (spM (KX K ad) (xoK (KX K ad)) zaQ)):FnOk P w K mg base CX0 19 f fd ["_law_bad"] (spM (KX K ad) (xoK (KX K ad)) zaT):=by
  refine F.ok sc_law_all_refused (fun vs H Q E h=>zce h) (fun cdv A outer s H vs Q E hr h=>?_)
  have hu:=zcb hr
  exact ⟨_,(zaf (zf9 (i:=1) sc_law_all_refused.nd rfl (by first | exact Or.inl rfl | exact Or.inr rfl) rfl (zdk (pv 0)) (zdR (zao zbI) ["_law_bad","_law_kept","_law_kind"] ["_law_line"] [] 1 rfl rfl rfl (by decide +kernel) (by decide +kernel) (by decide +kernel) rfl (by decide +kernel) (fun cl C s H fp pins=>(zay (i:=0) (show List.Nodup (["_law_line"]:List Str) by decide +kernel) rfl (Or.inl rfl))) (fun cl C s H fp pins=>(zcv zcs (by rfl) T.list boot_list (zab (pv 0) zae))) (Or.inl ⟨rfl,rfl⟩)) rfl)
      (zaf (zbM PassesOwn.never rfl (zaR rfl T.range (zab zam zae)) (zay (i:=2) sc_law_all_refused.nd rfl (by first | exact Or.inl rfl | exact Or.inr rfl))
      (zah (zcg ((zhW (zhf (zec (zbv G_law_refused (hr.mono (by decide)) (by rfl) zcw (zab (pv 0) (zab (pv 2) zae))))) (zgX (zhf (zec (zbv G_law_refused_by_any (hr.mono (by decide)) (by rfl) zcw (zab (pv 0) (zab (pv 2) zae)))))))).pt
      (zah (zaN zgT))
      zbf)))
      (zah (zaN (zhg (zod hr.units) (pv 0) (pv 1) (za3 _)))))),ze3 (K:=(KX K ad)) (XO:=(xoK (KX K ad))) (E:=E) (np:=1) (nv:=2) (m:=zdt)
      (zas (zbd ((zcM (ze9 zac) (by decide) zbP zcC (Or.inl ⟨rfl,rfl⟩) ((zih zhy (zaJ zac zaW))).e)).e zat)
      (zas (zbN (zaS len1 (zad se_int zar)) zat
      (zcD (ziq (zha (st_b (zbi (zad zai (zad zai zar))))) (zha (st_b (zbi (zad zai (zad zai zar))))))
      (zbL zgO)
      zbr))
      (zbL (zak zn0 zac zac)))) rfl h⟩
abbrev zc6:Stmt:=top 10
theorem zhF:FnScope ["lengths","way"] ["lengths","way"] (zao zc6):=⟨rfl,rfl,rfl,by decide +kernel,rfl,by decide +kernel,by decide +kernel⟩
theorem zhH {f:Addr} {fd:FuncData} (F:Fun K "way_length" "way_length" zc6 f fd) (T:Txt K mg ad)  : FnOk P w K mg base CX0 1 f fd ["lengths","way"] (spM (KX K ad) (xoK (KX K ad)) zbb):=by
  refine F.ok zhF (fun vs H Q E h=>zce h) (fun cdv A outer s H vs Q E hr h=>?_)
  have hu:=zcb hr
  exact ⟨_,(zah (zaN (zax (zfg rfl) (by rfl) T.sum boot_sum (zab (zeJ rfl (zaR rfl T.range (zab (zaA zg4 (zax zaI (by rfl) T.len PySem.boot_len (zab (pv 1) zae)) zam) zae)) (zdR (zao zc6) ["lengths","way"] ["lengths","way","k"] [0,1] 1 rfl rfl rfl (by decide +kernel) (by decide +kernel) (by decide +kernel) rfl (by decide +kernel) (fun cl C s H fp pins=>(zay (i:=2) (show List.Nodup (["lengths","way","k"]:List Str) by decide +kernel) rfl (Or.inl rfl))) (fun cl C s H fp pins=>(zaH zav (zaH zav (pv 0) (zaH zav (pv 1) (pv 2) (fun _ _=>rfl)) (fun _ _=>rfl)) (zaH zav (pv 1) (zaA zbh (pv 2) zam) (fun _ _=>rfl)) (fun _ _=>rfl))) (Or.inl ⟨rfl,rfl⟩))) zae)))),ze3 (K:=(KX K ad)) (XO:=(xoK (KX K ad))) (E:=E) (np:=2) (nv:=0) (m:=zfz)
      (zbL (zdo znN (zaJ ((zcM (zaS len1 (zad (zak zhb ((zdo zdp (zaJ zac zaW))).r (se_int).r) zar)).c (by decide) zbP zcC (Or.inl ⟨rfl,rfl⟩) (zak zaG ((zak zaG zac ((zak zaG zac zac)).r)).r ((zak zaG zac ((zak zbj zac (se_int).r)).r)).r))).e.r zaW))) rfl h⟩
abbrev zeO:Stmt:=top 36
theorem zhU:FnScope ["_law_found","_law_due"] ["_law_found","_law_due"] (zao zeO):=⟨rfl,rfl,rfl,by decide +kernel,rfl,by decide +kernel,by decide +kernel⟩
theorem zin {f:Addr} {fd:FuncData} (F:Fun K "_law_whole" "_law_whole" zeO f fd) (T:Txt K mg ad)  : FnOk P w K mg base CX0 1 f fd ["_law_found","_law_due"] (spM (KX K ad) (xoK (KX K ad)) za5):=by
  refine F.ok zhU (fun vs H Q E h=>zce h) (fun cdv A outer s H vs Q E hr h=>?_)
  have hu:=zcb hr
  exact ⟨_,(zah (zaN (zlO (zax zd4 (by rfl) T.isinstance boot_isinstance (zab (pv 0) (zab (ziN (v:=.ty "int") (by rfl) T.int boot_int rfl) zae))) (zlO (zk0 (zax zd4 (by rfl) T.isinstance boot_isinstance (zab (pv 0) (zab (ziN (v:=.ty "bool") (by rfl) T.bool boot_bool rfl) zae)))) (zn7 (zhg zd3 (pv 0) (pv 1) (za3 _))))))),ze3 (K:=(KX K ad)) (XO:=(xoK (KX K ad))) (E:=E) (np:=2) (nv:=0) (m:=zf1)
      (zbL (zlU (zol znd zac) (zlU (zls (zol zmE zac)) (zak zd9 zac zac)))) rfl h⟩
abbrev zcq:Stmt:=top 11
theorem zgc:FnScope ["lengths","roads"] ["lengths","roads"] (zao zcq):=⟨rfl,rfl,rfl,by decide +kernel,rfl,by decide +kernel,by decide +kernel⟩
theorem zgm {f:Addr} {fd:FuncData} (F:Fun K "roads_length" "roads_length" zcq f fd) (T:Txt K mg ad)  : FnOk P w K mg base CX0 1 f fd ["lengths","roads"] (spM (KX K ad) (xoK (KX K ad)) za0):=by
  refine F.ok zgc (fun vs H Q E h=>zce h) (fun cdv A outer s H vs Q E hr h=>?_)
  have hu:=zcb hr
  exact ⟨_,(zah (zaN (zax (zfg rfl) (by rfl) T.sum boot_sum (zab (zeJ rfl (zdk (pv 1)) (zdR (zao zcq) ["lengths","roads"] ["lengths","a","b"] [0] 2 rfl rfl rfl (by decide +kernel) (by decide +kernel) (by decide +kernel) rfl (by decide +kernel) (fun cl C s H fp pins=>(zjR rfl (zb0 (zay (i:=1) (show List.Nodup (["lengths","a","b"]:List Str) by decide +kernel) rfl (Or.inl rfl)) (zb0 (zay (i:=2) (show List.Nodup (["lengths","a","b"]:List Str) by decide +kernel) rfl (Or.inl rfl)) zgq)))) (fun cl C s H fp pins=>(zaH zav (zaH zav (pv 0) (pv 1) (fun _ _=>rfl)) (pv 2) (fun _ _=>rfl))) (Or.inl ⟨rfl,rfl⟩))) zae)))),ze3 (K:=(KX K ad)) (XO:=(xoK (KX K ad))) (E:=E) (np:=2) (nv:=0) (m:=zeH)
      (zbL (zdo znN (zaJ ((zcM (ze9 zac) (by decide) (zjL (zbV zbP (zbV zbP zgw))) (zql (zjU zcC (zjU zcC zo4))) (Or.inl ⟨rfl,rfl⟩) (zak zaG ((zak zaG zac zac)).r zac))).e.r zaW))) rfl h⟩
abbrev zgJ:Stmt:=top 38
theorem sc_law:FnScope ["_law_script","_law_lengths_here","_law_kept","_law_bad","_law_one","_law_other","_law_kind"] ["_law_script"] (zao zgJ):=⟨rfl,rfl,rfl,by decide +kernel,rfl,by decide +kernel,by decide +kernel⟩
theorem zqa {f:Addr} {fd:FuncData} (F:Fun K "law" "law" zgJ f fd) (T:Txt K mg ad) (G_law_number:Has P w K mg base CX0 2 "_law_number" ["_law_script","_law_k","_law_top"] (spM (KX K ad) (xoK (KX K ad)) zaK)) (G_law_lengths:Has P w K mg base CX0 4 "_law_lengths" ["_law_script","_law_most"] (spO (KX K ad) (xoK (KX K ad)) zbp)) (G_law_spoiled:Has P w K mg base CX0 1 "_law_spoiled" ["_law_lengths_here","_law_number_here"] (spO (KX K ad) (xoK (KX K ad)) zbu)) (G_look_at:Has P w K mg base (CX1 P w) 1 "look_at" ["lengths"] (spM (KX K ad) (xoK (KX K ad)) zaO)) (G_least_tree:Has P w K mg base (CX1 P w) 2 "least_tree" ["lengths"] (spO (KX K ad) (xoK (KX K ad)) zaD)) (G_law_ask:Has P w K mg base (CX1 P w) 17 "_law_ask" ["_law_lengths_here","_law_kind"] (spM (KX K ad) (xoK (KX K ad)) zaY)) (G_law_all_refused:Has P w K mg base CX0 19 "_law_all_refused" ["_law_bad"] (spM (KX K ad) (xoK (KX K ad)) zaT)) (G_way_length:Has P w K mg base CX0 1 "way_length" ["lengths","way"] (spM (KX K ad) (xoK (KX K ad)) zbb)) (G_law_whole:Has P w K mg base CX0 1 "_law_whole" ["_law_found","_law_due"] (spM (KX K ad) (xoK (KX K ad)) za5)) (G_roads_length:Has P w K mg base CX0 1 "roads_length" ["lengths","roads"] (spM (KX K ad) (xoK (KX K ad)) za0)):FnOk P w K mg base CX0 20 f fd ["_law_script"] (zjT K):=by
  refine F.ok sc_law (fun vs H Q E h=>?_) (fun cdv A outer s H vs Q E hr h=>?_)
  · obtain ⟨a,ns,rfl,_⟩:=h
    rfl
  · obtain ⟨a,ns,rfl,hS,hlen,hq⟩:=h
    have hu:=zcb hr
    exact ⟨_,(zaf (zaL (i:=1) sc_law.nd rfl (by first | exact Or.inl rfl | exact Or.inr rfl) (zbv G_law_lengths (hr.mono (by decide)) (by rfl) zcw (zab (pv 0) (zab (zaA zcy zam (zaA zjY zam zam)) zae))))
      (zaf (zf9 (i:=2) sc_law.nd rfl (by first | exact Or.inl rfl | exact Or.inr rfl) rfl (zdk (pv 1)) (zdR (zao zgJ) ["_law_script","_law_lengths_here","_law_kept","_law_bad","_law_one","_law_other","_law_kind"] ["_law_line"] [] 1 rfl rfl rfl (by decide +kernel) (by decide +kernel) (by decide +kernel) rfl (by decide +kernel) (fun cl C s H fp pins=>(zay (i:=0) (show List.Nodup (["_law_line"]:List Str) by decide +kernel) rfl (Or.inl rfl))) (fun cl C s H fp pins=>(zcv zcs (by rfl) T.list boot_list (zab (pv 0) zae))) (Or.inl ⟨rfl,rfl⟩)) rfl)
      (zaf (zfJ (zbv G_law_spoiled (hr.mono (by decide)) (by rfl) zcw (zab (pv 1) (zab (zbv G_law_number (hr.mono (by decide)) (by rfl) zcw (zab (pv 0) (zab zam (zab (zaA zjY zam zam) zae)))) zae))) (zmw rfl (zb0 (zay (i:=3) sc_law.nd rfl (by first | exact Or.inl rfl | exact Or.inr rfl)) (zb0 (zay (i:=4) sc_law.nd rfl (by first | exact Or.inl rfl | exact Or.inr rfl)) (zb0 (zay (i:=5) sc_law.nd rfl (by first | exact Or.inl rfl | exact Or.inr rfl)) zgq)))))
      (zaf (zcg ((zhW (zaP zpi (zbv G_look_at (hr.mono (by decide)) (by rfl) zpb (zab (pv 1) zae)) ziu (za3 _)) (zgX (zhf (zec (zbv G_law_all_refused (hr.mono (by decide)) (by rfl) zcw (zab (pv 3) zae))))))).pt
      (zah (zaN zgT))
      zbf)
      (zaf (zcg (zaP zly (pv 4) (pv 5) (za3 _))
      (zaf (zcg (zhf (zec (zbv G_law_whole (hr.mono (by decide)) (by rfl) zcw (zab (zbv G_way_length (hr.mono (by decide)) (by rfl) zcw (zab (pv 3) (zab (zcY (zab (pv 4) (zab (pv 5) (zab (pv 4) zae)))) zae))) (zab (zaA zbh (zaH zav (zaH zav (pv 3) (pv 4) (fun _ _=>rfl)) (pv 5) (fun _ _=>rfl)) (zaH zav (zaH zav (pv 3) (pv 5) (fun _ _=>rfl)) (pv 4) (fun _ _=>rfl))) zae)))))
      (zah (zaN zgT))
      zbf)
      (zah (zcg (zhf (zec (zbv G_law_whole (hr.mono (by decide)) (by rfl) zcw (zab (zbv G_roads_length (hr.mono (by decide)) (by rfl) zcw (zab (pv 3) (zab (zcY (zab (zem (zab (pv 4) (zab (pv 5) zae))) (zab (zem (zab (pv 4) (zab (pv 5) zae))) zae))) zae))) (zab (zaA zcy zam (zaH zav (zaH zav (pv 3) (pv 4) (fun _ _=>rfl)) (pv 5) (fun _ _=>rfl))) zae)))))
      (zah (zaN zgT))
      zbf)))
      zbf)
      (zaf (zbM PassesOwn.never rfl (zaR rfl T.range (zab zam zae)) (zay (i:=6) sc_law.nd rfl (by first | exact Or.inl rfl | exact Or.inr rfl))
      (zah (zbl (zbv G_law_ask (hr.mono (by decide)) (by rfl) zpb (zab (pv 1) (zab (pv 6) zae))))))
      (zah (zaN (zlO (zhg (zod hr.units) (pv 1) (pv 2) (za3 _)) (zn7 (zhg zd3 (zax zaI (by rfl) T.len PySem.boot_len (zab (zbv G_least_tree (hr.mono (by decide)) (by rfl) zpb (zab (pv 1) zae)) zae)) (zaA zg4 (zax zaI (by rfl) T.len PySem.boot_len (zab (pv 1) zae)) zam) (za3 _)))))))))))),ze3 (K:=(KX K ad)) (XO:=(xoK (KX K ad))) (E:=E) (np:=1) (nv:=6) (m:=zqK)
      (zas (zbd ((zdu (zad zai (zad (zak zdQ (se_int).r ((zak zj3 (se_int).r (se_int).r)).r) zar)))).e zat)
      (zas (zbd ((zcM (ze9 zac) (by decide) zbP zcC (Or.inl ⟨rfl,rfl⟩) ((zih zhy (zaJ zac zaW))).e)).e zat)
      (zas (zbd ((zdu (zad zai (zad (zbi (zad zai (zad se_int (zad (zak zj3 (se_int).r (se_int).r) zar)))) zar)))).e (zqC (zbV zat (zbV zat (zbV zat zgw)))))
      (zas (zcD (ziq (zaM (zak znb ((zbi (zad zai zar))).r (zic).r)) (zha (st_b (zbi (zad zai zar)))))
      (zbL zgO)
      zbr)
      (zas (zcD (zaM (zak zlQ zac zac))
      (zas (zcD (zha (st_b (zbi (zad (zbi (zad zai (zad ((zbR (zad zai (zad zai (zad zai zar))))).e zar))) (zad (zak zbj ((zak zaG ((zak zaG zac zac)).r zac)).r ((zak zaG ((zak zaG zac zac)).r zac)).r) zar)))))
      (zbL zgO)
      zbr)
      (zcD (zha (st_b (zbi (zad (zbi (zad zai (zad ((zbR (zad (zgD (zad zai (zad zai zar))) (zad (zgD (zad zai (zad zai zar))) zar)))).e zar))) (zad (zak zdQ (se_int).r ((zak zaG ((zak zaG zac zac)).r zac)).r) zar)))))
      (zbL zgO)
      zbr))
      zbr)
      (zas (zbN (zaS len1 (zad se_int zar)) zat
      (zcP (zbi (zad zai (zad zai zar)))))
      (zbL (zlU (zak zn0 zac zac) (zak zd9 ((zdo zdp (zaJ ((zdu (zad zai zar))).e.r zaW))).r ((zak zhb ((zdo zdp (zaJ zac zaW))).r (se_int).r)).r))))))))) rfl (zpP (f:=zpQ) (law_true ns hlen) hS hq)⟩
end
theorem all_mk {l:PySem.W.OpenLaw} {w:World} {K:PySem.W.Frag} {h:Heap} {mg:Str→Option Value} {fa:Addr} (X:K.In h) (G:h.Ns mainGlobals mg) (hfa:mg "law"=some (.ref fa))
    (d0:∃ f fd,DefAt K "_law_cell_at" zdw f fd)
    (d1:∃ f fd,DefAt K "_law_number" zef f fd)
    (d2:∃ f fd,DefAt K "_law_grid" zdq f fd)
    (d3:∃ f fd,DefAt K "_law_shortest" zdj f fd)
    (d4:∃ f fd,DefAt K "_law_lengths" zbX f fd)
    (d5:∃ f fd,DefAt K "_law_spoiled" zb7 f fd)
    (d6:∃ f fd,DefAt K "look_at" zgd f fd)
    (d7:∃ f fd,DefAt K "shortest_road" zcV f fd)
    (d8:∃ f fd,DefAt K "least_tree" zdX f fd)
    (d9:∃ f fd,DefAt K "walked_round" zdd f fd)
    (d10:∃ f fd,DefAt K "least_pairing" zcZ f fd)
    (d11:∃ f fd,DefAt K "odd_ends" zex f fd)
    (d12:∃ f fd,DefAt K "road_at" zgk f fd)
    (d13:∃ f fd,DefAt K "other_end" zeP f fd)
    (d14:∃ f fd,DefAt K "walk_along" zdW f fd)
    (d15:∃ f fd,DefAt K "closed_walk" zdy f fd)
    (d16:∃ f fd,DefAt K "paired_round" zdc f fd)
    (d17:∃ f fd,DefAt K "_law_ask" zgg f fd)
    (d18:∃ f fd,DefAt K "_law_refused" zdD f fd)
    (d19:∃ f fd,DefAt K "_law_refused_by_any" zbK f fd)
    (d20:∃ f fd,DefAt K "_law_all_refused" zbI f fd)
    (d21:∃ f fd,DefAt K "way_length" zc6 f fd)
    (d22:∃ f fd,DefAt K "_law_whole" zeO f fd)
    (d23:∃ f fd,DefAt K "roads_length" zcq f fd)
    {fL:Addr} {oc:Value} {od an:Option Addr} {osl:Array (Option Value)} {kV doc pm cdv ct:Value} (aL:PySem.W.nsIn K mainGlobals "law"=some (some (.ref fL)))
    (lL:K.lookup fL=some ⟨oc,od,.func (PySem.W.fnOf "law" "law" (zeh zgJ) (zdb zgJ) (zao zgJ) .none kV doc pm an cdv ct),osl⟩) (cL:PySem.W.codeIn K cdv "law"=true) (kL:PySem.W.keepIn K (.ref fL)=true)
    (z0:PySem.W.nsIn K mainGlobals "len"=some none)
    (z1:PySem.W.nsIn K mainGlobals "abs"=some none)
    (z2:PySem.W.nsIn K mainGlobals "isinstance"=some none)
    (z3:PySem.W.nsIn K mainGlobals "list"=some none)
    (z4:PySem.W.nsIn K mainGlobals "sum"=some none)
    (z5:PySem.W.nsIn K mainGlobals "int"=some none)
    (z6:PySem.W.nsIn K mainGlobals "bool"=some none)
    (z7:PySem.W.nsIn K mainGlobals "tuple"=some none)
    (z8:PySem.W.nsIn K mainGlobals "range"=some none)
    (z9:PySem.W.nsIn K mainGlobals "enumerate"=some none)
    (z10:PySem.W.nsIn K mainGlobals "reversed"=some none)
    (z11:PySem.W.nsIn K mainGlobals "min"=some none)
    (z12:PySem.W.nsIn K mainGlobals "sorted"=some none)
    (z13:PySem.W.nsIn K mainGlobals "ValueError"=some none)
    {cEnoughError cNoShare cNoLengths cTooMany cNoCover cNoRoom cNoText cKnownPairs:Addr}
    (un_KnownPairs:PySem.W.nsIn K mainGlobals "KnownPairs"=some (some (.ref cKnownPairs)))
    (pzn:PySem.W.specialIn K (.builtin "object.__class__") "__get__"=some (some (.builtin "getset_descriptor.__get__")))
    (pzt:PySem.W.takesIn K (.builtin "object.__class__")=some true)
    (phd_KnownPairs:PySem.W.hasDictIn K cKnownPairs=true)
    (ppg_KnownPairs:PySem.W.plainGet K cKnownPairs Str.empty=true)
    (ppo_KnownPairs:PySem.W.plainOver K cKnownPairs=true)
    (psa_KnownPairs:PySem.W.findIn K (.ref cKnownPairs) "__setattr__"=some (some (.builtin "object.__setattr__")))
    (pna_KnownPairs_known:PySem.W.findIn K (.ref cKnownPairs) "known"=some none)
    (pna_KnownPairs_lengths:PySem.W.findIn K (.ref cKnownPairs) "lengths"=some none)
    (pmk_KnownPairs:PySem.W.makesIn K cKnownPairs=true)
    (pkp_KnownPairs:PySem.W.keepIn K (.ref cKnownPairs)=true)
    (un_EnoughError:PySem.W.nsIn K mainGlobals "EnoughError"=some (some (.ref cEnoughError)))
    (un_NoShare:PySem.W.nsIn K mainGlobals "NoShare"=some (some (.ref cNoShare)))
    (un_NoLengths:PySem.W.nsIn K mainGlobals "NoLengths"=some (some (.ref cNoLengths)))
    (un_TooMany:PySem.W.nsIn K mainGlobals "TooMany"=some (some (.ref cTooMany)))
    (un_NoCover:PySem.W.nsIn K mainGlobals "NoCover"=some (some (.ref cNoCover)))
    (un_NoRoom:PySem.W.nsIn K mainGlobals "NoRoom"=some (some (.ref cNoRoom)))
    (un_NoText:PySem.W.nsIn K mainGlobals "NoText"=some (some (.ref cNoText)))
    (ue_NoLengths:PySem.W.excIn K cNoLengths [.type "ValueError",.type "Exception",.type "BaseException",.type "object"] "ValueError.__new__"=true)
    (ub_EnoughError:PySem.W.mroIn K cEnoughError (.type "BaseException")=some true)
    (ub_NoLengths:PySem.W.mroIn K cNoLengths (.type "BaseException")=some true)
    (uzn:PySem.W.specialIn K (.builtin "object.__class__") "__get__"=some (some (.builtin "getset_descriptor.__get__")))
    (uzt:PySem.W.takesIn K (.builtin "object.__class__")=some true)
    (uhd_EnoughError:PySem.W.hasDictIn K cEnoughError=true)
    (uhd_NoShare:PySem.W.hasDictIn K cNoShare=true)
    (uhd_NoLengths:PySem.W.hasDictIn K cNoLengths=true)
    (uhd_TooMany:PySem.W.hasDictIn K cTooMany=true)
    (uhd_NoCover:PySem.W.hasDictIn K cNoCover=true)
    (uhd_NoRoom:PySem.W.hasDictIn K cNoRoom=true)
    (uhd_NoText:PySem.W.hasDictIn K cNoText=true)
    (uty_EnoughError:PySem.W.typeIn K (.ref cEnoughError)=some (.type "type"))
    (uty_NoShare:PySem.W.typeIn K (.ref cNoShare)=some (.type "type"))
    (uty_NoLengths:PySem.W.typeIn K (.ref cNoLengths)=some (.type "type"))
    (uty_TooMany:PySem.W.typeIn K (.ref cTooMany)=some (.type "type"))
    (uty_NoCover:PySem.W.typeIn K (.ref cNoCover)=some (.type "type"))
    (uty_NoRoom:PySem.W.typeIn K (.ref cNoRoom)=some (.type "type"))
    (uty_NoText:PySem.W.typeIn K (.ref cNoText)=some (.type "type"))
    (uga_NoLengths:PySem.W.findIn K (.ref cNoLengths) "__getattribute__"=some (some (.builtin "BaseException.__getattribute__")))
    (ugn_NoLengths:PySem.W.findIn K (.ref cNoLengths) "__getattr__"=some none)
    (uha_NoLengths:PySem.W.findIn K (.ref cNoLengths) "__class__"=some (some (.builtin "object.__class__")))
    (umr_NoLengths_EnoughError:PySem.W.mroIn K cNoLengths (.ref cEnoughError)=some true)
    (umr_NoLengths_NoShare:PySem.W.mroIn K cNoLengths (.ref cNoShare)=some false)
    (umr_NoLengths_NoLengths:PySem.W.mroIn K cNoLengths (.ref cNoLengths)=some true)
    (umr_NoLengths_TooMany:PySem.W.mroIn K cNoLengths (.ref cTooMany)=some false)
    (umr_NoLengths_NoCover:PySem.W.mroIn K cNoLengths (.ref cNoCover)=some false)
    (umr_NoLengths_NoRoom:PySem.W.mroIn K cNoLengths (.ref cNoRoom)=some false)
    (umr_NoLengths_NoText:PySem.W.mroIn K cNoLengths (.ref cNoText)=some false)
    (umt_NoLengths_object:PySem.W.mroIn K cNoLengths (.type "object")=some true)
    (umt_NoLengths_BaseException:PySem.W.mroIn K cNoLengths (.type "BaseException")=some true)
    (umt_NoLengths_ValueError:PySem.W.mroIn K cNoLengths (.type "ValueError")=some true)
    (dm_KnownPairs___init__:∃ f fd,MethAt K cKnownPairs "__init__" "KnownPairs.__init__" zbE f fd)
    (dm_KnownPairs_best_with:∃ f fd,MethAt K cKnownPairs "best_with" "KnownPairs.best_with" za6 f fd)
    (dm_KnownPairs_best:∃ f fd,MethAt K cKnownPairs "best" "KnownPairs.best" za4 f fd)
    : ∃ fd:FuncData,(∀ (s:Shared) (v:Value),BindsTo s fd ⟨[v],[]⟩ [("_law_script",v)])∧∀ base:Heap,K.In base→base.Ns mainGlobals mg→FnOk l.prog w K mg base CX0 20 fa fd ["_law_script"] (zjT K):=by
  have e:=hfa.symm.trans (PySem.W.mg_of X G aL)
  cases e
  let ad:Adr:=⟨cEnoughError,cNoShare,cNoLengths,cTooMany,cNoCover,cNoRoom,cNoText,cKnownPairs⟩
  have T:Txt K mg ad:=⟨PySem.W.mg_none_of X G z0,PySem.W.mg_none_of X G z1,PySem.W.mg_none_of X G z2,PySem.W.mg_none_of X G z3,PySem.W.mg_none_of X G z4,PySem.W.mg_none_of X G z5,PySem.W.mg_none_of X G z6,PySem.W.mg_none_of X G z7,PySem.W.mg_none_of X G z8,PySem.W.mg_none_of X G z9,PySem.W.mg_none_of X G z10,PySem.W.mg_none_of X G z11,PySem.W.mg_none_of X G z12,PySem.W.mg_none_of X G z13,PySem.W.mg_of X G un_KnownPairs,⟨ppg_KnownPairs,phd_KnownPairs,ppo_KnownPairs,psa_KnownPairs⟩,pna_KnownPairs_known,pna_KnownPairs_lengths,PySem.W.mg_of X G un_EnoughError,PySem.W.mg_of X G un_NoShare,PySem.W.mg_of X G un_NoLengths,PySem.W.mg_of X G un_TooMany,PySem.W.mg_of X G un_NoCover,PySem.W.mg_of X G un_NoRoom,PySem.W.mg_of X G un_NoText,ue_NoLengths,ub_EnoughError,ub_NoLengths,⟨uga_NoLengths,ugn_NoLengths,uhd_NoLengths,uha_NoLengths,uzn,uzt,umt_NoLengths_object,umt_NoLengths_BaseException⟩,zjb uhd_EnoughError uty_EnoughError umr_NoLengths_EnoughError,zjb uhd_NoLengths uty_NoLengths umr_NoLengths_NoLengths,zge uhd_NoShare uty_NoShare umr_NoLengths_NoShare umr_NoLengths_NoLengths,zge uhd_TooMany uty_TooMany umr_NoLengths_TooMany umr_NoLengths_NoLengths,zge uhd_NoCover uty_NoCover umr_NoLengths_NoCover umr_NoLengths_NoLengths,zge uhd_NoRoom uty_NoRoom umr_NoLengths_NoRoom umr_NoLengths_NoLengths,zge uhd_NoText uty_NoText umr_NoLengths_NoText umr_NoLengths_NoLengths,zm8 zgo umt_NoLengths_ValueError⟩
  obtain ⟨f0,g0,D0⟩:=d0
  obtain ⟨f1,g1,D1⟩:=d1
  obtain ⟨f2,g2,D2⟩:=d2
  obtain ⟨f3,g3,D3⟩:=d3
  obtain ⟨f4,g4,D4⟩:=d4
  obtain ⟨f5,g5,D5⟩:=d5
  obtain ⟨f6,g6,D6⟩:=d6
  obtain ⟨f7,g7,D7⟩:=d7
  obtain ⟨f8,g8,D8⟩:=d8
  obtain ⟨f9,g9,D9⟩:=d9
  obtain ⟨f10,g10,D10⟩:=d10
  obtain ⟨f11,g11,D11⟩:=d11
  obtain ⟨f12,g12,D12⟩:=d12
  obtain ⟨f13,g13,D13⟩:=d13
  obtain ⟨f14,g14,D14⟩:=d14
  obtain ⟨f15,g15,D15⟩:=d15
  obtain ⟨f16,g16,D16⟩:=d16
  obtain ⟨f17,g17,D17⟩:=d17
  obtain ⟨f18,g18,D18⟩:=d18
  obtain ⟨f19,g19,D19⟩:=d19
  obtain ⟨f20,g20,D20⟩:=d20
  obtain ⟨f21,g21,D21⟩:=d21
  obtain ⟨f22,g22,D22⟩:=d22
  obtain ⟨f23,g23,D23⟩:=d23
  obtain ⟨f_KnownPairs___init__,g_KnownPairs___init__,D_KnownPairs___init__⟩:=dm_KnownPairs___init__
  obtain ⟨f_KnownPairs_best_with,g_KnownPairs_best_with,D_KnownPairs_best_with⟩:=dm_KnownPairs_best_with
  obtain ⟨f_KnownPairs_best,g_KnownPairs_best,D_KnownPairs_best⟩:=dm_KnownPairs_best
  have FL:=zmD (st:=zgJ) lL cL kL
  refine ⟨PySem.W.fnOf "law" "law" (zeh zgJ) (zdb zgJ) (zao zgJ) .none kV doc pm an cdv ct,fun s v=>.of_eq rfl,fun base _ _=>?_⟩
  have G_KnownPairs___init__:HasC l.prog w K mg base CX0 1 "KnownPairs" ad.KnownPairs ["self","lengths"] (spIu (KX K ad) 7 ()):=D_KnownPairs___init__.hasC pmk_KnownPairs pkp_KnownPairs T.m_KnownPairs (zpg D_KnownPairs___init__.fn T) (D_KnownPairs___init__.fn.binds fun _ _ _ _ _ _ us hl=>match us,hl with | [_,_],_=>rfl)
  have G_KnownPairs_best:HasM l.prog w K mg base CX0 13 "best" ad.KnownPairs ["self","rest"] (spBu (KX K ad) 7 ()):=zrb D_KnownPairs_best D_KnownPairs_best_with T
  have G_law_cell_at:Has l.prog w K mg base CX0 1 "_law_cell_at" ["_law_script","_law_k"] (spM (KX K ad) (xoK (KX K ad)) zaE):=D0.has X G (zgN D0.fn T  ) (D0.fn.binds fun _ _ _ _ _ _ us hl=>match us,hl with | [_,_],_=>rfl)
  have G_law_number:Has l.prog w K mg base CX0 2 "_law_number" ["_law_script","_law_k","_law_top"] (spM (KX K ad) (xoK (KX K ad)) zaK):=D1.has X G (zhI D1.fn T  G_law_cell_at) (D1.fn.binds fun _ _ _ _ _ _ us hl=>match us,hl with | [_,_,_],_=>rfl)
  have G_law_grid:Has l.prog w K mg base CX0 3 "_law_grid" ["_law_script","_law_many","_law_top"] (spO (KX K ad) (xoK (KX K ad)) zci):=D2.has X G (ziE D2.fn T  G_law_number) (D2.fn.binds fun _ _ _ _ _ _ us hl=>match us,hl with | [_,_,_],_=>rfl)
  have G_law_shortest:Has l.prog w K mg base CX0 1 "_law_shortest" ["_law_lengths_here"] (spT (KX K ad) (xoK (KX K ad)) zbe):=D3.has X G (zga D3.fn T  ) (D3.fn.binds fun _ _ _ _ _ _ us hl=>match us,hl with | [_],_=>rfl)
  have G_law_lengths:Has l.prog w K mg base CX0 4 "_law_lengths" ["_law_script","_law_most"] (spO (KX K ad) (xoK (KX K ad)) zbp):=D4.has X G (zgQ D4.fn T  G_law_cell_at G_law_number G_law_grid G_law_shortest) (D4.fn.binds fun _ _ _ _ _ _ us hl=>match us,hl with | [_,_],_=>rfl)
  have G_law_spoiled:Has l.prog w K mg base CX0 1 "_law_spoiled" ["_law_lengths_here","_law_number_here"] (spO (KX K ad) (xoK (KX K ad)) zbu):=D5.has X G (zgR D5.fn T  ) (D5.fn.binds fun _ _ _ _ _ _ us hl=>match us,hl with | [_,_],_=>rfl)
  have G_look_at:Has l.prog w K mg base (CX1 l.prog w) 1 "look_at" ["lengths"] (spM (KX K ad) (xoK (KX K ad)) zaO):=D6.has X G (zko D6.fn T  ) (D6.fn.binds fun _ _ _ _ _ _ us hl=>match us,hl with | [_],_=>rfl)
  have G_shortest_road:Has l.prog w K mg base CX0 1 "shortest_road" ["lengths","within","without"] (spM (KX K ad) (xoK (KX K ad)) zbk):=D7.has X G (zfL D7.fn T  ) (D7.fn.binds fun _ _ _ _ _ _ us hl=>match us,hl with | [_,_,_],_=>rfl)
  have G_least_tree:Has l.prog w K mg base (CX1 l.prog w) 2 "least_tree" ["lengths"] (spO (KX K ad) (xoK (KX K ad)) zaD):=D8.has X G (zhO D8.fn T  G_look_at G_shortest_road) (D8.fn.binds fun _ _ _ _ _ _ us hl=>match us,hl with | [_],_=>rfl)
  have G_walked_round:Has l.prog w K mg base (CX1 l.prog w) 3 "walked_round" ["lengths"] (spO (KX K ad) (xoK (KX K ad)) zbA):=D9.has X G (zf6 D9.fn T  G_least_tree) (D9.fn.binds fun _ _ _ _ _ _ us hl=>match us,hl with | [_],_=>rfl)
  have G_least_pairing:Has l.prog w K mg base (CX1 l.prog w) 14 "least_pairing" ["lengths","some"] (spO (KX K ad) (xoK (KX K ad)) zaB):=D10.has X G (zfO D10.fn T  G_look_at G_KnownPairs___init__ G_KnownPairs_best) (D10.fn.binds fun _ _ _ _ _ _ us hl=>match us,hl with | [_,_],_=>rfl)
  have G_odd_ends:Has l.prog w K mg base CX0 1 "odd_ends" ["roads"] (spO (KX K ad) (xoK (KX K ad)) zbJ):=D11.has X G (zi5 D11.fn T  ) (D11.fn.binds fun _ _ _ _ _ _ us hl=>match us,hl with | [_],_=>rfl)
  have G_road_at:Has l.prog w K mg base CX0 1 "road_at" ["roads","place"] (spM (KX K ad) (xoK (KX K ad)) zcx):=D12.has X G (zkL D12.fn T  ) (D12.fn.binds fun _ _ _ _ _ _ us hl=>match us,hl with | [_,_],_=>rfl)
  have G_other_end:Has l.prog w K mg base CX0 1 "other_end" ["road","place"] (spM (KX K ad) (xoK (KX K ad)) zcj):=D13.has X G (zir D13.fn T  ) (D13.fn.binds fun _ _ _ _ _ _ us hl=>match us,hl with | [_,_],_=>rfl)
  have G_walk_along:Has l.prog w K mg base CX0 2 "walk_along" ["roads"] (spO (KX K ad) (xoK (KX K ad)) zbT):=D14.has X G (zhL D14.fn T  G_road_at G_other_end) (D14.fn.binds fun _ _ _ _ _ _ us hl=>match us,hl with | [_],_=>rfl)
  have G_closed_walk:Has l.prog w K mg base (CX1 l.prog w) 15 "closed_walk" ["lengths"] (spO (KX K ad) (xoK (KX K ad)) zbc):=D15.has X G (zgG D15.fn T  G_least_tree G_least_pairing G_odd_ends G_walk_along) (D15.fn.binds fun _ _ _ _ _ _ us hl=>match us,hl with | [_],_=>rfl)
  have G_paired_round:Has l.prog w K mg base (CX1 l.prog w) 16 "paired_round" ["lengths"] (spO (KX K ad) (xoK (KX K ad)) zbz):=D16.has X G (zf0 D16.fn T  G_closed_walk) (D16.fn.binds fun _ _ _ _ _ _ us hl=>match us,hl with | [_],_=>rfl)
  have G_law_ask:Has l.prog w K mg base (CX1 l.prog w) 17 "_law_ask" ["_law_lengths_here","_law_kind"] (spM (KX K ad) (xoK (KX K ad)) zaY):=D17.has X G (zkn D17.fn T  G_look_at G_least_tree G_walked_round G_least_pairing G_closed_walk G_paired_round) (D17.fn.binds fun _ _ _ _ _ _ us hl=>match us,hl with | [_,_],_=>rfl)
  have G_law_refused:Has l.prog w K mg base CX0 18 "_law_refused" ["_law_lengths_here","_law_kind"] (spM (KX K ad) (xoK (KX K ad)) zbG):=D18.has X G (zgK D18.fn T  G_law_ask) (D18.fn.binds fun _ _ _ _ _ _ us hl=>match us,hl with | [_,_],_=>rfl)
  have G_law_refused_by_any:Has l.prog w K mg base CX0 18 "_law_refused_by_any" ["_law_lengths_here","_law_kind"] (spM (KX K ad) (xoK (KX K ad)) zaQ):=D19.has X G (zd6 D19.fn T  G_law_ask) (D19.fn.binds fun _ _ _ _ _ _ us hl=>match us,hl with | [_,_],_=>rfl)
  have G_law_all_refused:Has l.prog w K mg base CX0 19 "_law_all_refused" ["_law_bad"] (spM (KX K ad) (xoK (KX K ad)) zaT):=D20.has X G (zfd D20.fn T  G_law_refused G_law_refused_by_any) (D20.fn.binds fun _ _ _ _ _ _ us hl=>match us,hl with | [_],_=>rfl)
  have G_way_length:Has l.prog w K mg base CX0 1 "way_length" ["lengths","way"] (spM (KX K ad) (xoK (KX K ad)) zbb):=D21.has X G (zhH D21.fn T  ) (D21.fn.binds fun _ _ _ _ _ _ us hl=>match us,hl with | [_,_],_=>rfl)
  have G_law_whole:Has l.prog w K mg base CX0 1 "_law_whole" ["_law_found","_law_due"] (spM (KX K ad) (xoK (KX K ad)) za5):=D22.has X G (zin D22.fn T  ) (D22.fn.binds fun _ _ _ _ _ _ us hl=>match us,hl with | [_,_],_=>rfl)
  have G_roads_length:Has l.prog w K mg base CX0 1 "roads_length" ["lengths","roads"] (spM (KX K ad) (xoK (KX K ad)) za0):=D23.has X G (zgm D23.fn T  ) (D23.fn.binds fun _ _ _ _ _ _ us hl=>match us,hl with | [_,_],_=>rfl)
  exact zqa FL T G_law_number G_law_lengths G_law_spoiled G_look_at G_least_tree G_law_ask G_law_all_refused G_way_length G_law_whole G_roads_length
theorem walk {l:PySem.W.OpenLaw} {q:Program} {loose:List Str} {XP:(Str→Option Value)→Heap→Prop} {YP:World→Heap→Prop} {d:DefRec} {K:Params→PySem.W.Frag} (hn:l.most=some 63) (hdf:d.params.defaults = [])
    (hY:∀ (w:World) (h:Heap),YP w h→(K w.params).In h) (hT:∀ w:World,tabOf (K w.params)=none)
    (F:∀ (w:World) (mg:Str→Option Value) (fa:Addr) (h:Heap),(K w.params).In h→h.Ns mainGlobals mg→mg d.name=some (.ref fa) →
      ∃ fd:FuncData,(∀ (s:Shared) (u:Value),BindsTo s fd ⟨[u],[]⟩ [("_law_script",u)])∧∀ base:Heap,(K w.params).In base→base.Ns mainGlobals mg→FnOk l.prog w (K w.params) mg base CX0 20 fa fd ["_law_script"] (zjT (K w.params))) :
    PySem.W.WalkO q loose XP YP l.row.toRowW d [] (fun f vs=>PySem.call f vs) :=
  L2.walk_of (n:=63) (k:=20) (x:="_law_script") (CX:=fun _=>CX0) (sp:=fun w=>zjT (K w.params)) hn (by decide) hdf ⟨rfl,by decide,by decide⟩ hY hT F (fun _ _ a ns hl _ hS=>⟨a,ns,rfl,hS,hl,fun _=>rfl⟩) fun _ _ _ _ _ z=>z
end My
def PySem.W.Fast.tw8282155246826069820:Nat:=0
def PySem.W.Fast.tw15224987710717252394:Nat:=0
def PySem.W.Fast.tw529514589879556314:Nat:=0
def PySem.W.Fast.tw11219671379483647830:Nat:=0
def PySem.W.Fast.tw5682597178813400679:Nat:=0
def PySem.W.Fast.tw16745874354171558831:Nat:=0
def PySem.W.Fast.tw6992377081390015554:Nat:=0
def PySem.W.Fast.tw2930230356370829679:Nat:=0
def PySem.W.Fast.tw855367956760861434:Nat:=0
def PySem.W.Fast.tw2030713952800669319:Nat:=0
def PySem.W.Fast.tw914511780286386146:Nat:=0
def PySem.W.Fast.tw12614039050186993850:Nat:=0
def PySem.W.Fast.tw12454989578857771853:Nat:=0
def PySem.W.Fast.tw10967079535443298454:Nat:=0
open PySem PySem.W PyProof.Rows
set_option maxRecDepth 100000 in
set_option maxHeartbeats 0 in
theorem PySem.Challenge.cw_goodenough_k14_lengths_refused_holds : PySem.Challenge.rw_goodenough_k14_lengths_refused.Holds := by
  w_on; o_law; k_head; (case hw=>w_witness2)
  k_fill
  refine My.walk (l:=PySem.Challenge.rw_goodenough_k14_lengths_refused) rfl rfl (fun w h Y=>by first | exact PySem.W.kIn_of Y | exact PySem.W.km_in_of Y) ?tab ?F
  (case tab=>intro w; kernel_rfl)
  case F =>
    intro w mg fa h KX G hmg
    refine' My.all_mk KX G hmg (L2.defAt_mk ?a0 ?l0 ?c0 ?k0) (L2.defAt_mk ?a1 ?l1 ?c1 ?k1) (L2.defAt_mk ?a2 ?l2 ?c2 ?k2) (L2.defAt_mk ?a3 ?l3 ?c3 ?k3) (L2.defAt_mk ?a4 ?l4 ?c4 ?k4) (L2.defAt_mk ?a5 ?l5 ?c5 ?k5) (L2.defAt_mk ?a6 ?l6 ?c6 ?k6) (L2.defAt_mk ?a7 ?l7 ?c7 ?k7) (L2.defAt_mk ?a8 ?l8 ?c8 ?k8) (L2.defAt_mk ?a9 ?l9 ?c9 ?k9) (L2.defAt_mk ?a10 ?l10 ?c10 ?k10) (L2.defAt_mk ?a11 ?l11 ?c11 ?k11) (L2.defAt_mk ?a12 ?l12 ?c12 ?k12) (L2.defAt_mk ?a13 ?l13 ?c13 ?k13) (L2.defAt_mk ?a14 ?l14 ?c14 ?k14) (L2.defAt_mk ?a15 ?l15 ?c15 ?k15) (L2.defAt_mk ?a16 ?l16 ?c16 ?k16) (L2.defAt_mk ?a17 ?l17 ?c17 ?k17) (L2.defAt_mk ?a18 ?l18 ?c18 ?k18) (L2.defAt_mk ?a19 ?l19 ?c19 ?k19) (L2.defAt_mk ?a20 ?l20 ?c20 ?k20) (L2.defAt_mk ?a21 ?l21 ?c21 ?k21) (L2.defAt_mk ?a22 ?l22 ?c22 ?k22) (L2.defAt_mk ?a23 ?l23 ?c23 ?k23) ?aL ?lL ?cL ?kL ?z0 ?z1 ?z2 ?z3 ?z4 ?z5 ?z6 ?z7 ?z8 ?z9 ?z10 ?z11 ?z12 ?z13 ?un_KnownPairs ?pzn ?pzt ?phd_KnownPairs ?ppg_KnownPairs ?ppo_KnownPairs ?psa_KnownPairs ?pna_KnownPairs_known ?pna_KnownPairs_lengths ?pmk_KnownPairs ?pkp_KnownPairs ?un_EnoughError ?un_NoShare ?un_NoLengths ?un_TooMany ?un_NoCover ?un_NoRoom ?un_NoText ?ue_NoLengths ?ub_EnoughError ?ub_NoLengths ?uzn ?uzt ?uhd_EnoughError ?uhd_NoShare ?uhd_NoLengths ?uhd_TooMany ?uhd_NoCover ?uhd_NoRoom ?uhd_NoText ?uty_EnoughError ?uty_NoShare ?uty_NoLengths ?uty_TooMany ?uty_NoCover ?uty_NoRoom ?uty_NoText ?uga_NoLengths ?ugn_NoLengths ?uha_NoLengths ?umr_NoLengths_EnoughError ?umr_NoLengths_NoShare ?umr_NoLengths_NoLengths ?umr_NoLengths_TooMany ?umr_NoLengths_NoCover ?umr_NoLengths_NoRoom ?umr_NoLengths_NoText ?umt_NoLengths_object ?umt_NoLengths_BaseException ?umt_NoLengths_ValueError (L2.methAt_mk ?ma0 ?mi0 ?ml0 ?mc0 ?mk0) (L2.methAt_mk ?ma1 ?mi1 ?ml1 ?mc1 ?mk1) (L2.methAt_mk ?ma2 ?mi2 ?ml2 ?mc2 ?mk2)
    (case a0=>k_is); (case l0=>k_is); (case c0=>k_is); (case k0=>k_is)
    (case a1=>k_is); (case l1=>k_is); (case c1=>k_is); (case k1=>k_is)
    (case a2=>k_is); (case l2=>k_is); (case c2=>k_is); (case k2=>k_is)
    (case a3=>k_is); (case l3=>k_is); (case c3=>k_is); (case k3=>k_is)
    (case a4=>k_is); (case l4=>k_is); (case c4=>k_is); (case k4=>k_is)
    (case a5=>k_is); (case l5=>k_is); (case c5=>k_is); (case k5=>k_is)
    (case a6=>k_is); (case l6=>k_is); (case c6=>k_is); (case k6=>k_is)
    (case a7=>k_is); (case l7=>k_is); (case c7=>k_is); (case k7=>k_is)
    (case a8=>k_is); (case l8=>k_is); (case c8=>k_is); (case k8=>k_is)
    (case a9=>k_is); (case l9=>k_is); (case c9=>k_is); (case k9=>k_is)
    (case a10=>k_is); (case l10=>k_is); (case c10=>k_is); (case k10=>k_is)
    (case a11=>k_is); (case l11=>k_is); (case c11=>k_is); (case k11=>k_is)
    (case a12=>k_is); (case l12=>k_is); (case c12=>k_is); (case k12=>k_is)
    (case a13=>k_is); (case l13=>k_is); (case c13=>k_is); (case k13=>k_is)
    (case a14=>k_is); (case l14=>k_is); (case c14=>k_is); (case k14=>k_is)
    (case a15=>k_is); (case l15=>k_is); (case c15=>k_is); (case k15=>k_is)
    (case a16=>k_is); (case l16=>k_is); (case c16=>k_is); (case k16=>k_is)
    (case a17=>k_is); (case l17=>k_is); (case c17=>k_is); (case k17=>k_is)
    (case a18=>k_is); (case l18=>k_is); (case c18=>k_is); (case k18=>k_is)
    (case a19=>k_is); (case l19=>k_is); (case c19=>k_is); (case k19=>k_is)
    (case a20=>k_is); (case l20=>k_is); (case c20=>k_is); (case k20=>k_is)
    (case a21=>k_is); (case l21=>k_is); (case c21=>k_is); (case k21=>k_is)
    (case a22=>k_is); (case l22=>k_is); (case c22=>k_is); (case k22=>k_is)
    (case a23=>k_is); (case l23=>k_is); (case c23=>k_is); (case k23=>k_is)
    (case aL=>k_is); (case lL=>k_is); (case cL=>k_is); (case kL=>k_is)
    (case z0=>k_is)
    (case z1=>k_is)
    (case z2=>k_is)
    (case z3=>k_is)
    (case z4=>k_is)
    (case z5=>k_is)
    (case z6=>k_is)
    (case z7=>k_is)
    (case z8=>k_is)
    (case z9=>k_is)
    (case z10=>k_is)
    (case z11=>k_is)
    (case z12=>k_is)
    (case z13=>k_is)
    (case un_KnownPairs=>k_is)
    (case pzn=>k_is)
    (case pzt=>k_is)
    (case phd_KnownPairs=>k_is)
    (case ppg_KnownPairs=>k_is)
    (case ppo_KnownPairs=>k_is)
    (case psa_KnownPairs=>k_is)
    (case pna_KnownPairs_known=>k_is)
    (case pna_KnownPairs_lengths=>k_is)
    (case pmk_KnownPairs=>k_is)
    (case pkp_KnownPairs=>k_is)
    (case un_EnoughError=>k_is)
    (case un_NoShare=>k_is)
    (case un_NoLengths=>k_is)
    (case un_TooMany=>k_is)
    (case un_NoCover=>k_is)
    (case un_NoRoom=>k_is)
    (case un_NoText=>k_is)
    (case ue_NoLengths=>k_exc)
    (case ub_EnoughError=>k_is)
    (case ub_NoLengths=>k_is)
    (case uzn=>k_is)
    (case uzt=>k_is)
    (case uhd_EnoughError=>k_is)
    (case uhd_NoShare=>k_is)
    (case uhd_NoLengths=>k_is)
    (case uhd_TooMany=>k_is)
    (case uhd_NoCover=>k_is)
    (case uhd_NoRoom=>k_is)
    (case uhd_NoText=>k_is)
    (case uty_EnoughError=>k_is)
    (case uty_NoShare=>k_is)
    (case uty_NoLengths=>k_is)
    (case uty_TooMany=>k_is)
    (case uty_NoCover=>k_is)
    (case uty_NoRoom=>k_is)
    (case uty_NoText=>k_is)
    (case uga_NoLengths=>k_is)
    (case ugn_NoLengths=>k_is)
    (case uha_NoLengths=>k_is)
    (case umr_NoLengths_EnoughError=>k_is)
    (case umr_NoLengths_NoShare=>k_is)
    (case umr_NoLengths_NoLengths=>k_is)
    (case umr_NoLengths_TooMany=>k_is)
    (case umr_NoLengths_NoCover=>k_is)
    (case umr_NoLengths_NoRoom=>k_is)
    (case umr_NoLengths_NoText=>k_is)
    (case umt_NoLengths_object=>k_is)
    (case umt_NoLengths_BaseException=>k_is)
    (case umt_NoLengths_ValueError=>k_is)
    (case ma0=>k_is); (case mi0=>k_is); (case ml0=>k_is); (case mc0=>k_is); (case mk0=>k_is)
    (case ma1=>k_is); (case mi1=>k_is); (case ml1=>k_is); (case mc1=>k_is); (case mk1=>k_is)
    (case ma2=>k_is); (case mi2=>k_is); (case ml2=>k_is); (case mc2=>k_is); (case mk2=>k_is)
#print axioms PySem.Challenge.cw_goodenough_k14_lengths_refused_holds
