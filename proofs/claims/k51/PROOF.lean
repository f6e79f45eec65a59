import PyProof.Rows.All
import Wide.All
import OpenK.AllK
import Wide.FinOn
import Lean
import PyProof.EqAt
import PyProof.EqKinds
import PyProof.TupleCall
import PySem.Challenge.RW_goodenough_k51_amounts_and_units
set_option Elab.async false
set_option linter.all false
set_option maxRecDepth 100000
set_option maxHeartbeats 4000000
noncomputable section
namespace L2
open PySem PySem.Spec PyProof.Rows
abbrev Key:=Sum Int Str
def zjD:Key→Value→Bool
  | .inl k,v=>Value.isInt k v
  | .inr x,v=>Value.isStrOf x v
def keyH (w:World):Key→Int
  | .inl k=>hashInt k
  | .inr x=>hashStr w x
theorem za5:∀ {k:Key} {v:Value},zjD k v=true→(∃ i t,k=Sum.inl i∧v=Value.int i t)∨(∃ x t,k=Sum.inr x∧v=Value.str x t)
  | .inl i,v,h=>by
    obtain ⟨t,e⟩:=Value.isInt_shape (k:=i) (v:=v) h
    exact .inl ⟨i,t,rfl,e⟩
  | .inr x,v,h=>by
    obtain ⟨t,e⟩:=Value.isStrOf_shape (x:=x) (v:=v) h
    exact .inr ⟨x,t,rfl,e⟩
theorem zjt (a b:Int):decide ((Sum.inl a:Key)=Sum.inl b)=(a == b):=by
  by_cases e:a=b
  · subst e; simp
  · have h:¬ (Sum.inl a:Key)=Sum.inl b:=fun q=>e (Sum.inl.inj q)
    rw [decide_eq_false h]
    exact (beq_eq_false_iff_ne.mpr e).symm
theorem zkg (a b:Str):decide ((Sum.inr a:Key)=Sum.inr b)=decide (a=b):=by
  by_cases e:a=b
  · subst e; simp
  · have h:¬ (Sum.inr a:Key)=Sum.inr b:=fun q=>e (Sum.inr.inj q)
    rw [decide_eq_false h,decide_eq_false e]
theorem zjy (a:Int) (b:Str):decide ((Sum.inl a:Key)=Sum.inr b)=false:=decide_eq_false (fun q=>nomatch q)
theorem zkc (a:Str) (b:Int):decide ((Sum.inr a:Key)=Sum.inl b)=false:=decide_eq_false (fun q=>nomatch q)
def zhP (prog:Program) (w:World):PySem.KeyKind prog w Key where
  is:=zjD
  hash:=keyH w
  inj:=fun v a b ha hb=>by
    rcases za5 ha with ⟨i,t,rfl,rfl⟩ | ⟨x,t,rfl,rfl⟩
    · rcases za5 hb with ⟨j,u,rfl,e⟩ | ⟨y,u,rfl,e⟩
      · injection e with e1 _; rw [e1]
      · exact nomatch e
    · rcases za5 hb with ⟨j,u,rfl,e⟩ | ⟨y,u,rfl,e⟩
      · exact nomatch e
      · injection e with e1 _; rw [e1]
  byValue:=fun k v h=>by
    rcases za5 h with ⟨i,t,rfl,rfl⟩ | ⟨x,t,rfl,rfl⟩ <;> rfl
  pyHash:=fun hv h=>by
    rcases za5 hv with ⟨i,t,rfl,rfl⟩ | ⟨x,t,rfl,rfl⟩
    · exact wpAny_pyHash_int h
    · exact wpAny_pyHash_str h
  eqBool:=fun hu hv h=>by
    rcases za5 hu with ⟨i,t,rfl,rfl⟩ | ⟨x,t,rfl,rfl⟩
    · rcases za5 hv with ⟨j,u,rfl,rfl⟩ | ⟨y,u,rfl,rfl⟩
      · rw [zjt] at h; exact wpAny_eqBool_int h
      · rw [zjy] at h; exact SeqAt.EqAt.int_str i t y u _ _ _ _ h
    · rcases za5 hv with ⟨j,u,rfl,rfl⟩ | ⟨y,u,rfl,rfl⟩
      · rw [zkc] at h; exact SeqAt.EqAt.str_int x t j u _ _ _ _ h
      · rw [zkg] at h; exact wpAny_eqBool_str h
  «strs»:=fun k x t v h=>by
    rcases za5 h with ⟨i,u,rfl,e⟩ | ⟨y,u,rfl,e⟩
    · exact nomatch e
    · injection e with e1 _
      subst e1
      cases v <;> rfl
end L2
namespace L2
open PySem PySem.Spec PyProof.Rows
inductive V where
  | non | bl (b:Bool) | int (i:Int) | str (x:Str) | byt (b:Array UInt8) | flt (b:UInt64) | ref (a:Addr) | ty (n:String)
  deriving DecidableEq
def RelV:V→Value→Prop
  | .non,u=>u=Value.none
  | .bl b,u=>u=Value.bool b
  | .int i,u=>∃ t,u=Value.int i t
  | .str x,u=>∃ t,u=Value.str x t
  | .byt b,u=>∃ t,u=Value.bytes b t
  | .flt b,u=>∃ t,u=Value.float b t
  | .ref a,u=>u=Value.ref a
  | .ty n,u=>u=Value.type n
abbrev Vals:List V→List Value→Prop:=Paired RelV
theorem Vals.length {xs:List V} {us:List Value} (r:Vals xs us):xs.length=us.length:=Paired.length r
theorem Vals.get:∀ {xs:List V} {us:List Value} {i:Nat} {x:V},Vals xs us→xs[i]?=some x→∃ u,us[i]?=some u∧RelV x u
  | _,_,_,_,.nil,e=>by simp at e
  | _,_,0,_,.cons r _,e=>by simp at e; subst e; exact ⟨_,rfl,r⟩
  | _,_,i + 1,x,.cons _ t,e=>by
    obtain ⟨u,h1,h2⟩:=Vals.get (i:=i) (x:=x) t (by simpa using e)
    exact ⟨u,by simpa using h1,h2⟩
theorem Vals.append:∀ {xs ys:List V} {us ws:List Value},Vals xs us→Vals ys ws→Vals (xs ++ ys) (us ++ ws)
  | _,_,_,_,.nil,s=>s
  | _,_,_,_,.cons r t,s=>.cons r (Vals.append t s)
theorem Vals.take:∀ {xs:List V} {us:List Value} (n:Nat),Vals xs us→Vals (xs.take n) (us.take n)
  | _,_,0,_=>.nil
  | _,_,_ + 1,.nil=>.nil
  | _,_,n + 1,.cons r t=>.cons r (Vals.take n t)
theorem Vals.drop:∀ {xs:List V} {us:List Value} (n:Nat),Vals xs us→Vals (xs.drop n) (us.drop n)
  | _,_,0,r=>r
  | _,_,_ + 1,.nil=>.nil
  | _,_,n + 1,.cons _ t=>Vals.drop n t
def RelO:Option V→Option Value→Prop
  | some v,some u=>RelV v u
  | none,none=>True
  | _,_=>False
def KV {κ:Type}:List (κ × V)→List (κ × Value)→Prop:=Paired fun (p:κ × V) (q:κ × Value)=>p.1=q.1∧RelV p.2 q.2
def kV:Key→V
  | .inl i=>.int i
  | .inr x=>.str x
inductive HO where
  | lst (xs:List V)
  | tup (xs:List V)
  | dK (kvs:List (Key × V)) | dT (kvs:List (List Key × V))
  | set (S:Int→Bool) (n:Nat)
  | ins (C dx:Addr) (fs:List (Str × V))
  | own (x:Addr)
  | xd (fs:List (Str × V))
  | met (f x:Addr)
  | rng (lo hi:Int)
  | frz (o:Obj) (u:HO)
  | tbl (ps:Array Value)
  | ext (φ:Heap→Prop)
abbrev Hp:=Addr→Option HO
def upd (H:Hp) (a:Addr) (o:HO):Hp:=fun b=>if b=a then some o else H b
theorem zaD {H:Hp} {a:Addr} {o:HO}:upd H a o a=some o:=by unfold upd; rw [if_pos rfl]
theorem zar {H:Hp} {a b:Addr} {o:HO} (h:b ≠ a):upd H a o b=H b:=by unfold upd; rw [if_neg h]
theorem zas {H:Hp} {a b:Addr} {o:HO} (h:H a=some o) (h':H b=none):a ≠ b:=by
  intro e; subst e; rw [h] at h'; cases h'
def zjO (fd:FuncData):Option Pos :=
  match fd.body with
  | .stmts [.Return (some (.Call _ _ [⟨_,.Lambda _ _ _ pos,_⟩] _)) _]=>some pos
  | _=>none
def zkr (K:PySem.W.Frag) (v:Value):Option Addr :=
  match v with
  | .ref c=>match K.lookup c with
    | some o=>match o.data with
      | .fields vs=>match (vs[11]?:Option Value) with
        | some (.ref P)=>some P
        | _=>none
      | _=>none
    | _=>none
  | _=>none
def zhT (K:PySem.W.Frag):Option (Addr × Array Value) :=
  K.findSome? fun p=>match p.2.data with
    | .func fd=>match zjO fd with
      | some pos=>(zkr K fd.code).map fun P=>(P,#[.str (fd.qualname ++ ".<locals>." ++ "<lambda>") 0,rawInt pos.line,rawInt pos.col])
      | none=>none
    | _=>none
def TblOk (H:Hp) (h:Heap) (a:Addr) (ps:Array Value):Prop :=
  ∃ (q:Str) (t:Tok) (ln cl:Int) (more:List Value) (real:Array Value),ps.toList = .str q t :: rawInt ln :: rawInt cl :: more∧h.get? a=some { cls:=.none,data:=.fields real } ∧
    (real = #[]∨∃ (c:Addr) (o:Obj) (vs:Array Value) (u:Tok),real = #[rawInt ln,rawInt cl,.ref c]∧H c=some (.own a)∧h.get? c=some o∧o.data = .fields vs∧vs[1]?=some (.str q u))
theorem TblOk.lt {H:Hp} {h:Heap} {a:Addr} {ps:Array Value} (x:TblOk H h a ps):a < h.objs.size:=by
  obtain ⟨_,_,_,_,_,_,_,e,_⟩:=x
  exact Heap.lt_size e
theorem TblOk.stay {H H':Hp} {h h':Heap} {a:Addr} {ps:Array Value} (x:TblOk H h a ps) (k:∀ b u,(b=a∨H b=some (.own a))→h.get? b=some u→h'.get? b=some u)
    (ho:∀ b,H b=some (.own a)→H' b=some (.own a)):TblOk H' h' a ps:=by
  obtain ⟨q,t,ln,cl,more,real,e1,e2,e3⟩:=x
  refine ⟨q,t,ln,cl,more,real,e1,k _ _ (.inl rfl) e2,?_⟩
  rcases e3 with e3 | ⟨c,o,vs,u,r1,r2,r3,r4⟩
  · exact .inl e3
  · exact .inr ⟨c,o,vs,u,r1,ho _ r2,k _ _ (.inr r2) r3,r4⟩
def TbAt (K:PySem.W.Frag) (H:Hp):Prop:=∀ t,zhT K=some t→∃ more,H t.1=some (.tbl (t.2 ++ more))
theorem TbAt.none {K:PySem.W.Frag} {H:Hp} (h:zhT K = .none):TbAt K H:=fun t e=>by rw [h] at e; cases e
theorem TbAt.grown {K:PySem.W.Frag} {H H':Hp} (x:TbAt K H) (g:∀ b ps,H b=some (.tbl ps)→∃ more,H' b=some (.tbl (ps ++ more))):TbAt K H':=fun t e=>by
  obtain ⟨m1,e1⟩:=x t e
  obtain ⟨m2,e2⟩:=g _ _ e1
  exact ⟨m1 ++ m2,by rw [e2,Array.append_assoc]⟩
section
variable (P:Program) (w:World)
def ObjOk (H:Hp) (h:Heap) (a:Addr):HO→Prop
  | .lst xs=>xs.length ≤ sizeLine∧∃ (its:List Value) (n:Nat),Vals xs its∧h.get? a=some { cls:=.type "list",data:=.seq its.toArray n }
  | .tup xs=>xs.length ≤ sizeLine∧∃ its:List Value,Vals xs its∧IsTup h a its.toArray
  | .dK kvs=>kvs.length ≤ sizeLine∧(a == sysModules)=false∧∃ vs,KV kvs vs∧h.DictOf (zhP P w) a vs
  | .dT kvs=>kvs.length ≤ sizeLine∧(a == sysModules)=false∧∃ xs:List (List Key × Addr × Value),
      Paired (fun (p:List Key × V) (q:List Key × Addr × Value)=>p.1=q.1∧H q.2.1=some (.tup (p.1.map kV))∧RelV p.2 q.2.2) kvs xs ∧
      ∃ o es ep,h.get? a=some o∧o.ExactDict∧o.data = .dict es ep∧es.toList=xs.map (entryOfKey (tupleKind (zhP P w)))∧(xs.map (·.1)).Nodup
  | .set S n=>h.SetOf (intKind P w) a S n
  | .ins C dx fs=>H dx=some (.own a)∧fs.length ≤ 1000∧dx ≠ a∧h.get? a=some (PySem.W.instObj C dx) ∧
      ∃ mA,h.Ns1 dx mA∧(∀ f,RelO (fs.lookup f) (mA f))∧PySem.Within mA (fs.map (·.1))
  | .own _=>∃ o,h.get? a=some o
  | .xd fs=>∃ mA,h.Ns1 a mA∧∀ f,RelO (fs.lookup f) (mA f)
  | .rng lo hi=>∃ t u v,h.get? a=some { cls:=.type "range",data:=.fields #[.int lo t,.int hi u,.int 1 v] }
  | .frz o u=>h.get? a=some o∧ObjOk H h a u
  | .tbl ps=>TblOk H h a ps
  | .met f x=>h.get? a=some (PySem.W.methodObj (.ref f) (.ref x))
  | .ext φ=>φ h∧(∃ o,h.get? a=some o)∧∀ h1 h2:Heap,φ h1→(∀ o,h1.get? a=some o→h2.get? a=some o)→φ h2
def HOk (H:Hp) (h:Heap):Prop:=∀ a o,H a=some o→ObjOk P w H h a o
end
section
variable {P:Program} {w:World} {H H':Hp} {h h':Heap} {a:Addr} {o:HO}
theorem ObjOk.lt (x:ObjOk P w H h a o):a < h.objs.size:=by
  cases o with
  | lst xs=>obtain ⟨_,_,_,_,e⟩:=x; exact Heap.lt_size e
  | tup xs=>obtain ⟨_,_,_,p⟩:=x; exact p.lt
  | dK kvs=>obtain ⟨_,_,_,_,o,_,_,e,_⟩:=x; exact Heap.lt_size e
  | dT kvs=>obtain ⟨_,_,_,_,o,_,_,e,_⟩:=x; exact Heap.lt_size e
  | set S n=>obtain ⟨o,_,_,_,e,_⟩:=x; exact Heap.lt_size e
  | ins C dx fs=>obtain ⟨_,_,_,e,_⟩:=x; exact Heap.lt_size e
  | own y=>obtain ⟨_,e⟩:=x; exact Heap.lt_size e
  | xd fs=>obtain ⟨_,⟨_,_,_,e,_⟩,_⟩:=x; exact Heap.lt_size e
  | rng lo hi=>obtain ⟨_,_,_,e⟩:=x; exact Heap.lt_size e
  | frz ob u=>obtain ⟨e,_⟩:=x; exact Heap.lt_size e
  | tbl ps=>exact TblOk.lt x
  | met f y=>exact Heap.lt_size (show h.get? a=some _ from x)
  | ext φ=>obtain ⟨_,⟨_,e⟩,_⟩:=x; exact Heap.lt_size e
theorem Paired.mapP {α β:Type} {F G:α→β→Prop}:∀ {l₁:List α} {l₂:List β},Paired F l₁ l₂→(∀ a b,F a b→G a b)→Paired G l₁ l₂
  | _,_,.nil,_=>.nil
  | _,_,.cons r t,f=>.cons (f _ _ r) (Paired.mapP t f)
theorem ObjOk.stay (x:ObjOk P w H h a o) (k:∀ b u,(b=a∨H b=some (.own a))→h.get? b=some u→h'.get? b=some u)
    (ho:∀ b,H b=some (.own a)→H' b=some (.own a)) (ht:∀ b xs,H b=some (.tup xs)→H' b=some (.tup xs)):ObjOk P w H' h' a o:=by
  induction o with
  | lst xs=>obtain ⟨z,its,n,r,e⟩:=x; exact ⟨z,its,n,r,k _ _ (.inl rfl) e⟩
  | tup xs=>obtain ⟨z,its,r,ob,e,c⟩:=x; exact ⟨z,its,r,ob,k _ _ (.inl rfl) e,c⟩
  | dK kvs=>obtain ⟨z,y,vs,r,ob,es,ep,e,c⟩:=x; exact ⟨z,y,vs,r,ob,es,ep,k _ _ (.inl rfl) e,c⟩
  | dT kvs =>
    obtain ⟨z,y,xs,r,ob,es,ep,e,c⟩:=x
    exact ⟨z,y,xs,Paired.mapP r fun p q z=>⟨z.1,ht _ _ z.2.1,z.2.2⟩,ob,es,ep,k _ _ (.inl rfl) e,c⟩
  | set S n=>obtain ⟨ob,es,ep,t,e,c⟩:=x; exact ⟨ob,es,ep,t,k _ _ (.inl rfl) e,c⟩
  | ins C dx fs =>
    obtain ⟨d,z,ne,e,mA,⟨od,es,ep,e2,c⟩,r⟩:=x
    exact ⟨ho _ d,z,ne,k _ _ (.inl rfl) e,mA,⟨od,es,ep,k _ _ (.inr d) e2,c⟩,r⟩
  | own y=>obtain ⟨ob,e⟩:=x; exact ⟨ob,k _ _ (.inl rfl) e⟩
  | xd fs=>obtain ⟨mA,⟨od,es,ep,e,c⟩,r⟩:=x; exact ⟨mA,⟨od,es,ep,k _ _ (.inl rfl) e,c⟩,r⟩
  | rng lo hi=>obtain ⟨t,u,v,e⟩:=x; exact ⟨t,u,v,k _ _ (.inl rfl) e⟩
  | frz ob u ih=>obtain ⟨e,q⟩:=x; exact ⟨k _ _ (.inl rfl) e,ih q⟩
  | tbl ps=>exact TblOk.stay x k ho
  | met f y =>
    have e:h.get? a=some (PySem.W.methodObj (.ref f) (.ref y)):=x
    show h'.get? a=some (PySem.W.methodObj (.ref f) (.ref y))
    exact k a _ (.inl rfl) e
  | ext φ=>obtain ⟨p,⟨o,e⟩,st⟩:=x; exact ⟨st _ _ p fun o q=>k _ _ (.inl rfl) q,⟨o,k _ _ (.inl rfl) e⟩,st⟩
theorem HOk.lt (x:HOk P w H h) (e:H a=some o):a < h.objs.size:=(x a o e).lt
theorem HOk.fresh (x:HOk P w H h) (e:h.objs.size ≤ a):H a=none:=by
  cases q:H a with
  | none=>rfl
  | some u=>exact absurd (Nat.lt_of_lt_of_le (x.lt q) e) (Nat.lt_irrefl _)
theorem HOk.kept (x:HOk P w H h) (k:∀ b u,h.get? b=some u→h'.get? b=some u):HOk P w H h':=fun a o e =>
  (x a o e).stay (fun b u _ q=>k b u q) (fun _ q=>q) fun _ _ q=>q
theorem HOk.laid (x:HOk P w H h) (k:∀ b u,h.get? b=some u→h'.get? b=some u) (hp:h.objs.size ≤ a) (new:ObjOk P w (upd H a o) h' a o):HOk P w (upd H a o) h':=fun b u e=>by
  have hn:=x.fresh hp
  by_cases hb:b=a
  · subst hb; rw [zaD] at e; cases e; exact new
  · rw [zar hb] at e
    exact (x b u e).stay (fun c v _ q=>k c v q) (fun c q=>by rw [zar (zas q hn)]; exact q) fun c xs q=>by rw [zar (zas q hn)]; exact q
end
def Rd (H:Hp) (a:Addr) (u:HO):Prop:=H a=some u∨∃ o,H a=some (.frz o u)
theorem Rd.ok {P:Program} {w:World} {H:Hp} {h:Heap} {a:Addr} {u:HO} (r:Rd H a u) (x:HOk P w H h):ObjOk P w H h a u:=by
  rcases r with r | ⟨o,r⟩
  · exact x a u r
  · obtain ⟨_,q⟩:=x a _ r
    exact q
def Mut:Option HO→Prop
  | some (.lst _)=>True
  | some (.dK _)=>True
  | some (.dT _)=>True
  | some (.set _ _)=>True
  | some (.ins _ _ _)=>True
  | some (.ext _)=>True
  | _=>False
section
variable {P:Program} {w:World} {H:Hp} {h h':Heap} {x e:Addr} {o':HO}
theorem HOk.write (ok:HOk P w H h) (mu:Mut (H x)) (he:e=x∨H e=some (.own x)) (k:∀ b u,b ≠ e→h.get? b=some u→h'.get? b=some u) (heo:∃ u,h'.get? e=some u)
    (new:ObjOk P w (upd H x o') h' x o'):HOk P w (upd H x o') h':=fun b u q=>by
  have nown:∀ c y,H c=some (.own y)→c ≠ x:=fun c y r z=>by subst z; rw [r] at mu; exact mu
  have ntup:∀ c xs,H c=some (.tup xs)→c ≠ x:=fun c xs r z=>by subst z; rw [r] at mu; exact mu
  by_cases hb:b=x
  · subst hb; rw [zaD] at q; cases q; exact new
  · rw [zar hb] at q
    by_cases hbe:b=e
    · have q':H b=some (.own x):=by
        rcases he with z | z
        · exact absurd (hbe.trans z) hb
        · rw [hbe]; exact z
      rw [q] at q'; cases q'
      obtain ⟨v,hv⟩:=heo
      exact ⟨v,by rw [hbe]; exact hv⟩
    · refine (ok b u q).stay (fun c v hc r=>k c v ?_ r) (fun c r=>by rw [zar (nown c b r)]; exact r) fun c xs r=>by rw [zar (ntup c xs r)]; exact r
      rcases hc with rfl | hc
      · exact hbe
      · rintro rfl
        rcases he with z | z
        · exact nown c b hc z
        · rw [hc] at z; cases z; exact hb rfl
end
structure Un (fs ex:List Addr) (H H':Hp) (h h':Heap):Prop where
  keep:∀ b o,h.get? b=some o→H b=none→b ∉ fs→b ∉ ex→h'.get? b=some o
  slot:∀ b o,h.get? b=some o→H b=none→b ∈ fs→b ∉ ex→∃ sl,h'.get? b=some { o with slots:=sl }
  free:∀ b o,h.get? b=some o→H b=none→b ∉ ex→H' b=none
  there:∀ b o,h.get? b=some o→b ∉ ex→∃ o',h'.get? b=some o'
  tups:∀ b xs,H b=some (.tup xs)→H' b=some (.tup xs)
  frzs:∀ b o u,H b=some (.frz o u)→H' b=some (.frz o u)
  tbls:∀ b ps,H b=some (.tbl ps)→∃ more,H' b=some (.tbl (ps ++ more))
section
variable {fs fs' ex ex':List Addr} {H H1 H2:Hp} {h h1 h2 h':Heap} {a x e:Addr} {o:HO}
theorem Un.any (u:Un fs ex H H1 h h1) {b:Addr} {ob:Obj} (q:h.get? b=some ob) (n:H b=none) (hx:b ∉ ex):∃ sl,h1.get? b=some { ob with slots:=sl }:=by
  by_cases hb:b ∈ fs
  · exact u.slot b ob q n hb hx
  · exact ⟨ob.slots,u.keep b ob q n hb hx⟩
theorem Un.kept (k:∀ b u,h.get? b=some u→h'.get? b=some u):Un fs ex H H h h' :=
  ⟨fun b ob q _ _ _=>k b ob q,fun b ob q _ _ _=>⟨ob.slots,k b ob q⟩,fun _ _ _ n _=>n,fun b ob q _=>⟨ob,k b ob q⟩,fun _ _ q=>q,fun _ _ _ q=>q,fun _ ps q=>⟨#[],by rw [q]; simp⟩⟩
theorem Un.refl:Un fs ex H H h h:=Un.kept fun _ _ q=>q
theorem Un.laid (k:∀ b u,h.get? b=some u→h'.get? b=some u) (hp:h.objs.size ≤ a) (hn:H a=none):Un fs ex H (upd H a o) h h' where
  keep:=fun b u q _ _ _=>k b u q
  slot:=fun b u q _ _ _=>⟨u.slots,k b u q⟩
  free:=fun b u q n _=>by rw [zar (Nat.ne_of_lt (Nat.lt_of_lt_of_le (Heap.lt_size q) hp))]; exact n
  there:=fun b u q _=>⟨u,k b u q⟩
  tups:=fun b xs q=>by rw [zar (zas q hn)]; exact q
  frzs:=fun b u xs q=>by rw [zar (zas q hn)]; exact q
  tbls:=fun b ps q=>⟨#[],by rw [zar (zas q hn),q]; simp⟩
theorem Un.write (mu:Mut (H x)) (he:e=x∨H e=some (.own x)) (k:∀ b u,b ≠ e→h.get? b=some u→h'.get? b=some u) (heo:∃ u,h'.get? e=some u):Un fs ex H (upd H x o) h h':=by
  have hx:∀ b,H b=none→b ≠ x:=fun b n z=>by subst z; rw [n] at mu; exact mu
  have hb:∀ b,H b=none→b ≠ e:=fun b n z=>by
    subst z
    rcases he with r | r
    · exact hx b n r
    · rw [n] at r; cases r
  have hm:∀ b u,H b=some u→¬ Mut (some u)→b ≠ x:=fun b u q nm z=>by subst z; rw [q] at mu; exact nm mu
  refine ⟨fun b u q n _ _=>k b u (hb b n) q,fun b u q n _ _=>⟨u.slots,k b u (hb b n) q⟩,fun b u q n _=>by rw [zar (hx b n)]; exact n,fun b u q _=>?_,
    fun b xs q=>by rw [zar (hm b _ q fun z=>z)]; exact q,fun b u xs q=>by rw [zar (hm b _ q fun z=>z)]; exact q,fun b ps q=>⟨#[],by rw [zar (hm b _ q fun z=>z),q]; simp⟩⟩
  by_cases hbe:b=e
  · subst hbe; exact heo
  · exact ⟨u,k b u hbe q⟩
end
def trk (h:Heap) (H:Hp):List Addr:=(List.range h.objs.size).filter fun a=>(H a).isSome
def hidT (h:Heap) (H:Hp):Heap:=PySem.W.hideAll h (trk h H)
theorem zhI (h:Heap) (H:Hp):(hidT h H).objs.size=h.objs.size:=PySem.W.hideAll_size _ _
theorem zid {h:Heap} {H:Hp} {b:Addr} {o:Obj} (e:h.get? b=some o) (n:H b=none):(hidT h H).get? b=some o :=
  PySem.W.hideAll_get _ e fun hm=>by
    have q:(H b).isSome=true:=(List.mem_filter.mp hm).2
    rw [n] at q; simp at q
theorem zi6 {h:Heap} {H:Hp} {b:Addr} {o:Obj} (e:(hidT h H).get? b=some o):h.get? b=some o∧H b=none:=by
  have e':h.get? b=some o:=PySem.W.of_hideAll (trk h H) e
  refine ⟨e',?_⟩
  cases q:H b with
  | none=>rfl
  | some x =>
    have hm:b ∈ trk h H:=List.mem_filter.mpr ⟨List.mem_range.mpr (Heap.lt_size e'),by simp [q]⟩
    have z:(hidT h H).get? b=none:=PySem.W.hideAll_none (trk h H) hm
    rw [z] at e; cases e
def zko (g h:Heap) (L:Addr):List (Addr × Obj):=(List.range h.objs.size).filterMap fun a=>if a=L∨(g.get? a).isSome=true then none else (h.get? a).map fun o=>(a,o)
end L2
namespace L2
open PySem PySem.Spec PyProof.Rows
structure Mod (K:PySem.W.Frag) (mg:Str→Option Value) (base:Heap):Prop where
  kin:K.In base
  glob:base.Ns mainGlobals mg
  blt:∃ mb,base.Ns builtinsNs mb∧∀ x:Str,x ≠ "__name__"→mb x=bootBuiltins x
  nolimit:base.NoLimit
structure Cx where
  prog:Program
  w:World
  K:PySem.W.Frag
  mg:Str→Option Value
  base:Heap
  A:Around
  N:List Str
  s₀:Shared
  H₀:Hp
  env:Env
  outer:List Env
  stack:List Env
  ex:List Addr
  fn:Str→Bool
  calm:Bool
  pn:List (Addr × Obj)
  xe:Value→Shared→Prop
def frs (l:List Env):List Addr:=l.filterMap (·.frame)
abbrev Cx.fs (X:Cx):List Addr:=frs X.outer
def Vis (sc:Scope) (x:Str):Prop:=sc.names.lookup x=some .local∨sc.names.lookup x=some .cell∨sc.names.lookup x=some .free
def Loc (sc:Scope) (x:Str):Prop:=sc.names.lookup x=some .local∨sc.names.lookup x=some .cell
def Look (env:Env) (h:Heap) (m:Str→Option Value) (x:Str) (u:Value):Prop :=
  (env.kindOf x=some .local∧m x=some u)∨((env.kindOf x=some .cell∨env.kindOf x=some .free)∧∃ c,env.cells.lookup x=some c∧h.IsCell c (some u))
structure Cx.Ok (X:Cx):Prop where
  mod:Mod X.K X.mg X.base
  kind:X.env.scope.kind = .function
  glob:X.env.globals=mainGlobals
  blt:X.env.builtins=builtinsNs
  above:X.s₀.heap.objs.size ≤ X.env.locals
  inj:∀ x y c,X.env.cells.lookup x=some c→X.env.cells.lookup y=some c→x=y
  has:∀ x,(X.env.kindOf x=some .cell∨X.env.kindOf x=some .free)→∃ c,X.env.cells.lookup x=some c
  cab:∀ x c,X.fn x=true→X.env.cells.lookup x=some c→X.s₀.heap.objs.size ≤ c
  hd:X.calm=true→X.A.handled=none
  frames:X.A.frames=some X.stack
  stk:X.stack=X.outer∨(X.stack=X.env :: X.outer∧X.env.frame=some X.env.locals)
  exf:∀ b ∈ X.ex,b ≠ X.env.locals∧∀ x c,X.env.cells.lookup x=some c→c ≠ b
  bs:∀ b o,X.base.get? b=some o→X.s₀.heap.get? b=some o∧X.H₀ b=none
  bsz:X.base.objs.size ≤ X.s₀.heap.objs.size
  noex:∀ b o,X.base.get? b=some o→b ∉ X.ex
  exfs:∀ b ∈ X.ex,b ∉ X.fs
  funs:X.s₀.heap.FunFrames X.base X.outer
  frf:∀ b ∈ X.fs,X.H₀ b=none
  tb:TbAt X.K X.H₀
structure Inv (X:Cx) (pins:List (Addr × Obj)) (σ:List (Option V)) (H:Hp) (s:Shared):Prop where
  ok:X.Ok
  os:s.os=X.s₀.os
  bare:AllBare s.gens
  base:Un X.fs X.ex X.H₀ H X.s₀.heap s.heap
  loc:∃ m,s.heap.Ns X.env.locals m∧∀ (i:Nat) (x:Str) (v:V),X.N[i]?=some x→σ[i]?=some (some v)→Vis X.env.scope x→∃ u,RelV v u∧Look X.env s.heap m x u
  cell:∀ x c,X.env.cells.lookup x=some c→∃ v,s.heap.IsCell c v
  free:H X.env.locals=none
  freeC:∀ x c,X.env.cells.lookup x=some c→H c=none
  pin:∀ p ∈ X.pn ++ pins,s.heap.get? p.1=some p.2∧H p.1=none∧p.1 ≠ X.env.locals∧p.1 ∉ X.fs∧∀ v,p.2.data ≠ .cell v
  hok:HOk X.prog X.w H s.heap
  len:σ.length=X.N.length
section
variable {X:Cx} {pins:List (Addr × Obj)} {σ:List (Option V)} {H H':Hp} {s:Shared} {h':Heap}
theorem Cx.Ok.nofr (ok:X.Ok) {b:Addr} {o:Obj} (e:X.base.get? b=some o):b ∉ X.fs:=fun hb=>by
  have:=(ok.funs.mem hb).1
  rw [e] at this; cases this
theorem Inv.bs (I:Inv X pins σ H s):∀ b o,X.base.get? b=some o→s.heap.get? b=some o∧H b=none:=fun b o e =>
  ⟨I.base.keep b o (I.ok.bs b o e).1 (I.ok.bs b o e).2 (I.ok.nofr e) (I.ok.noex b o e),I.base.free b o (I.ok.bs b o e).1 (I.ok.bs b o e).2 (I.ok.noex b o e)⟩
theorem Inv.bk (I:Inv X pins σ H s):∀ b o,X.base.get? b=some o→s.heap.get? b=some o:=fun b o e=>(I.bs b o e).1
theorem Inv.mod (I:Inv X pins σ H s):Mod X.K X.mg X.base:=I.ok.mod
theorem Inv.kIn (I:Inv X pins σ H s):X.K.In s.heap:=I.ok.mod.kin.keeps I.bk
theorem Inv.lt (I:Inv X pins σ H s):X.env.locals < s.heap.objs.size:=let ⟨_,hn,_⟩:=I.loc; hn.lt
theorem Inv.sz (I:Inv X pins σ H s):X.s₀.heap.objs.size ≤ s.heap.objs.size:=Nat.le_trans I.ok.above (Nat.le_of_lt I.lt)
theorem Inv.nofs (I:Inv X pins σ H s) {a:Addr} (h:s.heap.objs.size ≤ a):a ∉ X.fs:=fun hb=>by
  obtain ⟨_,o,ho,_⟩:=I.ok.funs.mem hb
  exact absurd (Nat.lt_of_lt_of_le (Heap.lt_size ho) (Nat.le_trans I.sz h)) (Nat.lt_irrefl _)
theorem Inv.cne (I:Inv X pins σ H s):∀ x c,X.env.cells.lookup x=some c→c ≠ X.env.locals:=fun x c e z=>by
  obtain ⟨v,o,ho,hd⟩:=I.cell x c e
  obtain ⟨m,⟨o',es,ep,ho',hd',_⟩,_⟩:=I.loc
  rw [z,ho'] at ho; cases ho; rw [hd'] at hd; cases hd
theorem Inv.funs (I:Inv X pins σ H s):s.heap.FunFrames X.base X.outer:=by
  have all:∀ (l:List Env),(∀ b ∈ frs l,b ∈ X.fs)→X.s₀.heap.FunFrames X.base l→s.heap.FunFrames X.base l:=by
    intro l
    induction l with
    | nil=>intro _ _; trivial
    | cons env r ih =>
      intro hs hl
      obtain ⟨hk,⟨L,o,hf,hn,ho,hd⟩,hr⟩:=hl
      have hL:L ∈ X.fs:=hs L (by unfold frs; rw [List.filterMap_cons,hf]; exact List.mem_cons_self)
      obtain ⟨sl,e⟩:=I.base.slot L o ho (I.ok.frf L hL) hL fun z=>I.ok.exfs L z hL
      exact ⟨hk,⟨L,_,hf,hn,e,hd⟩,ih (fun b hb=>hs b (by unfold frs; rw [List.filterMap_cons,hf]; exact List.mem_cons_of_mem _ hb)) hr⟩
  exact all X.outer (fun _ hb=>hb) I.ok.funs
theorem Inv.stack (I:Inv X pins σ H s):s.heap.FunFrames X.base X.stack:=by
  rcases I.ok.stk with e | ⟨e,hf⟩
  · rw [e]; exact I.funs
  · rw [e]
    obtain ⟨m,hn,_⟩:=I.loc
    refine .cons (by rw [I.ok.kind]; decide) hf hn ?_ I.funs
    exact Heap.get?_none_of_le (Nat.le_trans I.ok.bsz I.ok.above)
theorem Inv.stkSub (I:Inv X pins σ H s):∀ b ∈ frs X.stack,b ∈ X.env.locals :: X.fs:=fun b hb=>by
  rcases I.ok.stk with e | ⟨e,hf⟩
  · rw [e] at hb; exact List.mem_cons_of_mem _ hb
  · rw [e] at hb
    unfold frs at hb
    rw [List.filterMap_cons,hf] at hb
    exact hb
theorem Inv.stkFree (I:Inv X pins σ H s):∀ b ∈ frs X.stack,H b=none:=fun b hb=>by
  rcases List.mem_cons.mp (I.stkSub b hb) with e | hb
  · rw [e]; exact I.free
  · obtain ⟨_,o,ho,_⟩:=I.ok.funs.mem hb
    exact I.base.free b o ho (I.ok.frf b hb) fun z=>I.ok.exfs b z hb
theorem Inv.step {g':Array GenState} {t':Nat} {d':Drawn} {ch:List Addr} (I:Inv X pins σ H s)
    (hch:∀ b ∈ ch,(b ∈ X.ex∨X.s₀.heap.objs.size ≤ b)∧b ≠ X.env.locals∧(∀ x c,X.env.cells.lookup x=some c→c ≠ b)∧∀ p ∈ X.pn ++ pins,p.1 ≠ b)
    (keep:∀ b o,b ≠ X.env.locals→b ∉ X.fs→b ∉ ch→s.heap.get? b=some o→H b=none→h'.get? b=some o)
    (slot:∀ b o,b ≠ X.env.locals→b ∈ X.fs→b ∉ ch→s.heap.get? b=some o→H b=none→∃ sl,h'.get? b=some { o with slots:=sl }) (free:∀ b o,b ∉ ch→s.heap.get? b=some o→H b=none→H' b=none)
    (there:∀ b o,b ∉ ch→s.heap.get? b=some o→∃ o',h'.get? b=some o')
    (tups:∀ b xs,H b=some (.tup xs)→H' b=some (.tup xs)) (frzs:∀ b o u,H b=some (.frz o u)→H' b=some (.frz o u)) (tbls:∀ b ps,H b=some (.tbl ps)→∃ more,H' b=some (.tbl (ps ++ more)))
    (ns:∀ m,s.heap.Ns X.env.locals m→h'.Ns X.env.locals m) (hok:HOk X.prog X.w H' h') (hg:AllBare g') :
    Inv X pins σ H' { s with heap:=h',gens:=g',drawn:=d',toks:=t' }:=by
  have neL:∀ b o,X.s₀.heap.get? b=some o→b ≠ X.env.locals:=fun b o e=>Nat.ne_of_lt (Nat.lt_of_lt_of_le (Heap.lt_size e) I.ok.above)
  have neC:∀ b o,X.s₀.heap.get? b=some o→b ∉ X.ex→b ∉ ch:=fun b o e hx hb=>by
    rcases (hch b hb).1 with z | z
    · exact hx z
    · exact absurd (Nat.lt_of_lt_of_le (Heap.lt_size e) z) (Nat.lt_irrefl _)
  have cellK:∀ x c,X.env.cells.lookup x=some c→∀ v,s.heap.IsCell c v→h'.IsCell c v:=fun x c e v ⟨o,ho,hd⟩=>by
    have nch:c ∉ ch:=fun z=>(hch c z).2.2.1 x c e rfl
    by_cases hc:c ∈ X.fs
    · obtain ⟨sl,q⟩:=slot c o (I.cne x c e) hc nch ho (I.freeC x c e)
      exact ⟨_,q,hd⟩
    · exact ⟨o,keep c o (I.cne x c e) hc nch ho (I.freeC x c e),hd⟩
  refine ⟨I.ok,I.os,hg,⟨fun b o e n hb hx=>?_,fun b o e n hb hx=>?_,fun b o e n hx=>?_,fun b o e hx=>?_,fun b xs e=>tups b xs (I.base.tups b xs e),fun b o xs e=>frzs b o xs (I.base.frzs b o xs e),fun b ps e=>?_⟩,?_,fun x c e=>?_,?_,fun x c e=>?_,fun p hp=>?_,hok,I.len⟩
  · exact keep b o (neL b o e) hb (neC b o e hx) (I.base.keep b o e n hb hx) (I.base.free b o e n hx)
  · obtain ⟨sl,e1⟩:=I.base.slot b o e n hb hx
    obtain ⟨sl',e2⟩:=slot b _ (neL b o e) hb (neC b o e hx) e1 (I.base.free b o e n hx)
    exact ⟨sl',e2⟩
  · obtain ⟨o',e1⟩:=I.base.there b o e hx
    exact free b o' (neC b o e hx) e1 (I.base.free b o e n hx)
  · obtain ⟨o',e1⟩:=I.base.there b o e hx
    exact there b o' (neC b o e hx) e1
  · obtain ⟨m1,e1⟩:=I.base.tbls b ps e
    obtain ⟨m2,e2⟩:=tbls b _ e1
    exact ⟨m1 ++ m2,by rw [e2,Array.append_assoc]⟩
  · obtain ⟨m,hn,hl⟩:=I.loc
    refine ⟨m,ns m hn,fun i x v e1 e2 e3=>?_⟩
    obtain ⟨u,r,l⟩:=hl i x v e1 e2 e3
    refine ⟨u,r,?_⟩
    rcases l with l | ⟨k,c,e,z⟩
    · exact .inl l
    · exact .inr ⟨k,c,e,cellK x c e _ z⟩
  · obtain ⟨v,z⟩:=I.cell x c e
    exact ⟨v,cellK x c e v z⟩
  · obtain ⟨m,⟨o,_,_,ho,_⟩,_⟩:=I.loc
    exact free _ o (fun z=>(hch _ z).2.1 rfl) ho I.free
  · obtain ⟨v,o,ho,hd⟩:=I.cell x c e
    exact free c o (fun z=>(hch c z).2.2.1 x c e rfl) ho (I.freeC x c e)
  · obtain ⟨e,n,ne,nf,d⟩:=I.pin p hp
    have nch:p.1 ∉ ch:=fun z=>(hch p.1 z).2.2.2 p hp rfl
    exact ⟨keep p.1 p.2 ne nf nch e n,free p.1 p.2 nch e n,ne,nf,d⟩
theorem Inv.un {t':Nat} (I:Inv X pins σ H s) (u:Un X.fs [] H H' s.heap h') (hok:HOk X.prog X.w H' h'):Inv X pins σ H' { s with heap:=h',toks:=t' }:=by
  obtain ⟨m,⟨o,es,ep,ho,r⟩,_⟩:=id I.loc
  obtain ⟨sl,hL⟩:=u.any ho I.free (by simp)
  exact I.step (g':=s.gens) (d':=s.drawn) (ch:=[]) (fun _ z=>nomatch z) (fun b o _ hb _ e n=>u.keep b o e n hb (by simp)) (fun b o _ hb _ e n=>u.slot b o e n hb (by simp)) (fun b o _ e n=>u.free b o e n (by simp)) (fun b o _ e=>u.there b o e (by simp)) u.tups u.frzs u.tbls (fun m' hm=>by
    obtain ⟨o',es',ep',ho',r'⟩:=hm
    rw [ho] at ho'; cases ho'
    exact ⟨_,es',ep',hL,r'⟩) hok I.bare
theorem Inv.call {g':Array GenState} {t':Nat} {d':Drawn} {ch:List Addr} (I:Inv X pins σ H s) (u:Un (frs X.stack) ch H H' s.heap h') (hok:HOk X.prog X.w H' h') (hg:AllBare g')
    (hch:∀ b ∈ ch,(b ∈ X.ex∨X.s₀.heap.objs.size ≤ b)∧b ≠ X.env.locals∧(∀ x c,X.env.cells.lookup x=some c→c ≠ b)∧∀ p ∈ X.pn ++ pins,p.1 ≠ b) :
    Inv X pins σ H' { s with heap:=h',gens:=g',drawn:=d',toks:=t' }:=by
  obtain ⟨m,⟨o,es,ep,ho,r⟩,_⟩:=id I.loc
  obtain ⟨sl,hL⟩:=u.any ho I.free fun z=>(hch _ z).2.1 rfl
  exact I.step (ch:=ch) hch (fun b o hL hb hc e n=>u.keep b o e n (fun z=>(List.mem_cons.mp (I.stkSub b z)).elim hL hb) hc) (fun b o _ _ hc e n=>u.any e n hc) (fun b o hc e n=>u.free b o e n hc) (fun b o hc e=>u.there b o e hc) u.tups u.frzs u.tbls (fun m' hm=>by
    obtain ⟨o',es',ep',ho',r'⟩:=hm
    rw [ho] at ho'; cases ho'
    exact ⟨_,es',ep',hL,r'⟩) hok hg
theorem Inv.turned {t':Nat} {it:Addr} (I:Inv X pins σ H s) (k:∀ b o,b ≠ it→s.heap.get? b=some o→h'.get? b=some o) (hn:H it=none) (hL:it ≠ X.env.locals)
    (h1:it ∈ X.ex∨X.s₀.heap.objs.size ≤ it) (h2:∀ x c,X.env.cells.lookup x=some c→c ≠ it) (h3:∀ p ∈ X.pn ++ pins,p.1 ≠ it):Inv X pins σ H { s with heap:=h',toks:=t' }:=by
  have nit:∀ b u,H b=some u→b ≠ it:=fun b u e z=>by rw [z,hn] at e; cases e
  refine I.step (g':=s.gens) (d':=s.drawn) (ch:=[it]) (fun b hb=>?_) (fun b o _ _ hc e _=>k b o (fun z=>hc (by simp [z])) e) (fun b o _ _ hc e _=>⟨o.slots,k b o (fun z=>hc (by simp [z])) e⟩) (fun _ _ _ _ n=>n)
    (fun b o hc e=>⟨o,k b o (fun z=>hc (by simp [z])) e⟩) (fun _ _ e=>e) (fun _ _ _ e=>e) (fun b ps e=>⟨#[],by rw [e]; simp⟩) (fun m hm=>?_) (fun b u e=>?_) I.bare
  · have e:b=it:=by simpa using hb
    subst e
    exact ⟨h1,hL,h2,h3⟩
  · obtain ⟨o,es,ep,ho,r⟩:=hm
    exact ⟨o,es,ep,k _ o (Ne.symm hL) ho,r⟩
  · refine (I.hok b u e).stay (fun c v hc q=>k c v ?_ q) (fun _ q=>q) fun _ _ q=>q
    rcases hc with z | z
    · rw [z]; exact nit b u e
    · exact nit c _ z
theorem Inv.tok (I:Inv X pins σ H s) (t:Nat):Inv X pins σ H { s with toks:=t }:=I.un (h':=s.heap) (t':=t) Un.refl I.hok
theorem Inv.kept {t':Nat} (I:Inv X pins σ H s) (k:∀ b u,s.heap.get? b=some u→h'.get? b=some u):Inv X pins σ H { s with heap:=h',toks:=t' }:=I.un (Un.kept k) (I.hok.kept k)
theorem Inv.laid {a:Addr} {o:HO} {t':Nat} (I:Inv X pins σ H s) (k:∀ b u,s.heap.get? b=some u→h'.get? b=some u) (hp:s.heap.objs.size ≤ a) (new:ObjOk X.prog X.w (upd H a o) h' a o) :
    Inv X pins σ (upd H a o) { s with heap:=h',toks:=t' }:=I.un (Un.laid k hp (I.hok.fresh hp)) (I.hok.laid k hp new)
theorem Inv.write {x e:Addr} {o:HO} {t':Nat} (I:Inv X pins σ H s) (mu:Mut (H x)) (he:e=x∨H e=some (.own x)) (k:∀ b u,b ≠ e→s.heap.get? b=some u→h'.get? b=some u) (heo:∃ u,h'.get? e=some u)
    (new:ObjOk X.prog X.w (upd H x o) h' x o):Inv X pins σ (upd H x o) { s with heap:=h',toks:=t' }:=I.un (Un.write mu he k heo) (I.hok.write mu he k heo new)
theorem Inv.pins_of {pins':List (Addr × Obj)} (I:Inv X pins σ H s) (h:∀ p ∈ pins',s.heap.get? p.1=some p.2∧H p.1=none∧p.1 ≠ X.env.locals∧p.1 ∉ X.fs∧∀ v,p.2.data ≠ .cell v):Inv X pins' σ H s :=
  ⟨I.ok,I.os,I.bare,I.base,I.loc,I.cell,I.free,I.freeC,fun p hp=>(List.mem_append.mp hp).elim (fun z=>I.pin p (List.mem_append_left _ z)) (h p),I.hok,I.len⟩
theorem zgG {N:List Str} (hN:N.Nodup) {i j:Nat} {x:Str} (a:N[i]?=some x) (b:N[j]?=some x):i=j:=by
  obtain ⟨h1,e1⟩:=List.getElem?_eq_some_iff.mp a
  obtain ⟨h2,e2⟩:=List.getElem?_eq_some_iff.mp b
  exact (List.getElem_inj hN).mp (e1.trans e2.symm)
theorem zhv {M:Model} {A:Around} {E:Value→Shared→Prop} {i:Nat} {x:Str} {v:V} {u:Value} {Q:Unit→Shared→Prop} (I:Inv X pins σ H s) (hN:X.N.Nodup) (hi:X.N[i]?=some x) (hx:Loc X.env.scope x) (r:RelV v u)
    (h:∀ s',Inv X pins (σ.set i (some v)) H s'→(∃ a,Heap.SameBut a s.heap s'.heap∧(a=X.env.locals∨X.env.cells.lookup x=some a))→Q () s') (hf:X.fn x=true∨X.env.scope.names.lookup x=some .local:=by first | exact .inl rfl | exact .inr rfl | assumption):wpAny M A (storeName X.env x u) Q E s:=by
  obtain ⟨m,hn,hl⟩:=id I.loc
  have hcls:(X.env.scope.kind == .class || (X.env.scope.kind == .module && X.env.locals != X.env.globals))=false:=by rw [I.ok.kind]; rfl
  have hiσ:i < σ.length:=by rw [I.len]; exact (List.getElem?_eq_some_iff.mp hi).1
  have cne:=I.cne
  have tracked:∀ {a:Addr} {h':Heap},(∃ o,s.heap.get? a=some o∧H a=none)→Heap.SameBut a s.heap h'→HOk X.prog X.w H h':=fun {a h'} ha hs b ob e=>by
    obtain ⟨_,_,hfree⟩:=ha
    refine (I.hok b ob e).stay (fun c w' hc q=>(hs.2 c ?_).trans q) (fun _ q=>q) fun _ _ q=>q
    rintro rfl
    rcases hc with rfl | hc
    · rw [hfree] at e; cases e
    · rw [hfree] at hc; cases hc
  rcases hx with hk | hk
  · refine wpAny_storeName_local hk hn (fun h' hn' hs=>?_) hcls
    obtain ⟨oL,_,_,hoL,_⟩:=id hn
    refine h _ ⟨I.ok,I.os,I.bare,⟨fun b o e n hb hx=>?_,fun b o e n hb hx=>?_,I.base.free,fun b o e hx=>?_,I.base.tups,I.base.frzs,I.base.tbls⟩,⟨_,hn',fun j y v' e1 e2 e3=>?_⟩,fun y c e=>?_,I.free,I.freeC,fun p hp=>?_,tracked ⟨oL,hoL,I.free⟩ hs,by simpa using I.len⟩ ⟨_,hs,.inl rfl⟩
    · exact (hs.2 b (Nat.ne_of_lt (Nat.lt_of_lt_of_le (Heap.lt_size e) I.ok.above))).trans (I.base.keep b o e n hb hx)
    · obtain ⟨sl,e1⟩:=I.base.slot b o e n hb hx
      exact ⟨sl,(hs.2 b (Nat.ne_of_lt (Nat.lt_of_lt_of_le (Heap.lt_size e) I.ok.above))).trans e1⟩
    · obtain ⟨o',e1⟩:=I.base.there b o e hx
      exact ⟨o',(hs.2 b (Nat.ne_of_lt (Nat.lt_of_lt_of_le (Heap.lt_size e) I.ok.above))).trans e1⟩
    · by_cases hj:j=i
      · subst hj
        rw [hi] at e1; cases e1
        rw [List.getElem?_set_self hiσ] at e2
        cases e2
        exact ⟨u,r,.inl ⟨hk,by simp⟩⟩
      · rw [List.getElem?_set_ne (Ne.symm hj)] at e2
        obtain ⟨u',r',q⟩:=hl j y v' e1 e2 e3
        refine ⟨u',r',?_⟩
        rcases q with ⟨k,e⟩ | ⟨k,c,e,z⟩
        · refine .inl ⟨k,?_⟩
          have:y ≠ x:=fun e=>hj (zgG hN e1 (e ▸ hi))
          simp [this,e]
        · exact .inr ⟨k,c,e,z.sameBut hs (cne y c e)⟩
    · obtain ⟨w',z⟩:=I.cell y c e
      exact ⟨w',z.sameBut hs (cne y c e)⟩
    · obtain ⟨e,n,ne,nf,d⟩:=I.pin p hp
      exact ⟨(hs.2 p.1 ne).trans e,n,ne,nf,d⟩
  · have hfn:X.fn x=true:=by
      rcases hf with z | z
      · exact z
      · rw [z] at hk; cases hk
    obtain ⟨c,hc⟩:=I.ok.has x (.inl hk)
    obtain ⟨w',z⟩:=I.cell x c hc
    refine wpAny_storeName_cell I.ok.kind hk hc z (fun h' hc' hs=>?_)
    obtain ⟨oc,hoc,hocd⟩:=id z
    refine h { s with heap:=h' } ⟨I.ok,I.os,I.bare,⟨fun b o e n hb hx=>?_,fun b o e n hb hx=>?_,I.base.free,fun b o e hx=>?_,I.base.tups,I.base.frzs,I.base.tbls⟩,⟨m,hn.sameBut hs (Ne.symm (cne x c hc)),fun j y v' e1 e2 e3=>?_⟩,fun y c' e=>?_,I.free,I.freeC,fun p hp=>?_,tracked ⟨oc,hoc,I.freeC x c hc⟩ hs,by simpa using I.len⟩ ⟨c,hs,.inr hc⟩
    · exact (hs.2 b (Nat.ne_of_lt (Nat.lt_of_lt_of_le (Heap.lt_size e) (I.ok.cab x c hfn hc)))).trans (I.base.keep b o e n hb hx)
    · obtain ⟨sl,e1⟩:=I.base.slot b o e n hb hx
      exact ⟨sl,(hs.2 b (Nat.ne_of_lt (Nat.lt_of_lt_of_le (Heap.lt_size e) (I.ok.cab x c hfn hc)))).trans e1⟩
    · obtain ⟨o',e1⟩:=I.base.there b o e hx
      exact ⟨o',(hs.2 b (Nat.ne_of_lt (Nat.lt_of_lt_of_le (Heap.lt_size e) (I.ok.cab x c hfn hc)))).trans e1⟩
    · by_cases hj:j=i
      · subst hj
        rw [hi] at e1; cases e1
        rw [List.getElem?_set_self hiσ] at e2
        cases e2
        exact ⟨u,r,.inr ⟨.inl hk,c,hc,hc'⟩⟩
      · rw [List.getElem?_set_ne (Ne.symm hj)] at e2
        obtain ⟨u',r',q⟩:=hl j y v' e1 e2 e3
        refine ⟨u',r',?_⟩
        rcases q with q | ⟨k,c',e,z'⟩
        · exact .inl q
        · refine .inr ⟨k,c',e,z'.sameBut hs ?_⟩
          rintro rfl
          exact hj (zgG hN e1 (I.ok.inj _ _ _ e hc ▸ hi))
    · by_cases hcc:c'=c
      · subst hcc; exact ⟨_,hc'⟩
      · obtain ⟨w2,z2⟩:=I.cell y c' e
        exact ⟨w2,z2.sameBut hs hcc⟩
    · obtain ⟨e,n,ne,nf,d⟩:=I.pin p hp
      refine ⟨(hs.2 p.1 ?_).trans e,n,ne,nf,d⟩
      intro q
      rw [q,hoc] at e
      have q':oc=p.2:=Option.some.inj e
      exact d w' (by rw [← q']; exact hocd)
theorem zde {M:Model} {A:Around} {E:Value→Shared→Prop} {i:Nat} {x:Str} {v:V} {u:Value} {Q:Unit→Shared→Prop} (I:Inv X pins σ H s) (hN:X.N.Nodup) (hi:X.N[i]?=some x) (hx:Loc X.env.scope x) (r:RelV v u)
    (h:∀ s',Inv X pins (σ.set i (some v)) H s'→Q () s') (hf:X.fn x=true∨X.env.scope.names.lookup x=some .local:=by first | exact .inl rfl | exact .inr rfl | assumption):wpAny M A (storeName X.env x u) Q E s :=
  zhv I hN hi hx r (fun s' I' _=>h s' I') hf
end
abbrev XK:=Value→Option Addr→Hp→Prop
abbrev St:=List (Option V)
abbrev VK:=V→Hp→Prop
abbrev TE:=St→Hp→VK→Prop
abbrev TT:=St→Hp→(Bool→Hp→Prop)→Prop
abbrev TA:=St→Hp→(List V→Hp→Prop)→Prop
structure Ends where
  nx:St→Hp→Prop
  rt:VK
  bk:St→Hp→Prop:=fun _ _=>False
  ct:St→Hp→Prop:=fun _ _=>False
abbrev TS:=Ends→St→Hp→Prop
def EP (X:Cx) (pins:List (Addr × Obj)) (σ:St) (Q:VK) (u:Value) (s':Shared):Prop:=∃ v H',Inv X pins σ H' s'∧RelV v u∧Q v H'
def TP (X:Cx) (pins:List (Addr × Obj)) (σ:St) (Q:Bool→Hp→Prop) (b:Bool) (s':Shared):Prop:=∃ H',Inv X pins σ H' s'∧Q b H'
def AP (X:Cx) (pins:List (Addr × Obj)) (σ:St) (Q:List V→Hp→Prop) (us:List Value) (s':Shared):Prop:=∃ vs H',Inv X pins σ H' s'∧Vals vs us∧Q vs H'
def SP (X:Cx) (pins:List (Addr × Obj)) (D:Ends) (f:Flow) (s':Shared):Prop :=
  match f with
  | .next=>∃ σ' H',Inv X pins σ' H' s'∧D.nx σ' H'
  | .brk=>∃ σ' H',Inv X pins σ' H' s'∧D.bk σ' H'
  | .cont=>∃ σ' H',Inv X pins σ' H' s'∧D.ct σ' H'
  | .ret u=>∃ v σ' H',Inv X pins σ' H' s'∧RelV v u∧D.rt v H'
def PE (X:Cx) (e:Expr) (t:TE):Prop :=
  ∀ (pins:List (Addr × Obj)) (s:Shared) (σ:St) (H:Hp) (Q:VK),Inv X pins σ H s→t σ H Q→wpAny (model X.prog X.w) X.A (eval e X.env) (EP X pins σ Q) X.xe s
def PT (X:Cx) (e:Expr) (t:TT):Prop :=
  ∀ (pins:List (Addr × Obj)) (s:Shared) (σ:St) (H:Hp) (Q:Bool→Hp→Prop),Inv X pins σ H s→t σ H Q→wpAny (model X.prog X.w) X.A (isTrue e X.env (eval e X.env)) (TP X pins σ Q) X.xe s
def PW (X:Cx) (e:Expr) (t:TT):Prop :=
  ∀ (whole:Sem Value) (pins:List (Addr × Obj)) (s:Shared) (σ:St) (H:Hp) (Q:Bool→Hp→Prop),Inv X pins σ H s→t σ H Q→wpAny (model X.prog X.w) X.A (isTrue e X.env whole) (TP X pins σ Q) X.xe s
theorem PW.pt {X:Cx} {e:Expr} {t:TT} (h:PW X e t):PT X e t:=h _
def PA (X:Cx) (es:List Expr) (t:TA):Prop :=
  ∀ (pos:Pos) (pins:List (Addr × Obj)) (s:Shared) (σ:St) (H:Hp) (Q:List V→Hp→Prop),Inv X pins σ H s→t σ H Q→wpAny (model X.prog X.w) X.A (spliced (backTo pos (starEach es X.env))) (AP X pins σ Q) X.xe s
def PS (X:Cx) (st:Stmt) (t:TS):Prop :=
  ∀ (pins:List (Addr × Obj)) (s:Shared) (σ:St) (H:Hp) (D:Ends),Inv X pins σ H s→t D σ H→wpAny (model X.prog X.w) X.A (exec st X.env) (SP X pins D) X.xe s
def PSs (X:Cx) (st:List Stmt) (t:TS):Prop :=
  ∀ (pins:List (Addr × Obj)) (s:Shared) (σ:St) (H:Hp) (D:Ends),Inv X pins σ H s→t D σ H→wpAny (model X.prog X.w) X.A (execs st X.env) (SP X pins D) X.xe s
theorem thn {α:Type} {t:Sem α} {Q Q':α→Shared→Prop} {M:Model} {A:Around} {E:Value→Shared→Prop} {s:Shared} (h:wpAny M A t Q E s) (hQ:∀ a s,Q a s→Q' a s):wpAny M A t Q' E s:=wpAny_mono h hQ fun _ _ x=>x
end L2
namespace L2
open PySem PySem.Spec PyProof.Rows
section
variable {X:Cx}
def tVar (i:Nat):TE:=fun σ H Q=>∃ v,σ[i]?=some (some v)∧Q v H
def tC (v:V):TE:=fun _ H Q=>Q v H
theorem zki {i:Nat} {x:Str} {pos:Pos} (hN:X.N[i]?=some x) (hv:Vis X.env.scope x) (hd:(x == ("__debug__" : Str))=false:=by decide) (hcd:(x == ("__classdict__" : Str))=false:=by decide):PE X (.Name x pos) (tVar i):=by
  intro pins s σ H Q I h
  obtain ⟨v,e,h⟩:=h
  obtain ⟨m,hn,hl⟩:=I.loc
  obtain ⟨u,r,l⟩:=hl i x v hN e hv
  have fin:EP X pins σ Q u s:=⟨v,H,I,r,h⟩
  rcases l with ⟨hk,hm⟩ | ⟨hk,c,hc,hcell⟩
  · exact wpAny_Name (wpAny_loadName_local I.ok.kind hk hn hm fin) hd
  · rcases hk with hk | hk
    · exact wpAny_Name (wpAny_loadName_cell I.ok.kind hk hc hcell fin) hd
    · exact wpAny_Name (wpAny_loadName_free I.ok.kind hk hc hcell fin hcd) hd
theorem zag {i j pos}:PE X (.Constant (.int i) j pos) (tC (.int i)):=fun _ _ _ H _ I h=>wpAny_Constant_int ⟨.int i,H,I.tok _,⟨_,rfl⟩,h⟩
theorem zev {b j pos}:PE X (.Constant (.bool b) j pos) (tC (.bl b)):=fun _ _ _ H _ I h=>Constant_bool ⟨.bl b,H,I,rfl,h⟩
theorem zbm {x j pos}:PE X (.Constant (.str x) j pos) (tC (.str x)):=fun _ _ _ H _ I h=>Calls.Constant_str ⟨.str x,H,I.tok _,⟨_,rfl⟩,h⟩
def Gl (X:Cx) (x:Str):Prop:=X.env.kindOf x=some .globalImplicit
theorem zhQ {E:Value→Shared→Prop} {pins:List (Addr × Obj)} {s:Shared} {σ:St} {H:Hp} {x:Str} {u:Value} {pos:Pos} {Q:Value→Shared→Prop} (I:Inv X pins σ H s) (hg:Gl X x) (hm:X.mg x=some u) (h:Q u s)
    (hd:(x == ("__debug__" : Str))=false:=by decide):wpAny (model X.prog X.w) X.A (eval (.Name x pos) X.env) Q E s :=
  Calls.Name_function_global I.ok.kind hg (Calls.loadGlobal_global (by rw [I.ok.glob]; exact I.mod.glob.keeps I.bk) hm h) hd
theorem zeL {E:Value→Shared→Prop} {pins:List (Addr × Obj)} {s:Shared} {σ:St} {H:Hp} {x:Str} {u:Value} {pos:Pos} {Q:Value→Shared→Prop} (I:Inv X pins σ H s) (hg:Gl X x) (hm:X.mg x=none) (hv:bootBuiltins x=some u) (h:Q u s)
    (hn:x ≠ "__name__":=by decide) (hd:(x == ("__debug__" : Str))=false:=by decide):wpAny (model X.prog X.w) X.A (eval (.Name x pos) X.env) Q E s:=by
  obtain ⟨mb,h1,h2⟩:=I.mod.blt
  exact Calls.Name_function_global I.ok.kind hg (Calls.loadGlobal_builtin (by rw [I.ok.glob]; exact I.mod.glob.keeps I.bk) hm (by rw [I.ok.blt]; exact h1.keeps I.bk) ((h2 x hn).trans hv) h) hd
theorem zhW {x:Str} {v:V} {u:Value} {pos:Pos} (hg:Gl X x) (hm:X.mg x=some u) (r:RelV v u) (hd:(x == ("__debug__" : Str))=false:=by decide):PE X (.Name x pos) (tC v) :=
  fun _ _ _ H _ I h=>zhQ I hg hm ⟨v,H,I,r,h⟩ hd
theorem zb5 {x:Str} {v:V} {u:Value} {pos:Pos} (hg:Gl X x) (hm:X.mg x=none) (hv:bootBuiltins x=some u) (r:RelV v u) (hn:x ≠ "__name__":=by decide) (hd:(x == ("__debug__" : Str))=false:=by decide):PE X (.Name x pos) (tC v) :=
  fun _ _ _ H _ I h=>zeL I hg hm hv ⟨v,H,I,r,h⟩ hn hd
variable {a b:Expr} {ta tb:TE} {pos:Pos}
def tB (t:TE):TT:=fun σ H Q=>t σ H fun x H1=>∃ c,x = .bl c∧Q c H1
theorem zcz {e:Expr} {t:TE} (h:PE X e t) (he:∀ whole,isTrue e X.env whole=(do let v ← whole; standAt e.pos; holding [v] (truthy v)):=by intro _; rfl):PT X e (tB t):=by
  intro pins s σ H Q I hw
  refine isTrue_plain (thn (h pins s σ H _ I hw) fun v s1 ⟨x,H1,I1,r1,q1⟩=>?_) (he _)
  obtain ⟨d,rfl,q⟩:=q1
  cases r1
  exact wpAny_truthy_bool ⟨H1,I1,q⟩
variable {tA tB':TT} {rest:List Expr}
def tOr (t u:TT):TT:=fun σ H Q=>t σ H fun c H1=>if c=true then Q true H1 else u σ H1 Q
def tNot (t:TT):TT:=fun σ H Q=>t σ H fun c H1=>Q (!c) H1
theorem zea (ha:PT X a tA):PW X (.BoolOp .Or [a] pos) tA:=by
  intro wh pins s σ H Q I h
  refine isTrue_or (thn (ha pins s σ H Q I h) fun c s1 e=>?_)
  cases c with
  | false=>exact isTrue_or_nil e
  | true=>exact e
theorem zd9 (ha:PT X a tA) (hb:PW X (.BoolOp .Or (b :: rest) pos) tB'):PW X (.BoolOp .Or (a :: b :: rest) pos) (tOr tA tB'):=by
  intro wh pins s σ H Q I h
  refine isTrue_or (thn (ha pins s σ H _ I h) fun c s1 ⟨H1,I1,q1⟩=>?_)
  cases c with
  | true=>exact ⟨H1,I1,q1⟩
  | false=>exact hb wh pins s1 σ H1 Q I1 q1
theorem zdy (ha:PT X a tA):PT X (.UnaryOp .Not a pos) (tNot tA):=by
  intro pins s σ H Q I h
  exact isTrue_not (ha pins s σ H (fun c H1=>Q (!c) H1) I h)
def zjw (ta tb:TE):TE:=fun σ H Q=>ta σ H fun x H1=>∃ c,x = .bl c∧if c=true then tb σ H1 Q else Q (.bl false) H1
def tOrV (ta tb:TE):TE:=fun σ H Q=>ta σ H fun x H1=>∃ c,x = .bl c∧if c=true then Q (.bl true) H1 else tb σ H1 Q
def zjL (ta:TE):TE:=fun σ H Q=>ta σ H fun x H1=>∃ c,x = .bl c∧Q (.bl (!c)) H1
theorem zeF {op} {t:TE} (h:PE X a t):PE X (.BoolOp op [a] pos) t:=fun pins s σ H Q I hw=>BoolOp_one (h pins s σ H Q I hw)
theorem zfP (ha:PE X a ta) (hb:PE X (.BoolOp .And (b :: rest) pos) tb):PE X (.BoolOp .And (a :: b :: rest) pos) (zjw ta tb):=by
  intro pins s σ H Q I h
  refine BoolOp_and (thn (ha pins s σ H _ I h) fun v s1 ⟨x,H1,I1,r1,q1⟩=>?_)
  obtain ⟨c,rfl,q1⟩:=q1
  cases r1
  refine wpAny_truthy_bool ?_
  cases c with
  | true=>exact hb pins s1 σ H1 Q I1 q1
  | false=>exact ⟨.bl false,H1,I1,rfl,q1⟩
theorem zjh (ha:PE X a ta) (hb:PE X (.BoolOp .Or (b :: rest) pos) tb):PE X (.BoolOp .Or (a :: b :: rest) pos) (tOrV ta tb):=by
  intro pins s σ H Q I h
  refine BoolOp_or (thn (ha pins s σ H _ I h) fun v s1 ⟨x,H1,I1,r1,q1⟩=>?_)
  obtain ⟨c,rfl,q1⟩:=q1
  cases r1
  refine wpAny_truthy_bool ?_
  cases c with
  | false=>exact hb pins s1 σ H1 Q I1 q1
  | true=>exact ⟨.bl true,H1,I1,rfl,q1⟩
theorem zjI (ha:PE X a ta):PE X (.UnaryOp .Not a pos) (zjL ta):=by
  intro pins s σ H Q I h
  refine UnaryOp_ (thn (ha pins s σ H _ I h) fun v s1 ⟨x,H1,I1,r1,q1⟩=>?_)
  obtain ⟨c,rfl,q1⟩:=q1
  cases r1
  exact not_of (wpAny_truthy_bool ⟨.bl (!c),H1,I1,rfl,q1⟩)
end
end L2
namespace L2
open PySem PySem.Spec PyProof.Rows
def SqL (K:PySem.W.Frag) (H:Hp) (a:Addr) (xs:List V):Prop :=
  Rd H a (.lst xs) ∨
    ∃ (o:Obj) (its:Array Value) (n:Nat),K.lookup a=some o∧o.cls = .type "list"∧o.dict=none∧o.data = .seq its n∧its.size ≤ sizeLine∧Vals xs its.toList
def SqT (K:PySem.W.Frag) (H:Hp) (a:Addr) (xs:List V):Prop :=
  Rd H a (.tup xs) ∨
    ∃ (o:Obj) (its:Array Value) (n:Nat),K.lookup a=some o∧o.cls = .type "tuple"∧o.data = .seq its n∧its.size ≤ sizeLine∧Vals xs its.toList
def absV:Value→Option V
  | .none=>some .non
  | .bool b=>some (.bl b)
  | .int i _=>some (.int i)
  | .str x _=>some (.str x)
  | .bytes b _=>some (.byt b)
  | .float b _=>some (.flt b)
  | .ref a=>some (.ref a)
  | .type n=>some (.ty n)
  | _=>none
theorem RelV.abs {x:V} {u:Value} (r:RelV x u):absV u=some x:=by
  cases x with
  | non=>cases r; rfl
  | bl _=>cases r; rfl
  | int _=>obtain ⟨t,rfl⟩:=r; rfl
  | str _=>obtain ⟨t,rfl⟩:=r; rfl
  | byt _=>obtain ⟨t,rfl⟩:=r; rfl
  | flt _=>obtain ⟨t,rfl⟩:=r; rfl
  | ref _=>cases r; rfl
  | ty _=>cases r; rfl
theorem RelV.inj {x y:V} {u:Value} (r:RelV x u) (q:RelV y u):x=y:=Option.some.inj (r.abs.symm.trans q.abs)
theorem Vals.inj:∀ {xs ys:List V} {us:List Value},Vals xs us→Vals ys us→xs=ys
  | _,_,_,.nil,.nil=>rfl
  | _,_,_,.cons r t,.cons r' t'=>by rw [r.inj r',Vals.inj t t']
section
variable {X:Cx} {pins:List (Addr × Obj)} {σ:St} {H:Hp} {s:Shared} {a:Addr} {xs ys:List V}
theorem Inv.list (I:Inv X pins σ H s) (h:SqL X.K H a xs):∃ its:List Value,Vals xs its∧PlainL s.heap a its.toArray∧xs.length ≤ sizeLine:=by
  rcases h with h | ⟨o,its,n,hk,hc,hd,hs,hz,r⟩
  · obtain ⟨z,its,n,r,e⟩:=h.ok I.hok
    exact ⟨its,r,⟨_,n,e,rfl,rfl,rfl⟩,z⟩
  · refine ⟨its.toList,r,⟨o,n,I.kIn a o hk,hc,hd,by simpa using hs⟩,?_⟩
    have e:=r.length
    simp only [Array.length_toList] at e
    omega
theorem Inv.tuple (I:Inv X pins σ H s) (h:SqT X.K H a xs):∃ its:List Value,Vals xs its∧IsTup s.heap a its.toArray∧xs.length ≤ sizeLine:=by
  rcases h with h | ⟨o,its,n,hk,hc,hs,hz,r⟩
  · obtain ⟨z,its,r,p⟩:=h.ok I.hok
    exact ⟨its,r,p,z⟩
  · refine ⟨its.toList,r,⟨o,I.kIn a o hk,hc,n,by simpa using hs⟩,?_⟩
    have e:=r.length
    simp only [Array.length_toList] at e
    omega
theorem Inv.list_inj (I:Inv X pins σ H s) (h:SqL X.K H a xs) (h':SqL X.K H a ys):xs=ys:=by
  obtain ⟨its,r,⟨o,n,e,_,_,d⟩,_⟩:=I.list h
  obtain ⟨its',r',⟨o',n',e',_,_,d'⟩,_⟩:=I.list h'
  rw [e] at e'; cases e'
  rw [d] at d'
  injection d' with d1 _
  have:its=its':=by simpa using congrArg Array.toList d1
  subst this
  exact r.inj r'
end
abbrev Cx.wish (X:Cx) (E:Value→Shared→Prop):Cx:={ X with xe:=E }
abbrev Cx.nox (X:Cx):Cx:=X.wish fun _ _=>False
theorem Cx.Ok.wish {X:Cx} (ok:X.Ok) (E:Value→Shared→Prop):(X.wish E).Ok :=
  ⟨ok.mod,ok.kind,ok.glob,ok.blt,ok.above,ok.inj,ok.has,ok.cab,ok.hd,ok.frames,ok.stk,ok.exf,ok.bs,ok.bsz,ok.noex,ok.exfs,ok.funs,ok.frf,ok.tb⟩
theorem Cx.Ok.unwish {X:Cx} {E:Value→Shared→Prop} (ok:(X.wish E).Ok):X.Ok :=
  ⟨ok.mod,ok.kind,ok.glob,ok.blt,ok.above,ok.inj,ok.has,ok.cab,ok.hd,ok.frames,ok.stk,ok.exf,ok.bs,ok.bsz,ok.noex,ok.exfs,ok.funs,ok.frf,ok.tb⟩
section
variable {X:Cx} {pins:List (Addr × Obj)} {σ:St} {H:Hp} {s:Shared} {E:Value→Shared→Prop}
theorem Inv.wish (I:Inv X pins σ H s) (E:Value→Shared→Prop):Inv (X.wish E) pins σ H s:=⟨I.ok.wish E,I.os,I.bare,I.base,I.loc,I.cell,I.free,I.freeC,I.pin,I.hok,I.len⟩
theorem Inv.unwish (I:Inv (X.wish E) pins σ H s):Inv X pins σ H s:=⟨I.ok.unwish,I.os,I.bare,I.base,I.loc,I.cell,I.free,I.freeC,I.pin,I.hok,I.len⟩
theorem SP.unwish {D:Ends} {f:Flow} {s':Shared} (h:SP (X.wish E) pins D f s'):SP X pins D f s':=by
  cases f with
  | next=>obtain ⟨σ',H',I,q⟩:=h; exact ⟨σ',H',I.unwish,q⟩
  | brk=>obtain ⟨σ',H',I,q⟩:=h; exact ⟨σ',H',I.unwish,q⟩
  | cont=>obtain ⟨σ',H',I,q⟩:=h; exact ⟨σ',H',I.unwish,q⟩
  | ret u=>obtain ⟨v,σ',H',I,r,q⟩:=h; exact ⟨v,σ',H',I.unwish,r,q⟩
theorem PSs.nox {st:List Stmt} {t:TS} (h:PSs X.nox st t):PSs X st t:=fun pins s σ H D I hw =>
  wpAny_mono (h pins s σ H D (I.wish _) hw) (fun _ _ q=>q.unwish) fun _ _ z=>False.elim z
end
section
variable {X:Cx} {st:Stmt} {rest:List Stmt} {t u:TS} {e:Expr} {te:TE} {pos:Pos}
def zke:TS:=fun D σ H=>D.nx σ H
def tSeq (t u:TS):TS:=fun D σ H=>t { D with nx:=u D } σ H
theorem zaV:PSs X [] zke:=fun _ _ σ H _ I h=>wpAny_execs_nil ⟨σ,H,I,h⟩
theorem zae (h1:PS X st t) (h2:PSs X rest u):PSs X (st :: rest) (tSeq t u):=by
  intro pins s σ H D I h
  refine wpAny_execs_cons (thn (h1 pins s σ H { D with nx:=u D } I h) fun f s1 q=>?_)
  cases f with
  | next =>
    obtain ⟨σ',H',I',q⟩:=q
    exact h2 pins s1 σ' H' D I' q
  | ret v=>exact q
  | brk=>exact q
  | cont=>exact q
theorem zak (h1:PS X st t):PSs X [st] t:=by
  intro pins s σ H D I h
  refine wpAny_execs_cons (thn (h1 pins s σ H D I h) fun f s1 q=>?_)
  cases f with
  | next=>exact wpAny_execs_nil q
  | ret v=>exact q
  | brk=>exact q
  | cont=>exact q
theorem Inv.quiet {pins:List (Addr × Obj)} {σ:St} {H:Hp} {s:Shared} (I:Inv X pins σ H s):interactive X.env=false:=by simp [interactive,I.ok.kind]
def zi2 (te:TE):TS:=fun D σ H=>te σ H fun _ H1=>D.nx σ H1
theorem zbE (he:PE X e te) (hs:swapsWith e none pos.line X.env=pure false:=by rfl):PS X (.Expr e pos) (zi2 te):=by
  intro pins s σ H D I h
  exact wpAny_Expr_any (thn (he pins s σ H _ I h) fun v s1 ⟨x,H1,I1,r1,q1⟩=>⟨σ,H1,I1,q1⟩) I.quiet hs
def tRet (te:TE):TS:=fun D σ H=>te σ H D.rt
theorem zaC (he:PE X e te):PS X (.Return (some e) pos) (tRet te):=by
  intro pins s σ H D I h
  exact wpAny_Return_some (thn (he pins s σ H _ I h) fun v s1 ⟨x,H1,I1,r1,q1⟩=>⟨x,σ,H1,I1,r1,q1⟩)
def tIfS (c:TT) (t u:TS):TS:=fun D σ H=>c σ H fun b H1=>if b=true then t D σ H1 else u D σ H1
theorem zbG {c:Expr} {a b:List Stmt} {tc:TT} (hc:PT X c tc) (ha:PSs X a t) (hb:PSs X b u):PS X (.If c a b pos) (tIfS tc t u):=by
  intro pins s σ H D I h
  refine wpAny_If (thn (hc pins s σ H _ I h) fun d s1 ⟨H1,I1,q1⟩=>?_)
  cases d with
  | true=>exact ha pins s1 σ H1 D I1 q1
  | false=>exact hb pins s1 σ H1 D I1 q1
def ziC:TS:=fun _ _ _=>False
theorem zgJ:PS X st ziC:=fun _ _ _ _ _ _ h=>h.elim
end
abbrev TG:=V→St→Hp→(St→Hp→Prop)→Prop
abbrev TGs:=List V→St→Hp→(St→Hp→Prop)→Prop
def PG (X:Cx) (target:Expr) (t:TG):Prop :=
  ∀ (pins:List (Addr × Obj)) (s:Shared) (σ:St) (H:Hp) (v:V) (u:Value) (Q:St→Hp→Prop),Inv X pins σ H s→RelV v u→t v σ H Q →
    wpAny (model X.prog X.w) X.A (assign target X.env u) (fun _ s'=>∃ σ' H',Inv X pins σ' H' s'∧Q σ' H') X.xe s
def PGs (X:Cx) (ts:List Expr) (t:TGs):Prop :=
  ∀ (pins:List (Addr × Obj)) (s:Shared) (σ:St) (H:Hp) (vs:List V) (us:List Value) (Q:St→Hp→Prop),Inv X pins σ H s→Vals vs us→t vs σ H Q →
    wpAny (model X.prog X.w) X.A (assignInOrder ((assignEach ts X.env).map (·.2)) us) (fun _ s'=>∃ σ' H',Inv X pins σ' H' s'∧Q σ' H') X.xe s
section
variable {X:Cx} {pos:Pos}
def zgr (i:Nat):TG:=fun v σ H Q=>Q (σ.set i (some v)) H
theorem zbc {i:Nat} {x:Str} (hN:X.N.Nodup) (hi:X.N[i]?=some x) (hx:Loc X.env.scope x) (hf:X.fn x=true∨X.env.scope.names.lookup x=some .local:=by first | exact .inl rfl | exact .inr rfl | assumption):PG X (.Name x pos) (zgr i):=by
  intro pins s σ H v u Q I r h
  exact wpAny_assign_Name (zde I hN hi hx r (fun s' I'=>⟨_,H,I',h⟩) hf)
def gNil:TGs:=fun vs σ H Q=>vs = []∧Q σ H
def zjQ (t:TG) (u:TGs):TGs:=fun vs σ H Q=>∃ v r,vs=v :: r∧t v σ H fun σ' H'=>u r σ' H' Q
theorem ze7:PGs X [] gNil:=by
  intro pins s σ H vs us Q I r h
  obtain ⟨e,h⟩:=h
  subst e
  cases r
  exact assignInOrder_nil ⟨σ,H,I,h⟩
theorem zbY {e:Expr} {es:List Expr} {t:TG} {u:TGs} (h1:PG X e t) (h2:PGs X es u)
    (hs:(assignEach (e :: es) X.env).map (·.2)=assign e X.env :: (assignEach es X.env).map (·.2):=by rfl):PGs X (e :: es) (zjQ t u):=by
  intro pins s σ H vs us Q I r h
  obtain ⟨v,vr,e1,h⟩:=h
  subst e1
  cases r with
  | cons r rr =>
    rw [hs]
    refine assignInOrder_cons (thn (h1 pins s σ H _ _ _ I r h) fun _ s1 ⟨σ1,H1,I1,q1⟩=>?_)
    exact h2 pins s1 σ1 H1 _ _ Q I1 rr q1
def gTup (K:PySem.W.Frag) (n:Nat) (t:TGs):TG:=fun v σ H Q=>∃ a xs,v = .ref a∧SqT K H a xs∧xs.length=n∧t xs σ H Q
theorem zgO {es:List Expr} {k:Nat} {t:TGs} {n:Nat} (hc:X.calm=true) (h:PGs X es t)
    (hn:(assignEach es X.env).length=n:=by rfl) (hst:(assignEach es X.env).findIdx? (·.1)=none:=by rfl):PG X (.Tuple es k pos) (gTup X.K n t):=by
  intro pins s σ H v u Q I r hw
  obtain ⟨a,xs,e1,hq,hl,hw⟩:=hw
  subst e1
  cases r
  obtain ⟨its,rv,ht,hz⟩:=I.tuple hq
  refine assign_Tuple_tuple (I.ok.hd hc) ht (by simp [hn,← hl,rv.length]) hst fun h' hx=>?_
  have I1:Inv X pins σ H { s with heap:=h' }:=I.kept (t':=s.toks) fun b o e=>hx b o (Nat.ne_of_lt (Heap.lt_size e)) e
  exact h pins _ σ H xs _ Q I1 (by simpa using rv) hw
def tAsg (te:TE) (g:TG):TS:=fun D σ H=>te σ H fun x H1=>g x σ H1 D.nx
theorem zaZ {i:Nat} {x:Str} {e:Expr} {te:TE} {pos':Pos} (hN:X.N.Nodup) (hi:X.N[i]?=some x) (hx:Loc X.env.scope x) (he:PE X e te) (hs:swapsWith e (some (.Name x pos')) pos.line X.env=pure false:=by rfl) (hf:X.fn x=true∨X.env.scope.names.lookup x=some .local:=by first | exact .inl rfl | exact .inr rfl | assumption) :
    PS X (.Assign [.Name x pos'] e pos) (tAsg te (zgr i)):=by
  intro pins s σ H D I h
  refine wpAny_Assign_Name (thn (he pins s σ H _ I h) fun v s1 ⟨y,H1,I1,r1,q1⟩=>?_) hs
  exact zde I1 hN hi hx r1 (fun s2 I2=>⟨_,H1,I2,q1⟩) hf
def tPar (i j:Nat) (ta:TA):TS:=fun D σ H=>ta σ H fun vs H1=>∃ v w,vs = [v,w]∧D.nx ((σ.set i (some v)).set j (some w)) H1
theorem zj6 {i j:Nat} {x y:Str} {a b:Expr} {ta:TA} {px py pt:Pos} {kt k2 pt2} (hc:X.calm=true) (hN:X.N.Nodup) (hi:X.N[i]?=some x) (hj:X.N[j]?=some y) (hij:i ≠ j)
    (hx:X.env.scope.names.lookup x=some .local) (hy:X.env.scope.names.lookup y=some .local) (ha:PA X [a,b] ta)
    (hw:swappedStores [.Tuple [.Name x px,.Name y py] kt pt] (.Tuple [a,b] k2 pt2) X.env=pure (some [x,y]))
    (hs:swapsWithSole [.Tuple [.Name x px,.Name y py] kt pt] (.Tuple [a,b] k2 pt2) pos.line X.env=pure false:=by rfl) :
    PS X (.Assign [.Tuple [.Name x px,.Name y py] kt pt] (.Tuple [a,b] k2 pt2) pos) (tPar i j ta):=by
  intro pins s σ H D I h
  rw [exec_Assign_arm]
  refine wpAny_bind (wpAny_standAt ?_)
  rw [hs]
  refine wpAny_bind (wpAny_pure ?_)
  rw [if_neg (by decide)]
  refine wpAny_bind (Tuple_ (thn (ha _ pins s σ H _ I h) fun us s1 ⟨vs,H1,I1,r1,q1⟩=>?_))
  obtain ⟨v,w,e1,q1⟩:=q1
  subst e1
  obtain ⟨u1,u2,rfl,rv,rw'⟩:∃ u1 u2,us = [u1,u2]∧RelV v u1∧RelV w u2:=by
    cases r1 with
    | cons p q =>
      cases q with
      | cons p' q' =>
        cases q'
        exact ⟨_,_,rfl,p,p'⟩
  refine wpAny_newObj_type ?_ (by show 2 ≤ sizeLine; decide)
  have I2:Inv X pins σ H1 { s1 with heap:=s1.heap.push { cls:=.type "tuple",data:=.seq [u1,u2].toArray } }:=I1.kept (t':=s1.toks) fun b o e=>Heap.get?_push_of_some _ e
  rw [hw]
  refine wpAny_bind (wpAny_pure ?_)
  show wpAny (model X.prog X.w) X.A (do rule "assign.swapped-stores"; let items ← unpackItems (.ref s1.heap.objs.size) 2 none; assignInOrder [fun v=>bindName X.env y v,fun v=>bindName X.env x v] items.reverse; pure Flow.next) _ _ _
  refine wpAny_bind (wpAny_rule (wpAny_bind (unpackItems_tuple (items:=#[u1,u2]) (I.ok.hd hc) (IsTup.new s1.heap _) fun h' hx'=>?_)))
  have I3:=I2.kept (h':=h') (t':=s1.toks) fun b o e=>hx' b o (Nat.ne_of_lt (Heap.lt_size e)) e
  show wpAny _ _ (assignInOrder [fun v=>bindName X.env y v,fun v=>bindName X.env x v] [u2,u1] >>= fun _=>pure Flow.next) _ _ _
  refine wpAny_bind (assignInOrder_cons (wpAny_bindName (zde I3 hN hj (.inl hy) rw' (fun s2 I4=>?_) (.inr hy))))
  refine assignInOrder_cons (wpAny_bindName (zde I4 hN hi (.inl hx) rv (fun s3 I5=>assignInOrder_nil (wpAny_pure ?_)) (.inr hx)))
  rw [List.set_comm _ _ (Ne.symm hij)] at I5
  exact ⟨_,H1,I5,q1⟩
end
section
variable {X:Cx} {pos:Pos}
def ziS (c:TT) (tb:TS):TS:=fun D σ H=>∃ W:Nat→St→Hp→Prop,(∃ m,W m σ H)∧∀ m σ H,W m σ H →
  c σ H fun b H1=>if b=true then ∃ N:St→Hp→Prop,(∀ σ' H',N σ' H'→∃ m',m' < m∧W m' σ' H')∧tb { D with nx:=N,ct:=N,bk:=D.nx } σ H1 else D.nx σ H1
theorem zgM {c:Expr} {body:List Stmt} {tc:TT} {tb:TS} (hp:PassesOwn (model X.prog X.w) X.A X.env X.xe) (hc:PT X c tc) (hb:PSs X body tb):PS X (.While c body [] pos) (ziS tc tb):=by
  intro pins s σ H D I h
  obtain ⟨W,⟨m0,w0⟩,turn⟩:=h
  refine wpAny_While (codeAny_whileLoop (fun n s'=>∃ σ' H',Inv X pins σ' H' s'∧W n σ' H') ?_ m0 ⟨σ,H,I,w0⟩)
  rintro n s1 ⟨σ1,H1,I1,w1⟩
  refine wpAny_passesOwn hp (thn (hc pins s1 σ1 H1 _ I1 (turn n σ1 H1 w1)) fun b s2 ⟨H2,I2,q2⟩=>?_)
  cases b with
  | true =>
    obtain ⟨N,hN,q2⟩:=q2
    rw [if_pos rfl]
    refine wpAny_passesOwn hp (thn (hb pins s2 σ1 H2 _ I2 q2) fun f s3 q3=>?_)
    cases f with
    | next =>
      obtain ⟨σ3,H3,I3,n3⟩:=q3
      obtain ⟨m',hm,w3⟩:=hN σ3 H3 n3
      exact ⟨m',hm,σ3,H3,I3,w3⟩
    | cont =>
      obtain ⟨σ3,H3,I3,n3⟩:=q3
      obtain ⟨m',hm,w3⟩:=hN σ3 H3 n3
      exact ⟨m',hm,σ3,H3,I3,w3⟩
    | brk=>exact q3
    | ret v=>exact q3
  | false =>
    rw [if_neg Bool.false_ne_true]
    exact wpAny_execs_nil ⟨σ1,H2,I2,q2⟩
end
structure It where
  go:Nat→Hp→Prop
  yld:Nat→Hp→V→Hp→Prop
  stop:Nat→Hp→Prop
def FpOk (X:Cx) (pins:List (Addr × Obj)) (H:Hp) (b:Addr):Prop :=
  H b=none∧b ≠ X.env.locals∧b ∉ X.fs∧(b ∈ X.ex∨X.s₀.heap.objs.size ≤ b)∧(∀ x c,X.env.cells.lookup x=some c→c ≠ b)∧∀ p ∈ X.pn ++ pins,p.1 ≠ b
theorem Inv.fpOk {X:Cx} {pins:List (Addr × Obj)} {σ:St} {H H':Hp} {s:Shared} {b:Addr} (I:Inv X pins σ H s) (hb:s.heap.objs.size ≤ b) (hn:H' b=none):FpOk X pins H' b:=by
  refine ⟨hn,Nat.ne_of_gt (Nat.lt_of_lt_of_le I.lt hb),I.nofs hb,.inr (Nat.le_trans I.sz hb),fun x c e z=>?_,fun p hp z=>?_⟩
  · obtain ⟨v,q⟩:=I.cell x c e
    exact absurd (Nat.lt_of_lt_of_le q.lt (by rw [z]; exact hb)) (Nat.lt_irrefl _)
  · exact absurd (Nat.lt_of_lt_of_le (Heap.lt_size (I.pin p hp).1) (by rw [z]; exact hb)) (Nat.lt_irrefl _)
structure Turn (P:Program) (w:World) (K:PySem.W.Frag) (tg:Expr) (J:It) (fp:List Addr) (it:Addr) (tn:Nat→Heap→Prop):Prop where
  mem:it ∈ fp
  obj:∀ i h,tn i h→∀ b ∈ fp,∃ o,h.get? b=some o∧∀ v,o.data ≠ .cell v
  keep:∀ i h h',tn i h→(∀ b ∈ fp,∀ o,h.get? b=some o→h'.get? b=some o)→tn i h'
  item:∀ (X:Cx),X.prog=P→X.w=w→X.K=K→X.calm=true→∀ (i:Nat) (pins:List (Addr × Obj)) (s:Shared) (σ:St) (H:Hp) (E:Value→Shared→Prop),Inv X pins σ H s→(∀ b ∈ fp,FpOk X pins H b)→tn i s.heap→J.go i H →
    wpAny (model P w) X.A (pyNext (.ref it)) (fun r s1=>∃ u,r=some u ∧
      wpAny (model P w) X.A (letOwnedTupleGo tg (.ref it) u) (fun _ s2=>∃ x H',Inv X pins σ H' s2∧RelV x u∧J.yld i H x H'∧tn (i + 1) s2.heap∧∀ b ∈ fp,H' b=none) E s1) E s
  done:∀ (X:Cx),X.prog=P→X.w=w→X.K=K→X.calm=true→∀ (i:Nat) (pins:List (Addr × Obj)) (s:Shared) (σ:St) (H:Hp) (E:Value→Shared→Prop),Inv X pins σ H s→(∀ b ∈ fp,FpOk X pins H b)→tn i s.heap→J.stop i H →
    wpAny (model P w) X.A (pyNext (.ref it)) (fun r s1=>r=none∧Inv X pins σ H s1) E s
  self:∀ (A:Around) (i:Nat) (s:Shared) (Q:Value→Shared→Prop) (E:Value→Shared→Prop),tn i s.heap→Q (.ref it) s→wpAny (model P w) A (pyIter (.ref it)) Q E s
abbrev TI:=St→Hp→(It→Hp→Prop)→Prop
def PIE (X:Cx) (pins:List (Addr × Obj)) (σ:St) (tg:Expr) (R:It→Hp→Prop) (itv:Value) (s2:Shared):Prop :=
  ∃ (it:Addr) (fp:List Addr) (tn:Nat→Heap→Prop) (J:It) (H':Hp),itv = .ref it∧Inv X pins σ H' s2∧Turn X.prog X.w X.K tg J fp it tn∧tn 0 s2.heap∧(∀ b ∈ fp,FpOk X pins H' b)∧R J H'
def PI (X:Cx) (tg iter:Expr) (wi:TI):Prop :=
  ∀ (pins:List (Addr × Obj)) (s:Shared) (σ:St) (H:Hp) (R:It→Hp→Prop),Inv X pins σ H s→wi σ H R →
    wpAny (model X.prog X.w) X.A (eval iter X.env) (fun v s1=>wpAny (model X.prog X.w) X.A (pyIter v) (PIE X pins σ tg R) X.xe s1) X.xe s
theorem ziY {M:Model} {A:Around} {E:Value→Shared→Prop} {s:Shared} {tg:Expr} {it:Addr} {u:Value} {o:Obj} {n:String} {vs:Array Value} {Q:Unit→Shared→Prop} (ho:s.heap.get? it=some o) (hc:o.cls = .type n) (hd:o.data = .fields vs)
    (hn : ["enumerate","zip","dict_itemiterator","dict_reverseitemiterator","odict_iterator","itertools.zip_longest","itertools.pairwise"].contains n=false) (hQ:Q () s):wpAny M A (letOwnedTupleGo tg (.ref it) u) Q E s:=by
  unfold letOwnedTupleGo
  cases tg <;> first
    | exact wpAny_pure hQ
    | (cases u <;> first
        | exact wpAny_pure hQ
        | (refine wpAny_bind (wpAny_load ho ?_)
           rw [hc,hd]
           show wpAny M A (if (["enumerate","zip","dict_itemiterator","dict_reverseitemiterator","odict_iterator","itertools.zip_longest","itertools.pairwise"].contains n && vs[0]? == some (rawInt _))=true then _ else _) Q E s
           rw [if_neg (by intro h; rw [hn,Bool.false_and] at h; cases h)]
           exact wpAny_pure hQ))
def Itl (K:PySem.W.Frag) (a:Addr):It :=
  ⟨fun i H=>∃ xs x,SqL K H a xs∧xs[i]?=some x,fun i H x H'=>H'=H∧∀ xs,SqL K H a xs→xs[i]?=some x,fun i H=>∃ xs,SqL K H a xs∧xs.length ≤ i⟩
def Itr (lo:Int) (n:Nat):It:=⟨fun i _=>i < n,fun i H x H'=>H'=H∧x = .int (lo + i),fun i _=>n ≤ i⟩
theorem zhV {P:Program} {w:World} {K:PySem.W.Frag} {tg:Expr} (a it:Addr):Turn P w K tg (Itl K a) [it] it (fun i h=>h.IsListIter it a i) where
  mem:=by simp
  obj:=fun i h st b hb=>by
    have e:b=it:=by simpa using hb
    subst e
    obtain ⟨o,e,c,d⟩:=st
    exact ⟨o,e,fun v z=>by rw [d] at z; cases z⟩
  keep:=fun i h h' st k=>st.at fun o e=>k it (by simp) o e
  item:=by
    intro X hP hw hK hc i pins s σ H E I hf st hg
    subst hP hw hK
    obtain ⟨xs,x,hq,hx⟩:=hg
    obtain ⟨its,rv,p,hz⟩:=I.list hq
    obtain ⟨u,hu,ru⟩:=rv.get hx
    obtain ⟨f0,f1,f2,f3,f4,f5⟩:=hf it (by simp)
    refine wpAny_pyNext_list_item st p.isList (x:=u) (by simpa using hu) fun h' st' sb=>?_
    have I1:Inv X pins σ H { s with heap:=h' }:=I.turned (t':=s.toks) (fun b o hb e=>(sb.2 b hb).trans e) f0 f1 f3 f4 f5
    obtain ⟨o,e,c,d⟩:=id st'
    exact ⟨u,rfl,ziY (s:={ s with heap:=h' }) e c d (by decide) ⟨x,H,I1,ru,⟨rfl,fun ys hy=>by rw [I.list_inj hy hq]; exact hx⟩,st',fun b hb=>(hf b hb).1⟩⟩
  done:=by
    intro X hP hw hK hc i pins s σ H E I hf st hg
    subst hP hw hK
    obtain ⟨xs,hq,hx⟩:=hg
    obtain ⟨its,rv,p,hz⟩:=I.list hq
    obtain ⟨f0,f1,f2,f3,f4,f5⟩:=hf it (by simp)
    have hl:=rv.length
    exact wpAny_pyNext_list_end (I.ok.hd hc) st p.isList (by simp; omega) fun h' eb=>⟨rfl,I.turned (t':=s.toks) (fun b o hb e=>eb b o hb e) f0 f1 f3 f4 f5⟩
  self:=fun _ _ _ _ _ st h=>wpAny_pyIter_listiter st h
theorem zg9 {P:Program} {w:World} {K:PySem.W.Frag} {tg:Expr} (it:Addr) (lo:Int) (n:Nat):Turn P w K tg (Itr lo n) [it] it (fun i h=>IsRangeIter h it (lo + (i:Nat) * 1) ((n:Int) - (i:Nat)) 1) where
  mem:=by simp
  obj:=fun i h st b hb=>by
    have e:b=it:=by simpa using hb
    subst e
    exact ⟨_,st,fun v z=>by
      have z':Data.fields _=Data.cell v:=z
      cases z'⟩
  keep:=fun i h h' st k=>k it (by simp) _ st
  item:=by
    intro X hP hw hK hc i pins s σ H E I hf st hg
    subst hP hw hK
    obtain ⟨f0,f1,f2,f3,f4,f5⟩:=hf it (by simp)
    have W:=Walks.range (prog:=X.prog) (w:=X.w) (I.ok.hd hc) it lo 1 n
    refine W.item i s _ _ hg st fun v h' tk hv st' kk=>?_
    obtain ⟨t,rfl⟩:=hv
    have I1:Inv X pins σ H { s with heap:=h',toks:=tk }:=I.turned (fun b o hb e=>kk b o (by simpa using hb) e) f0 f1 f3 f4 f5
    refine ⟨_,rfl,ziY (s:={ s with heap:=h',toks:=tk }) (n:="range_iterator") st' rfl rfl (by decide) ⟨.int (lo + i),H,I1,⟨t,?_⟩,⟨rfl,rfl⟩,st',fun b hb=>(hf b hb).1⟩⟩
    rw [Int.mul_one]
  done:=by
    intro X hP hw hK hc i pins s σ H E I hf st hg
    subst hP hw hK
    obtain ⟨f0,f1,f2,f3,f4,f5⟩:=hf it (by simp)
    exact wpAny_pyNext_range_end (I.ok.hd hc) st (by have:n ≤ i:=hg; omega) fun h' eb=>⟨rfl,I.turned (t':=s.toks) (fun b o hb e=>eb b o hb e) f0 f1 f3 f4 f5⟩
  self:=fun _ _ _ _ _ st h=>wpAny_pyIter_rangeiter st h
end L2
namespace L2
open PySem PySem.Spec PyProof.Rows
section
variable {X:Cx} {tg:Expr}
def ziZ (K:PySem.W.Frag) (tl:TE):TI:=fun σ H R=>tl σ H fun x H1=>∃ a,x = .ref a∧(∃ xs,SqL K H1 a xs)∧R (Itl K a) H1
theorem zck {l:Expr} {tl:TE} (hl:PE X l tl):PI X tg l (ziZ X.K tl):=by
  intro pins s σ H R I h
  refine thn (hl pins s σ H _ I h) fun v s1 ⟨x,H1,I1,r1,q1⟩=>?_
  obtain ⟨a,e,⟨xs,hq⟩,q⟩:=q1
  subst e
  cases r1
  obtain ⟨its,rv,p,hz⟩:=I1.list hq
  refine wpAny_pyIter_list p.isList ?_
  refine ⟨s1.heap.objs.size,[s1.heap.objs.size],_,_,H1,rfl,I1.kept (t':=s1.toks) fun b o e=>Heap.get?_push_of_some _ e,zhV a _,⟨_,Heap.get?_push_size _ rfl,rfl,rfl⟩,fun b hb=>?_,q⟩
  have e:b=s1.heap.objs.size:=by simpa using hb
  subst e
  exact I1.fpOk (Nat.le_refl _) (I1.hok.fresh (Nat.le_refl _))
theorem zib {pins:List (Addr × Obj)} {σ:St} {H:Hp} {s:Shared} {R:It→Hp→Prop} {E:Value→Shared→Prop} {lo hi:Int} {t u v:Tok} {tk:Nat} (I:Inv X pins σ H s) (h1 : -(2 ^ 62) ≤ lo) (h2:lo < 2 ^ 62) (h3 : -(2 ^ 62) ≤ hi) (h4:hi < 2 ^ 62)
    (q:R (Itr lo (hi - lo).toNat) H):wpAny (model X.prog X.w) X.A (pyIter (.ref s.heap.objs.size)) (PIE X pins σ tg R) E { s with heap:=s.heap.push { cls:=.type "range",data:=.fields #[.int lo t,.int hi u,.int 1 v] },toks:=tk }:=by
  refine wpAny_pyIter_range (IsRange.new ..) (small_one h1 h2 h3 h4) ?_
  have I1:Inv X pins σ H { s with heap:=s.heap.push { cls:=.type "range",data:=.fields #[.int lo t,.int hi u,.int 1 v] },toks:=tk }:=I.kept fun b o e=>Heap.get?_push_of_some _ e
  refine ⟨(s.heap.push { cls:=.type "range",data:=.fields #[.int lo t,.int hi u,.int 1 v] }).objs.size,[(s.heap.push { cls:=.type "range",data:=.fields #[.int lo t,.int hi u,.int 1 v] }).objs.size],_,_,H,rfl,
    I1.kept (t':=tk) fun b o e=>Heap.get?_push_of_some _ e,zg9 _ lo (hi - lo).toNat,?_,fun b hb=>?_,q⟩
  · have e1:lo + ((0:Nat):Int) * 1=lo:=by simp
    have e2:(((hi - lo).toNat:Nat):Int) - ((0:Nat):Int)=Builtin.Range.rangeSize lo hi 1:=by rw [rangeSize_one]; split <;> omega
    show IsRangeIter _ _ (lo + ((0:Nat):Int) * 1) ((((hi - lo).toNat:Nat):Int) - ((0:Nat):Int)) 1
    rw [e1,e2]
    exact Heap.get?_push_size _ rfl
  · have e:b=(s.heap.push { cls:=.type "range",data:=.fields #[.int lo t,.int hi u,.int 1 v] }).objs.size:=by simpa using hb
    subst e
    exact I1.fpOk (Nat.le_refl _) (I1.hok.fresh (Nat.le_refl _))
def zjP (ta:TA):TI:=fun σ H R=>ta σ H fun vs H1=>∃ i j:Int,vs = [.int i,.int j]∧(-(2 ^ 62) ≤ i∧i < 2 ^ 62∧-(2 ^ 62) ≤ j∧j < 2 ^ 62)∧R (Itr i (j - i).toNat) H1
theorem zh5 {a b:Expr} {ta:TA} {p pos:Pos} (hg:Gl X "range") (hm:X.mg "range"=none) (ha:PA X [a,b] ta) (hs:starEach [a,b] X.env = [(false,eval a X.env),(false,eval b X.env)]:=by rfl) (hs2:starEach [b] X.env = [(false,eval b X.env)]:=by rfl) :
    PI X tg (.Call (.Name "range" p) [a,b] [] pos) (zjP ta):=by
  intro pins s σ H R I h
  refine Call_ (zeL I hg hm boot_range (PyProof.Rows.callWith_type1 (thn (ha pos pins s σ H _ I h) fun us s1 ⟨vs,H1,I1,r1,q1⟩=>?_) (by rw [hs,hs2]) (by rw [hs2]; rfl)))
  obtain ⟨i,j,e,⟨q1,q2,q3,q4⟩,q⟩:=q1
  subst e
  cases r1 with
  | cons r rr =>
    cases rr with
    | cons r' rr =>
      cases rr
      obtain ⟨t,rfl⟩:=r
      obtain ⟨t',rfl⟩:=r'
      exact call_range_2 (zib I1 q1 q2 q3 q4 q)
def tFor (wi:TI) (g:TG) (tb:TS):TS:=fun D σ H=>wi σ H fun J H1=>∃ W:Nat→Nat→St→Hp→Prop,(∃ m,W 0 m σ H1)∧∀ i m σ H,W i m σ H →
  (J.stop i H∧D.nx σ H)∨(J.go i H∧∃ N:St→Hp→Prop,(∀ σ' H',N σ' H'→∃ m',m' < m∧W (i + 1) m' σ' H')∧∀ x H',J.yld i H x H'→g x σ H' fun σ2 H2=>tb { D with nx:=N,ct:=N,bk:=D.nx } σ2 H2)
def zeN (fp:List Addr) (h:Heap):List (Addr × Obj):=fp.filterMap fun b=>(h.get? b).map fun o=>(b,o)
theorem zcg {fp:List Addr} {h:Heap} {b:Addr} {o:Obj} (hb:b ∈ fp) (e:h.get? b=some o):(b,o) ∈ zeN fp h:=List.mem_filterMap.mpr ⟨b,hb,by rw [e]; rfl⟩
theorem zhh {fp:List Addr} {h:Heap} {p:Addr × Obj} (hp:p ∈ zeN fp h):p.1 ∈ fp∧h.get? p.1=some p.2:=by
  obtain ⟨b,hb,e⟩:=List.mem_filterMap.mp hp
  cases q:h.get? b with
  | none=>rw [q] at e; cases e
  | some o =>
    rw [q] at e
    have e':(b,o)=p:=Option.some.inj e
    subst e'
    exact ⟨hb,q⟩
theorem Inv.pinned {pins:List (Addr × Obj)} {σ:St} {H:Hp} {s:Shared} {fp:List Addr} (I:Inv X pins σ H s) (hf:∀ b ∈ fp,FpOk X pins H b) (ho:∀ b ∈ fp,∃ o,s.heap.get? b=some o∧∀ v,o.data ≠ .cell v):Inv X (pins ++ zeN fp s.heap) σ H s :=
  I.pins_of fun p hp=>(List.mem_append.mp hp).elim (fun z=>I.pin p (List.mem_append_right _ z)) fun z=>by
    obtain ⟨hb,e⟩:=zhh z
    obtain ⟨f0,f1,f2,_⟩:=hf p.1 hb
    obtain ⟨o,e',d⟩:=ho p.1 hb
    rw [e] at e'; cases e'
    exact ⟨e,f0,f1,f2,d⟩
theorem Inv.unpinned {pins pl:List (Addr × Obj)} {σ:St} {H:Hp} {s:Shared} (I:Inv X (pins ++ pl) σ H s):Inv X pins σ H s:=I.pins_of fun p hp=>I.pin p (List.mem_append_right _ (List.mem_append_left _ hp))
theorem zfG {iter:Expr} {body:List Stmt} {wi:TI} {g:TG} {tb:TS} {pos:Pos} (hp:PassesOwn (model X.prog X.w) X.A X.env X.xe) (hc:X.calm=true) (hi:PI X tg iter wi) (hg:PG X tg g) (hb:PSs X body tb)
    (hs:∀ x,foldedSetIterable iter X.env x=pure x:=by intro _; rfl):PS X (.For tg iter body [] pos) (tFor wi g tb):=by
  intro pins s σ H D I h
  refine wpAny_For (thn (hi pins s σ H _ I h) fun v s1 h1=>thn h1 fun itv s2 h2=>?_) hs
  obtain ⟨it,fp,tn,J,H2,e,I2,T,st2,f2,W,⟨m0,w0⟩,turn⟩:=h2
  subst e
  -- what stays true of the iterator's objects through the loop
  have stat:∀ {H':Hp},(∀ b ∈ fp,H' b=none)→∀ b ∈ fp,FpOk X pins H' b:=fun hn b hb=>⟨hn b hb,(f2 b hb).2⟩
  refine codeAny_forLoop_any (fun n s'=>∃ i σ' H',Inv X pins σ' H' s'∧tn i s'.heap∧(∀ b ∈ fp,H' b=none)∧W i n σ' H') ?_ m0 ⟨0,σ,H2,I2,st2,fun b hb=>(f2 b hb).1,w0⟩
  rintro n s3 ⟨i,σ3,H3,I3,st3,fr3,w3⟩
  rcases turn i n σ3 H3 w3 with ⟨stop,qn⟩ | ⟨go,N,hN,step⟩
  · refine wpAny_passesOwn hp (thn (T.done X rfl rfl rfl hc i pins s3 σ3 H3 X.xe I3 (stat fr3) st3 stop) fun r s4 ⟨hr,I4⟩=>?_)
    subst hr
    exact wpAny_execs_nil ⟨σ3,H3,I4,qn⟩
  · refine wpAny_passesOwn hp (thn (T.item X rfl rfl rfl hc i pins s3 σ3 H3 X.xe I3 (stat fr3) st3 go) fun r s4 ⟨u,hr,h4⟩=>?_)
    subst hr
    refine wpAny_passesOwn hp (thn h4 fun _ s5 ⟨x,H5,I5,r5,y5,st5,fr5⟩=>?_)
    have I5':=I5.pinned (stat fr5) (T.obj _ _ st5)
    refine wpAny_passesOwn hp (thn (hg _ s5 σ3 H5 x u _ I5' r5 (step x H5 y5)) fun _ s6 ⟨σ6,H6,I6,q6⟩=>?_)
    refine wpAny_passesOwn hp (thn (hb _ s6 σ6 H6 _ I6 q6) fun f s7 q7=>?_)
    have again:∀ {σ7:St} {H7:Hp},Inv X (pins ++ zeN fp s5.heap) σ7 H7 s7→N σ7 H7→∃ m,m < n∧∃ i σ' H',Inv X pins σ' H' s7∧tn i s7.heap∧(∀ b ∈ fp,H' b=none)∧W i m σ' H':=fun {σ7 H7} I7 n7=>by
      obtain ⟨m',hm,w7⟩:=hN σ7 H7 n7
      refine ⟨m',hm,i + 1,σ7,H7,I7.unpinned,T.keep _ _ _ st5 fun b hb o e=>(I7.pin (b,o) (List.mem_append_right _ (List.mem_append_right _ (zcg hb e)))).1,fun b hb=>?_,w7⟩
      obtain ⟨o,e,d⟩:=T.obj _ _ st5 b hb
      exact (I7.pin (b,o) (List.mem_append_right _ (List.mem_append_right _ (zcg hb e)))).2.1
    cases f with
    | next=>obtain ⟨σ7,H7,I7,n7⟩:=q7; exact again I7 n7
    | cont=>obtain ⟨σ7,H7,I7,n7⟩:=q7; exact again I7 n7
    | brk=>obtain ⟨σ7,H7,I7,q7⟩:=q7; exact ⟨σ7,H7,I7.unpinned,q7⟩
    | ret v=>obtain ⟨x7,σ7,H7,I7,r7,q7⟩:=q7; exact ⟨x7,σ7,H7,I7.unpinned,r7,q7⟩
end
end L2
namespace L2
open PySem PySem.Spec PyProof.Rows
abbrev R2:=V→V→Hp→VK→Prop
def OpR (X:Cx) (f:Value→Value→Sem Value) (r:R2):Prop :=
  ∀ (pins:List (Addr × Obj)) (s:Shared) (σ:St) (H:Hp) (x y:V) (v u:Value) (Q:VK),Inv X pins σ H s→RelV x v→RelV y u→r x y H Q →
    wpAny (model X.prog X.w) X.A (f v u) (EP X pins σ Q) X.xe s
def zez (X:Cx) (f:Value) (r:List V→Hp→VK→Prop):Prop :=
  ∀ (pins:List (Addr × Obj)) (s:Shared) (σ:St) (H:Hp) (xs:List V) (us:List Value) (Q:VK),Inv X pins σ H s→Vals xs us→r xs H Q →
    wpAny (model X.prog X.w) X.A (call f us) (EP X pins σ Q) X.xe s
def tOp (r:R2) (ta tb:TE):TE:=fun σ H Q=>ta σ H fun x H1=>tb σ H1 fun y H2=>r x y H2 Q
def rI (C:Int→Int→Prop) (g:Int→Int→V):R2:=fun x y H Q=>∃ i j,x = .int i∧y = .int j∧C i j∧Q (g i j) H
def rI0 (g:Int→Int→V):R2:=fun x y H Q=>∃ i j,x = .int i∧y = .int j∧Q (g i j) H
section
variable {X:Cx} {a b c:Expr} {ta tb tc:TE} {pos:Pos}
theorem binT (ha:PE X a ta) (hb:PE X b tb) {pins:List (Addr × Obj)} {s:Shared} {σ:St} {H:Hp} {R:V→V→Hp→Prop} (I:Inv X pins σ H s)
    (h:ta σ H fun x H1=>tb σ H1 fun y H2=>R x y H2) {Q:Value→Shared→Prop} {f:Value→Value→Sem Value}
    (hf:∀ v u s2 x y H2,Inv X pins σ H2 s2→RelV x v→RelV y u→R x y H2→wpAny (model X.prog X.w) X.A (f v u) Q X.xe s2) :
    wpAny (model X.prog X.w) X.A (eval a X.env) (fun v s₁=>wpAny (model X.prog X.w) X.A (eval b X.env) (fun u s₂=>wpAny (model X.prog X.w) X.A (f v u) Q X.xe s₂) X.xe s₁) X.xe s:=by
  refine thn (ha pins s σ H _ I h) fun v s1 ⟨x,H1,I1,r1,q1⟩=>?_
  refine thn (hb pins s1 σ H1 _ I1 q1) fun u s2 ⟨y,H2,I2,r2,q2⟩=>?_
  exact hf v u s2 x y H2 I2 r1 r2 q2
theorem zaP {op:Operator} {r:R2} (ho:OpR X (binaryOp op) r) (ha:PE X a ta) (hb:PE X b tb):PE X (.BinOp a op b pos) (tOp r ta tb):=by
  intro pins s σ H Q I h
  exact wpAny_BinOp (binT ha hb I h fun v u s2 x y H2 I2 rx ry q=>ho pins s2 σ H2 x y v u Q I2 rx ry q)
theorem opI {f:Value→Value→Sem Value} {C:Int→Int→Prop} {g:Int→Int→Int}
    (rule:∀ (i j:Int) (t u:Tok) (s:Shared) (Q:Value→Shared→Prop) (E:Value→Shared→Prop),C i j→Q (.int (g i j) s.toks) { s with toks:=s.toks + 1 }→wpAny (model X.prog X.w) X.A (f (.int i t) (.int j u)) Q E s) :
    OpR X f (rI C fun i j=>.int (g i j)):=by
  intro pins s σ H x y v u Q I rx ry h
  obtain ⟨i,j,rfl,rfl,hc,q⟩:=h
  obtain ⟨t,rfl⟩:=rx
  obtain ⟨t',rfl⟩:=ry
  exact rule i j t t' s _ _ hc ⟨.int (g i j),H,I.tok _,⟨_,rfl⟩,q⟩
theorem opI0 {f:Value→Value→Sem Value} {g:Int→Int→Int}
    (rule:∀ (i j:Int) (t u:Tok) (s:Shared) (Q:Value→Shared→Prop) (E:Value→Shared→Prop),Q (.int (g i j) s.toks) { s with toks:=s.toks + 1 }→wpAny (model X.prog X.w) X.A (f (.int i t) (.int j u)) Q E s) :
    OpR X f (rI0 fun i j=>.int (g i j)):=by
  intro pins s σ H x y v u Q I rx ry h
  obtain ⟨i,j,rfl,rfl,q⟩:=h
  obtain ⟨t,rfl⟩:=rx
  obtain ⟨t',rfl⟩:=ry
  exact rule i j t t' s _ _ ⟨.int (g i j),H,I.tok _,⟨_,rfl⟩,q⟩
theorem opB0 {f:Value→Value→Sem Value} {g:Int→Int→Bool}
    (rule:∀ (i j:Int) (t u:Tok) (s:Shared) (Q:Value→Shared→Prop) (E:Value→Shared→Prop),Q (.bool (g i j)) s→wpAny (model X.prog X.w) X.A (f (.int i t) (.int j u)) Q E s) :
    OpR X f (rI0 fun i j=>.bl (g i j)):=by
  intro pins s σ H x y v u Q I rx ry h
  obtain ⟨i,j,rfl,rfl,q⟩:=h
  obtain ⟨t,rfl⟩:=rx
  obtain ⟨t',rfl⟩:=ry
  exact rule i j t t' s _ _ ⟨.bl (g i j),H,I,rfl,q⟩
def CPow (i j:Int):Prop:=0 ≤ j∧j ≤ 1000000∧i.natAbs < 2 ^ 64
theorem zdE:OpR X (binaryOp .Add) (rI0 fun i j=>.int (i + j)):=opI0 fun _ _ _ _ _ _ _ q=>add_int q
theorem zcf:OpR X (binaryOp .Mod) (rI (fun _ j=>0 < j) fun i j=>.int (i % j)):=opI fun i j _ _ _ _ _ hc q=>by
  have h1:(0:Int) < j:=hc
  exact mod_int' (by omega) (by rw [Int.fmod_eq_emod_of_nonneg i (by omega)]; exact q)
theorem zga:OpR X (binaryOp .Pow) (rI CPow fun i j=>.int (i ^ j.toNat)):=opI fun _ _ _ _ _ _ _ hc q=>pow_int_small hc.1 hc.2.1 hc.2.2 q
end
def scal:V→V→Bool
  | .non,.non=>true | .non,.int _=>true | .int _,.non=>true | .non,.bl _=>true | .bl _,.non=>true | .non,.str _=>true | .str _,.non=>true
  | .int _,.int _=>true | .bl _,.bl _=>true | .str _,.str _=>true | .byt _,.byt _=>true
  | .int _,.str _=>true | .str _,.int _=>true | .bl _,.str _=>true | .str _,.bl _=>true
  | _,_=>false
def rEq:R2:=fun x y H Q=>scal x y=true∧Q (.bl (decide (x=y))) H
def rNe:R2:=fun x y H Q=>scal x y=true∧Q (.bl (!decide (x=y))) H
theorem zhR {i j:Int}:decide (V.int i=V.int j)=(i == j):=by
  rw [Bool.eq_iff_iff]
  simp
theorem ziL {i j:Bool}:decide (V.bl i=V.bl j)=(i == j):=by
  rw [Bool.eq_iff_iff]
  simp
theorem zhg {i j:Str}:decide (V.str i=V.str j)=(i == j):=by
  rw [Bool.eq_iff_iff]
  simp
theorem zhk {i j:Array UInt8}:decide (V.byt i=V.byt j)=(i.toList == j.toList):=by
  rw [Bool.eq_iff_iff]
  cases i
  cases j
  simp
section
variable {X:Cx} {a b c:Expr} {ta tb tc:TE} {pos:Pos}
theorem zaY {pins:List (Addr × Obj)} {σ:St} {H:Hp} {s:Shared} {Q:VK} {k k':Bool} (I:Inv X pins σ H s) (q:Q (.bl k) H) (e:k=k'):EP X pins σ Q (.bool k') s:=by
  subst e
  exact ⟨.bl k,H,I,rfl,q⟩
theorem zcl:OpR X (compareOp .Eq) rEq:=by
  intro pins s σ H x y v u Q I rx ry h
  obtain ⟨hs,q⟩:=h
  cases x with
  | non =>
    cases rx
    cases y with
    | non=>cases ry; exact PySem.EqNone.eq_none_none (zaY I q (by simp))
    | bl j=>cases ry; exact PySem.EqNone.eq_none_bool (zaY I q (by simp))
    | int j=>obtain ⟨t',rfl⟩:=ry; exact PySem.EqNone.eq_none_int (zaY I q (by simp))
    | str j=>obtain ⟨t',rfl⟩:=ry; exact PySem.EqNone.eq_none_str (zaY I q (by simp))
    | _=>exact absurd (show false=true from hs) Bool.false_ne_true
  | bl i =>
    cases rx
    cases y with
    | non=>cases ry; exact PySem.EqNone.eq_bool_none (zaY I q (by simp))
    | bl j=>cases ry; exact eq_bool (zaY I q ziL)
    | str j=>obtain ⟨t',rfl⟩:=ry; exact PySem.EqMixed.eq_bool_str (zaY I q (by simp))
    | _=>exact absurd (show false=true from hs) Bool.false_ne_true
  | int i =>
    obtain ⟨t,rfl⟩:=rx
    cases y with
    | non=>cases ry; exact PySem.EqNone.eq_int_none (zaY I q (by simp))
    | int j=>obtain ⟨t',rfl⟩:=ry; exact eq_int (zaY I q zhR)
    | str j=>obtain ⟨t',rfl⟩:=ry; exact PySem.EqMixed.eq_int_str (zaY I q (by simp))
    | _=>exact absurd (show false=true from hs) Bool.false_ne_true
  | str i =>
    obtain ⟨t,rfl⟩:=rx
    cases y with
    | non=>cases ry; exact PySem.EqNone.eq_str_none (zaY I q (by simp))
    | bl j=>cases ry; exact PySem.EqMixed.eq_str_bool (zaY I q (by simp))
    | int j=>obtain ⟨t',rfl⟩:=ry; exact PySem.EqMixed.eq_str_int (zaY I q (by simp))
    | str j=>obtain ⟨t',rfl⟩:=ry; exact eq_str (zaY I q zhg)
    | _=>exact absurd (show false=true from hs) Bool.false_ne_true
  | byt i =>
    obtain ⟨t,rfl⟩:=rx
    cases y with
    | byt j=>obtain ⟨t',rfl⟩:=ry; exact PySem.W.eq_bytes (zaY I q zhk)
    | _=>exact absurd (show false=true from hs) Bool.false_ne_true
  | _=>cases y <;> exact absurd (show false=true from hs) Bool.false_ne_true
theorem zhb:OpR X (compareOp .NotEq) rNe:=by
  intro pins s σ H x y v u Q I rx ry h
  obtain ⟨hs,q⟩:=h
  cases x with
  | non =>
    cases rx
    cases y with
    | non=>cases ry; exact PySem.EqNone.ne_none_none (zaY I q (by simp))
    | bl j=>cases ry; exact PySem.EqNone.ne_none_bool (zaY I q (by simp))
    | int j=>obtain ⟨t',rfl⟩:=ry; exact PySem.EqNone.ne_none_int (zaY I q (by simp))
    | str j=>obtain ⟨t',rfl⟩:=ry; exact PySem.EqNone.ne_none_str (zaY I q (by simp))
    | _=>exact absurd (show false=true from hs) Bool.false_ne_true
  | bl i =>
    cases rx
    cases y with
    | non=>cases ry; exact PySem.EqNone.ne_bool_none (zaY I q (by simp))
    | bl j=>cases ry; exact ne_bool (zaY I q (congrArg not ziL))
    | str j=>obtain ⟨t',rfl⟩:=ry; exact PySem.EqMixed.ne_bool_str (zaY I q (by simp))
    | _=>exact absurd (show false=true from hs) Bool.false_ne_true
  | int i =>
    obtain ⟨t,rfl⟩:=rx
    cases y with
    | non=>cases ry; exact PySem.EqNone.ne_int_none (zaY I q (by simp))
    | int j=>obtain ⟨t',rfl⟩:=ry; exact ne_int (zaY I q (congrArg not zhR))
    | str j=>obtain ⟨t',rfl⟩:=ry; exact PySem.EqMixed.ne_int_str (zaY I q (by simp))
    | _=>exact absurd (show false=true from hs) Bool.false_ne_true
  | str i =>
    obtain ⟨t,rfl⟩:=rx
    cases y with
    | non=>cases ry; exact PySem.EqNone.ne_str_none (zaY I q (by simp))
    | bl j=>cases ry; exact PySem.EqMixed.ne_str_bool (zaY I q (by simp))
    | int j=>obtain ⟨t',rfl⟩:=ry; exact PySem.EqMixed.ne_str_int (zaY I q (by simp))
    | str j=>obtain ⟨t',rfl⟩:=ry; exact ne_str (zaY I q (congrArg not zhg))
    | _=>exact absurd (show false=true from hs) Bool.false_ne_true
  | byt i =>
    obtain ⟨t,rfl⟩:=rx
    cases y with
    | byt j=>obtain ⟨t',rfl⟩:=ry; exact PySem.W.ne_bytes (zaY I q (congrArg not zhk))
    | _=>exact absurd (show false=true from hs) Bool.false_ne_true
  | _=>cases y <;> exact absurd (show false=true from hs) Bool.false_ne_true
theorem zjc:OpR X (compareOp .Lt) (rI0 fun i j=>.bl (decide (i < j))):=opB0 fun _ _ _ _ _ _ _ q=>lt_int q
theorem zfh:OpR X (compareOp .Gt) (rI0 fun i j=>.bl (decide (j < i))):=opB0 fun _ _ _ _ _ _ _ q=>gt_int q
theorem zaI (b:Expr) {op:CmpOp} (h:op ≠ .In:=by decide) (h2:op ≠ .NotIn:=by decide):behindInMarks op b=false:=by
  have e1:(op == CmpOp.In)=false:=by cases op <;> first | rfl | exact absurd rfl h
  have e2:(op == CmpOp.NotIn)=false:=by cases op <;> first | rfl | exact absurd rfl h2
  cases b <;> simp [behindInMarks,e1,e2]
theorem zbI {op:CmpOp} {r:R2} (ho:OpR X (compareOp op) r) (ha:PE X a ta) (hb:PE X b tb) (hm:behindInMarks op b=false):PE X (.Compare a [op] [b] pos) (tOp r ta tb):=by
  intro pins s σ H Q I h
  exact wpAny_Compare1 (binT ha hb I h fun v u s2 x y H2 I2 rx ry q=>ho pins s2 σ H2 x y v u Q I2 rx ry q) hm
def zjE (t:TE):TT:=fun σ H Q=>t σ H fun x H'=>∃ k,x = .bl k∧Q k H'
theorem zaM {op:CmpOp} {r:R2} (ho:OpR X (compareOp op) r) (ha:PE X a ta) (hb:PE X b tb) (hm:behindInMarks op b=false):PT X (.Compare a [op] [b] pos) (zjE (tOp r ta tb)):=by
  intro pins s σ H Q I h
  refine wpAny_isTrue_Compare1 (thn (ha pins s σ H _ I h) fun v s1 ⟨x,H1,I1,r1,q1⟩=>thn (hb pins s1 σ H1 _ I1 q1) fun u s2 ⟨y,H2,I2,r2,q2⟩ =>
    thn (ho pins s2 σ H2 x y v u _ I2 r1 r2 q2) fun c s3 ⟨z,H3,I3,r3,k,e,q3⟩=>?_) hm
  subst e
  cases r3
  exact wpAny_truthy_bool ⟨H3,I3,q3⟩
theorem zf5:(sizeLine:Nat) < 2 ^ 63:=by rw [sizeLine_eq]; decide
theorem zeE:OpR X (binaryOp .Add) (fun x y H Q=>∃ i j,x = .str i∧y = .str j∧i.length + j.length ≤ sizeLine∧Q (.str (i ++ j)) H):=by
  intro pins s σ H x y v u Q I rx ry h
  obtain ⟨i,j,rfl,rfl,hz,q⟩:=h
  obtain ⟨t,rfl⟩:=rx
  obtain ⟨t',rfl⟩:=ry
  exact add_str (fun t' tk=>⟨.str (i ++ j),H,I.tok _,⟨_,rfl⟩,q⟩) hz
theorem zf2 {x:V} {us:List Value} (r:Vals [x] us):∃ u,us = [u]∧RelV x u:=by
  cases r with
  | cons r1 r2=>cases r2; exact ⟨_,rfl,r1⟩
theorem zkj {x y:V} {us:List Value} (r:Vals [x,y] us):∃ u w',us = [u,w']∧RelV x u∧RelV y w':=by
  cases r with
  | cons r1 r2 =>
    cases r2 with
    | cons r3 r4=>cases r4; exact ⟨_,_,rfl,r1,r3⟩
theorem zgP:zez X (.builtin "abs") (fun xs H Q=>∃ i,xs = [.int i]∧Q (.int (if i < 0 then -i else i)) H):=by
  intro pins s σ H xs us Q I r h
  obtain ⟨i,rfl,q⟩:=h
  obtain ⟨u,rfl,t,rfl⟩:=zf2 r
  exact call_abs_int fun u tk=>⟨.int (if i < 0 then -i else i),H,I.tok _,⟨_,rfl⟩,q⟩
end
end L2
namespace L2
open PySem PySem.Spec PyProof.Rows
structure ObjM (h:Heap) (x dx C:Addr) (mA:Str→Option Value):Prop where
  obj:h.get? x=some (PySem.W.instObj C dx)
  ns:h.Ns1 dx mA
  ne:dx ≠ x
theorem zhL {h:Heap} {dx:Addr} {mA:Str→Option Value} (n:h.Ns1 dx mA):∃ od,h.get? dx=some od∧∀ name,PySem.W.lookIn name od=some (mA name):=by
  obtain ⟨o,es,ep,ho,hd,hk,_,hm⟩:=n
  refine ⟨o,ho,fun name=>?_⟩
  have e:=hm name
  unfold nsFind findBy at e
  rw [← Array.find?_toList] at e
  unfold PySem.W.lookIn
  rw [hd]
  dsimp only
  split
  · rename_i y q
    rw [q] at e
    exact congrArg some e
  · rename_i q
    rw [q] at e
    have a:es.toList.any (·.refKey)=false:=by
      rw [List.any_eq_false]
      intro y hy
      obtain ⟨z,t,hkey⟩:=hk y (Array.mem_toList_iff.mp hy)
      simp [DictEntry.refKey,hkey]
    have a':¬ es.toList.any (·.refKey)=true:=by rw [a]; exact Bool.false_ne_true
    rw [if_neg a']
    exact congrArg some e
theorem ObjM.look {h:Heap} {x dx C:Addr} {mA:Str→Option Value} (I:ObjM h x dx C mA):∃ od,PySem.W.InstAt h x (PySem.W.instObj C dx) C (some od)∧∀ name,PySem.W.lookIn name od=some (mA name) :=
  let ⟨od,ho,hl⟩:=zhL I.ns
  ⟨od,⟨I.obj,rfl,rfl,ho⟩,hl⟩
section
variable {prog:Program} {w:World} {A:Around} {E:Value→Shared→Prop} {s:Shared} {K:PySem.W.Frag} {x dx C f:Addr} {mA:Str→Option Value} {name:Str} {v:Value}
end
section
variable {P:Program} {w:World} {H H':Hp} {h h':Heap} {a C dx:Addr} {fs fs':List (Str × V)}
theorem zjk (hok:HOk P w H h) (e:H a=some (.ins C dx fs)):∃ mA,ObjM h a dx C mA∧(∀ f,RelO (fs.lookup f) (mA f))∧PySem.Within mA (fs.map (·.1))∧fs.length ≤ 1000∧H dx=some (.own a):=by
  obtain ⟨d,z,ne,ob,mA,n,r,q⟩:=(show ObjOk P w H h a (.ins C dx fs) from hok a _ e)
  exact ⟨mA,⟨ob,n,ne⟩,r,q,z,d⟩
end
structure Cls (K:PySem.W.Frag) (C:Addr):Prop where
  pg:PySem.W.plainGet K C Str.empty=true
  hd:PySem.W.hasDictIn K C=true
  po:PySem.W.plainOver K C=true
  sa:PySem.W.findIn K (.ref C) "__setattr__"=some (some (.builtin "object.__setattr__"))
theorem Cls.get {K:PySem.W.Frag} {C:Addr} (c:Cls K C) (f:Str):PySem.W.plainGet K C f=true:=c.pg
section
variable {X:Cx} {pins:List (Addr × Obj)} {σ:St} {H:Hp} {s:Shared} {a C dx:Addr} {fs:List (Str × V)} {f:Str} {v:V} {A:Around} {E:Value→Shared→Prop}
end
section
variable {X:Cx} {o e value:Expr} {f:Str} {pos pos' tpos:Pos} {ta tv:TE}
end
section
variable {X:Cx} {pins:List (Addr × Obj)} {σ:St} {H:Hp} {s:Shared} {A:Around} {E:Value→Shared→Prop} {Q:Value→Shared→Prop} {c:Value} {b:Bool}
inductive TyOf (K:PySem.W.Frag) (H:Hp):V→Value→Prop where
  | non:TyOf K H .non (.type "NoneType")
  | bl (x:Bool):TyOf K H (.bl x) (.type "bool")
  | int (i:Int):TyOf K H (.int i) (.type "int")
  | str (x:Str):TyOf K H (.str x) (.type "str")
  | flt (x:UInt64):TyOf K H (.flt x) (.type "float")
  | lst {a:Addr} {xs:List V} (e:H a=some (.lst xs)):TyOf K H (.ref a) (.type "list")
  | frz {a:Addr} {o:Obj} {xs:List V} (e:H a=some (.frz o (.lst xs))):TyOf K H (.ref a) (.type "list")
  | tup {a:Addr} {xs:List V} (e:H a=some (.tup xs)):TyOf K H (.ref a) (.type "tuple")
  | dK {a:Addr} {kvs:List (Key × V)} (e:H a=some (.dK kvs)):TyOf K H (.ref a) (.type "dict")
  | dT {a:Addr} {kvs:List (List Key × V)} (e:H a=some (.dT kvs)):TyOf K H (.ref a) (.type "dict")
  | ins {a C dx:Addr} {fs:List (Str × V)} (e:H a=some (.ins C dx fs)) (cl:Cls K C) (ha:PySem.W.findIn K (.ref C) "__class__"=some (some (.builtin "object.__class__")))
      (hn:PySem.W.specialIn K (.builtin "object.__class__") "__get__"=some (some (.builtin "getset_descriptor.__get__"))) (htk:PySem.W.takesIn K (.builtin "object.__class__")=some true)
      (hm:PySem.W.mroIn K C (.type "object")=some true):TyOf K H (.ref a) (.ref C)
theorem zhE {x:V} {u t:Value} (I:Inv X pins σ H s) (rx:RelV x u) (ty:TyOf X.K H x t) (e:PySem.W.kitOne X.K t c=some b) (h:∀ tk,Q (.bool b) { s with toks:=tk }) :
    wpAny (model X.prog X.w) A (call (.builtin "isinstance") [u,c]) Q E s:=by
  cases ty with
  | non=>cases (show u=Value.none from rx); exact PySem.W.kia_one PySem.W.kitx_none I.kIn True.intro e (fun z=>nomatch z) h
  | bl y=>cases (show u=Value.bool y from rx); exact PySem.W.kia_one PySem.W.kitx_bool I.kIn True.intro e (fun z=>nomatch z) h
  | int i=>obtain ⟨t,q⟩:=(show ∃ t,u=Value.int i t from rx); cases q; exact PySem.W.kia_one PySem.W.kitx_int I.kIn True.intro e (fun z=>nomatch z) h
  | str y=>obtain ⟨t,q⟩:=(show ∃ t,u=Value.str y t from rx); cases q; exact PySem.W.kia_one PySem.W.kitx_str I.kIn True.intro e (fun z=>nomatch z) h
  | flt y=>obtain ⟨t,q⟩:=(show ∃ t,u=Value.float y t from rx); cases q; exact PySem.W.kia_one PySem.W.kitx_float I.kIn True.intro e (fun z=>nomatch z) h
  | @lst a xs ea =>
    cases (show u=Value.ref a from rx)
    obtain ⟨_,_,n,_,h1⟩:=(show ObjOk X.prog X.w H s.heap a (.lst xs) from I.hok a _ ea)
    exact PySem.W.kia_one PySem.W.kitx_list I.kIn ⟨_,h1,rfl⟩ e (fun z=>nomatch z) h
  | @frz a ob xs ea =>
    cases (show u=Value.ref a from rx)
    obtain ⟨_,_,_,n,_,h1⟩:=(show ObjOk X.prog X.w H s.heap a (.frz ob (.lst xs)) from I.hok a _ ea)
    exact PySem.W.kia_one PySem.W.kitx_list I.kIn ⟨_,h1,rfl⟩ e (fun z=>nomatch z) h
  | @tup a xs ea =>
    cases (show u=Value.ref a from rx)
    obtain ⟨_,_,_,p⟩:=(show ObjOk X.prog X.w H s.heap a (.tup xs) from I.hok a _ ea)
    obtain ⟨o,h1,h2,_⟩:=p
    exact PySem.W.kia_one PySem.W.kitx_tuple I.kIn ⟨o,h1,h2⟩ e (fun z=>nomatch z) h
  | @dK a kvs ea =>
    cases (show u=Value.ref a from rx)
    obtain ⟨_,_,vs,_,p⟩:=(show ObjOk X.prog X.w H s.heap a (.dK kvs) from I.hok a _ ea)
    obtain ⟨o,es,ep,h1,h2,_⟩:=p
    exact PySem.W.kia_one PySem.W.kitx_dict I.kIn ⟨o,h1,h2.1⟩ e (fun z=>nomatch z) h
  | @dT a kvs ea =>
    cases (show u=Value.ref a from rx)
    obtain ⟨_,_,xs,_,o,es,ep,h1,h2,_⟩:=(show ObjOk X.prog X.w H s.heap a (.dT kvs) from I.hok a _ ea)
    exact PySem.W.kia_one PySem.W.kitx_dict I.kIn ⟨o,h1,h2.1⟩ e (fun z=>nomatch z) h
  | @ins a C dx fs ea cl ha hn htk hm =>
    cases (show u=Value.ref a from rx)
    obtain ⟨mA,O,_⟩:=zjk I.hok ea
    obtain ⟨od,J,_⟩:=O.look
    exact PySem.W.kia_one (PySem.W.kitx_own (cl.get _) cl.hd ha hn htk hm) I.kIn J e (fun z=>nomatch z) h
end
end L2
namespace L2
open PySem PySem.Spec PyProof.Rows
structure Room (k:Nat) (A:Around):Prop where
  hd:A.handled=none
  dp:A.depth + 3 * k + 5 < recursionLimit
  un:A.units + 16 * k + 200 < cLine
theorem Room.mono {j k:Nat} {A:Around} (r:Room k A) (h:j ≤ k):Room j A:=⟨r.hd,by have:=r.dp; omega,by have:=r.un; omega⟩
theorem Room.deeper {k:Nat} {A:Around} (r:Room (k + 1) A) (env:Env):Room k (A.deeper env) :=
  ⟨r.hd,by have:=r.dp; show A.depth + 1 + 3 * k + 5 < _; omega,by have:=r.un; show A.units + 3 + 16 * k + 200 < _; omega⟩
theorem Room.depth {k:Nat} {A:Around} (r:Room k A):A.depth < recursionLimit:=by have:=r.dp; omega
theorem Room.units {k:Nat} {A:Around} (r:Room k A):A.units + 64 < cLine:=by have:=r.un; omega
def tNil:TA:=fun _ H Q=>Q [] H
def zf6 (ta:TE) (tr:TA):TA:=fun σ H Q=>ta σ H fun x H1=>tr σ H1 fun xs H2=>Q (x :: xs) H2
section
variable {X:Cx} {e:Expr} {es:List Expr} {te:TE} {t:TA} {pos:Pos}
theorem zah:PA X [] tNil:=fun _ _ _ _ H Q I h=>Calls.spliced_nil ⟨[],H,I,.nil,h⟩
theorem zaa (ha:PE X e te) (hr:PA X es t) (hs:starEach (e :: es) X.env=(false,eval e X.env) :: starEach es X.env:=by rfl):PA X (e :: es) (zf6 te t):=by
  intro pos pins s σ H Q I h
  rw [hs]
  show wpAny _ _ (spliced ((false,eval e X.env) :: backTo pos (starEach es X.env))) _ _ s
  refine Calls.spliced_cons (thn (ha pins s σ H _ I h) fun u s1 ⟨x,H1,I1,r1,q1⟩=>?_)
  exact thn (hr pos pins s1 σ H1 _ I1 q1) fun us s2 ⟨xs,H2,I2,r2,q2⟩=>⟨x :: xs,H2,I2,.cons r1 r2,q2⟩
def tTup (t:TA):TE:=fun σ H Q=>t σ H fun xs H1=>xs.length ≤ sizeLine∧∀ p,H1 p=none→Q (.ref p) (upd H1 p (.tup xs))
def tLst (t:TA):TE:=fun σ H Q=>t σ H fun xs H1=>xs.length ≤ sizeLine∧∀ p,H1 p=none→Q (.ref p) (upd H1 p (.lst xs))
theorem zc2 {x1} (h:PA X es t):PE X (.Tuple es x1 pos) (tTup t):=by
  intro pins s σ H Q I hq
  refine wpAny_Tuple_spliced (thn (h pos pins s σ H _ I hq) fun us s1 ⟨xs,H1,I1,r,z,q⟩=>⟨by rw [← r.length]; exact z,?_⟩)
  have hf:H1 s1.heap.objs.size=none:=I1.hok.fresh (Nat.le_refl _)
  refine ⟨.ref s1.heap.objs.size,upd H1 s1.heap.objs.size (.tup xs),I1.laid (t':=s1.toks) (fun b u e=>Heap.get?_push_of_some _ e) (Nat.le_refl _) ?_,rfl,q _ hf⟩
  exact ⟨z,us,r,⟨_,Heap.get?_push_size _ rfl,rfl,_,rfl⟩⟩
theorem zeK (h:PA X es t):PE X (.List es pos) (tLst t):=by
  intro pins s σ H Q I hq
  refine wpAny_List_spliced (thn (h pos pins s σ H _ I hq) fun us s1 ⟨xs,H1,I1,r,z,q⟩=>⟨by rw [← r.length]; exact z,?_⟩)
  have hf:H1 s1.heap.objs.size=none:=I1.hok.fresh (Nat.le_refl _)
  refine ⟨.ref s1.heap.objs.size,upd H1 s1.heap.objs.size (.lst xs),I1.laid (t':=s1.toks) (fun b u e=>Heap.get?_push_of_some _ e) (Nat.le_refl _) ?_,rfl,q _ hf⟩
  exact ⟨z,us,0,r,Heap.get?_push_size _ rfl⟩
end
abbrev Sp:=List V→Hp→VK→XK→Prop
abbrev CXT:=List Env→Hp→Shared→XK→Value→Shared→Prop
structure Env0 (P:Program) (w:World) (K:PySem.W.Frag) (mg:Str→Option Value) (base:Heap) (A:Around) (outer:List Env) (s:Shared) (H:Hp):Prop where
  frames:A.frames=some outer
  mod:Mod K mg base
  bs:∀ b o,base.get? b=some o→s.heap.get? b=some o∧H b=none
  bsz:base.objs.size ≤ s.heap.objs.size
  funs:s.heap.FunFrames base outer
  frf:∀ b ∈ frs outer,H b=none
  hok:HOk P w H s.heap
  bare:AllBare s.gens
  tb:TbAt K H
def CE (outer:List Env) (P:Program) (w:World) (H:Hp) (s:Shared) (Q:VK) (u:Value) (s':Shared):Prop :=
  ∃ v H',s'.os=s.os∧AllBare s'.gens∧Un (frs outer) [] H H' s.heap s'.heap∧HOk P w H' s'.heap∧RelV v u∧Q v H'
def CR (CX:CXT) (outer:List Env) (P:Program) (w:World) (H:Hp) (s:Shared) (Q:VK) (E:XK) (r:Result) (s':Shared):Prop :=
  match r with
  | .ok (.ret u)=>CE outer P w H s Q u s'
  | .ok _=>False
  | .error e=>CX outer H s E e s'
structure FnOk (P:Program) (w:World) (K:PySem.W.Frag) (mg:Str→Option Value) (base:Heap) (CX:CXT) (k:Nat) (f:Addr) (fd:FuncData) (ps:List Str) (sp:Sp):Prop where
  len:∀ vs H Q E,sp vs H Q E→vs.length=ps.length
  run:∀ (A:Around) (outer:List Env) (s:Shared) (H:Hp) (args:Args) (us:List Value) (vs:List V) (Q:VK) (E:XK),Room k A→Env0 P w K mg base A outer s H→BindsTo s fd args (ps.zip us)→Vals vs us→sp vs H Q E →
    codeAny (model P w) A (.call (.ref f) args) (CR CX outer P w H s Q E) s
section
variable {X:Cx} {pins:List (Addr × Obj)} {σ:St} {H:Hp} {s s':Shared}
theorem Inv.env0 (I:Inv X pins σ H s):Env0 X.prog X.w X.K X.mg X.base X.A X.stack s H :=
  ⟨I.ok.frames,I.ok.mod,I.bs,Nat.le_trans I.ok.bsz I.sz,I.stack,I.stkFree,I.hok,I.bare,I.ok.tb.grown I.base.tbls⟩
theorem Inv.after {Q:VK} {u:Value} (I:Inv X pins σ H s) (h:CE X.stack X.prog X.w H s Q u s'):EP X pins σ Q u s':=by
  obtain ⟨v,H',os,bare,un,hok,r,q⟩:=h
  obtain ⟨hh,g,d,t,os'⟩:=s'
  obtain rfl:os'=s.os:=os
  exact ⟨v,H',I.call (h':=hh) (g':=g) (d':=d) (t':=t) (ch:=[]) un hok bare (fun b z=>absurd z (by simp)),r,q⟩
end
def ziq (sp:Sp) (dvs:List V) (E:XK) (t:TA):TE:=fun σ H Q=>t σ H fun vs H1=>sp (vs ++ dvs) H1 Q E
def Binds (K:PySem.W.Frag) (fd:FuncData) (ps:List Str) (ds:List Value):Prop :=
  ∀ (s:Shared) (us:List Value),K.In s.heap→(us ++ ds).length=ps.length→BindsTo s fd ⟨us,[]⟩ (ps.zip (us ++ ds))
theorem Binds.all {K:PySem.W.Frag} {fd:FuncData} {ps:List Str} (h:∀ us:List Value,us.length=ps.length→bindArgs fd ⟨us,[]⟩=pure (ps.zip us)):Binds K fd ps []:=fun s us _ hl=>by
  rw [List.append_nil] at hl ⊢
  exact .of_eq (h us hl)
def zgB (CX:CXT) (X:Cx) (E:XK):Prop:=∀ (pins:List (Addr × Obj)) (σ:St) (H:Hp) (s:Shared) (e:Value) (s':Shared),Inv X pins σ H s→CX X.stack H s E e s'→X.xe e s'
section
variable {X:Cx} {CX:CXT} {k:Nat} {f C:Addr} {fd:FuncData} {ps:List Str} {sp:Sp} {dvs:List V} {ds:List Value} {E:XK} {x m:Str} {p pos apos:Pos} {e o:Expr} {es:List Expr} {ta:TE} {t:TA}
theorem zj7 {pins:List (Addr × Obj)} {σ:St} {H:Hp} {s:Shared} {Q:VK} {us:List Value} {vs:List V} (F:FnOk X.prog X.w X.K X.mg X.base CX k f fd ps sp) (hr:Room k X.A) (hb:Binds X.K fd ps ds) (hd:Vals dvs ds) (hx:zgB CX X E)
    (I:Inv X pins σ H s) (r:Vals vs us) (h:sp (vs ++ dvs) H Q E):wpAny (model X.prog X.w) X.A (call (.ref f) us) (EP X pins σ Q) X.xe s:=by
  have r2:Vals (vs ++ dvs) (us ++ ds):=r.append hd
  have hl:(us ++ ds).length=ps.length:=by rw [← r2.length]; exact F.len _ _ _ _ h
  refine wpAny_call (codeAny_mono (F.run X.A X.stack s H ⟨us,[]⟩ (us ++ ds) (vs ++ dvs) Q E hr I.env0 (hb s us I.kIn hl) r2 h) fun r s' hq=>?_)
  cases r with
  | error e=>exact hx pins σ H s e s' I hq
  | ok fl =>
    cases fl with
    | ret u=>exact I.after hq
    | next=>exact False.elim hq
    | brk=>exact False.elim hq
    | cont=>exact False.elim hq
theorem zje (F:FnOk X.prog X.w X.K X.mg X.base CX k f fd ps sp) (hr:Room k X.A) (hg:Gl X x) (hm:X.mg x=some (.ref f)) (hk:PySem.W.keepIn X.K (.ref f)=true) (hb:Binds X.K fd ps ds) (hd:Vals dvs ds) (hx:zgB CX X E)
    (ha:PA X (e :: es) t) (hdb:(x == ("__debug__" : Str))=false:=by decide) (he:starEach (e :: es) X.env=(false,eval e X.env) :: starEach es X.env:=by rfl) (hpl:(backTo pos (starEach es X.env)).any (·.1)=false:=by rfl) :
    PE X (.Call (.Name x p) (e :: es) [] pos) (ziq sp dvs E t):=by
  intro pins s σ H Q I h
  refine wpAny_Call_Name_kw (zhQ I hg hm ?_ hdb)
  refine PySem.W.callWith_K (h₀:=X.base) I.ok.mod.kin hk (thn (ha pos pins s σ H _ I h) fun us s1 ⟨vs,H1,I1,r,q⟩=>⟨I1.kIn,?_⟩) he hpl
  exact zj7 F hr hb hd hx I1 r q
end
section
variable {X:Cx} {CX:CXT} {k:Nat} {f C:Addr} {fd:FuncData} {ps ks:List Str} {sp:Sp} {E:XK} {x m:Str} {p pos apos kpos:Pos} {e o:Expr} {es:List Expr} {kws:List Keyword} {te ta:TE} {t tk:TA} {nm:Option Str}
variable {g:List Value→List Value→List Value} {gV:List V→List V→List V}
end
structure FnScope (N P:List Str) (sc:Scope):Prop where
  kind:sc.kind = .function
  co:sc.isCoroutine=false
  gen:sc.isGenerator=false
  nd:N.Nodup
  pre:N.take P.length=P
  par:∀ x ∈ P,sc.names.lookup x=some .local∨sc.names.lookup x=some .cell
  nofree:∀ y ∈ sc.names,y.2 ≠ .free
theorem zfV {kindOf:Str→Option NameKind} {x:Str}:∀ {binds:List (Str × Value)} {m:Str→Option Value},(∀ v,(x,v) ∉ binds)→bindL kindOf binds m x=m x
  | [],_,_=>rfl
  | (n,v) :: r,m,h=>by
    unfold bindL
    rw [zfV fun w hw=>h w (List.mem_cons_of_mem _ hw)]
    split
    · have:x ≠ n:=by rintro rfl; exact h v List.mem_cons_self
      simp [this]
    · rfl
theorem zfo {kindOf:Str→Option NameKind} {x:Str}:∀ {binds:List (Str × Value)} {m:Str→Option Value},(∀ v,(x,v) ∉ binds)→bindC kindOf binds m x=m x
  | [],_,_=>rfl
  | (n,v) :: r,m,h=>by
    unfold bindC
    rw [zfo fun w hw=>h w (List.mem_cons_of_mem _ hw)]
    split
    · rfl
    · have:x ≠ n:=by rintro rfl; exact h v List.mem_cons_self
      simp [this]
theorem zfF {kindOf:Str→Option NameKind} {x:Str} {v:Value}:∀ {P:List Str} {vs:List Value} {i:Nat} {m:Str→Option Value},P.Nodup→P[i]?=some x→vs[i]?=some v→kindOf x=some .local →
    bindL kindOf (P.zip vs) m x=some v
  | [],_,_,_,_,h,_,_=>by simp at h
  | _ :: _,[],_,_,_,_,h,_=>by simp at h
  | p :: P,w :: vs,0,m,nd,h1,h2,hk=>by
    simp at h1 h2; subst h1; subst h2
    show bindL kindOf ((p,w) :: P.zip vs) m p=_
    unfold bindL
    rw [zfV fun v hv=>(List.nodup_cons.mp nd).1 (List.of_mem_zip hv).1,if_pos hk]
    simp
  | p :: P,w :: vs,i + 1,m,nd,h1,h2,hk=>by
    show bindL kindOf ((p,w) :: P.zip vs) m x=_
    unfold bindL
    exact zfF (i:=i) (List.nodup_cons.mp nd).2 (by simpa using h1) (by simpa using h2) hk
theorem zfA {kindOf:Str→Option NameKind} {x:Str} {v:Value}:∀ {P:List Str} {vs:List Value} {i:Nat} {m:Str→Option Value},P.Nodup→P[i]?=some x→vs[i]?=some v→kindOf x ≠ some .local →
    bindC kindOf (P.zip vs) m x=some v
  | [],_,_,_,_,h,_,_=>by simp at h
  | _ :: _,[],_,_,_,_,h,_=>by simp at h
  | p :: P,w :: vs,0,m,nd,h1,h2,hk=>by
    simp at h1 h2; subst h1; subst h2
    show bindC kindOf ((p,w) :: P.zip vs) m p=_
    unfold bindC
    rw [zfo fun v hv=>(List.nodup_cons.mp nd).1 (List.of_mem_zip hv).1,if_neg hk]
    simp
  | p :: P,w :: vs,i + 1,m,nd,h1,h2,hk=>by
    show bindC kindOf ((p,w) :: P.zip vs) m x=_
    unfold bindC
    exact zfA (i:=i) (List.nodup_cons.mp nd).2 (by simpa using h1) (by simpa using h2) hk
def start (N:List Str) (vs:List V):St:=vs.map some ++ List.replicate (N.length - vs.length) none
def cxOf (CX:CXT) (P:Program) (w:World) (K:PySem.W.Frag) (mg:Str→Option Value) (base:Heap) (N:List Str) (qual:Str) (scope:Scope) (f:Addr) (cd:Value) (A:Around) (outer:List Env) (s:Shared) (H:Hp) (E:XK):Cx where
  prog:=P
  w:=w
  K:=K
  mg:=mg
  base:=base
  A:=A.deeper (envOfC qual scope s.heap.objs.size f cd)
  N:=N
  s₀:=s
  H₀:=H
  env:=envOfC qual scope s.heap.objs.size f cd
  outer:=outer
  stack:=envOfC qual scope s.heap.objs.size f cd :: outer
  ex:=[]
  calm:=true
  fn:=fun _=>true
  pn:=[]
  xe:=fun e s'=>wpAny (model P w) (A.deeper (envOfC qual scope s.heap.objs.size f cd)) (leaving (envOfC qual scope s.heap.objs.size f cd) e) (fun _ s''=>CX outer H s E e s'') (fun e' s''=>CX outer H s E e' s'') s'
theorem zgS {sc:Scope} {n:Nat} {x:Str} (h:sc.names.lookup x=some .cell):∃ c,(cellsFrom n sc.names []).lookup x=some c:=by
  have q:=PySem.W.cellsFrom_some sc.names n [] (.inl h)
  exact Option.isSome_iff_exists.mp q
theorem zhj {CX:CXT} {P:Program} {w:World} {K:PySem.W.Frag} {mg:Str→Option Value} {base:Heap} {N ps:List Str} {qual:Str} {scope:Scope} {f:Addr} {cd:Value} {A:Around} {outer:List Env} {s s1:Shared} {H:Hp} {E:XK} {us:List Value} {vs:List V}
    (S:FnScope N ps scope) (hd:A.handled=none) (e0:Env0 P w K mg base A outer s H) (hl:vs.length=ps.length) (r:Vals vs us)
    (x:InCallC s s.heap.objs.size (bindL (envOfC qual scope s.heap.objs.size f cd).kindOf (ps.zip us) fun _=>none) (cellsFrom (s.heap.objs.size + 1) scope.names []) (bindC (envOfC qual scope s.heap.objs.size f cd).kindOf (ps.zip us) fun _=>none) s1) :
    Inv (cxOf CX P w K mg base N qual scope f cd A outer s H E) [] (start N vs) H s1:=by
  have hpl:ps.length ≤ N.length:=by have:=congrArg List.length S.pre; rw [List.length_take] at this; omega
  obtain ⟨h1,tk,rfl,hk⟩:=x.done
  have noA:∀ b:Addr,b ∉ (cxOf CX P w K mg base N qual scope f cd A outer s H E).ex:=fun b z=>absurd (show b ∈ ([]:List Addr) from z) (by simp)
  refine ⟨⟨e0.mod,S.kind,rfl,rfl,Nat.le_refl _,fun y z c h1 h2=>?_,fun y hy=>?_,fun y c _ h=>?_,fun _=>hd,Around.frames_deeper e0.frames,.inr ⟨rfl,rfl⟩,fun b z=>absurd z (noA b),e0.bs,e0.bsz,fun b _ _=>noA b,fun b z=>absurd z (noA b),e0.funs,e0.frf,e0.tb⟩,
    rfl,e0.bare,Un.kept hk,⟨_,x.toInCall.ns,fun i y v h1 h2 h3=>?_⟩,fun y c h=>⟨_,x.cell y c h⟩,e0.hok.fresh (Nat.le_refl _),fun y c h=>?_,fun p hp=>absurd (show p ∈ ([]:List (Addr × Obj)) from hp) (by simp),e0.hok.kept hk,?_⟩
  · exact name_of_addr x.apart (PySem.mem_of_lookup h1) (PySem.mem_of_lookup h2)
  · have hy:scope.names.lookup y=some .cell∨scope.names.lookup y=some .free:=hy
    rcases hy with hy | hy
    · exact zgS hy
    · exact absurd rfl (S.nofree _ (PySem.mem_of_lookup hy))
  · exact Nat.le_of_lt (x.above y c (PySem.mem_of_lookup h))
  · have hi:i < vs.length:=by
      unfold start at h2
      by_cases hi:i < vs.length
      · exact hi
      · rw [List.getElem?_append_right (by simpa using hi)] at h2
        rw [List.getElem?_replicate] at h2
        split at h2 <;> cases h2
    have ha:vs[i]?=some v:=by
      unfold start at h2
      rw [List.getElem?_append_left (by simpa using hi),List.getElem?_map] at h2
      cases e:vs[i]? with
      | none=>rw [e] at h2; cases h2
      | some a=>rw [e] at h2; cases h2; rfl
    obtain ⟨u,hu,rv⟩:=r.get ha
    have hp:ps[i]?=some y:=by
      rw [← S.pre,List.getElem?_take_of_lt (by omega)]; exact h1
    have ndP:ps.Nodup:=by rw [← S.pre]; exact S.nd.sublist (List.take_sublist _ _)
    refine ⟨u,rv,?_⟩
    rcases S.par y (List.mem_of_getElem? hp) with k | k
    · exact .inl ⟨k,zfF ndP hp hu k⟩
    · obtain ⟨c,e⟩:=zgS (n:=s.heap.objs.size + 1) k
      refine .inr ⟨.inl k,c,e,?_⟩
      have q:=x.cell y c e
      rw [zfA ndP hp hu (by show scope.names.lookup y ≠ _; rw [k]; decide)] at q
      exact q
  · exact e0.hok.fresh (Nat.le_of_lt (x.above y c (PySem.mem_of_lookup h)))
  · unfold start
    show _=N.length
    rw [List.length_append,List.length_map,List.length_replicate]
    omega
theorem zkm {CX:CXT} {P:Program} {w:World} {K:PySem.W.Frag} {mg:Str→Option Value} {base:Heap} {k:Nat} {f:Addr} {name qual:Str} {params:Arguments} {body:List Stmt} {scope:Scope} {dV kV doc pm cdv ct oc:Value} {an od:Option Addr}
    {osl:Array (Option Value)} {N ps:List Str} {sp:Sp} (lk:K.lookup f=some ⟨oc,od,.func (PySem.W.fnOf name qual params body scope dV kV doc pm an cdv ct),osl⟩) (hcd:PySem.W.codeIn K cdv qual=true) (S:FnScope N ps scope)
    (len:∀ vs H Q E,sp vs H Q E→vs.length=ps.length)
    (hbody:∀ (A:Around) (outer:List Env) (s:Shared) (H:Hp) (vs:List V) (Q:VK) (E:XK),Room k (A.deeper (envOfC qual scope s.heap.objs.size f cdv))→sp vs H Q E →
      ∃ t,PSs (cxOf CX P w K mg base N qual scope f cdv A outer s H E) body t∧t { nx:=fun _ H'=>Q .non H',rt:=Q } (start N vs) H) :
    FnOk P w K mg base CX (k + 1) f (PySem.W.fnOf name qual params body scope dV kV doc pm an cdv ct) ps sp:=by
  refine ⟨len,fun A outer s H args us vs Q E hr e0 hb r hsp=>?_⟩
  have hl:=len _ _ _ _ hsp
  have KX:K.In s.heap:=e0.mod.kin.keeps fun b o e=>(e0.bs b o e).1
  have lim:s.heap.NoLimit:=e0.mod.nolimit.keeps fun b o e=>(e0.bs b o e).1
  have hkind:∀ y ∈ ps.zip us,scope.names.lookup y.1=some .local∨(scope.names.lookup y.1=some .cell∧((cellsFrom (s.heap.objs.size + 1) scope.names []).lookup y.1).isSome=true):=fun ⟨n,v⟩ hy=>by
    rcases S.par n (List.of_mem_zip hy).1 with q | q
    · exact .inl q
    · exact .inr ⟨q,PySem.W.cellsFrom_some _ _ _ (.inl q)⟩
  refine codeAny_call_function hr.depth (KX _ _ lk) rfl S.co S.gen rfl (PySem.W.codeRec_of KX hcd) (hb _ _ _ _ ?_)
  refine wpAny_newFunctionEnv_cells S.kind hkind fun env he s1 x=>?_
  subst he
  refine ⟨lim.keeps x.toInCall.keep,codeAny_func ?_⟩
  obtain ⟨t,ht,hq⟩:=hbody A outer s H vs Q E (hr.deeper _) hsp
  have I:Inv (cxOf CX P w K mg base N qual scope f cdv A outer s H E) [] (start N vs) H s1:=zhj S hr.hd e0 hl r x
  refine wpAny_mono (ht [] s1 (start N vs) H _ I hq) (fun fl s' hs=>?_) fun e s' hs=>hs
  have fin:∀ {σ':St} {H':Hp} {v:V} {u:Value},Inv (cxOf CX P w K mg base N qual scope f cdv A outer s H E) [] σ' H' s'→RelV v u→Q v H'→CE outer P w H s Q u s' :=
    fun {σ' H' v u} J rv q=>⟨v,H',J.os,J.bare,J.base,J.hok,rv,q⟩
  cases fl with
  | ret u =>
    obtain ⟨v,σ',H',J,rv,q⟩:=hs
    exact fin J rv q
  | next =>
    obtain ⟨σ',H',J,q⟩:=hs
    exact fin (v:=V.non) (u:=Value.none) J rfl q
  | brk =>
    obtain ⟨_,_,_,q⟩:=hs
    exact False.elim q
  | cont =>
    obtain ⟨_,_,_,q⟩:=hs
    exact False.elim q
end L2
namespace L2
open PySem PySem.Spec PyProof.Rows
section
variable {X:Cx} {x:Str} {p pos:Pos} {e:Expr} {es:List Expr} {t:TA} {id T:String} {r:List V→Hp→VK→Prop}
def tCB (r:List V→Hp→VK→Prop) (t:TA):TE:=fun σ H Q=>t σ H fun vs H1=>r vs H1 Q
theorem zay (hc:zez X (.builtin id) r) (hg:Gl X x) (hm:X.mg x=none) (hv:bootBuiltins x=some (.builtin id)) (ha:PA X (e :: es) t) (hn:x ≠ "__name__":=by decide) (hdb:(x == ("__debug__" : Str))=false:=by decide)
    (he:starEach (e :: es) X.env=(false,eval e X.env) :: starEach es X.env:=by rfl) (hpl:(backTo pos (starEach es X.env)).any (·.1)=false:=by rfl):PE X (.Call (.Name x p) (e :: es) [] pos) (tCB r t):=by
  intro pins s σ H Q I h
  refine wpAny_Call_Name_kw (zeL I hg hm hv ?_ hn hdb)
  exact PyProof.Rows.callWith_builtin1 (thn (ha pos pins s σ H _ I h) fun us s1 ⟨vs,H1,I1,r1,q1⟩=>hc pins s1 σ H1 vs us Q I1 r1 q1) he hpl
theorem zce (hc:zez X (.type T) r) (hg:Gl X x) (hm:X.mg x=none) (hv:bootBuiltins x=some (.type T)) (ha:PA X (e :: es) t) (hn:x ≠ "__name__":=by decide) (hdb:(x == ("__debug__" : Str))=false:=by decide)
    (he:starEach (e :: es) X.env=(false,eval e X.env) :: starEach es X.env:=by rfl) (hpl:(backTo pos (starEach es X.env)).any (·.1)=false:=by rfl):PE X (.Call (.Name x p) (e :: es) [] pos) (tCB r t):=by
  intro pins s σ H Q I h
  refine wpAny_Call_Name_kw (zeL I hg hm hv ?_ hn hdb)
  exact PyProof.Rows.callWith_type1 (thn (ha pos pins s σ H _ I h) fun us s1 ⟨vs,H1,I1,r1,q1⟩=>hc pins s1 σ H1 vs us Q I1 r1 q1) he hpl
end
end L2
namespace HT
open PySem PyProof.Rows
section
open PySem.SeqAt
open PySem.AutoSeq1 (wpAny_loadPart')
open PySem.MeetsSeq PySem.MeetsSeq2 PySem.MeetsSeq3
end
section
variable {prog:Program} {w:World} {A:Around} {E:Value→Shared→Prop} {s:Shared}
def sIx (n d:Nat):Option Int→Nat
  | none=>d
  | some v=>if v < 0 then (v + (n:Int)).toNat else min v.toNat n
end
end HT
namespace L2
open PySem PySem.Spec PyProof.Rows
abbrev TO:=St→Hp→(Option Int→Hp→Prop)→Prop
def PO (X:Cx) (e:Option Expr) (t:TO):Prop :=
  ∀ (pins:List (Addr × Obj)) (s:Shared) (σ:St) (H:Hp) (Q:Option Int→Hp→Prop),Inv X pins σ H s→t σ H Q →
    wpAny (model X.prog X.w) X.A (evalPart e X.env) (fun u s'=>∃ o H',Inv X pins σ H' s'∧IsPart u o∧Q o H') X.xe s
def zhH:TO:=fun _ H Q=>Q none H
def zjK (t:TE):TO:=fun σ H Q=>t σ H fun x H1=>∃ i,x = .int i∧Q (some i) H1
section
variable {X:Cx} {e:Expr} {te:TE} {lo hi:Option Expr} {tl th:TO} {pos p2:Pos}
theorem zi8:PO X none zhH:=by
  intro pins s σ H Q I h
  rw [evalPart_none]
  exact wpAny_pure ⟨none,H,I,.none,h⟩
theorem zgn (h:PE X e te):PO X (some e) (zjK te):=by
  intro pins s σ H Q I hw
  rw [evalPart_some]
  refine thn (h pins s σ H _ I hw) fun u s1 ⟨x,H1,I1,r1,q1⟩=>?_
  obtain ⟨i,rfl,q⟩:=q1
  obtain ⟨t,rfl⟩:=r1
  exact ⟨some i,H1,I1,.int i t,q⟩
def SlR (X:Cx) (r:V→Option Int→Option Int→Hp→VK→Prop):Prop :=
  ∀ (pins:List (Addr × Obj)) (s:Shared) (σ:St) (H:Hp) (x:V) (v vl vu:Value) (lo hi:Option Int) (sl:Addr) (Q:VK),Inv X pins σ H s→RelV x v→s.heap.IsSliceOf sl vl vu .none→IsPart vl lo→IsPart vu hi→r x lo hi H Q →
    ∃ T id,typeLookup (.type T) "__getitem__"=pure (some (.builtin id))∧s.TypeIs v T∧wpAny (model X.prog X.w) X.A (getItem v (.ref sl)) (EP X pins σ Q) X.xe s
def tSl (r:V→Option Int→Option Int→Hp→VK→Prop) (te:TE) (tl th:TO):TE:=fun σ H Q=>te σ H fun x H1=>tl σ H1 fun l H2=>th σ H2 fun u H3=>r x l u H3 Q
theorem zgH {r:V→Option Int→Option Int→Hp→VK→Prop} (hr:SlR X r) (he:PE X e te) (hl:PO X lo tl) (hu:PO X hi th):PE X (.Subscript e (.Slice lo hi none p2) pos) (tSl r te tl th):=by
  intro pins s σ H Q I h
  refine Subscript_ (thn (he pins s σ H _ I h) fun v s1 ⟨x,H1,I1,r1,q1⟩=>?_)
  refine wpAny_Slice (thn (hl pins s1 σ H1 _ I1 q1) fun vl s2 ⟨l,H2,I2,pl,q2⟩=>thn (hu pins s2 σ H2 _ I2 q2) fun vu s3 ⟨u,H3,I3,pu,q3⟩=>?_)
  rw [evalPart_none]
  refine wpAny_pure ?_
  have I4:Inv X pins σ H3 { s3 with heap:=s3.heap.push { cls:=.type "slice",data:=.fields #[vl,vu,.none] } }:=I3.kept (t':=s3.toks) fun b ob q=>Heap.get?_push_of_some _ q
  obtain ⟨T,id,hT,ht,hg⟩:=hr pins { s3 with heap:=s3.heap.push { cls:=.type "slice",data:=.fields #[vl,vu,.none] } } σ H3 x v vl vu l u s3.heap.objs.size Q I4 r1 (Heap.IsSliceOf.new ..) pl pu q3
  show wpAny (model X.prog X.w) X.A (subscriptTail e (.Slice lo hi none p2) v (.ref s3.heap.objs.size)) (EP X pins σ Q) X.xe { s3 with heap:=s3.heap.push { cls:=.type "slice",data:=.fields #[vl,vu,.none] } }
  exact tail_any (ops:=[.ref s3.heap.objs.size,v]) ht hT hg (by with_unfolding_all rfl)
def cutV (xs:List V) (lo hi:Option Int):List V:=(xs.drop (HT.sIx xs.length 0 lo)).take (HT.sIx xs.length xs.length hi - HT.sIx xs.length 0 lo)
theorem zgo (xs:List V) (lo hi:Option Int):(cutV xs lo hi).length ≤ xs.length:=by
  unfold cutV
  rw [List.length_take,List.length_drop]
  omega
end
end L2
namespace L2
open PySem PySem.Spec PyProof.Rows
def ixN (n:Nat) (i:Int):Option Nat:=if 0 ≤ i then (if i < n then some i.toNat else none) else if -(n:Int) ≤ i then some (i + n).toNat else none
def atI {α:Type} (xs:List α) (i:Int):Option α:=(ixN xs.length i).bind fun j=>xs[j]?
theorem zjo {n:Nat} {i:Int} {j:Nat} (h:ixN n i=some j):seqIndex? i n=some j∧j < n∧-(n:Int) ≤ i∧i < n:=by
  unfold ixN at h
  by_cases h0:0 ≤ i
  · rw [if_pos h0] at h
    by_cases h1:i < n
    · rw [if_pos h1] at h
      have e:i.toNat=j:=Option.some.inj h
      exact ⟨by rw [seqIndex_of h0 h1,e],by omega,by omega,h1⟩
    · rw [if_neg h1] at h; cases h
  · rw [if_neg h0] at h
    by_cases h1 : -(n:Int) ≤ i
    · rw [if_pos h1] at h
      have e:(i + n).toNat=j:=Option.some.inj h
      exact ⟨by rw [seqIndex_neg (by omega) h1,e],by omega,h1,by omega⟩
    · rw [if_neg h1] at h; cases h
theorem zgt {α:Type} {xs:List α} {i:Int} {v:α} (h:atI xs i=some v):∃ j,seqIndex? i xs.length=some j∧xs[j]?=some v∧j < xs.length∧-(xs.length:Int) ≤ i∧i < xs.length:=by
  unfold atI at h
  cases e:ixN xs.length i with
  | none=>rw [e] at h; cases h
  | some j =>
    rw [e] at h
    obtain ⟨h1,h2,h3,h4⟩:=zjo e
    exact ⟨j,h1,h,h2,h3,h4⟩
theorem atI_nat {α:Type} {xs:List α} {j:Nat} {v:α} (h:xs[j]?=some v):atI xs (j:Int)=some v:=by
  have hj:j < xs.length:=(List.getElem?_eq_some_iff.mp h).1
  have e:ixN xs.length (j:Int)=some j:=by
    unfold ixN
    rw [if_pos (by omega),if_pos (by omega)]; simp
  unfold atI; rw [e]; exact h
def zjg (b:Expr):Prop:=∀ o i,subscripted b false o i=operate [o,i] (getItem o i)
def IxR (X:Cx) (r:R2):Prop :=
  ∀ (value slice:Expr) (pins:List (Addr × Obj)) (s:Shared) (σ:St) (H:Hp) (x y:V) (v u:Value) (Q:VK),Inv X pins σ H s→RelV x v→RelV y u→r x y H Q →
    subscripted slice false v u=operate [v,u] (getItem v u)→wpAny (model X.prog X.w) X.A (subscriptTail value slice v u) (EP X pins σ Q) X.xe s
def MtR (X:Cx) (id:String) (r:V→List V→Hp→VK→Prop):Prop :=
  ∀ (pins:List (Addr × Obj)) (s:Shared) (σ:St) (H:Hp) (x:V) (xs:List V) (v:Value) (us:List Value) (Q:VK),Inv X pins σ H s→RelV x v→Vals xs us→r x xs H Q →
    wpAny (model X.prog X.w) X.A (call (.builtin id) (v :: us)) (EP X pins σ Q) X.xe s
section
variable {X:Cx} {a b:Expr} {ta tb:TE} {pos:Pos}
theorem zbb {r:R2} (hr:IxR X r) (ha:PE X a ta) (hb:PE X b tb) (hs:zjg b):PE X (.Subscript a b pos) (tOp r ta tb):=by
  intro pins s σ H Q I h
  exact Subscript_ (binT ha hb I h fun v u s2 x y H2 I2 rx ry q=>hr a b pins s2 σ H2 x y v u Q I2 rx ry q (hs _ _))
def rIxL (K:PySem.W.Frag):R2:=fun x y H Q=>∃ p xs i v,x = .ref p∧y = .int i∧SqL K H p xs∧atI xs i=some v∧Q v H
def rIxT (K:PySem.W.Frag):R2:=fun x y H Q=>∃ p xs i v,x = .ref p∧y = .int i∧SqT K H p xs∧atI xs i=some v∧Q v H
def rIxS:R2:=fun x y H Q=>∃ z i c,x = .str z∧y = .int i∧z.length ≤ sizeLine∧atI z.cps.toList i=some c∧Q (.str ⟨#[c]⟩) H
theorem zcw:IxR X (rIxL X.K):=by
  intro value slice pins s σ H x y v u Q I rx ry h hs
  obtain ⟨p,xs,i,z,rfl,rfl,hq,he,q⟩:=h
  cases rx
  obtain ⟨t,rfl⟩:=ry
  obtain ⟨its,r,pl,hz⟩:=I.list hq
  obtain ⟨j,h1,h2,h3,h4,h5⟩:=zgt he
  obtain ⟨w,ew,rw'⟩:=r.get h2
  have hl:=r.length
  have hn:=zf5
  have fin:EP X pins σ Q w s:=⟨z,H,I,rw',q⟩
  by_cases h0:0 ≤ i
  · have hj:i.toNat=j:=by
      rw [seqIndex_of h0 h5] at h1
      exact Option.some.inj h1
    exact item_listR pl.isList h0 (by omega) (by rw [hj]; simpa using ew) fin hs
  · have hj:(i + (its.toArray.size:Int)).toNat=j:=by
      rw [seqIndex_neg (by omega) h4] at h1
      rw [List.size_toArray,← hl]
      exact Option.some.inj h1
    exact subscriptTail_builtinR (x:=w) pl.isList.typeIs slot_list_getitem.lookup
      (wpAny_getItem_list_neg (Q:=fun r s'=>r=w∧EP X pins σ Q r s') pl.isList (by omega) (by rw [List.size_toArray] <;> omega) (by omega) (by rw [hj]; simpa using ew) ⟨rfl,fin⟩) hs
theorem za7:IxR X (rIxT X.K):=by
  intro value slice pins s σ H x y v u Q I rx ry h hs
  obtain ⟨p,xs,i,z,rfl,rfl,hq,he,q⟩:=h
  cases rx
  obtain ⟨t,rfl⟩:=ry
  obtain ⟨its,r,pl,hz⟩:=I.tuple hq
  obtain ⟨j,h1,h2,h3,h4,h5⟩:=zgt he
  obtain ⟨w,ew,rw'⟩:=r.get h2
  have hl:=r.length
  have hn:=zf5
  have fin:EP X pins σ Q w s:=⟨z,H,I,rw',q⟩
  exact subscriptTail_builtinR (x:=w) pl.typeIs slot_tuple_getitem.lookup
    (getItem_tuple (j:=j) (Q:=fun r s'=>r=w∧EP X pins σ Q r s') pl (by omega) (by omega) (by rw [List.size_toArray,← hl]; exact h1) (by simpa using ew) ⟨rfl,fin⟩) hs
theorem zjZ:IxR X rIxS:=by
  intro value slice pins s σ H x y v u Q I rx ry h hs
  obtain ⟨z,i,c,rfl,rfl,hz,he,q⟩:=h
  obtain ⟨t,rfl⟩:=rx
  obtain ⟨t',rfl⟩:=ry
  obtain ⟨j,h1,h2,h3,h4,h5⟩:=zgt he
  have hl:z.cps.toList.length=z.length:=by simp [Str.length]
  rw [hl] at h1 h4 h5
  have hn:=zf5
  exact tail_any (typeIs_str s z t) slot_str_getitem.lookup (getItem_str (c:=c) (by
    have e1:decide (i < -(2 ^ 63:Int))=false:=decide_eq_false (by omega)
    have e2:decide (i ≥ 2 ^ 63)=false:=decide_eq_false (by omega)
    rw [e1,e2,Bool.or_false]) (by rw [h1]; simpa using h2) ⟨.str ⟨#[c]⟩,H,I.tok _,⟨_,rfl⟩,q⟩) hs
theorem zf0 (lo hi:Option Int) (n:Nat):(sliceBounds lo hi none n).1=((HT.sIx n 0 lo:Nat):Int)∧(sliceBounds lo hi none n).2.1=((HT.sIx n n hi:Nat):Int)∧(sliceBounds lo hi none n).2.2=1:=by
  refine ⟨?_,?_,rfl⟩
  · cases lo with
    | none=>simp [sliceBounds,HT.sIx]
    | some i =>
      simp only [sliceBounds,HT.sIx,Option.getD_none,show (1:Int) > 0 by decide,if_true]
      by_cases h:i < 0
      · simp only [h,if_true] <;> omega
      · simp only [h,if_false] <;> omega
  · cases hi with
    | none=>simp [sliceBounds,HT.sIx]
    | some i =>
      simp only [sliceBounds,HT.sIx,Option.getD_none,show (1:Int) > 0 by decide,if_true]
      by_cases h:i < 0
      · simp only [h,if_true] <;> omega
      · simp only [h,if_false] <;> omega
theorem ze4 (its:List Value) (lo hi:Option Int):slicePick its.toArray lo hi none=((its.drop (HT.sIx its.length 0 lo)).take (HT.sIx its.length its.length hi - HT.sIx its.length 0 lo)).toArray:=by
  obtain ⟨h1,h2,h3⟩:=zf0 lo hi its.toArray.size
  unfold slicePick
  rw [h1,h2,h3]
  simp only [sliceRange_one,pick_run,List.size_toArray] <;> rfl
def rSlL (K:PySem.W.Frag):V→Option Int→Option Int→Hp→VK→Prop:=fun x lo hi H Q=>∃ a xs,x = .ref a∧SqL K H a xs∧∀ p,H p=none→Q (.ref p) (upd H p (.lst (cutV xs lo hi)))
theorem zhe:SlR X (rSlL X.K):=by
  intro pins s σ H x v vl vu lo hi sl Q I rx hs pl pu h
  obtain ⟨a,xs,rfl,hx,q⟩:=h
  cases rx
  obtain ⟨its,r,ht,hz⟩:=I.list hx
  have hlen:=r.length
  refine ⟨"list",_,slot_list_getitem.lookup,ht.isList.typeIs,?_⟩
  refine wpAny_getItem_list_slice ht.isList hs pl pu .none (by simp) ?_ (by rw [List.size_toArray] <;> omega)
  rw [ze4,← hlen]
  refine ⟨.ref s.heap.objs.size,_,I.laid (t':=s.toks) (o:=.lst (cutV xs lo hi)) (fun b ob q=>Heap.get?_push_of_some _ q) (Nat.le_refl _) ?_,rfl,q _ (I.hok.fresh (Nat.le_refl _))⟩
  exact ⟨Nat.le_trans (zgo xs lo hi) hz,_,0,(r.drop (HT.sIx xs.length 0 lo)).take (HT.sIx xs.length xs.length hi - HT.sIx xs.length 0 lo),Heap.get?_push_size _ rfl⟩
theorem zaR:zez X (.builtin "len") (fun xs H Q=>∃ p ys,xs = [.ref p]∧(SqL X.K H p ys∨SqT X.K H p ys)∧Q (.int ys.length) H):=by
  intro pins s σ H xs us Q I r h
  obtain ⟨p,ys,rfl,hq,q⟩:=h
  obtain ⟨u,rfl,rx⟩:=zf2 r
  cases rx
  have hn:=zf5
  rcases hq with hq | hq
  · obtain ⟨its,r',pl,hz⟩:=I.list hq
    have hlen:=r'.length
    exact Calls.call_len_list pl.isList (by simp only [List.size_toArray] <;> omega) ⟨.int ys.length,H,I.tok _,⟨s.toks + 1,by rw [List.size_toArray,hlen]⟩,q⟩
  · obtain ⟨its,r',pl,hz⟩:=I.tuple hq
    have hlen:=r'.length
    exact len_tuple pl (by simp only [List.size_toArray] <;> omega) ⟨.int ys.length,H,I.tok _,⟨s.toks + 1,by rw [List.size_toArray,hlen]⟩,q⟩
theorem zdD:zez X (.builtin "len") (fun xs H Q=>∃ z,xs = [.str z]∧z.length ≤ sizeLine∧Q (.int z.length) H):=by
  intro pins s σ H xs us Q I r h
  obtain ⟨z,rfl,hz,q⟩:=h
  obtain ⟨u,rfl,t,rfl⟩:=zf2 r
  have hn:=zf5
  exact len_str (by omega) ⟨.int z.length,H,I.tok _,⟨_,rfl⟩,q⟩
def tyV (K:PySem.W.Frag) (T:String) (x:V) (H:Hp):Prop:=match x with
  | .str _=>T = "str"
  | .int _=>T = "int"
  | .ref p=>(T = "list"∧∃ xs,SqL K H p xs)∨(T = "tuple"∧∃ o,K.lookup p=some o∧o.cls = .type "tuple"∧o.dict=none) ∨
      (T = "dict"∧((∃ kvs,H p=some (.dK kvs))∨∃ kvs,H p=some (.dT kvs)))∨(T = "set"∧∃ S n,H p=some (.set S n))
  | _=>False
theorem zjB {pins:List (Addr × Obj)} {σ:St} {H:Hp} {s:Shared} {T:String} {x:V} {v:Value} (I:Inv X pins σ H s) (r:RelV x v) (ty:tyV X.K T x H) :
    s.TypeIs v T∧∀ a,v = .ref a→∃ ob,s.heap.get? a=some ob∧ob.dict=none:=by
  cases x with
  | str z =>
    obtain ⟨t,rfl⟩:=r
    cases (show T = "str" from ty)
    exact ⟨typeIs_str s z t,fun _ e=>nomatch e⟩
  | int i =>
    obtain ⟨t,rfl⟩:=r
    cases (show T = "int" from ty)
    exact ⟨typeIs_int s i t,fun _ e=>nomatch e⟩
  | ref p =>
    cases r
    rcases ty with ⟨rfl,xs,hq⟩ | ⟨rfl,o,hk,hc,hd⟩ | ⟨rfl,hk⟩ | ⟨rfl,S,n,hk⟩
    · obtain ⟨its,_,pl,_⟩:=I.list hq
      refine ⟨pl.isList.typeIs,fun a e=>?_⟩
      cases e
      obtain ⟨o,n,e,c,hd,_⟩:=pl
      exact ⟨o,e,hd⟩
    · refine ⟨⟨o,I.kIn p o hk,hc⟩,fun a e=>?_⟩
      cases e
      exact ⟨o,I.kIn _ o hk,hd⟩
    · have z:∃ o,s.heap.get? p=some o∧o.ExactDict:=by
        rcases hk with ⟨kvs,hk⟩ | ⟨kvs,hk⟩
        · obtain ⟨_,_,_,_,o,_,_,e,ex,_⟩:=I.hok p _ hk
          exact ⟨o,e,ex⟩
        · obtain ⟨_,_,_,_,o,_,_,e,ex,_⟩:=I.hok p _ hk
          exact ⟨o,e,ex⟩
      obtain ⟨o,e,ex⟩:=z
      refine ⟨⟨o,e,ex.1⟩,fun a e2=>?_⟩
      cases e2
      exact ⟨o,e,ex.2.1⟩
    · obtain ⟨o,_,_,_,e,ex,_⟩:=I.hok p _ hk
      refine ⟨⟨o,e,ex.1⟩,fun a e2=>?_⟩
      cases e2
      exact ⟨o,e,ex.2.1⟩
  | _=>exact False.elim ty
def tBM (K:PySem.W.Frag) (T:String) (r:V→List V→Hp→VK→Prop) (to:TE) (t:TA):TE:=fun σ H Q=>to σ H fun x H1=>tyV K T x H1∧t σ H1 fun xs H2=>r x xs H2 Q
variable {o e:Expr} {es:List Expr} {to:TE} {t:TA} {name:Str} {apos cpos:Pos} {T id:String} {r:V→List V→Hp→VK→Prop}
theorem zhX (pa:PlainAttrs T) (slot:Slot T name id) (hty:typeOf (.builtin id)=pure (.type "method_descriptor")) (hm:MtR X id r) (ho:PE X o to) (ha:PA X (e :: es) t)
    (hbase:attributeBase o name X.env (eval o X.env)=eval o X.env:=by rfl)
    (hfew:((backTo cpos (starEach (e :: es) X.env)).all (fun x=>!x.1) && (backToKw cpos (keywordEach [] X.env)).all (fun x=>x.1.isSome)
      && decide ((e :: es).length + ([]:List Keyword).length + (if ([]:List Keyword).isEmpty then 0 else 1) < 30))=true:=by rfl)
    (hline:(apos.endLine == cpos.line)=true:=by rfl) (hs:starEach (e :: es) X.env=(false,eval e X.env) :: starEach es X.env:=by rfl) (hplain:(backTo cpos (starEach es X.env)).any (·.1)=false:=by rfl) :
    PE X (.Call (.Attribute o name apos) (e :: es) [] cpos) (tBM X.K T r to t):=by
  intro pins s σ H Q I h
  refine wpAny_Call_method_late hbase hfew hline rfl (thn (ho pins s σ H _ I h) fun v s1 ⟨x,H1,I1,r1,ty,q1⟩=>?_)
  obtain ⟨h1,h2⟩:=zjB I1 r1 ty
  refine ⟨T,id,pa,slot,hty,h1,h2,?_⟩
  have hA:=ha cpos pins s1 σ H1 _ I1 q1
  rw [hs] at hA ⊢
  refine Calls.callWith_builtin (by show (false || (backTo cpos (starEach es X.env)).any (·.1))=false; rw [hplain] <;> rfl) (Calls.evalArgs_plain ?_)
  exact thn hA fun us s2 ⟨vs,H2,I2,r2,q2⟩=>hm pins s2 σ H2 x vs v us Q I2 r1 r2 q2
end
end L2
namespace L2
open PySem PySem.Spec PyProof.Rows
def MtM (X:Cx) (id:String) (r:V→List V→Hp→VK→Prop):Prop :=
  ∀ (pins:List (Addr × Obj)) (s:Shared) (σ:St) (H:Hp) (x:V) (xs:List V) (v:Value) (us:List Value) (Q:VK),Inv X pins σ H s→RelV x v→Vals xs us→r x xs H Q →
    wpAny (model X.prog X.w) X.A (call (.builtin id) (v :: us)) (EP X pins σ Q) X.xe s
theorem Vals.one:∀ {x:V} {us:List Value},Vals [x] us→∃ u,us = [u]∧RelV x u
  | _,_,.cons r .nil=>⟨_,rfl,r⟩
section
variable {X:Cx} {pins:List (Addr × Obj)} {σ:St} {H:Hp} {s:Shared} {l b:Addr} {xs ys zs:List V}
theorem Inv.lset {its its':List Value} {n:Nat} {f:Array Value→Array Value} {t':Nat} (I:Inv X pins σ H s) (hH:H l=some (.lst xs))
    (e:s.heap.get? l=some { cls:=.type "list",data:=.seq its.toArray n }) (hf:f its.toArray=its'.toArray) (hv:Vals ys its') (hz:ys.length ≤ sizeLine) :
    Inv X pins σ (upd H l (.lst ys)) { s with heap:=s.heap.update l (Obj.mapSeq f),toks:=t' }:=by
  have q:=PySem.IsL.update e f
  rw [hf] at q
  refine I.write (x:=l) (e:=l) (by rw [hH]; exact trivial) (.inl rfl) (fun b' u hb hu=>(Heap.get?_update_other s.heap (Obj.mapSeq f) (Ne.symm hb)).trans hu) ⟨_,q⟩ ?_
  exact ⟨hz,its',_,hv,q⟩
theorem Inv.lnew {its:List Value} {t':Nat} (I:Inv X pins σ H s) (hv:Vals ys its) (hz:ys.length ≤ sizeLine) :
    Inv X pins σ (upd H s.heap.objs.size (.lst ys)) { s with heap:=s.heap.push { cls:=.type "list",data:=.seq its.toArray },toks:=t' } :=
  I.laid (fun _ _ q=>Heap.get?_push_of_some _ q) (Nat.le_refl _) ⟨hz,its,0,hv,Heap.get?_push_size _ rfl⟩
theorem Inv.fresh (I:Inv X pins σ H s):H s.heap.objs.size=none:=I.hok.fresh (Nat.le_refl _)
theorem Inv.lstM (I:Inv X pins σ H s) (hH:H l=some (.lst xs)):xs.length ≤ sizeLine∧∃ (its:List Value) (n:Nat),Vals xs its∧xs.length=its.length∧s.heap.get? l=some { cls:=.type "list",data:=.seq its.toArray n }:=by
  obtain ⟨z,its,n,r,e⟩:=I.hok l _ hH
  exact ⟨z,its,n,r,r.length,e⟩
end
section
variable {X:Cx}
def zhF:V→List V→Hp→VK→Prop:=fun x vs H Q=>∃ l xs y,x = .ref l∧vs = [y]∧H l=some (.lst xs)∧xs.length < sizeLine∧Q .non (upd H l (.lst (xs ++ [y])))
theorem zfx:MtM X "list.append" zhF:=by
  intro pins s σ H x vs v us Q I rx rv h
  obtain ⟨l,xs,y,rfl,rfl,hH,hz,q⟩:=h
  cases rx
  obtain ⟨u,rfl,ru⟩:=rv.one
  obtain ⟨z,its,n,r,hl,e⟩:=I.lstM hH
  refine call_meets F.slot_list_append ⟨_,e,rfl⟩ F.entry_list_append (F.args_list_append_2 _ _) (PySem.list_append l its.toArray n u (by rw [List.size_toArray]; omega)) ⟨e,?_⟩
  refine ⟨.non,_,I.lset (its':=its ++ [u]) hH e (by simp) (r.append (.cons ru .nil)) ?_,rfl,q⟩
  rw [List.length_append,List.length_singleton]
  omega
end
section
variable {prog:Program} {w:World} {A:Around} {E:Value→Shared→Prop} {s:Shared}
end
section
variable {X:Cx}
end
end L2
namespace L2
open PySem PySem.Spec PyProof.Rows
section
variable {κ:Type} [DecidableEq κ]
end
section
variable {P:Program} {w:World} {H:Hp} {h:Heap} {a:Addr}
end
section
variable {X:Cx} {pins:List (Addr × Obj)} {σ:St} {H:Hp} {s:Shared} {a:Addr} {y v:V} {u r:Value} {o:Option V} {A:Around} {E:Value→Shared→Prop}
end
section
variable {X:Cx} {pins:List (Addr × Obj)} {σ:St} {H:Hp} {s:Shared} {a:Addr} {kvs:List (Key × V)} {k:Key} {u:Value} {A:Around} {E:Value→Shared→Prop}
end
section
variable {X:Cx} {o i e value:Expr} {pos pos' tpos:Pos} {td ty tv:TE}
end
section
variable {X:Cx} {pos:Pos}
end
section
variable {X:Cx} {pins:List (Addr × Obj)} {σ:St} {H:Hp} {s:Shared} {a:Addr} {y d:V} {u r:Value} {o:Option V} {A:Around} {E:Value→Shared→Prop}
end
section
variable {X:Cx} {o e f:Expr} {apos cpos:Pos} {td ty tx:TE}
end
section
variable {X:Cx} {pins:List (Addr × Obj)} {σ:St} {H:Hp} {s:Shared} {a:Addr} {kvs:List (Key × V)} {A:Around} {E:Value→Shared→Prop}
end
section
variable {X:Cx} {pins:List (Addr × Obj)} {σ:St} {H:Hp} {s:Shared} {a:Addr} {y:V} {u:Value} {A:Around} {E:Value→Shared→Prop}
end
end L2
namespace Att
open PySem PySem.W PySem.Calls PyProof.Rows
theorem zej {P:Params} {h:Heap}:∀ (ns:List Int) (vs:List Value),WellAll P h vs (ns.map WData.int)→IntsAre vs ns:=by
  intro ns
  induction ns with
  | nil =>
    intro vs w
    rw [List.map_nil] at w
    cases w
    exact .nil
  | cons n ns ih =>
    intro vs w
    rw [List.map_cons] at w
    cases w with
    | cons a b =>
      cases a
      exact .cons _ _ (ih _ b)
theorem zhf {l:OpenLaw} {n:Nat} (hn:l.most=some n) {P:Params} {h:Heap} {args:List WData} {vals:List Value}
    (hpre:l.row.toRowW.claim.pre args=true) (hwl:WellAll P h vals args) :
    ∃ a vs ns,vals = [Value.ref a]∧args = [WData.list (ns.map WData.int)]∧h.get? a=some { cls:=.type "list",data:=.seq vs.toArray }∧IntsAre vs ns∧ns.length ≤ n:=by
  have hsh:WShape.hasAll [] args [.list .int]=true:=(pre_splitW hpre).1
  have hc:l.pre.holds [] { args:=args }=true:=(pre_splitW hpre).2
  obtain ⟨d,r,rfl,h1,h2⟩:=hasAllW_cons hsh
  obtain rfl:=hasAllW_nil h2
  obtain ⟨xs,rfl,h3⟩:=hasW_list h1
  obtain ⟨ns,rfl⟩:=items_int h3
  have hlen:ns.length ≤ n:=by
    unfold OpenLaw.pre at hc
    have h4:(WTm.not (.lt (.lit (.int (n:Int))) (.len (.arg 0)))).holds [] { args:=[.list (ns.map .int)] }=true:=by
      have h4:=(holds_andW hc).1
      rw [hn] at h4
      exact h4
    have h5:=condW_of h4 (w_not (w_lt w_lit (w_len_list (w_arg rfl))))
    rw [List.length_map] at h5
    refine Nat.le_of_not_lt fun q=>?_
    have q':(n:Int) < ((ns.length:Nat):Int):=by omega
    first
      | (rw [decide_eq_true q'] at h5; exact absurd h5 (by decide))
      | (simp at h5; omega)
  cases hwl with
  | cons w1 w2 =>
    cases w2
    cases w1 with
    | list ho hall=>exact ⟨_,_,ns,rfl,rfl,ho,zej ns _ hall,hlen⟩
theorem zhG (l:OpenLaw) (args:List WData):l.row.toRowW.claim.post args (.bool true) args=true :=
  postW_of (r:=l.row.toRowW) (X:=(true == true))
    (show WShape.has [] (.bool true) .bool=true by first | rfl | decide | simp [WShape.has,WShape.arms,WShape.armsAll])
    (show (WTm.eq .res (.lit (.bool true))).value [] { args:=args,res:=some (.bool true),after:=args }=some (.bool (true == true)) from w_eq_bool (w_res rfl) w_lit) rfl
theorem attach_call {l:OpenLaw} {n:Nat} {q:Program} {loose:List Str} {XP:(Str→Option Value)→Heap→Prop} {YP:World→Heap→Prop} {d:DefRec}
    (hn:l.most=some n) (hdf:d.params.defaults = [])
    (call:∀ (w:World) (s₀ s₁:Shared) (mg mb:Str→Option Value) (fa:Addr) (o:Obj) (pm cd doc:Value) (a:Addr) (vs:List Value) (ns:List Int),
      Ground q loose [] XP w s₀ mg mb s₁.heap→YP w s₁.heap →
      s₁.heap.get? fa=some o→o.data = .func (docDef d.name d.params d.body d.scope pm cd doc)→s₁.heap.CodeRec cd d.name→mg d.name=some (.ref fa) →
      s₁.heap.get? a=some { cls:=.type "list",data:=.seq vs.toArray }→IntsAre vs ns→ns.length ≤ n→s₁.gens = #[] →
      codeAny (model l.prog w) callerA (.call (.ref fa) ⟨[.ref a],[]⟩) (fun r s'=>r = .ok (.ret (.bool true))∧OldK s₁.heap s'.heap∧s'.os=s₁.os∧AllBare s'.gens) s₁) :
    WalkO q loose XP YP l.row.toRowW d [] (fun f vs=>PySem.call f vs):=by
  intro w s₀ s₁ mg mb G Y fa o pm cd doc dV kV ho hd hcd hD hmg hg args vals as hpre hlay hrd hwl hlo
  obtain rfl:dV = .none:=Dflts.none hD hdf
  obtain rfl:kV = .none:=Dflts.noKw hD
  obtain ⟨a,vs,ns,rfl,rfl,hobj,hints,hlen⟩:=zhf hn hpre hwl
  refine enter_call (codeAny_mono (call w s₀ s₁ mg mb fa o pm cd doc a vs ns G Y ho (fd_plain hd) hcd hmg hobj hints hlen hg) fun r s' hq=>?_)
  obtain ⟨rfl,h2,h3,h4⟩:=hq
  exact ⟨.inl ⟨.bool true,.bool true,[],rfl,fun _=>rfl,.bool true,zhG l _,fun _=>⟨List.Pairwise.nil,fun _ hm=>(nomatch hm)⟩⟩,h2,h3,h4⟩
section
variable {prog:Program} {w:World} {A:Around} {E:Value→Shared→Prop} {s:Shared} {K:Frag}
end
end Att
namespace L2
open PySem PySem.Spec PyProof.Rows
theorem zfS:∀ {vs:List Value} {ns:List Int},IntsAre vs ns→Vals (ns.map V.int) vs
  | _,_,.nil=>.nil
  | _,_,.cons n t h=>.cons ⟨t,rfl⟩ (zfS h)
def Only (H:Hp):Prop:=∀ b,H b=none∨∃ o xs,H b=some (.frz o (.lst xs))
theorem ziu {P:Program} {w:World} {K:PySem.W.Frag} {mg mb:Str→Option Value} {CX:CXT} {k:Nat} {fa a:Addr} {fd:FuncData} {x:Str} {sp:Sp} {s₁:Shared} {vs:List Value} {ns:List Int}
    (KX:K.In s₁.heap) (hT0:zhT K=none) (hns:s₁.heap.Ns mainGlobals mg) (hb:s₁.heap.Ns builtinsNs mb) (hbb:∀ x:Str,x ≠ "__name__"→mb x=bootBuiltins x) (hlim:s₁.heap.NoLimit) (hg:s₁.gens = #[])
    (ha:s₁.heap.get? a=some { cls:=.type "list",data:=.seq vs.toArray }) (hi:IntsAre vs ns) (hl:ns.length ≤ sizeLine) (hr:Room k callerA)
    (F:∀ base:Heap,K.In base→base.Ns mainGlobals mg→FnOk P w K mg base CX k fa fd [x] sp) (hbind:∀ (s:Shared) (u:Value),BindsTo s fd ⟨[u],[]⟩ [(x,u)])
    (hsp:∀ H:Hp,Only H→SqL K H a (ns.map V.int)→sp [.ref a] H (fun v _=>v = .bl true) fun _ _ _=>False)
    (hCX:∀ H e s',CX [] H s₁ (fun _ _ _=>False) e s'→False) :
    codeAny (model P w) callerA (.call (.ref fa) ⟨[.ref a],[]⟩) (fun r s'=>r = .ok (.ret (.bool true))∧OldK s₁.heap s'.heap∧s'.os=s₁.os∧AllBare s'.gens) s₁:=by
  have rv:=zfS hi
  have lenV:=hi.length
  -- from an abstract heap in which nothing but the script may be tracked
  have core:∀ H:Hp,Only H→SqL K H a (ns.map V.int)→HOk P w H s₁.heap→(∀ b,H b ≠ none→b=a)→(H a ≠ none→K.lookup a=none) →
      codeAny (model P w) callerA (.call (.ref fa) ⟨[.ref a],[]⟩) (fun r s'=>r = .ok (.ret (.bool true))∧OldK s₁.heap s'.heap∧s'.os=s₁.os∧AllBare s'.gens) s₁:=by
    intro H hO hS hok hA hK
    have base_of:∀ {b:Addr} {o:Obj},s₁.heap.get? b=some o→H b=none→(hidT s₁.heap H).get? b=some o:=fun e n=>zid e n
    have noA:∀ {b:Addr} {o:Obj} {es:Array DictEntry} {ep:Nat},s₁.heap.get? b=some o→o.data = .dict es ep→H b=none:=fun {b o es ep} e d=>by
      cases q:H b with
      | none=>rfl
      | some u =>
        have e':b=a:=hA b (by rw [q]; simp)
        subst e'
        rw [ha] at e; cases e
        have d':Data.seq vs.toArray _=Data.dict es ep:=d
        cases d'
    have nsK:∀ {b:Addr} {m:Str→Option Value},s₁.heap.Ns b m→(hidT s₁.heap H).Ns b m:=fun {b m} ⟨o,es,ep,e,d,r⟩=>⟨o,es,ep,base_of e (noA e d),d,r⟩
    have hKb:K.In (hidT s₁.heap H):=fun b o e=>base_of (KX b o e) (by
      cases q:H b with
      | none=>rfl
      | some u =>
        have e':b=a:=hA b (by rw [q]; simp)
        subst e'
        rw [hK (by rw [q]; simp)] at e; cases e)
    have hM:Mod K mg (hidT s₁.heap H):=⟨hKb,nsK hns,⟨mb,nsK hb,hbb⟩,let ⟨mc,h1,h2⟩:=hlim; ⟨mc,nsK h1,h2⟩⟩
    have e0:Env0 P w K mg (hidT s₁.heap H) callerA [] s₁ H:=⟨rfl,hM,fun b o e=>zi6 e,Nat.le_of_eq (zhI _ _),trivial,fun b hb=>absurd (show b ∈ ([]:List Addr) from hb) (by simp),hok,.of_eq hg,.none hT0⟩
    refine codeAny_mono ((F _ hKb (nsK hns)).run callerA [] s₁ H ⟨[.ref a],[]⟩ [.ref a] [.ref a] _ _ hr e0 (hbind s₁ (.ref a)) (.cons rfl .nil) (hsp H hO hS)) fun r s' h=>?_
    cases r with
    | error e=>exact (hCX H e s' h).elim
    | ok fl =>
      cases fl with
      | next=>exact False.elim h
      | brk=>exact False.elim h
      | cont=>exact False.elim h
      | ret u =>
        obtain ⟨v,H',os,bare,un,hok',r',q⟩:=h
        have q':v = .bl true:=q
        subst q'
        obtain rfl:u=Value.bool true:=r'
        refine ⟨rfl,OldK.of_keep fun b o e=>?_,os,bare⟩
        cases q:H b with
        | none=>exact un.keep b o e q (by intro z; exact absurd (show b ∈ ([]:List Addr) from z) (by simp)) (by simp)
        | some u =>
          rcases hO b with z | ⟨ob,xs,z⟩
          · rw [q] at z; cases z
          · have z2:=un.frzs b ob _ z
            obtain ⟨e1,_⟩:=hok b _ z
            obtain ⟨e2,_⟩:=hok' b _ z2
            rw [e] at e1; cases e1
            exact e2
  cases hk:K.lookup a with
  | some o =>
    -- the script is one of the module's own objects
    have e:=KX a o hk
    rw [ha] at e
    cases e
    refine core (fun _=>none) (fun _=>.inl rfl) (.inr ⟨_,vs.toArray,_,hk,rfl,rfl,rfl,by rw [List.size_toArray,lenV]; exact hl,by simpa using rv⟩) (fun b u z=>by have z':(none:Option HO)=some u:=z; cases z') (fun b z=>absurd rfl z) fun z=>absurd rfl z
  | none =>
    refine core (fun b=>if b=a then some (.frz { cls:=.type "list",data:=.seq vs.toArray } (.lst (ns.map V.int))) else none) (fun b=>?_) (.inl (.inr ⟨{ cls:=.type "list",data:=.seq vs.toArray },if_pos rfl⟩)) (fun b u z=>?_) (fun b z=>?_) fun _=>hk
    · by_cases hb:b=a
      · exact .inr ⟨_,_,if_pos hb⟩
      · exact .inl (if_neg hb)
    · by_cases hb:b=a
      · have z':=(if_pos hb).symm.trans z
        cases z'
        subst hb
        exact ⟨ha,by rw [List.length_map]; exact hl,vs,_,rv,ha⟩
      · have z':=(if_neg hb).symm.trans z
        cases z'
    · by_cases hb:b=a
      · exact hb
      · exact absurd (if_neg hb) z
end L2
namespace L2
open PySem PySem.Spec PyProof.Rows
theorem walk_of {l:PySem.W.OpenLaw} {n k:Nat} {q:Program} {loose:List Str} {XP:(Str→Option Value)→Heap→Prop} {YP:World→Heap→Prop} {d:DefRec} {K:Params→PySem.W.Frag} {CX:World→CXT} {sp:World→Sp} {x:Str}
    (hn:l.most=some n) (hn2:n ≤ sizeLine) (hdf:d.params.defaults = []) (hr:Room k callerA)
    (hY:∀ (w:World) (h:Heap),YP w h→(K w.params).In h) (hT0:∀ w:World,zhT (K w.params)=none)
    (F:∀ (w:World) (mg:Str→Option Value) (fa:Addr) (h:Heap),(K w.params).In h→h.Ns mainGlobals mg→mg d.name=some (.ref fa) →
      ∃ fd:FuncData,(∀ (s:Shared) (u:Value),BindsTo s fd ⟨[u],[]⟩ [(x,u)]) ∧
        ∀ base:Heap,(K w.params).In base→base.Ns mainGlobals mg→FnOk l.prog w (K w.params) mg base (CX w) k fa fd [x] (sp w))
    (hsp:∀ (w:World) (H:Hp) (a:Addr) (ns:List Int),ns.length ≤ n→Only H→SqL (K w.params) H a (ns.map V.int)→sp w [.ref a] H (fun v _=>v = .bl true) fun _ _ _=>False)
    (hCX:∀ (w:World) (H:Hp) (s:Shared) (e:Value) (s':Shared),CX w [] H s (fun _ _ _=>False) e s'→False) :
    PySem.W.WalkO q loose XP YP l.row.toRowW d [] (fun f vs=>PySem.call f vs):=by
  refine Att.attach_call hn hdf fun w s₀ s₁ mg mb fa o pm cd doc a vs ns G Y ho hd hcd hmg hobj hints hlen hg=>?_
  have KX:=hY w _ Y
  obtain ⟨fd,hb,hF⟩:=F w mg fa _ KX G.T.g hmg
  exact ziu KX (hT0 w) G.T.g G.T.b G.T.builtins G.T.nolimit hg hobj hints (Nat.le_trans hlen hn2) hr hF hb (fun H hO hS=>hsp w H a ns hlen hO hS) fun H e s'=>hCX w H s₁ e s'
end L2
namespace L2
open PySem PySem.Spec PyProof.Rows
def zcY (s:Stmt):Arguments:=match s with
  | .FunctionDef _ a _ _ _ _ _ _ _ _=>a
  | _=>{ posonlyargs:=[],args:=[],vararg:=none,kwonlyargs:=[],kw_defaults:=[],kwarg:=none,defaults:=[] }
def zcD (s:Stmt):List Stmt:=match s with
  | .FunctionDef _ _ b _ _ _ _ _ _ _=>b
  | _=>[]
def zal (s:Stmt):Scope:=match s with
  | .FunctionDef _ _ _ _ _ _ sc _ _ _=>sc
  | _=>{ kind:=.function,names:=[],isGenerator:=false,isCoroutine:=false }
abbrev CX0:CXT:=fun _ _ _ _ _ _=>False
abbrev E0:XK:=fun _ _ _=>False
theorem za4 {X:Cx}:zgB CX0 X E0:=fun _ _ _ _ _ _ _ h=>h.elim
structure Fun (K:PySem.W.Frag) (x qual:Str) (st:Stmt) (f:Addr) (fd:FuncData):Prop where
  ex:∃ (oc:Value) (od:Option Addr) (kV doc pm:Value) (an:Option Addr) (cdv ct:Value) (osl:Array (Option Value)),
    fd=PySem.W.fnOf x qual (zcY st) (zcD st) (zal st) .none kV doc pm an cdv ct∧K.lookup f=some ⟨oc,od,.func fd,osl⟩∧PySem.W.codeIn K cdv qual=true
  kp:PySem.W.keepIn K (.ref f)=true
section
variable {P:Program} {w:World} {K:PySem.W.Frag} {mg:Str→Option Value} {base:Heap}
theorem Fun.ok {x qual:Str} {st:Stmt} {f:Addr} {fd:FuncData} {N ps:List Str} {k:Nat} {sp:Sp} (F:Fun K x qual st f fd) (S:FnScope N ps (zal st)) (len:∀ vs H Q E,sp vs H Q E→vs.length=ps.length)
    (hbody:∀ (cdv:Value) (A:Around) (outer:List Env) (s:Shared) (H:Hp) (vs:List V) (Q:VK) (E:XK),Room k (A.deeper (envOfC qual (zal st) s.heap.objs.size f cdv))→sp vs H Q E →
      ∃ t,PSs (cxOf CX0 P w K mg base N qual (zal st) f cdv A outer s H E).nox (zcD st) t∧t { nx:=fun _ H'=>Q .non H',rt:=Q } (start N vs) H):FnOk P w K mg base CX0 (k + 1) f fd ps sp:=by
  obtain ⟨oc,od,kV,doc,pm,an,cdv,ct,osl,rfl,lk,hcd⟩:=F.ex
  refine zkm lk hcd S len fun A outer s H vs Q E hr hsp=>?_
  obtain ⟨t,h,q⟩:=hbody cdv A outer s H vs Q E hr hsp
  exact ⟨t,h.nox,q⟩
theorem Fun.binds {x qual:Str} {st:Stmt} {f:Addr} {fd:FuncData} {ps:List Str} (F:Fun K x qual st f fd)
    (h:∀ (kV doc pm:Value) (an:Option Addr) (cdv ct:Value) (us:List Value),us.length=ps.length→bindArgs (PySem.W.fnOf x qual (zcY st) (zcD st) (zal st) .none kV doc pm an cdv ct) ⟨us,[]⟩=pure (ps.zip us)):Binds K fd ps []:=by
  obtain ⟨oc,od,kV,doc,pm,an,cdv,ct,osl,rfl,lk,hcd⟩:=F.ex
  exact .all (h kV doc pm an cdv ct)
theorem ziQ {x qual:Str} {st:Stmt} {f:Addr} {oc:Value} {od an:Option Addr} {osl:Array (Option Value)} {kV doc pm cdv ct:Value} (l:K.lookup f=some ⟨oc,od,.func (PySem.W.fnOf x qual (zcY st) (zcD st) (zal st) .none kV doc pm an cdv ct),osl⟩)
    (c:PySem.W.codeIn K cdv qual=true) (k:PySem.W.keepIn K (.ref f)=true):Fun K x qual st f (PySem.W.fnOf x qual (zcY st) (zcD st) (zal st) .none kV doc pm an cdv ct):=⟨⟨oc,od,kV,doc,pm,an,cdv,ct,osl,rfl,l,c⟩,k⟩
end
theorem zbF {A:Around} {k:Nat} (hr:Room k A):A.units + 1 < cLine:=Nat.lt_of_le_of_lt (Nat.add_le_add_left (by decide:1 ≤ 64) _) hr.units
section
variable {X:Cx}
theorem pv (i:Nat) {x:Str} {pos:Pos} (hN:X.N[i]?=some x:=by rfl) (hv:Vis X.env.scope x:=by first | exact Or.inl rfl | exact Or.inr (Or.inl rfl) | exact Or.inr (Or.inr rfl)) (hd:(x == ("__debug__" : Str))=false:=by decide)
    (hcd:(x == ("__classdict__" : Str))=false:=by decide):PE X (.Name x pos) (tVar i):=zki hN hv hd hcd
end
def Same (H H':Hp):Prop:=∀ b o,H b=some o→H' b=some o
theorem Same.refl (H:Hp):Same H H:=fun _ _ h=>h
theorem Same.trans {H H1 H2:Hp} (a:Same H H1) (b:Same H1 H2):Same H H2:=fun c o h=>b c o (a c o h)
theorem Same.free {H H':Hp} (e:Same H H') {l:Addr} (h:H' l=Option.none):H l=Option.none:=by
  cases q:H l with
  | none=>rfl
  | some o =>
    rw [e l o q] at h
    cases h
theorem Same.seq {K:PySem.W.Frag} {H H':Hp} {a:Addr} {xs:List V} (e:Same H H') (h:SqL K H a xs):SqL K H' a xs:=by
  rcases h with (h | ⟨o,h⟩) | h
  · exact .inl (.inl (e _ _ h))
  · exact .inl (.inr ⟨o,e _ _ h⟩)
  · exact .inr h
section
variable {κ:Type} [DecidableEq κ]
end
end L2
namespace L2
open PySem PySem.Spec PyProof.Rows
def Fit (i:Int):Prop:=i.natAbs < 2 ^ 8000
theorem log2_lt {n k:Nat} (hk:0 < k) (h:n < 2 ^ k):n.log2 < k:=by
  by_cases h0:n=0
  · subst h0; simpa using hk
  · exact (Nat.log2_lt h0).mpr h
theorem Fit.log {i:Int} (h:Fit i):i.natAbs.log2 < 8000:=log2_lt (by decide) h
theorem Fit.bits {i:Int} (h:Fit i):Builtin.Int.intBits i ≤ 2 ^ 20:=by
  have h1:=h.log
  have h2:(8000:Nat) ≤ 2 ^ 20:=by decide
  unfold Builtin.Int.intBits
  split <;> omega
section
variable {X:Cx}
theorem zcK:OpR X (binaryOp .Mult) (rI (fun i j=>Fit i∧Fit j) fun i j=>.int (i * j)):=opI fun _ _ _ _ _ _ _ hc q=>mul_int q (.of_bits hc.1.bits hc.2.bits)
theorem zbp:OpR X (binaryOp .FloorDiv) (rI (fun _ j=>j ≠ 0∧Fit j) fun i j=>.int (i.fdiv j)):=opI fun _ _ _ _ _ _ _ hc q =>
  floordiv_int hc.1 q (.inl (PyProof.noPylong_of_log2 (Nat.lt_trans hc.2.log (by decide))))
end
def clsV:V→Option Value
  | .ty n=>some (.type n)
  | .ref a=>some (.ref a)
  | _=>none
section
variable {X:Cx}
theorem zis {c:V} {cv u:Value} (h:clsV c=some cv) (r:RelV c u):u=cv:=by
  cases c with
  | ty n=>cases h; exact r
  | ref a=>cases h; exact r
  | _=>cases h
def rIs (K:PySem.W.Frag):List V→Hp→VK→Prop:=fun xs H Q=>∃ x c cv t b,xs = [x,c]∧clsV c=some cv∧TyOf K H x t∧PySem.W.kitOne K t cv=some b∧Q (.bl b) H
theorem zaz:zez X (.builtin "isinstance") (rIs X.K):=by
  intro pins s σ H xs us Q I r h
  obtain ⟨x,c,cv,t,b,rfl,hc,ty,hk,q⟩:=h
  obtain ⟨u,v,rfl,rx,ry⟩:=zkj r
  cases zis hc ry
  exact zhE I rx ty hk fun tk=>⟨.bl b,H,I.tok _,rfl,q⟩
end
def Ite (K:PySem.W.Frag) (a:Addr):It :=
  ⟨fun i H=>∃ xs x,SqL K H a xs∧xs[i]?=some x,fun i H x H'=>∃ p y,x = .ref p∧H p=none∧H'=upd H p (.tup [.int i,y])∧∀ xs,SqL K H a xs→xs[i]?=some y,fun i H=>∃ xs,SqL K H a xs∧xs.length ≤ i⟩
theorem zhA {P:Program} {w:World} {K:PySem.W.Frag} {es:List Expr} {k} {pos:Pos} (a e it:Addr) (hne:e ≠ it) :
    Turn P w K (.Tuple es k pos) (Ite K a) [e,it] e (fun i h=>(∃ old,IsEnum h e it i old)∧h.IsListIter it a i) where
  mem:=by simp
  obj:=fun i h st b hb=>by
    obtain ⟨⟨old,h1⟩,o,h2,c,d⟩:=st
    rcases List.mem_cons.mp hb with rfl | hb
    · exact ⟨_,h1,fun v z=>by cases (show Data.fields _=Data.cell v from z)⟩
    · have e':b=it:=by simpa using hb
      subst e'
      exact ⟨o,h2,fun v z=>by rw [d] at z; cases z⟩
  keep:=fun i h h' st k=>by
    obtain ⟨⟨old,h1⟩,h2⟩:=st
    exact ⟨⟨old,k e (by simp) _ h1⟩,h2.at fun o q=>k it (by simp) o q⟩
  item:=by
    intro X hP hw hK hc i pins s σ H E I hf st hg
    subst hP hw hK
    obtain ⟨xs,x,hq,hx⟩:=hg
    obtain ⟨its,rv,p,hz⟩:=I.list hq
    obtain ⟨u,hu,ru⟩:=rv.get hx
    obtain ⟨⟨old,he⟩,hit⟩:=st
    obtain ⟨f0,f1,f2,f3,f4,f5⟩:=hf e (by simp)
    obtain ⟨g0,g1,g2,g3,g4,g5⟩:=hf it (by simp)
    have hT:H s.heap.objs.size=none:=I.hok.fresh (Nat.le_refl _)
    have eT:e ≠ s.heap.objs.size:=Nat.ne_of_lt (Heap.lt_size he)
    have iT:it ≠ s.heap.objs.size:=by obtain ⟨_,z,_⟩:=hit; exact Nat.ne_of_lt (Heap.lt_size z)
    refine wpAny_pyNext_enum_item he hit p.isList (x:=u) (by simpa using hu) hne fun h' ho hit' ht hsz hk=>⟨_,rfl,?_⟩
    refine wpAny_letOwnedTupleGo_enum ho fun h'' he'' hs''=>?_
    have hs2:Heap.SameBut e h' h'':=hs''
    have ht2:h''.get? s.heap.objs.size=some { cls:=.type "tuple",data:=.seq #[.int i s.toks,u] }:=(hs2.2 _ eT.symm).trans ht
    have hk2:∀ b o,b ≠ e→b ≠ it→s.heap.get? b=some o→h''.get? b=some o:=fun b o z1 z2 q=>(hs2.2 b z1).trans (hk b o z1 z2 q)
    have nH:∀ b o,H b=some o→b ≠ e∧b ≠ it:=fun b o q=>⟨(fun z=>by rw [z,f0] at q; cases q),(fun z=>by rw [z,g0] at q; cases q)⟩
    refine ⟨.ref s.heap.objs.size,upd H s.heap.objs.size (.tup [.int i,x]),?_,rfl,⟨_,x,rfl,hT,rfl,fun ys hy=>by rw [I.list_inj hy hq]; exact hx⟩,⟨⟨_,by simpa using he''⟩,hit'.at fun o q=>(hs2.2 it hne.symm).trans q⟩,fun b hb=>?_⟩
    · show Inv X pins σ (upd H s.heap.objs.size (.tup [.int i,x])) { s with heap:=h'',toks:=s.toks + 1 }
      refine I.step (h':=h'') (g':=s.gens) (d':=s.drawn) (t':=s.toks + 1) (ch:=[e,it]) (fun b hb=>?_) (fun b o _ _ hb q _=>?_) (fun b o _ _ hb q _=>⟨o.slots,?_⟩) (fun b o hb q n=>?_) (fun b o hb q=>⟨o,?_⟩) (fun b ys q=>?_) (fun b o ys q=>?_) (fun b ps q=>⟨#[],?_⟩) (fun m hm=>?_) ?_ I.bare
      · rcases List.mem_cons.mp hb with rfl | hb
        · exact ⟨f3,f1,f4,f5⟩
        · have z:b=it:=by simpa using hb
          subst z
          exact ⟨g3,g1,g4,g5⟩
      · exact hk2 b o (fun z=>hb (by simp [z])) (fun z=>hb (by simp [z])) q
      · exact hk2 b o (fun z=>hb (by simp [z])) (fun z=>hb (by simp [z])) q
      · rw [zar (Nat.ne_of_lt (Heap.lt_size q))]; exact n
      · exact hk2 b o (fun z=>hb (by simp [z])) (fun z=>hb (by simp [z])) q
      · rw [zar (zas q hT)]; exact q
      · rw [zar (zas q hT)]; exact q
      · rw [zar (zas q hT),q]; simp
      · obtain ⟨o,es',ep,ho',r⟩:=hm
        exact ⟨o,es',ep,hk2 _ o (Ne.symm f1) (Ne.symm g1) ho',r⟩
      · intro b o q
        by_cases hb:b=s.heap.objs.size
        · subst hb
          rw [zaD] at q; cases q
          exact ⟨by show 2 ≤ sizeLine; decide,[.int i s.toks,u],.cons ⟨_,rfl⟩ (.cons ru .nil),⟨_,ht2,rfl,_,rfl⟩⟩
        · rw [zar hb] at q
          refine (I.hok b o q).stay (fun c v hc' q'=>?_) (fun c q'=>by rw [zar (zas q' hT)]; exact q') fun c ys q'=>by rw [zar (zas q' hT)]; exact q'
          rcases hc' with rfl | hc'
          · exact hk2 _ v (nH _ _ q).1 (nH _ _ q).2 q'
          · exact hk2 _ v (nH _ _ hc').1 (nH _ _ hc').2 q'
    · rcases List.mem_cons.mp hb with rfl | hb
      · rw [zar eT]; exact f0
      · have z:b=it:=by simpa using hb
        subst z
        rw [zar iT]; exact g0
  done:=by
    intro X hP hw hK hc i pins s σ H E I hf st hg
    subst hP hw hK
    obtain ⟨xs,hq,hx⟩:=hg
    obtain ⟨its,rv,p,hz⟩:=I.list hq
    obtain ⟨⟨old,he⟩,hit⟩:=st
    obtain ⟨g0,g1,g2,g3,g4,g5⟩:=hf it (by simp)
    have hl:=rv.length
    exact wpAny_pyNext_enum_end (I.ok.hd hc) he hit p.isList (by simp; omega) fun h' eb=>⟨rfl,I.turned (t':=s.toks) (fun b o hb q=>eb b o hb q) g0 g1 g3 g4 g5⟩
  self:=fun _ _ _ _ _ st h=>by
    obtain ⟨⟨old,he⟩,_⟩:=st
    exact wpAny_pyIter_enum he h
section
variable {X:Cx}
def zj2 (K:PySem.W.Frag) (ta:TA):TI:=fun σ H R=>ta σ H fun vs H1=>∃ a,vs = [.ref a]∧(∃ xs,SqL K H1 a xs)∧R (Ite K a) H1
theorem zi1 {es:List Expr} {k} {tp:Pos} {l:Expr} {ta:TA} {p pos:Pos} (hg:Gl X "enumerate") (hm:X.mg "enumerate"=none) (ha:PA X [l] ta) (hs:starEach [l] X.env = [(false,eval l X.env)]:=by rfl) :
    PI X (.Tuple es k tp) (.Call (.Name "enumerate" p) [l] [] pos) (zj2 X.K ta):=by
  intro pins s σ H R I h
  refine Call_ (zeL I hg hm boot_enumerate (PyProof.Rows.callWith_type1 (thn (ha pos pins s σ H _ I h) fun us s1 ⟨vs,H1,I1,r1,q1⟩=>?_) hs rfl))
  obtain ⟨a,e,⟨xs,hq⟩,q⟩:=q1
  subst e
  obtain ⟨u,rfl,rx⟩:=zf2 r1
  cases rx
  obtain ⟨its,rv,pl,hz⟩:=I1.list hq
  refine call_enumerate_list pl.isList fun h' he hit hsz hk=>?_
  have I2:Inv X pins σ H1 { s1 with heap:=h' }:=I1.kept (t':=s1.toks) hk
  have hne:s1.heap.objs.size + 1 ≠ s1.heap.objs.size:=by omega
  refine wpAny_pyIter_enum he ⟨s1.heap.objs.size + 1,[s1.heap.objs.size + 1,s1.heap.objs.size],_,_,H1,rfl,I2,zhA a _ _ hne,⟨⟨_,he⟩,hit⟩,fun b hb=>?_,q⟩
  have hb':s1.heap.objs.size ≤ b:=by
    rcases List.mem_cons.mp hb with rfl | hb
    · omega
    · have z:b=s1.heap.objs.size:=by simpa using hb
      exact Nat.le_of_eq z.symm
  exact I1.fpOk hb' (I1.hok.fresh hb')
end
end L2
namespace L2
open PySem PySem.Spec PyProof.Rows
theorem zds {env:Env}:∀ (names:List (Str × NameKind)) (acc:List (Str × Addr)),(∀ y ∈ names,y.2 = .free→∃ c,env.cells.lookup y.1=some c) →
    ∃ cl,(forIn (m:=Sem) names acc fun (x:Str × NameKind) (cs:List (Str × Addr))=>if (x.2 == NameKind.free)=true then do let c ← cellOf env x.1; pure (ForInStep.yield ((x.1,c) :: cs)) else pure (ForInStep.yield cs))=pure cl ∧
      (∀ p ∈ cl,p ∈ acc∨env.cells.lookup p.1=some p.2)∧(∀ p ∈ acc,p ∈ cl)∧∀ y ∈ names,y.2 = .free→∃ c,(y.1,c) ∈ cl
  | [],acc,_=>⟨acc,by simp,fun p hp=>.inl hp,fun p hp=>hp,fun y hy=>by cases hy⟩
  | (n,k) :: r,acc,h=>by
    by_cases hk:k = .free
    · subst hk
      obtain ⟨c,hc⟩:=h (n,.free) List.mem_cons_self rfl
      obtain ⟨cl,e,h1,h2,h3⟩:=zds r ((n,c) :: acc) fun y hy=>h y (List.mem_cons_of_mem _ hy)
      refine ⟨cl,?_,fun p hp=>?_,fun p hp=>h2 p (List.mem_cons_of_mem _ hp),fun y hy hf=>?_⟩
      · have hco:cellOf env n=pure c:=by unfold cellOf; rw [hc]
        rw [List.forIn_cons]
        simp only [beq_self_eq_true,if_true,hco,pure_bind]
        exact e
      · rcases h1 p hp with z | z
        · rcases List.mem_cons.mp z with rfl | z
          · exact .inr hc
          · exact .inl z
        · exact .inr z
      · rcases List.mem_cons.mp hy with rfl | hy
        · exact ⟨c,h2 _ List.mem_cons_self⟩
        · exact h3 y hy hf
    · obtain ⟨cl,e,h1,h2,h3⟩:=zds r acc fun y hy=>h y (List.mem_cons_of_mem _ hy)
      refine ⟨cl,?_,h1,h2,fun y hy hf=>?_⟩
      · have hb:(k == NameKind.free)=false:=by simpa using hk
        rw [List.forIn_cons]
        simp only [hb,Bool.false_eq_true,if_false,pure_bind]
        exact e
      · rcases List.mem_cons.mp hy with rfl | hy
        · exact absurd hf hk
        · exact h3 y hy hf
theorem zc1 {f:Str→Option Addr}:∀ {cl:List (Str × Addr)} {x:Str} {c:Addr},(∀ p ∈ cl,f p.1=some p.2)→(x,c) ∈ cl→cl.lookup x=some c
  | [],_,_,_,h=>by cases h
  | (n,d) :: r,x,c,h,hm=>by
    rw [List.lookup_cons]
    cases e:x == n with
    | true =>
      have e':x=n:=by simpa using e
      subst e'
      have z1:=h (x,d) List.mem_cons_self
      have z2:=h (x,c) hm
      rw [z1] at z2
      simpa using z2
    | false =>
      rcases List.mem_cons.mp hm with z | z
      · cases z; simp at e
      · exact zc1 (fun p hp=>h p (List.mem_cons_of_mem _ hp)) z
theorem zdh {scope:Scope} {env:Env} (h:∀ y ∈ scope.names,y.2 = .free→∃ c,env.cells.lookup y.1=some c) :
    ∃ cl,closureFor scope env=pure cl∧(∀ x c,cl.lookup x=some c→env.cells.lookup x=some c)∧∀ y ∈ scope.names,y.2 = .free→cl.lookup y.1=env.cells.lookup y.1:=by
  obtain ⟨cl,e,h1,_,h3⟩:=zds scope.names [] h
  have all:∀ p ∈ cl,env.cells.lookup p.1=some p.2:=fun p hp=>(h1 p hp).elim (fun z=>by cases z) id
  refine ⟨cl,?_,fun x c z=>all (x,c) (PySem.mem_of_lookup z),fun y hy hf=>?_⟩
  · simp only [closureFor]
    rw [e]
    rfl
  · obtain ⟨c,hc⟩:=h3 y hy hf
    rw [all _ hc]
    exact zc1 (f:=fun x=>env.cells.lookup x) all hc
end L2
namespace L2
open PySem PySem.Spec PyProof.Rows
section
variable {prog:Program} {w:World} {A:Around} {R:Result→Shared→Prop} {s:Shared}
theorem zfW {elt target iter:Expr} {ifs:List Expr} {scope:Scope} {pos:Pos} {it acc:Value} {env:Env} (I:Nat→Shared→Prop)
    (turn:∀ n s,I n s→wpAny (model prog w) A (pyNext it) (fun r s₁=>match r with
      | none=>R (.ok .next) s₁
      | some v=>wpAny (model prog w) A (letOwnedTupleGo target it v) (fun _ s₁'=>wpAny (model prog w) A (assign target env v) (fun _ s₂ =>
          wpAny (model prog w) A (forIn ifs true fun c r=>if r=true then do let ok ← isTrue c env (eval c env); pure (ForInStep.yield ok) else pure (ForInStep.yield r)) (fun ok s₃ =>
            if ok=true then wpAny (model prog w) A (eval elt env) (fun x s₄ =>
              wpAny (model prog w) A (call (.builtin "list.append") [acc,x]) (fun _ s₅=>∃ m,m < n∧I m s₅) (fun _ _=>False) s₄) (fun _ _=>False) s₃
            else ∃ m,m < n∧I m s₃) (fun _ _=>False) s₂) (fun _ _=>False) s₁') (fun _ _=>False) s₁) (fun _ _=>False) s)
    (n:Nat) (h:I n s) :
    codeAny (model prog w) A (.compLoop (.ListComp elt [⟨target,iter,ifs,0⟩] scope pos) 0 it acc env) R s:=by
  refine codeAny_loop rfl I (fun n s hI=>?_) n h
  show wpAny _ A ((compTurn (.ListComp elt [⟨target,iter,ifs,0⟩] scope pos) 0 it acc env).onRaise (fun x=>do noteFrame x env; theTreesLotGoes x)) _ _ s
  refine wpAny_noted ?_
  rw [compTurn_list]
  refine wpAny_bind (wpAny_standAt (wpAny_bind (wpAny_mono (turn n s hI) (fun r s₁ h₁=>?_) fun _ _ h'=>h'.elim)))
  cases r with
  | none=>exact wpAny_pure h₁
  | some v =>
    refine wpAny_bind (wpAny_mono h₁ (fun _ s₁' h₁'=>?_) fun _ _ h'=>h'.elim)
    refine wpAny_bind (wpAny_mono h₁' (fun _ s₂ h₂=>wpAny_bind (wpAny_mono h₂ (fun ok s₃ h₃=>?_) fun _ _ h'=>h'.elim)) fun _ _ h'=>h'.elim)
    cases ok with
    | false=>exact wpAny_pure ⟨rfl,h₃⟩
    | true =>
      exact wpAny_bind (wpAny_bind (wpAny_mono h₃ (fun x s₄ h₄=>wpAny_bind (wpAny_mono h₄ (fun _ s₅ h₅=>wpAny_pure (wpAny_pure ⟨rfl,h₅⟩)) fun _ _ h'=>h'.elim)) fun _ _ h'=>h'.elim))
end
def Cx.comp (X:Cx) (scope:Scope) (cl:List (Str × Addr)) (C:Addr) (N':List Str) (s:Shared) (H:Hp) (fp:List Addr) (pins:List (Addr × Obj)):Cx :=
  { X with N:=N',s₀:=s,H₀:=H,env:=compEnvC scope cl C X.env,outer:=X.stack,stack:=X.stack,ex:=fp,fn:=fun x=>scope.names.lookup x == some .cell,pn:=X.pn ++ pins,xe:=fun _ _=>False }
def zbQ (σ:St) (ix:List Nat) (n:Nat):St:=ix.map (fun i=>(σ[i]?).getD none) ++ List.replicate n none
def ziE:Option TT→TT
  | none=>fun _ H Q=>Q true H
  | some t=>t
def zjp (D:Addr) (J:It) (g:TG) (tc:Option TT) (te:TE) (Q:VK) (σ0:St) (H0:Hp):Prop :=
  ∃ W:Nat→Nat→List V→St→Hp→Prop,(∃ m,W 0 m [] σ0 H0)∧∀ i m ys σ2 H2,W i m ys σ2 H2→H2 D=some (.lst ys) ∧
    ((J.stop i H2∧Q (.ref D) H2)∨(J.go i H2∧∃ N:List V→St→Hp→Prop,(∀ ys' σ' H',N ys' σ' H'→∃ m',m' < m∧W (i + 1) m' ys' σ' H') ∧
      ∀ x H',J.yld i H2 x H'→g x σ2 H' fun σ3 H3=>ziE tc σ3 H3 fun b H4=>if b=true then te σ3 H4 fun y H5=>H5 D=some (.lst ys)∧ys.length < sizeLine∧N (ys ++ [y]) σ3 (upd H5 D (.lst (ys ++ [y]))) else N ys σ3 H4))
def zi7 (wi:TI) (ix:List Nat) (n:Nat) (g:TG) (tc:Option TT) (te:TE):TE:=fun σ H Q=>wi σ H fun J H1=>∀ D,H1 D=none→zjp D J g tc te Q (zbQ σ ix n) (upd H1 D (.lst []))
structure CompOk (X:Cx) (scope:Scope) (N':List Str) (ix:List Nat) (n:Nat) (tg elt:Expr) (ifs:List Expr) (g:TG) (tc:Option TT) (te:TE):Prop where
  kind:scope.kind = .function
  nocell:∀ y ∈ scope.names,y.2 = .free→(y.1,NameKind.cell) ∉ scope.names
  names:∀ y ∈ scope.names,y.2 = .local→scope.names.lookup y.1=some .local
  free:∀ y ∈ scope.names,y.2 = .free→X.env.kindOf y.1=some .cell∨X.env.kindOf y.1=some .free
  len:ix.length + n=N'.length
  take:∀ (j i:Nat),ix[j]?=some i→∃ x,N'[j]?=some x∧X.N[i]?=some x∧scope.names.lookup x=some .free
  tgt:∀ (cl:List (Str × Addr)) (C:Addr) (s:Shared) (H:Hp) (fp:List Addr) (pins:List (Addr × Obj)),PG (X.comp scope cl C N' s H fp pins) tg g
  elt:∀ (cl:List (Str × Addr)) (C:Addr) (s:Shared) (H:Hp) (fp:List Addr) (pins:List (Addr × Obj)),PE (X.comp scope cl C N' s H fp pins) elt te
  test:(ifs = []∧tc=none)∨∃ c t,ifs = [c]∧tc=some t∧∀ (cl:List (Str × Addr)) (C:Addr) (s:Shared) (H:Hp) (fp:List Addr) (pins:List (Addr × Obj)),PT (X.comp scope cl C N' s H fp pins) c t
theorem zbO {env:Env}:∀ {names:List (Str × NameKind)} {x:Str},names.lookup x=some .free →
    (names.map fun (n,k)=>if (k == NameKind.free && env.scope.kind == .function && env.kindOf n == some .cell) then (n,NameKind.cell) else (n,k)).lookup x=some .cell ∨
    (names.map fun (n,k)=>if (k == NameKind.free && env.scope.kind == .function && env.kindOf n == some .cell) then (n,NameKind.cell) else (n,k)).lookup x=some .free
  | [],_,h=>by simp at h
  | (n,k) :: r,x,h=>by
    have ih:=@zbO env r x
    show List.lookup x ((if (k == NameKind.free && env.scope.kind == .function && env.kindOf n == some .cell)=true then (n,NameKind.cell) else (n,k)) :: _)=_∨List.lookup x ((if (k == NameKind.free && env.scope.kind == .function && env.kindOf n == some .cell)=true then (n,NameKind.cell) else (n,k)) :: _)=_
    cases hx:x == n with
    | true =>
      simp only [List.lookup_cons,hx] at h
      cases h
      by_cases hc:(NameKind.free == NameKind.free && env.scope.kind == .function && env.kindOf n == some .cell)=true
      · rw [if_pos hc]; left; simp only [List.lookup_cons,hx]
      · rw [if_neg hc]; right; simp only [List.lookup_cons,hx]
    | false =>
      simp only [List.lookup_cons,hx] at h
      by_cases hc:(k == NameKind.free && env.scope.kind == .function && env.kindOf n == some .cell)=true
      · rw [if_pos hc]; simp only [List.lookup_cons,hx]; exact ih h
      · rw [if_neg hc]; simp only [List.lookup_cons,hx]; exact ih h
theorem zdF {env:Env}:∀ {names:List (Str × NameKind)} {x:Str},
    ((names.map fun (n,k)=>if (k == NameKind.free && env.scope.kind == .function && env.kindOf n == some .cell) then (n,NameKind.cell) else (n,k)).lookup x=some .cell ∨
    (names.map fun (n,k)=>if (k == NameKind.free && env.scope.kind == .function && env.kindOf n == some .cell) then (n,NameKind.cell) else (n,k)).lookup x=some .free)→(x,NameKind.free) ∈ names∨(names.lookup x=some .cell∧(x,NameKind.cell) ∈ names)
  | [],_,h=>by simp at h
  | (n,k) :: r,x,h=>by
    have ih:=@zdF env r x
    cases hx:x == n with
    | true =>
      have e:x=n:=by simpa using hx
      subst e
      by_cases hc:(k == NameKind.free && env.scope.kind == .function && env.kindOf x == some .cell)=true
      · have hk:k = .free:=by
          have:(k == NameKind.free)=true:=by
            simp only [Bool.and_eq_true] at hc
            exact hc.1.1
          simpa using this
        subst hk
        exact .inl List.mem_cons_self
      · rw [List.map_cons] at h
        have e2:(match (x,k) with | (n,k)=>if (k == NameKind.free && env.scope.kind == .function && env.kindOf n == some .cell)=true then (n,NameKind.cell) else (n,k))=(x,k):=if_neg hc
        rw [e2] at h
        simp only [List.lookup_cons,beq_self_eq_true] at h
        rcases h with h | h
        · cases h; exact .inr ⟨by simp only [List.lookup_cons,beq_self_eq_true],List.mem_cons_self⟩
        · cases h; exact .inl List.mem_cons_self
    | false =>
      refine (ih ?_).imp (List.mem_cons_of_mem _) fun z=>⟨by simp only [List.lookup_cons,hx]; exact z.1,List.mem_cons_of_mem _ z.2⟩
      rw [List.map_cons] at h
      by_cases hc:(k == NameKind.free && env.scope.kind == .function && env.kindOf n == some .cell)=true
      · have e2:(match (n,k) with | (n,k)=>if (k == NameKind.free && env.scope.kind == .function && env.kindOf n == some .cell)=true then (n,NameKind.cell) else (n,k))=(n,NameKind.cell):=if_pos hc
        rw [e2] at h
        simpa only [List.lookup_cons,hx] using h
      · have e2:(match (n,k) with | (n,k)=>if (k == NameKind.free && env.scope.kind == .function && env.kindOf n == some .cell)=true then (n,NameKind.cell) else (n,k))=(n,k):=if_neg hc
        rw [e2] at h
        simpa only [List.lookup_cons,hx] using h
theorem zcn {x:Str} {c:Addr}:∀ (names:List (Str × NameKind)) (n:Nat) (acc:List (Str × Addr)),(x,NameKind.cell) ∈ names→(cellsFrom n names acc).lookup x=some c→(∀ y,acc.lookup x=some y→n ≤ y∨True)→n ≤ c
  | [],_,_,h,_,_=>by cases h
  | (y,k) :: r,n,acc,h,e,_=>by
    unfold cellsFrom at e
    by_cases hr:(x,NameKind.cell) ∈ r
    · split at e
      · exact Nat.le_of_succ_le (zcn r (n + 1) _ hr e fun _ _=>.inr trivial)
      · exact zcn r n _ hr e fun _ _=>.inr trivial
    · rcases List.mem_cons.mp h with z | z
      · cases z
        rw [if_pos (by rfl)] at e
        have key:∀ (r:List (Str × NameKind)) (n':Nat) (acc:List (Str × Addr)),(x,NameKind.cell) ∉ r→(cellsFrom n' r acc).lookup x=acc.lookup x:=by
          intro r
          induction r with
          | nil=>intro _ _ _; rfl
          | cons p r ih =>
            intro n' acc hp
            obtain ⟨y',k'⟩:=p
            unfold cellsFrom
            split
            · rename_i hk
              have hk':k' = .cell:=by simpa using hk
              subst hk'
              have ne:¬ x=y':=fun z=>hp (by rw [z]; exact List.mem_cons_self)
              rw [ih _ _ fun z=>hp (List.mem_cons_of_mem _ z),List.lookup_cons,show (x == y')=false by simpa using ne]
            · exact ih _ _ fun z=>hp (List.mem_cons_of_mem _ z)
        rw [key r _ _ hr] at e
        simp only [List.lookup_cons,beq_self_eq_true] at e
        cases e; exact Nat.le_refl _
      · exact absurd z hr
theorem zbJ {x:Str}:∀ (names:List (Str × NameKind)) (n:Nat) (acc:List (Str × Addr)),(x,NameKind.cell) ∉ names→(cellsFrom n names acc).lookup x=acc.lookup x
  | [],_,_,_=>rfl
  | (y,k) :: r,n,acc,h=>by
    unfold cellsFrom
    split
    · rename_i hk
      have hk':k = .cell:=by simpa using hk
      subst hk'
      have ne:¬ x=y:=fun z=>h (by rw [z]; exact List.mem_cons_self)
      rw [zbJ r _ _ fun z=>h (List.mem_cons_of_mem _ z),List.lookup_cons,show (x == y)=false by simpa using ne]
    · exact zbJ r _ _ fun z=>h (List.mem_cons_of_mem _ z)
theorem zcs:∀ (names:List (Str × NameKind)) (n:Nat) (acc:List (Str × Addr)),(∀ x c,acc.lookup x=some c→c < n)→(∀ x y c,acc.lookup x=some c→acc.lookup y=some c→x=y) →
    ∀ x y c,(cellsFrom n names acc).lookup x=some c→(cellsFrom n names acc).lookup y=some c→x=y
  | [],_,_,_,h=>h
  | (z,k) :: r,n,acc,h1,h2=>by
    unfold cellsFrom
    split
    · have lk:∀ x c,((z,n) :: acc).lookup x=some c→(x=z∧c=n)∨acc.lookup x=some c:=fun x c h=>by
        rw [List.lookup_cons] at h
        cases hb:x == z with
        | true=>rw [hb] at h; cases h; exact .inl ⟨by simpa using hb,rfl⟩
        | false=>rw [hb] at h; exact .inr h
      refine zcs r (n + 1) _ (fun x c h=>?_) fun x y c e1 e2=>?_
      · rcases lk x c h with ⟨_,z⟩ | z
        · rw [z]; exact Nat.lt_succ_self _
        · exact Nat.lt_succ_of_lt (h1 x c z)
      · rcases lk x c e1 with ⟨a1,a2⟩ | a <;> rcases lk y c e2 with ⟨b1,b2⟩ | b
        · rw [a1,b1]
        · have:=h1 y c b; rw [a2] at this; exact absurd this (Nat.lt_irrefl _)
        · have:=h1 x c a; rw [b2] at this; exact absurd this (Nat.lt_irrefl _)
        · exact h2 x y c a b
    · exact zcs r n acc h1 h2
theorem zgw {M:Model} {A:Around} {E:Value→Shared→Prop} {s:Shared} {scope:Scope} {globals:Addr} {cl:List (Str × Addr)} {qual:Str} {env:Env} {Q:Env→Shared→Prop}
    (hQ:Q (newEnv scope s.heap.objs.size globals (cellsFrom (s.heap.objs.size + 1) scope.names cl) qual none .none (some env) builtinsNs) { s with heap:=pushCells (s.heap.push { cls:=.type "dict",data:=.dict #[] }) scope.names }) :
    wpAny M A (newFunctionEnv scope globals cl [] qual none .none (some env)) Q E s:=by
  simp only [newFunctionEnv,Option.isSome_some,if_true]
  refine wpAny_bind (wpAny_alloc ?_)
  refine wpAny_bind (wpAny_layCells _ (fun name kind cells=>by cases hkc:kind == NameKind.cell <;> simp [hkc]) _ _ _ _ ?_)
  rw [show ({ s with heap:=s.heap.push { cls:=.type "dict",data:=.dict #[] } }:Shared).heap.objs.size=s.heap.objs.size + 1 from Heap.size_push ..]
  refine wpAny_bind ?_
  rw [List.forIn_nil]
  exact wpAny_pure (wpAny_pure hQ)
section
variable {X:Cx} {scope:Scope} {N':List Str} {ix:List Nat} {n:Nat} {tg elt iter:Expr} {ifs:List Expr} {g:TG} {tc:Option TT} {te:TE} {pos:Pos}
theorem zg6 {pins:List (Addr × Obj)} {σ:St} {H:Hp} {s:Shared} {fp:List Addr} {cl:List (Str × Addr)} {h1:Heap} {tk:Nat} {m:Str→Option Value} (B:CompOk X scope N' ix n tg elt ifs g tc te) (I:Inv X pins σ H s)
    (hf:∀ b ∈ fp,FpOk X pins H b) (hfo:∀ b ∈ fp,∃ o,s.heap.get? b=some o) (hcl:∀ x c,cl.lookup x=some c→X.env.cells.lookup x=some c∨(s.heap.objs.size + 1 < c∧∃ v,h1.IsCell c v)) (hcf:∀ y ∈ scope.names,y.2 = .free→cl.lookup y.1=X.env.cells.lookup y.1)
    (hinj:∀ x y c,cl.lookup x=some c→cl.lookup y=some c→x=y) (hown:∀ x,scope.names.lookup x=some .cell→∃ c,cl.lookup x=some c) (hnew:∀ x c,scope.names.lookup x=some .cell→cl.lookup x=some c→s.heap.objs.size + 1 < c)
    (hk:∀ b o,s.heap.get? b=some o→h1.get? b=some o) (hD:h1.get? s.heap.objs.size=some { cls:=.type "list",data:=.seq #[] 0 }) (hC:h1.Ns (s.heap.objs.size + 1) m) :
    Inv (X.comp scope cl (s.heap.objs.size + 1) N' s H fp pins) [] (zbQ σ ix n) (upd H s.heap.objs.size (.lst [])) { s with heap:=h1,toks:=tk }:=by
  have hn:H s.heap.objs.size=none:=I.hok.fresh (Nat.le_refl _)
  have lt:∀ {b:Addr} {o:Obj},s.heap.get? b=some o→b ≠ s.heap.objs.size∧b ≠ s.heap.objs.size + 1:=fun e=>⟨Nat.ne_of_lt (Heap.lt_size e),Nat.ne_of_lt (Nat.lt_succ_of_lt (Heap.lt_size e))⟩
  have cellLt:∀ x c,X.env.cells.lookup x=some c→c < s.heap.objs.size:=fun x c e=>by
    obtain ⟨v,o,ho,_⟩:=I.cell x c e
    exact Heap.lt_size ho
  have fpLt:∀ b ∈ fp,b ≠ s.heap.objs.size + 1:=fun b hb=>by
    obtain ⟨o,e⟩:=hfo b hb
    exact (lt e).2
  · have keep:Un (frs X.stack) fp H (upd H s.heap.objs.size (.lst [])) s.heap h1:=Un.laid hk (Nat.le_refl _) hn
    refine ⟨⟨I.ok.mod, ?_, I.ok.glob, I.ok.blt, Nat.le_succ _, hinj, fun x hx => ?_, fun x c z e => Nat.le_of_lt (Nat.lt_trans (Nat.lt_succ_self _) (hnew x c (by simpa using (show (scope.names.lookup x == some NameKind.cell) = true from z)) e)), I.ok.hd, I.ok.frames, .inl rfl, fun b hb => ⟨fpLt b hb, fun x c e => (hcl x c e).elim (fun z => (hf b hb).2.2.2.2.1 x c z) fun z w => by
          obtain ⟨o,ho⟩:=hfo b hb
          have:=Heap.lt_size ho
          rw [← w] at this; exact Nat.lt_irrefl _ (Nat.lt_trans (Nat.lt_trans (Nat.lt_succ_self _) z.1) this)⟩,
        I.bs,Nat.le_trans I.ok.bsz I.sz,fun b o e hb=>?_,fun b hb z=>?_,I.stack,I.stkFree,I.ok.tb.grown I.base.tbls⟩,
      rfl,I.bare,keep,⟨m,hC,fun i x v e1 e2 e3=>?_⟩,fun x c e=>?_,?_,fun x c e=>?_,fun p hp=>?_,?_,?_⟩
    · show (relabel scope X.env).kind = .function
      exact B.kind
    · show ∃ c,cl.lookup x=some c
      rcases zdF hx with hx' | hx'
      case inr=>exact hown x hx'.1
      have z:=hcf _ hx' rfl
      dsimp only at z
      rw [z]
      exact I.ok.has x (B.free _ hx' rfl)
    · obtain ⟨_,_,_,f3,_⟩:=hf b hb
      rcases f3 with z | z
      · exact I.ok.noex b o e z
      · exact absurd (Nat.lt_of_lt_of_le (Heap.lt_size e) (Nat.le_trans I.ok.bsz z)) (Nat.lt_irrefl _)
    · rcases List.mem_cons.mp (I.stkSub b z) with e | e
      · exact (hf b hb).2.1 e
      · exact (hf b hb).2.2.1 e
    · have hj:i < ix.length:=by
        unfold zbQ at e2
        by_cases hj:i < ix.length
        · exact hj
        · rw [List.getElem?_append_right (by simpa using hj),List.getElem?_replicate] at e2
          split at e2 <;> cases e2
      obtain ⟨j,hj2⟩:∃ j,ix[i]?=some j:=⟨ix[i],by simp [hj]⟩
      obtain ⟨y,y1,y2,y3⟩:=B.take i j hj2
      have exy:x=y:=by
        have z:N'[i]?=some x:=e1
        rw [y1] at z
        exact (Option.some.inj z).symm
      subst exy
      have ev:σ[j]?=some (some v):=by
        unfold zbQ at e2
        rw [List.getElem?_append_left (by simpa using hj),List.getElem?_map,hj2] at e2
        have z:(σ[j]?).getD none=some v:=Option.some.inj e2
        cases q:σ[j]? with
        | none=>rw [q] at z; cases z
        | some w=>rw [q] at z; exact congrArg some z
      obtain ⟨m0,hn0,hl⟩:=I.loc
      have hm:(x,NameKind.free) ∈ scope.names:=PySem.mem_of_lookup y3
      have kx:=B.free _ hm rfl
      have vis:Vis X.env.scope x:=kx.elim (fun z=>.inr (.inl z)) fun z=>.inr (.inr z)
      obtain ⟨u,ru,lu⟩:=hl j x v y2 ev vis
      refine ⟨u,ru,.inr ⟨?_,?_⟩⟩
      · exact zbO y3
      · rcases lu with ⟨z,_⟩ | ⟨_,c,hc,hcell⟩
        · rcases kx with w | w <;> (rw [w] at z; cases z)
        · refine ⟨c,?_,?_⟩
          · show cl.lookup x=some c
            rw [hcf _ hm rfl]
            exact hc
          · obtain ⟨o,ho,hd⟩:=hcell
            exact ⟨o,hk c o ho,hd⟩
    · rcases hcl x c e with z | ⟨_,z⟩
      · obtain ⟨v,o,ho,hd⟩:=I.cell x c z
        exact ⟨v,o,hk c o ho,hd⟩
      · exact z
    · show upd H s.heap.objs.size (.lst []) (s.heap.objs.size + 1)=none
      rw [zar (Nat.succ_ne_self _)]
      exact I.hok.fresh (Nat.le_succ _)
    · rcases hcl x c e with z | ⟨z,_⟩
      · have:=cellLt x c z
        rw [zar (Nat.ne_of_lt this)]
        exact I.freeC x c z
      · rw [zar (Nat.ne_of_gt (Nat.lt_trans (Nat.lt_succ_self _) z))]
        exact I.hok.fresh (Nat.le_of_lt (Nat.lt_trans (Nat.lt_succ_self _) z))
    · rw [List.append_nil] at hp
      obtain ⟨q1,q2,q3,q4,q5⟩:=I.pin p hp
      refine ⟨hk _ _ q1,by rw [zar (lt q1).1]; exact q2,(lt q1).2,fun z=>?_,q5⟩
      rcases List.mem_cons.mp (I.stkSub _ z) with e | e
      · exact q3 e
      · exact q4 e
    · exact I.hok.laid hk (Nat.le_refl _) ⟨Nat.zero_le _,[],0,.nil,hD⟩
    · show (zbQ σ ix n).length=N'.length
      unfold zbQ
      rw [List.length_append,List.length_map,List.length_replicate]
      exact B.len
theorem zh2 {pins:List (Addr × Obj)} {σ σ':St} {H H':Hp} {s s':Shared} {fp:List Addr} {cl:List (Str × Addr)} {C:Addr} (I:Inv X pins σ H s) (hf:∀ b ∈ fp,FpOk X pins H b)
    (J:Inv (X.comp scope cl C N' s H fp pins) [] σ' H' s'):Inv X pins σ H' s':=by
  obtain ⟨hh,g,d,t,os'⟩:=s'
  obtain rfl:os'=s.os:=J.os
  exact I.call (h':=hh) (g':=g) (d':=d) (t':=t) (ch:=fp) J.base J.hok J.bare fun b hb=>⟨(hf b hb).2.2.2.1,(hf b hb).2.1,(hf b hb).2.2.2.2.1,(hf b hb).2.2.2.2.2⟩
theorem zgC {pins:List (Addr × Obj)} {σ:St} {H:Hp} {s:Shared} {Q:VK} {it:Addr} {fp:List Addr} {tn:Nat→Heap→Prop} {J:It} {cl:List (Str × Addr)} {RR:Value→Addr→Result→Shared→Prop} {E:Value→Shared→Prop}
    (B:CompOk X scope N' ix n tg elt ifs g tc te) (hc:X.calm=true) (I:Inv X pins σ H s) (T:Turn X.prog X.w X.K tg J fp it tn) (st:tn 0 s.heap) (hf:∀ b ∈ fp,FpOk X pins H b)
    (hcl:∀ x c,cl.lookup x=some c→X.env.cells.lookup x=some c) (hcf:∀ y ∈ scope.names,y.2 = .free→cl.lookup y.1=X.env.cells.lookup y.1)
    (body:∀ D,H D=none→zjp D J g tc te Q (zbQ σ ix n) (upd H D (.lst [])))
    (hRR:∀ D C H' s' m,Inv X pins σ H' s'→s'.heap.Ns C m→FpOk X pins H' C→Q (.ref D) H'→RR (.ref D) C (.ok .next) s') :
    wpAny (model X.prog X.w) X.A (newList []) (fun acc s₃=>wpAny (model X.prog X.w) X.A (newFunctionEnv scope X.env.globals cl [] X.env.qual none .none (some X.env)) (fun cenv s₄ =>
      codeAny (model X.prog X.w) X.A (.compStart (.ListComp elt [⟨tg,iter,ifs,0⟩] scope pos) 0 (.ref it) acc { cenv with scope:=relabel scope X.env }) (RR acc cenv.locals) s₄) E s₃) E s:=by
  refine wpAny_newObj_type (zgw ?_)
  dsimp only
  generalize hH2:s.heap.push { cls:=.type "list",dict:=none,data:=.seq ([]:List Value).toArray }=H2
  have hC:H2.objs.size=s.heap.objs.size + 1:=by rw [← hH2,Heap.size_push]
  obtain ⟨cs,ecs⟩:∃ cs,cs=cellsFrom (H2.objs.size + 1) scope.names cl:=⟨_,rfl⟩
  rw [← ecs]
  obtain ⟨h₁,eh⟩:∃ h₁,h₁=pushCells (H2.push { cls:=.type "dict",data:=.dict #[] }) scope.names:=⟨_,rfl⟩
  rw [← eh]
  have kp:∀ b o,H2.get? b=some o→h₁.get? b=some o:=fun b o e=>by rw [eh]; exact pushCells_keeps _ _ b o (Heap.get?_push_of_some _ e)
  have hns₁:h₁.Ns H2.objs.size fun _=>none:=by rw [eh]; exact (Heap.Ns.new H2 (.type "dict")).keeps (pushCells_keeps _ _)
  have below:∀ b,b < s.heap.objs.size→b ≠ H2.objs.size:=fun b hb=>by rw [hC]; exact Nat.ne_of_lt (Nat.lt_succ_of_lt hb)
  have old:∀ b o,s.heap.get? b=some o→h₁.get? b=some o:=fun b o e=>kp b o (hH2 ▸ Heap.get?_push_of_some _ e)
  have hacc:h₁.get? s.heap.objs.size=some { cls:=.type "list",data:=.seq #[] 0 }:=kp _ _ (hH2 ▸ Heap.get?_push_size _ rfl)
  have clt:∀ x c,cl.lookup x=some c→c < s.heap.objs.size:=fun x c e=>by
    obtain ⟨v,o,ho,_⟩:=I.cell x c (hcl x c e)
    exact Heap.lt_size ho
  have own:∀ x c,(x,NameKind.cell) ∈ scope.names→cs.lookup x=some c→s.heap.objs.size + 1 < c:=fun x c h e=>by
    rw [ecs] at e
    have:=zcn scope.names _ cl h e fun _ _=>.inr trivial
    omega
  have hcl2:∀ x c,cs.lookup x=some c→X.env.cells.lookup x=some c∨(s.heap.objs.size + 1 < c∧∃ v,h₁.IsCell c v):=fun x c e=>by
    by_cases hx:(x,NameKind.cell) ∈ scope.names
    · refine .inr ⟨own x c hx e,none,?_⟩
      have okc:=cellsFrom_ok scope.names (H2.push { cls:=.type "dict",data:=.dict #[] }) 0 [] ⟨fun _ _ hm=>(nomatch hm),List.Pairwise.nil⟩ (Nat.zero_le _)
      have e2:(cellsFrom (H2.objs.size + 1) scope.names []).lookup x=some c:=by
        have gen:∀ (names:List (Str × NameKind)) (n:Nat) (acc:List (Str × Addr)),(x,NameKind.cell) ∈ names→(cellsFrom n names acc).lookup x=(cellsFrom n names []).lookup x:=by
          have gen2:∀ (names:List (Str × NameKind)) (n:Nat) (acc acc':List (Str × Addr)),(x,NameKind.cell) ∈ names∨acc.lookup x=acc'.lookup x→(cellsFrom n names acc).lookup x=(cellsFrom n names acc').lookup x:=by
            intro names
            induction names with
            | nil=>intro n acc acc' h; exact h.elim (fun z=>by cases z) id
            | cons p r ih =>
              intro n acc acc' h
              obtain ⟨y,k⟩:=p
              unfold cellsFrom
              split
              · rename_i hk
                have hk':k = .cell:=by simpa using hk
                subst hk'
                refine ih _ _ _ ?_
                by_cases exy:x=y
                · subst exy; exact .inr (by simp only [List.lookup_cons,beq_self_eq_true])
                · rcases h with z | z
                  · rcases List.mem_cons.mp z with w | w
                    · cases w; exact absurd rfl exy
                    · exact .inl w
                  · exact .inr (by simp only [List.lookup_cons,show (x == y)=false by simpa using exy]; exact z)
              · rename_i hk
                refine ih _ _ _ ?_
                rcases h with z | z
                · rcases List.mem_cons.mp z with w | w
                  · cases w; exact absurd rfl hk
                  · exact .inl w
                · exact .inr z
          exact fun names n acc h=>gen2 names n acc [] (.inl h)
        rw [← gen scope.names _ cl hx,← ecs]; exact e
      rw [Heap.size_push] at okc
      rw [eh]
      exact (okc.empty x c (PySem.mem_of_lookup e2)).1
    · rw [ecs,zbJ _ _ _ hx] at e
      exact .inl (hcl x c e)
  have hcf2:∀ y ∈ scope.names,y.2 = .free→cs.lookup y.1=X.env.cells.lookup y.1:=fun y hy hf=>by
    rw [ecs,zbJ _ _ _ (B.nocell y hy hf)]
    exact hcf y hy hf
  have hinj:∀ x y c,cs.lookup x=some c→cs.lookup y=some c→x=y:=by
    rw [ecs]
    exact zcs scope.names _ cl (fun x c e=>Nat.lt_of_lt_of_le (clt x c e) (by rw [hC]; omega)) fun x y c e1 e2=>I.ok.inj x y c (hcl x c e1) (hcl y c e2)
  have hown:∀ x,scope.names.lookup x=some .cell→∃ c,cs.lookup x=some c:=fun x h=>by
    rw [ecs]
    exact Option.isSome_iff_exists.mp (PySem.W.cellsFrom_some scope.names _ cl (.inl h))
  have hnew:∀ x c,scope.names.lookup x=some .cell→cs.lookup x=some c→s.heap.objs.size + 1 < c:=fun x c h e=>own x c (PySem.mem_of_lookup h) e
  have cne:∀ b,b < s.heap.objs.size→(∀ x c,X.env.cells.lookup x=some c→c ≠ b)→∀ x c,cs.lookup x=some c→c ≠ b:=fun b hb hold x c e z=>by
    rcases hcl2 x c e with w | ⟨w,_⟩
    · exact hold x c w z
    · rw [z] at w; exact Nat.lt_irrefl _ (Nat.lt_trans (Nat.lt_trans (Nat.lt_succ_self _) w) hb)
  have hfo:∀ b ∈ fp,∃ o,s.heap.get? b=some o:=fun b hb=>let ⟨o,e,_⟩:=T.obj 0 _ st b hb; ⟨o,e⟩
  have st1:tn 0 h₁:=T.keep 0 _ _ st fun b _ o e=>old b o e
  have hD0:H s.heap.objs.size=none:=I.hok.fresh (Nat.le_refl _)
  obtain ⟨W,⟨m0,w0⟩,turn⟩:=body _ hD0
  have J0:Inv (X.comp scope cs H2.objs.size N' s H fp pins) [] (zbQ σ ix n) (upd H s.heap.objs.size (.lst [])) { s with heap:=h₁ }:=by
    rw [hC] at hns₁ ⊢
    exact zg6 (tk:=s.toks) B I hf hfo hcl2 hcf2 hinj hown hnew old hacc hns₁
  have fpOk:∀ {H':Hp},(∀ b ∈ fp,H' b=none)→∀ b ∈ fp,FpOk (X.comp scope cs H2.objs.size N' s H fp pins) [] H' b:=fun hn b hb=>by
    obtain ⟨f0,f1,f2,f3,f4,f5⟩:=hf b hb
    obtain ⟨o,e⟩:=hfo b hb
    refine ⟨hn b hb,below b (Heap.lt_size e),fun z=>?_,.inl hb,cne b (Heap.lt_size e) f4,fun p hp=>f5 p ?_⟩
    · rcases List.mem_cons.mp (I.stkSub b z) with q | q
      · exact f1 q
      · exact f2 q
    · rw [List.append_nil] at hp
      exact hp
  have fp0:∀ b ∈ fp,upd H s.heap.objs.size (.lst []) b=none:=fun b hb=>by
    obtain ⟨o,e⟩:=hfo b hb
    rw [zar (Nat.ne_of_lt (Heap.lt_size e))]
    exact (hf b hb).1
  have loop:∀ s₃:Shared,s₃ = { s with heap:=h₁ } →
      codeAny (model X.prog X.w) X.A (.compLoop (.ListComp elt [⟨tg,iter,ifs,0⟩] scope pos) 0 (.ref it) (.ref s.heap.objs.size) (compEnvC scope cs H2.objs.size X.env)) (RR (.ref s.heap.objs.size) H2.objs.size) s₃:=by
    rintro s₃ rfl
    refine zfW (fun k s'=>∃ i ys σ2 H3,Inv (X.comp scope cs H2.objs.size N' s H fp pins) [] σ2 H3 s'∧tn i s'.heap∧(∀ b ∈ fp,H3 b=none)∧W i k ys σ2 H3) ?_ m0 ⟨0,[],_,_,J0,st1,fp0,w0⟩
    rintro k s3 ⟨i,ys,σ3,H3,I3,st3,fr3,w3⟩
    obtain ⟨hD3,alt⟩:=turn i k ys σ3 H3 w3
    rcases alt with ⟨stop,q⟩ | ⟨go,N,hN,step⟩
    · refine thn (T.done (X.comp scope cs H2.objs.size N' s H fp pins) rfl rfl rfl hc i [] s3 σ3 H3 _ I3 (fpOk fr3) st3 stop) fun r s4 ⟨hr,I4⟩=>?_
      subst hr
      obtain ⟨m4,hn4,_⟩:=I4.loc
      refine hRR _ _ H3 s4 m4 (zh2 I hf I4) hn4 ⟨I4.free,fun z=>?_,fun z=>?_,.inr (Nat.le_trans I.sz (by omega)),fun x c e z=>?_,fun p hp z=>?_⟩ q
      · have lt:=I.lt
        rw [← z,hC] at lt
        exact absurd lt (Nat.not_lt.mpr (Nat.le_succ _))
      · exact I.nofs (show s.heap.objs.size ≤ H2.objs.size by omega) z
      · obtain ⟨v,o,ho,_⟩:=I.cell x c e
        have lt:=Heap.lt_size ho
        rw [z,hC] at lt
        exact absurd lt (Nat.not_lt.mpr (Nat.le_succ _))
      · have lt:=Heap.lt_size (I.pin p hp).1
        rw [z,hC] at lt
        exact absurd lt (Nat.not_lt.mpr (Nat.le_succ _))
    · refine thn (T.item (X.comp scope cs H2.objs.size N' s H fp pins) rfl rfl rfl hc i [] s3 σ3 H3 _ I3 (fpOk fr3) st3 go) fun r s4 ⟨u,hr,h4⟩=>?_
      subst hr
      refine thn h4 fun _ s5 ⟨x,H5,I5,r5,y5,st5,fr5⟩=>?_
      have I5':=I5.pinned (fpOk fr5) (T.obj _ _ st5)
      have back:∀ {σ7:St} {H7:Hp} {s7:Shared} {ys':List V},Inv (X.comp scope cs H2.objs.size N' s H fp pins) ([] ++ zeN fp s5.heap) σ7 H7 s7→N ys' σ7 H7 →
          ∃ m,m < k∧∃ i ys σ2 H3,Inv (X.comp scope cs H2.objs.size N' s H fp pins) [] σ2 H3 s7∧tn i s7.heap∧(∀ b ∈ fp,H3 b=none)∧W i m ys σ2 H3:=fun {σ7 H7 s7 ys'} I7 n7=>by
        obtain ⟨m',hm,w7⟩:=hN ys' σ7 H7 n7
        refine ⟨m',hm,i + 1,ys',σ7,H7,I7.unpinned,T.keep _ _ _ st5 fun b hb o e=>(I7.pin (b,o) (List.mem_append_right _ (List.mem_append_right _ (zcg hb e)))).1,fun b hb=>?_,w7⟩
        obtain ⟨o,e,d⟩:=T.obj _ _ st5 b hb
        exact (I7.pin (b,o) (List.mem_append_right _ (List.mem_append_right _ (zcg hb e)))).2.1
      refine thn (B.tgt cs H2.objs.size s H fp pins _ s5 σ3 H5 x u _ I5' r5 (step x H5 y5)) fun _ s6 ⟨σ6,H6,I6,q6⟩=>?_
      have fin:∀ (b:Bool) (s7:Shared),TP (X.comp scope cs H2.objs.size N' s H fp pins) ([] ++ zeN fp s5.heap) σ6
          (fun b H4=>if b=true then te σ6 H4 fun y H5=>H5 s.heap.objs.size=some (.lst ys)∧ys.length < sizeLine∧N (ys ++ [y]) σ6 (upd H5 s.heap.objs.size (.lst (ys ++ [y]))) else N ys σ6 H4) b s7 →
          if b=true then wpAny (model X.prog X.w) X.A (eval elt (compEnvC scope cs H2.objs.size X.env)) (fun x s₄ =>
              wpAny (model X.prog X.w) X.A (call (.builtin "list.append") [.ref s.heap.objs.size,x]) (fun _ s₅=>∃ m,m < k∧∃ i ys σ2 H3,Inv (X.comp scope cs H2.objs.size N' s H fp pins) [] σ2 H3 s₅∧tn i s₅.heap∧(∀ b ∈ fp,H3 b=none)∧W i m ys σ2 H3) (fun _ _=>False) s₄) (fun _ _=>False) s7
            else ∃ m,m < k∧∃ i ys σ2 H3,Inv (X.comp scope cs H2.objs.size N' s H fp pins) [] σ2 H3 s7∧tn i s7.heap∧(∀ b ∈ fp,H3 b=none)∧W i m ys σ2 H3:=by
        rintro b s7 ⟨H7,I7,q7⟩
        cases b with
        | false =>
          rw [if_neg Bool.false_ne_true] at q7 ⊢
          exact back I7 q7
        | true =>
          rw [if_pos rfl] at q7 ⊢
          refine thn (B.elt cs H2.objs.size s H fp pins _ s7 σ6 H7 _ I7 q7) fun y s8 ⟨yv,H8,I8,r8,hD8,hz,n8⟩=>?_
          refine thn (zfx _ s8 σ6 H8 (.ref s.heap.objs.size) [yv] (.ref s.heap.objs.size) [y] (fun _ H9=>N (ys ++ [yv]) σ6 H9) I8 rfl (.cons r8 .nil) ⟨_,ys,yv,rfl,rfl,hD8,hz,n8⟩) fun _ s9 ⟨_,H9,I9,_,n9⟩=>?_
          exact back I9 n9
      rcases B.test with ⟨e1,e2⟩ | ⟨c,t,e1,e2,ht⟩
      · subst e1; subst e2
        exact wpAny_tests_nil (fin true s6 ⟨H6,I6,q6⟩)
      · subst e1; subst e2
        exact wpAny_tests_one (thn (ht cs H2.objs.size s H fp pins _ s6 σ6 H6 _ I6 q6) fun b s7 z=>fin b s7 z)
  exact codeAny_compStart_list (loop _ rfl) (T.self X.A 0 _ _ _ st1 (loop _ rfl))
theorem zeb {wi:TI} (hc:X.calm=true) (hi:PI X tg iter wi) (B:CompOk X scope N' ix n tg elt ifs g tc te) (hs:∀ x,foldedSetIterable iter X.env x=pure x:=by intro _; rfl) :
    PE X (.ListComp elt [⟨tg,iter,ifs,0⟩] scope pos) (zi7 wi ix n g tc te):=by
  intro pins s σ H Q I h
  rw [eval_ListComp]
  obtain ⟨cl,hclos,hcl,hcf⟩:=zdh (scope:=scope) (env:=X.env) fun y hy hf=>I.ok.has _ (B.free y hy hf)
  refine wpAny_comprehension_free (use:=none) rfl hs hclos B.kind B.names (thn (hi pins s σ H _ I h) fun v s1 h1=>thn h1 fun itv s2 h2=>?_)
  obtain ⟨it,fp,tn,J,H2,rfl,I2,T,st2,f2,body⟩:=h2
  refine zgC (RR:=fun acc C=>compPost (model X.prog X.w) X.A X.xe none (EP X pins σ Q) acc C) B hc I2 T st2 f2 hcl hcf body fun D C H' s' m I' hn hC q=>⟨m,hn,fun h' hs'=>?_⟩
  obtain ⟨f0,f1,f2',f3,f4,f5⟩:=hC
  exact ⟨.ref D,H',I'.turned (t':=s'.toks) (fun b o hb e=>(hs'.2 b hb).trans e) f0 f1 f3 f4 f5,rfl,q⟩
theorem zgm {wi:TI} {i:Nat} {y:Str} {py spos:Pos} (hN:X.N.Nodup) (hiN:X.N[i]?=some y) (hy:Loc X.env.scope y) (hc:X.calm=true) (hi:PI X tg iter wi) (B:CompOk X scope N' ix n tg elt ifs g tc te)
    (hsw:swapsWith (.ListComp elt [⟨tg,iter,ifs,0⟩] scope pos) (some (.Name y py)) spos.line X.env=pure true) (hf:X.fn y=true∨X.env.scope.names.lookup y=some .local:=by first | exact .inl rfl | exact .inr rfl | assumption)
    (hs:∀ x,foldedSetIterable iter X.env x=pure x:=by intro _; rfl) :
    PS X (.Assign [.Name y py] (.ListComp elt [⟨tg,iter,ifs,0⟩] scope pos) spos) (tAsg (zi7 wi ix n g tc te) (zgr i)):=by
  intro pins s σ H D I h
  rw [exec_Assign_Name_used _ _ _ _ hsw]
  refine wpAny_bind (wpAny_standAt (wpAny_bind ?_))
  show wpAny _ X.A (do let _ ← comprehension (.ListComp elt [⟨tg,iter,ifs,0⟩] scope pos) scope X.env _ (newList []) false (eval iter X.env) (some (assign (.Name y py) X.env))) _ _ s
  obtain ⟨cl,hclos,hcl,hcf⟩:=zdh (scope:=scope) (env:=X.env) fun y hy hf=>I.ok.has _ (B.free y hy hf)
  refine wpAny_bind (wpAny_mono (wpAny_comprehension_free (use:=some (assign (.Name y py) X.env)) (Q:=fun _ s'=>SP X pins D .next s') rfl hs hclos B.kind B.names
    (thn (hi pins s σ H _ I h) fun v s1 h1=>thn h1 fun itv s2 h2=>?_)) (fun _ s' hq=>wpAny_pure (wpAny_pure hq)) fun _ _ e=>e)
  obtain ⟨it,fp,tn,J,H2,rfl,I2,T,st2,f2,body⟩:=h2
  refine zgC (Q:=fun x H1=>zgr i x σ H1 D.nx) (RR:=fun acc C=>compPost (model X.prog X.w) X.A X.xe (some (assign (.Name y py) X.env)) (fun _ s'=>SP X pins D .next s') acc C) B hc I2 T st2 f2 hcl hcf body fun D' C H' s' m I' hn hC q=>?_
  obtain ⟨f0,f1,f2',f3,f4,f5⟩:=hC
  have Ip := I'.pinned (fp := [C]) (fun b hb => by have e : b = C := by simpa using hb
                                                   subst e; exact ⟨f0,f1,f2',f3,f4,f5⟩) (fun b hb=>by
    have e:b=C:=by simpa using hb
    subst e
    obtain ⟨o,es,ep,ho,hd,_⟩:=hn
    exact ⟨o,ho,fun v z=>by rw [hd] at z; cases z⟩)
  refine wpAny_assign_Name (zde Ip hN hiN hy (v:=.ref D') rfl (fun s'' I''=>?_) hf)
  obtain ⟨o,es,ep,ho,hd,hr⟩:=hn
  have pinC:=I''.pin (C,o) (List.mem_append_right _ (List.mem_append_right _ (zcg (by simp) ho)))
  refine ⟨m,⟨o,es,ep,pinC.1,hd,hr⟩,fun h' hs'=>?_⟩
  exact ⟨_,H',(I''.unpinned).turned (t':=s''.toks) (fun b o hb e=>(hs'.2 b hb).trans e) pinC.2.1 f1 f3 f4 f5,q⟩
end
end L2
namespace L2
open PySem PySem.Spec PyProof.Rows
section
variable {X:Cx} {scope:Scope} {tg elt:Expr} {ifs:List Expr} {g:TG} {tc:Option TT} {te:TE}
theorem zdA (osc:Scope) (oN N':List Str) (ix:List Nat) (n:Nat) (hosc:X.env.scope=osc) (hoN:X.N=oN) (kind:scope.kind = .function) (nocell:(scope.names.all fun y=>y.2 != .free || scope.names.all fun z=>!(z.1 == y.1) || z.2 != .cell)=true) (names:∀ y ∈ scope.names,y.2 = .local→scope.names.lookup y.1=some .local)
    (free:(scope.names.all fun y=>y.2 != .free || (osc.names.lookup y.1 == some .cell || osc.names.lookup y.1 == some .free))=true) (len:ix.length + n=N'.length)
    (take:((List.range ix.length).all fun j=>match N'[j]?,oN[ix.getD j 0]? with | some x,some y=>x == y && scope.names.lookup x == some .free | _,_=>false)=true)
    (tgt:∀ (cl:List (Str × Addr)) (C:Addr) (s:Shared) (H:Hp) (fp:List Addr) (pins:List (Addr × Obj)),PG (X.comp scope cl C N' s H fp pins) tg g)
    (elt':∀ (cl:List (Str × Addr)) (C:Addr) (s:Shared) (H:Hp) (fp:List Addr) (pins:List (Addr × Obj)),PE (X.comp scope cl C N' s H fp pins) elt te)
    (test:(ifs = []∧tc=none)∨∃ c t,ifs = [c]∧tc=some t∧∀ (cl:List (Str × Addr)) (C:Addr) (s:Shared) (H:Hp) (fp:List Addr) (pins:List (Addr × Obj)),PT (X.comp scope cl C N' s H fp pins) c t) :
    CompOk X scope N' ix n tg elt ifs g tc te :=
  ⟨kind,fun y hy e hc=>by
    have z:=List.all_eq_true.mp nocell y hy
    rw [e] at z
    have z2:(scope.names.all fun w=>!(w.1 == y.1) || w.2 != .cell)=true:=by simpa using z
    have z3:=List.all_eq_true.mp z2 _ hc
    simp at z3,names,fun y hy e=>by
    have z:=List.all_eq_true.mp free y hy
    rw [e] at z
    have z':(osc.names.lookup y.1 == some .cell || osc.names.lookup y.1 == some .free)=true:=by simpa using z
    show X.env.scope.names.lookup y.1=_∨X.env.scope.names.lookup y.1=_
    rw [hosc]
    simpa using z',len,fun j i e=>by
    obtain ⟨hj,_⟩:=List.getElem?_eq_some_iff.mp e
    have e2:ix.getD j 0=i:=by
      rw [List.getD_eq_getElem?_getD,e]
      rfl
    have z:=List.all_eq_true.mp take j (List.mem_range.mpr hj)
    rw [e2] at z
    cases h1:N'[j]? with
    | none=>rw [h1] at z; cases z
    | some x =>
      cases h2:oN[i]? with
      | none=>rw [h1,h2] at z; cases z
      | some y =>
        rw [h1,h2] at z
        have z':x=y∧scope.names.lookup x=some .free:=by simpa using z
        obtain ⟨rfl,z2⟩:=z'
        exact ⟨x,rfl,by rw [hoN]; exact h2,z2⟩,tgt,elt',test⟩
end
structure Has (P:Program) (w:World) (K:PySem.W.Frag) (mg:Str→Option Value) (base:Heap) (CX:CXT) (k:Nat) (x:Str) (ps:List Str) (sp:Sp):Prop where
  ex:∃ (f:Addr) (fd:FuncData),FnOk P w K mg base CX k f fd ps sp∧mg x=some (.ref f)∧PySem.W.keepIn K (.ref f)=true∧Binds K fd ps []
section
variable {X:Cx} {CX:CXT} {k:Nat} {x:Str} {ps:List Str} {sp:Sp} {E:XK} {p pos:Pos} {e:Expr} {es:List Expr} {t:TA}
theorem zaF (G:Has X.prog X.w X.K X.mg X.base CX k x ps sp) (hr:Room k X.A) (hg:Gl X x) (hx:zgB CX X E)
    (ha:PA X (e :: es) t) (hdb:(x == ("__debug__" : Str))=false:=by decide) (he:starEach (e :: es) X.env=(false,eval e X.env) :: starEach es X.env:=by rfl) (hpl:(backTo pos (starEach es X.env)).any (·.1)=false:=by rfl) :
    PE X (.Call (.Name x p) (e :: es) [] pos) (ziq sp [] E t):=by
  obtain ⟨f,fd,F,hm,hk,hb⟩:=G.ex
  exact zje F hr hg hm hk hb .nil hx ha hdb he hpl
end
structure DefAt (K:PySem.W.Frag) (x:Str) (st:Stmt) (f:Addr) (fd:FuncData):Prop where
  ns:PySem.W.nsIn K mainGlobals x=some (some (.ref f))
  fn:Fun K x x st f fd
theorem defAt_mk {K:PySem.W.Frag} {x:Str} {st:Stmt} {f:Addr} {oc:Value} {od an:Option Addr} {osl:Array (Option Value)} {kV doc pm cdv ct:Value} (a:PySem.W.nsIn K mainGlobals x=some (some (.ref f)))
    (l:K.lookup f=some ⟨oc,od,.func (PySem.W.fnOf x x (zcY st) (zcD st) (zal st) .none kV doc pm an cdv ct),osl⟩) (c:PySem.W.codeIn K cdv x=true) (k:PySem.W.keepIn K (.ref f)=true):∃ f fd,DefAt K x st f fd :=
  ⟨f,_,a,ziQ l c k⟩
theorem DefAt.has {P:Program} {w:World} {K:PySem.W.Frag} {mg:Str→Option Value} {base h:Heap} {CX:CXT} {k:Nat} {x:Str} {st:Stmt} {f:Addr} {fd:FuncData} {ps:List Str} {sp:Sp} (D:DefAt K x st f fd) (X:K.In h) (G:h.Ns mainGlobals mg)
    (ok:FnOk P w K mg base CX k f fd ps sp) (b:Binds K fd ps []):Has P w K mg base CX k x ps sp:=⟨f,fd,ok,PySem.W.mg_of X G D.ns,D.fn.kp,b⟩
theorem zjN {H:Hp} {a b:Addr} {o u:HO} (hn:H b=none) (h:H a=some o):upd H b u a=some o:=(zar (zas h hn)).trans h
theorem Same.upd {H:Hp} {b:Addr} {u:HO} (hn:H b=none):Same H (upd H b u):=fun _ _ h=>zjN hn h
end L2
namespace L2
open PySem PySem.Spec PyProof.Rows
section
variable {X:Cx} {pos:Pos}
end
end L2
namespace L2
open PySem PySem.Spec PyProof.Rows
theorem kit_self {K:PySem.W.Frag} {T:String}:PySem.W.kitOne K (.type T) (.type T)=some true:=by
  unfold PySem.W.kitOne
  rw [if_pos (by simp)]
theorem kit_no {K:PySem.W.Frag} {S T:String} (h1:((Value.type S) == (Value.type T))=false) (h2:PySem.W.kitMeta T=true) (h3:(PySem.fastBuiltinMro S).map (·.contains (.type T))=some false):PySem.W.kitOne K (.type S) (.type T)=some false:=by
  unfold PySem.W.kitOne
  rw [h1,if_neg Bool.false_ne_true]
  show (if PySem.W.kitMeta T=true then PySem.W.subIn K (.type S) (.type T) else none)=some false
  rw [if_pos h2]
  exact h3
theorem kit_int_bool {K:PySem.W.Frag}:PySem.W.kitOne K (.type "int") (.type "bool")=some false:=kit_no (by decide +kernel) (by decide +kernel) (by decide +kernel)
end L2
namespace L2
open PySem PySem.Spec PyProof.Rows
structure Tr (h:Heap) (e T:Addr) (cls:Value) (dct:Option Addr) (fl:Value):Prop where
  ex:∃ (oe:Obj) (vs:Array Value) (oT:Obj) (ts:Array Value),h.get? e=some oe∧oe.cls=cls∧oe.dict=dct∧oe.data = .fields vs∧vs[1]?=some (.ref T)∧h.get? T=some oT∧oT.data = .fields ts∧ts[3]?=some fl
  ne:T ≠ e
section
variable {M:Model} {A:Around} {E:Value→Shared→Prop} {s:Shared} {B:Heap} {env:Env} {outer l:List Env} {L e:Addr} {cls:Value} {dct:Option Addr} {Q:Unit→Shared→Prop}
end
end L2
namespace L2
open PySem PySem.Spec PyProof.Rows
section
variable {P:Program} {w:World} {K:PySem.W.Frag} {mg:Str→Option Value} {base:Heap} {N:List Str} {qual:Str} {scope:Scope} {f:Addr} {cd:Value} {A:Around} {outer:List Env} {s0:Shared} {H0:Hp} {E:XK}
end
section
variable {X:Cx} {x:Str} {np cpos pos:Pos} {e₀:Expr} {rest:List Expr} {C:Addr} {bmB bmN:List Value} {newId Bn B nid inN initId:String} {E:St→XK} {t:TA}
end
section
variable {X:Cx} {CX:CXT} {k:Nat} {x:Str} {ps:List Str} {sp:Sp} {E:St→XK} {p pos:Pos} {e:Expr} {es:List Expr} {t:TA}
end
def excO (C:Addr) (dct:Option Addr) (ea:Addr):HO:=.ext fun h=>∃ ob,h.get? ea=some ob∧ob.cls = .ref C∧ob.dict=dct∧∃ vs,ob.data = .fields vs
section
variable {P:Program} {w:World} {X:Cx} {x n:Str} {np hpos pos:Pos} {body:List Stmt} {b₀:Stmt} {suite:List Stmt} {D':Addr} {tb:(St→XK)→TS} {th:TS} {i:Nat}
end
end L2
namespace L2
open PySem PySem.Spec PyProof.Rows
section
variable {X:Cx}
end
section
variable {P:Program} {w:World} {K:PySem.W.Frag} {mg:Str→Option Value} {base:Heap} {N:List Str} {qual:Str} {scope:Scope} {f:Addr} {cd:Value} {A:Around} {outer:List Env} {s0:Shared} {H0:Hp} {E:XK}
end
end L2
namespace PM
open PySem L2
inductive D where
  | non | bl (b:Bool) | int (i:Int) | str (x:Str) | tup (l:List D) | lst (l:List D) | dct (ks:List Key) (l:List D) | scr (l:List Int) | exc (c:Nat) | fd (ks:List Key) (l:List D) | obj (c:Nat) (ks:List Str) (l:List D)
structure Kx where
  f:W.Frag
  ca:Nat→Addr
  an:Nat→Str
def XA (K:Kx) (F:Hp) (c:Nat) (dct:Option Addr):Prop:=if c < 16 then dct=none else ∃ dx,dct=some dx∧F dx=some (.xd [(K.an c,.int (((c / 16:Nat):Int) - 1))])
section
variable (K:Kx)
mutual
def Rep (F:Hp):D→V→Prop
  | .non,v=>v = .non
  | .bl b,v=>v = .bl b
  | .int i,v=>v = .int i
  | .str x,v=>v = .str x
  | .scr l,v=>∃ a,v = .ref a∧SqL K.f F a (l.map V.int)
  | .exc c,v=>∃ a dct,v = .ref a∧F a=some (excO (K.ca c) dct a)∧XA K F c dct
  | .tup l,v=>∃ a vs,v = .ref a∧F a=some (.tup vs)∧RepL F l vs
  | .fd ks l,v=>∃ a o kvs,v = .ref a∧F a=some (.frz o (.dK kvs))∧kvs.map (·.1)=ks∧RepL F l (kvs.map (·.2))
  | .obj c ks l,v=>∃ a dx fs,v = .ref a∧F a=some (.ins (K.ca c) dx fs)∧fs.map (·.1)=ks∧RepL F l (fs.map (·.2))
  | .lst l,v=>∃ a vs,v = .ref a∧Rd F a (.lst vs)∧RepL F l vs
  | .dct ks l,v=>∃ a kvs,v = .ref a∧F a=some (.dK kvs)∧kvs.map (·.1)=ks∧RepL F l (kvs.map (·.2))
def RepL (F:Hp):List D→List V→Prop
  | [],vs=>vs = []
  | d :: l,vs=>∃ v r,vs=v :: r∧Rep F d v∧RepL F l r
end
end
def ifC {α:Type} (p:Prop) (a b:α):α:=@ite α p (Classical.propDecidable p) a b
@[simp] theorem za3 {α:Type} {p:Prop} {a b:α} (h:p):ifC p a b=a:=if_pos h
theorem zjl {α:Type} {p:Prop} {a b:α} (h:¬ p):ifC p a b=b:=if_neg h
structure Xc where
  c:Nat
inductive R (α:Type) where
  | no | ok (a:α) | ex (x:Xc)
namespace R
def bind {α β:Type}:R α→(α→R β)→R β
  | .no,_=>.no
  | .ok a,f=>f a
  | .ex x,_=>.ex x
@[simp] theorem bind_ok {α β:Type} (a:α) (f:α→R β):(R.ok a).bind f=f a:=rfl
@[simp] theorem zkk {α β:Type} (f:α→R β):(R.no:R α).bind f = .no:=rfl
@[simp] theorem zkx {α β:Type} (x:Xc) (f:α→R β):(R.ex x:R α).bind f = .ex x:=rfl
end R
inductive Tr where
  | d (x:D) | l (ts:List Tr) | t (ts:List Tr)
mutual
def trD:Tr→D
  | .d x=>x
  | .l ts=>.lst (trDL ts)
  | .t ts=>.tup (trDL ts)
def trDL:List Tr→List D
  | []=>[]
  | t :: ts=>trD t :: trDL ts
end
inductive Sl where
  | no | v (d:D) | o (d:D) | l (d:D) | p (T:Tr)
abbrev En:=List Sl
inductive O where
  | no | nx (δ:En) | rt (d:D) | ro (d:D) | bk (δ:En) | ct (δ:En) | ex (δ:En) (x:Xc)
structure Ext (F H F' H':Hp):Prop where
  ff:Same F F'
  hh:Same H H'
  fh:Same F' H'
  nw:∀ p o,F p=none→H p=some o→F' p=none
theorem Ext.refl {F H:Hp} (s:Same F H):Ext F H F H:=⟨.refl _,.refl _,s,fun _ _ h _=>h⟩
theorem Ext.trans {F H F1 H1 F2 H2:Hp} (a:Ext F H F1 H1) (b:Ext F1 H1 F2 H2):Ext F H F2 H2 :=
  ⟨a.ff.trans b.ff,a.hh.trans b.hh,b.fh,fun p o h1 h2=>b.nw p o (a.nw p o h1 h2) (a.hh p o h2)⟩
theorem Ext.new {F H:Hp} {p:Addr} {o:HO} (s:Same F H) (h:H p=none):Ext F H (upd F p o) (upd H p o):=by
  have hf:=s.free h
  refine ⟨Same.upd hf,Same.upd h,fun b u q=>?_,fun q u h1 h2=>?_⟩
  · by_cases e:b=p
    · subst e; rw [zaD] at q ⊢; exact q
    · rw [zar e] at q ⊢; exact s _ _ q
  · rw [zar (zas h2 h)]; exact h1
theorem Ext.newO {F H:Hp} {p:Addr} {o:HO} (s:Same F H) (h:H p=none):Ext F H F (upd H p o):=by
  refine ⟨.refl _,Same.upd h,s.trans (Same.upd h),fun q u h1 h2=>h1⟩
theorem Same.rd {H H':Hp} {a:Addr} {u:HO} (e:Same H H') (h:Rd H a u):Rd H' a u:=h.elim (fun h=>.inl (e _ _ h)) fun ⟨o,h⟩=>.inr ⟨o,e _ _ h⟩
section
variable {K:Kx} {F F' H H':Hp}
theorem XA.mono {c:Nat} {dct:Option Addr} (h:XA K F c dct) (e:Same F F'):XA K F' c dct:=by
  unfold XA at h ⊢
  split
  · rename_i hc; rw [if_pos hc] at h; exact h
  · rename_i hc
    rw [if_neg hc] at h
    obtain ⟨dx,h1,h2⟩:=h
    exact ⟨dx,h1,e _ _ h2⟩
mutual
theorem Rep.mono (e:Same F F'):∀ (d:D) {v:V},Rep K F d v→Rep K F' d v
  | .non,v,h=>by simpa only [Rep] using h
  | .bl b,v,h=>by simpa only [Rep] using h
  | .int b,v,h=>by simpa only [Rep] using h
  | .str b,v,h=>by simpa only [Rep] using h
  | .exc c,v,h=>by
    simp only [Rep] at h ⊢
    obtain ⟨a,dct,h1,h2,h3⟩:=h
    exact ⟨a,dct,h1,e _ _ h2,h3.mono e⟩
  | .fd ks l,v,h=>by
    simp only [Rep] at h ⊢
    obtain ⟨a,o,vs,h1,h2,h0,h3⟩:=h
    exact ⟨a,o,vs,h1,e _ _ h2,h0,RepL.mono e l h3⟩
  | .obj c ks l,v,h=>by
    simp only [Rep] at h ⊢
    obtain ⟨a,o,vs,h1,h2,h0,h3⟩:=h
    exact ⟨a,o,vs,h1,e _ _ h2,h0,RepL.mono e l h3⟩
  | .scr l,v,h=>by
    simp only [Rep] at h ⊢
    obtain ⟨a,h1,h2⟩:=h
    exact ⟨a,h1,e.seq h2⟩
  | .tup l,v,h=>by
    simp only [Rep] at h ⊢
    obtain ⟨a,vs,h1,h2,h3⟩:=h
    exact ⟨a,vs,h1,e _ _ h2,RepL.mono e l h3⟩
  | .lst l,v,h=>by
    simp only [Rep] at h ⊢
    obtain ⟨a,vs,h1,h2,h3⟩:=h
    exact ⟨a,vs,h1,PM.Same.rd e h2,RepL.mono e l h3⟩
  | .dct ks l,v,h=>by
    simp only [Rep] at h ⊢
    obtain ⟨a,vs,h1,h2,h0,h3⟩:=h
    exact ⟨a,vs,h1,e _ _ h2,h0,RepL.mono e l h3⟩
theorem RepL.mono (e:Same F F'):∀ (l:List D) {vs:List V},RepL K F l vs→RepL K F' l vs
  | [],vs,h=>by simpa only [RepL] using h
  | d :: l,vs,h=>by
    simp only [RepL] at h ⊢
    obtain ⟨v,r,h1,h2,h3⟩:=h
    exact ⟨v,r,h1,Rep.mono e d h2,RepL.mono e l h3⟩
end
theorem RepL.length:∀ {l:List D} {vs:List V},RepL K F l vs→vs.length=l.length
  | [],vs,h=>by simp only [RepL] at h; subst h; rfl
  | d :: l,vs,h=>by
    simp only [RepL] at h
    obtain ⟨v,r,rfl,_,h3⟩:=h
    simp [RepL.length h3]
theorem RepL.get:∀ {l:List D} {vs:List V} {i:Nat} {d:D},RepL K F l vs→l[i]?=some d→∃ v,vs[i]?=some v∧Rep K F d v
  | [],vs,i,d,h,e=>by simp at e
  | x :: l,vs,0,d,h,e=>by
    simp only [RepL] at h
    obtain ⟨v,r,rfl,h2,h3⟩:=h
    simp at e; subst e
    exact ⟨v,rfl,h2⟩
  | x :: l,vs,i + 1,d,h,e=>by
    simp only [RepL] at h
    obtain ⟨v,r,rfl,h2,h3⟩:=h
    obtain ⟨u,h4,h5⟩:=RepL.get h3 (i:=i) (d:=d) (by simpa using e)
    exact ⟨u,by simpa using h4,h5⟩
theorem RepL.nil:RepL K F [] []:=by simp only [RepL]
theorem RepL.cons {d:D} {l:List D} {v:V} {vs:List V} (h1:Rep K F d v) (h2:RepL K F l vs):RepL K F (d :: l) (v :: vs):=by
  simp only [RepL]; exact ⟨v,vs,rfl,h1,h2⟩
theorem RepL.append:∀ {l:List D} {vs:List V} {l':List D} {vs':List V},RepL K F l vs→RepL K F l' vs'→RepL K F (l ++ l') (vs ++ vs')
  | [],vs,l',vs',h,h'=>by simp only [RepL] at h; subst h; exact h'
  | d :: l,vs,l',vs',h,h'=>by
    simp only [RepL] at h
    obtain ⟨v,r,rfl,h2,h3⟩:=h
    exact .cons h2 (RepL.append h3 h')
theorem RepL.drop:∀ {l:List D} {vs:List V} (n:Nat),RepL K F l vs→RepL K F (l.drop n) (vs.drop n)
  | l,vs,0,h=>h
  | [],vs,n + 1,h=>by simp only [RepL] at h; subst h; exact .nil
  | d :: l,vs,n + 1,h=>by
    simp only [RepL] at h
    obtain ⟨v,r,rfl,h2,h3⟩:=h
    exact RepL.drop n h3
theorem RepL.take:∀ {l:List D} {vs:List V} (n:Nat),RepL K F l vs→RepL K F (l.take n) (vs.take n)
  | l,vs,0,h=>by simpa using RepL.nil
  | [],vs,n + 1,h=>by simp only [RepL] at h; subst h; exact .nil
  | d :: l,vs,n + 1,h=>by
    simp only [RepL] at h
    obtain ⟨v,r,rfl,h2,h3⟩:=h
    exact .cons h2 (RepL.take n h3)
theorem RepL.ints {ns:List Int}:RepL K F (ns.map .int) (ns.map .int):=by
  induction ns with
  | nil=>exact .nil
  | cons a l ih=>exact .cons rfl ih
end
section
variable (K:Kx)
def Top (F H:Hp):D→V→Prop
  | .lst l,v=>∃ a vs,v = .ref a∧Rd H a (.lst vs)∧RepL K F l vs
  | .dct ks l,v=>∃ a kvs,v = .ref a∧H a=some (.dK kvs)∧kvs.map (·.1)=ks∧RepL K F l (kvs.map (·.2))
  | .obj c ks l,v=>∃ a dx fs,v = .ref a∧H a=some (.ins (K.ca c) dx fs)∧fs.map (·.1)=ks∧RepL K F l (fs.map (·.2))
  | d,v=>Rep K F d v
def Own (F H:Hp):D→Addr→Prop
  | .lst l,a=>∃ vs,H a=some (.lst vs)∧RepL K F l vs
  | .dct ks l,a=>∃ kvs,H a=some (.dK kvs)∧kvs.map (·.1)=ks∧RepL K F l (kvs.map (·.2))
  | .obj c ks l,a=>∃ dx fs,H a=some (.ins (K.ca c) dx fs)∧fs.map (·.1)=ks∧RepL K F l (fs.map (·.2))
  | _,_=>False
mutual
def TrOk (F H:Hp):Tr→V→List Addr→Prop
  | .d x,v,fp=>fp = []∧Rep K F x v
  | .l ts,v,fp=>∃ a vs fs,v = .ref a∧fp=a :: fs∧H a=some (.lst vs)∧TrOkL F H ts vs fs
  | .t ts,v,fp=>∃ a vs,v = .ref a∧F a=some (.tup vs)∧TrOkL F H ts vs fp
def TrOkL (F H:Hp):List Tr→List V→List Addr→Prop
  | [],vs,fp=>vs = []∧fp = []
  | t :: ts,vs,fp=>∃ v r f1 f2,vs=v :: r∧fp=f1 ++ f2∧TrOk F H t v f1∧TrOkL F H ts r f2
end
structure Tab (F H:Hp) (a:Addr) (bs:List Addr) (T:Tr):Prop where
  ok:TrOk K F H T (.ref a) (a :: bs)
  nd:(a :: bs).Nodup
def SlOk (H0 F H:Hp):Option Sl→Option (Option V)→Prop
  | some (.v d),s=>∃ u,s=some (some u)∧Rep K F d u
  | some (.o d),s=>∃ a,s=some (some (.ref a))∧H0 a=none∧F a=none∧Own K F H d a
  | some (.l d),s=>∃ a,s=some (some (.ref a))∧H0 a=none∧F a=none∧Own K F H d a
  | some (.p T),s=>∃ a bs,s=some (some (.ref a))∧Tab K F H a bs T∧∀ b ∈ a :: bs,H0 b=none∧F b=none
  | _,_=>True
end
def Sl.own:Option Sl→Bool
  | some (.o _)=>true
  | some (.l _)=>true
  | some (.p _)=>true
  | _=>false
structure EnvOk (K:Kx) (Λ:List (Nat × Addr × HO)) (F0 H0 F H:Hp) (σ:St) (δ:En):Prop where
  ext:Ext F0 H0 F H
  len:σ.length=δ.length
  slot:∀ i:Nat,SlOk K H0 F H δ[i]? σ[i]?
  dist:∀ (i j:Nat) (a:Addr),i ≠ j→Sl.own δ[i]?=true→Sl.own δ[j]?=true→σ[i]?=some (some (.ref a))→σ[j]?=some (some (.ref a))→False
  lent:∀ x ∈ Λ,(∃ d,δ[x.1]?=some (.l d))∧σ[x.1]?=some (some (.ref x.2.1))∧H x.2.1=some x.2.2
  tabs:∀ (i:Nat) (T:Tr),δ[i]?=some (.p T)→∃ a bs,σ[i]?=some (some (.ref a))∧Tab K F H a bs T∧(∀ b ∈ a :: bs,H0 b=none∧F b=none)∧(∀ (j:Nat) (b:Addr),j ≠ i→Sl.own δ[j]?=true→σ[j]?=some (some (.ref b))→b ∉ a :: bs)∧∀ (j:Nat) (T':Tr),j ≠ i→δ[j]?=some (.p T')→∃ a' bs',σ[j]?=some (some (.ref a'))∧Tab K F H a' bs' T'∧∀ b ∈ a' :: bs',b ∉ a :: bs
section
variable {K:Kx} {Λ:List (Nat × Addr × HO)} {F0 H0 F H F' H' F1 H1:Hp} {σ:St} {δ:En}
theorem Own.mono (e1:Same F F') (e2:Same H H'):∀ {d:D} {a:Addr},Own K F H d a→Own K F' H' d a
  | .lst l,a,h=>let ⟨vs,h1,h2⟩:=h; ⟨vs,e2 _ _ h1,h2.mono e1⟩
  | .dct ks l,a,h=>let ⟨vs,h1,h0,h2⟩:=h; ⟨vs,e2 _ _ h1,h0,h2.mono e1⟩
  | .non,_,h=>h.elim
  | .bl _,_,h=>h.elim
  | .int _,_,h=>h.elim
  | .str _,_,h=>h.elim
  | .tup _,_,h=>h.elim
  | .scr _,_,h=>h.elim
  | .exc _,_,h=>h.elim
  | .fd _ _,_,h=>h.elim
  | .obj c ks l,a,h=>let ⟨dx,vs,h1,h0,h2⟩:=h; ⟨dx,vs,e2 _ _ h1,h0,h2.mono e1⟩
theorem Own.obj:∀ {d:D} {a:Addr},Own K F H d a→∃ o,H a=some o
  | .lst l,a,h=>let ⟨vs,h1,h2⟩:=h; ⟨_,h1⟩
  | .dct ks l,a,h=>let ⟨vs,h1,h2⟩:=h; ⟨_,h1⟩
  | .non,_,h=>h.elim
  | .bl _,_,h=>h.elim
  | .int _,_,h=>h.elim
  | .str _,_,h=>h.elim
  | .tup _,_,h=>h.elim
  | .scr _,_,h=>h.elim
  | .exc _,_,h=>h.elim
  | .fd _ _,_,h=>h.elim
  | .obj c ks l,a,h=>let ⟨dx,vs,h1,h2⟩:=h; ⟨_,h1⟩
theorem Own.at (e:H' a=H a):∀ {d:D},Own K F H d a→Own K F H' d a
  | .lst l,h=>let ⟨vs,h1,h2⟩:=h; ⟨vs,e.trans h1,h2⟩
  | .dct ks l,h=>let ⟨vs,h1,h0,h2⟩:=h; ⟨vs,e.trans h1,h0,h2⟩
  | .non,h=>h.elim
  | .bl _,h=>h.elim
  | .int _,h=>h.elim
  | .str _,h=>h.elim
  | .tup _,h=>h.elim
  | .scr _,h=>h.elim
  | .exc _,h=>h.elim
  | .fd _ _,h=>h.elim
  | .obj c ks l,h=>let ⟨dx,vs,h1,h0,h2⟩:=h; ⟨dx,vs,e.trans h1,h0,h2⟩
theorem Rep.top (s:Same F H):∀ {d:D} {v:V},Rep K F d v→Top K F H d v
  | .lst l,v,h=>by
    simp only [Rep] at h
    obtain ⟨a,vs,h1,h2,h3⟩:=h
    exact ⟨a,vs,h1,PM.Same.rd s h2,h3⟩
  | .dct ks l,v,h=>by
    simp only [Rep] at h
    obtain ⟨a,vs,h1,h2,h3⟩:=h
    exact ⟨a,vs,h1,s _ _ h2,h3⟩
  | .non,_,h=>h
  | .bl _,_,h=>h
  | .int _,_,h=>h
  | .str _,_,h=>h
  | .tup _,_,h=>h
  | .scr _,_,h=>h
  | .exc _,_,h=>h
  | .fd _ _,_,h=>h
  | .obj c ks l,v,h=>by
    simp only [Rep] at h
    obtain ⟨a,dx,vs,h1,h2,h3⟩:=h
    exact ⟨a,dx,vs,h1,s _ _ h2,h3⟩
theorem Own.top:∀ {d:D} {a:Addr},Own K F H d a→Top K F H d (.ref a)
  | .lst l,a,h=>let ⟨vs,h1,h2⟩:=h; ⟨a,vs,rfl,.inl h1,h2⟩
  | .dct ks l,a,h=>let ⟨vs,h1,h2⟩:=h; ⟨a,vs,rfl,h1,h2⟩
  | .non,_,h=>h.elim
  | .bl _,_,h=>h.elim
  | .int _,_,h=>h.elim
  | .str _,_,h=>h.elim
  | .tup _,_,h=>h.elim
  | .scr _,_,h=>h.elim
  | .exc _,_,h=>h.elim
  | .fd _ _,_,h=>h.elim
  | .obj c ks l,a,h=>let ⟨dx,vs,h1,h2⟩:=h; ⟨a,dx,vs,rfl,h1,h2⟩
theorem Top.mono (e1:Same F F') (e2:Same H H'):∀ {d:D} {v:V},Top K F H d v→Top K F' H' d v
  | .lst l,v,h=>let ⟨a,vs,h1,h2,h3⟩:=h; ⟨a,vs,h1,PM.Same.rd e2 h2,h3.mono e1⟩
  | .dct ks l,v,h=>let ⟨a,vs,h1,h2,h0,h3⟩:=h; ⟨a,vs,h1,e2 _ _ h2,h0,h3.mono e1⟩
  | .non,_,h=>h
  | .bl _,_,h=>h
  | .int _,_,h=>h
  | .str _,_,h=>h
  | .tup l,v,h=>Rep.mono e1 (.tup l) h
  | .scr l,v,h=>Rep.mono e1 (.scr l) h
  | .exc l,v,h=>Rep.mono e1 (.exc l) h
  | .fd ks l,v,h=>Rep.mono e1 (.fd ks l) h
  | .obj c ks l,v,h=>let ⟨a,dx,vs,h1,h2,h0,h3⟩:=h; ⟨a,dx,vs,h1,e2 _ _ h2,h0,h3.mono e1⟩
theorem Own.freeze {p:Addr} {d:D} (x:Ext F H F' H') (h0:F' p=none) (h1:H p=none) (o:Own K F' H' d p):∃ F'',Ext F H F'' H'∧Same F' F''∧Rep K F'' d (.ref p):=by
  obtain ⟨u,hu⟩:=o.obj
  have hs:Same F' (upd F' p u):=Same.upd h0
  refine ⟨upd F' p u,⟨x.ff.trans hs,x.hh,fun b w q=>?_,fun q w h2 h3=>?_⟩,hs,?_⟩
  · by_cases e:b=p
    · subst e; rw [zaD] at q; cases q; exact hu
    · rw [zar e] at q; exact x.fh _ _ q
  · rw [zar (zas h3 h1)]; exact x.nw q w h2 h3
  · cases d with
    | lst l =>
      obtain ⟨vs,h2,h3⟩:=o
      rw [hu] at h2; cases h2
      simp only [Rep]
      exact ⟨p,vs,rfl,.inl zaD,h3.mono hs⟩
    | dct ks l =>
      obtain ⟨vs,h2,h3,h4⟩:=o
      rw [hu] at h2; cases h2
      simp only [Rep]
      exact ⟨p,vs,rfl,zaD,h3,h4.mono hs⟩
    | obj c ks l =>
      obtain ⟨dx,vs,h2,h3,h4⟩:=o
      rw [hu] at h2; cases h2
      simp only [Rep]
      exact ⟨p,dx,vs,rfl,zaD,h3,h4.mono hs⟩
    | _=>exact o.elim
mutual
theorem TrOk.mono (e:Same F F') (e2:Same H H'):∀ (T:Tr) {v:V} {fp:List Addr},TrOk K F H T v fp→TrOk K F' H' T v fp
  | .d x,v,fp,h=>by
    simp only [TrOk] at h ⊢
    exact ⟨h.1,Rep.mono e x h.2⟩
  | .l ts,v,fp,h=>by
    simp only [TrOk] at h ⊢
    obtain ⟨a,vs,fs,h1,h2,h3,h4⟩:=h
    exact ⟨a,vs,fs,h1,h2,e2 _ _ h3,TrOkL.mono e e2 ts h4⟩
  | .t ts,v,fp,h=>by
    simp only [TrOk] at h ⊢
    obtain ⟨a,vs,h1,h3,h4⟩:=h
    exact ⟨a,vs,h1,e _ _ h3,TrOkL.mono e e2 ts h4⟩
theorem TrOkL.mono (e:Same F F') (e2:Same H H'):∀ (ts:List Tr) {vs:List V} {fp:List Addr},TrOkL K F H ts vs fp→TrOkL K F' H' ts vs fp
  | [],vs,fp,h=>by simpa only [TrOkL] using h
  | t :: ts,vs,fp,h=>by
    simp only [TrOkL] at h ⊢
    obtain ⟨v,r,f1,f2,h1,h2,h3,h4⟩:=h
    exact ⟨v,r,f1,f2,h1,h2,TrOk.mono e e2 t h3,TrOkL.mono e e2 ts h4⟩
end
mutual
theorem TrOk.obj:∀ (T:Tr) {v:V} {fp:List Addr},TrOk K F H T v fp→∀ b ∈ fp,∃ o,H b=some o
  | .d x,v,fp,h,b,hb=>by
    simp only [TrOk] at h
    rw [h.1] at hb; cases hb
  | .l ts,v,fp,h,b,hb=>by
    simp only [TrOk] at h
    obtain ⟨a,vs,fs,h1,h2,h3,h4⟩:=h
    rw [h2] at hb
    rcases List.mem_cons.mp hb with e | hb
    · subst e; exact ⟨_,h3⟩
    · exact TrOkL.obj ts h4 b hb
  | .t ts,v,fp,h,b,hb=>by
    simp only [TrOk] at h
    obtain ⟨a,vs,h1,h3,h4⟩:=h
    exact TrOkL.obj ts h4 b hb
theorem TrOkL.obj:∀ (ts:List Tr) {vs:List V} {fp:List Addr},TrOkL K F H ts vs fp→∀ b ∈ fp,∃ o,H b=some o
  | [],vs,fp,h,b,hb=>by
    simp only [TrOkL] at h
    rw [h.2] at hb; cases hb
  | t :: ts,vs,fp,h,b,hb=>by
    simp only [TrOkL] at h
    obtain ⟨v,r,f1,f2,h1,h2,h3,h4⟩:=h
    rw [h2] at hb
    rcases List.mem_append.mp hb with hb | hb
    · exact TrOk.obj t h3 b hb
    · exact TrOkL.obj ts h4 b hb
end
mutual
theorem TrOk.at':∀ (T:Tr) {v:V} {fp:List Addr},TrOk K F H T v fp→(∀ b ∈ fp,H' b=H b)→TrOk K F H' T v fp
  | .d x,v,fp,h,_=>by simpa only [TrOk] using h
  | .l ts,v,fp,h,e=>by
    simp only [TrOk] at h ⊢
    obtain ⟨a,vs,fs,h1,h2,h3,h4⟩:=h
    subst h2
    exact ⟨a,vs,fs,h1,rfl,(e a (by simp)).trans h3,TrOkL.at' ts h4 fun b hb=>e b (List.mem_cons_of_mem _ hb)⟩
  | .t ts,v,fp,h,e=>by
    simp only [TrOk] at h ⊢
    obtain ⟨a,vs,h1,h3,h4⟩:=h
    exact ⟨a,vs,h1,h3,TrOkL.at' ts h4 e⟩
theorem TrOkL.at':∀ (ts:List Tr) {vs:List V} {fp:List Addr},TrOkL K F H ts vs fp→(∀ b ∈ fp,H' b=H b)→TrOkL K F H' ts vs fp
  | [],vs,fp,h,_=>by simpa only [TrOkL] using h
  | t :: ts,vs,fp,h,e=>by
    simp only [TrOkL] at h ⊢
    obtain ⟨v,r,f1,f2,h1,h2,h3,h4⟩:=h
    subst h2
    exact ⟨v,r,f1,f2,h1,rfl,TrOk.at' t h3 fun b hb=>e b (List.mem_append_left _ hb),TrOkL.at' ts h4 fun b hb=>e b (List.mem_append_right _ hb)⟩
end
theorem Tab.mono {a:Addr} {bs:List Addr} {T:Tr} (e1:Same F F') (e:Same H H') (t:Tab K F H a bs T):Tab K F' H' a bs T:=⟨TrOk.mono e1 e T t.ok,t.nd⟩
theorem Tab.obj {a:Addr} {bs:List Addr} {T:Tr} (t:Tab K F H a bs T):∀ b ∈ a :: bs,∃ o,H b=some o:=TrOk.obj T t.ok
theorem Tab.at' {a:Addr} {bs:List Addr} {T:Tr} (t:Tab K F H a bs T) (e:∀ b ∈ a :: bs,H' b=H b):Tab K F H' a bs T:=⟨TrOk.at' T t.ok e,t.nd⟩
theorem SlOk.mono (e:Ext F H F' H'):∀ {x:Option Sl} {s:Option (Option V)},SlOk K H0 F H x s→SlOk K H0 F' H' x s
  | some (.v d),s,h=>let ⟨u,h1,h2⟩:=h; ⟨u,h1,Rep.mono e.ff d h2⟩
  | some (.o d),s,h=>let ⟨a,h1,h2,h3,h4⟩:=h; let ⟨o,ho⟩:=h4.obj; ⟨a,h1,h2,e.nw a o h3 ho,h4.mono e.ff e.hh⟩
  | some (.l d),s,h=>let ⟨a,h1,h2,h3,h4⟩:=h; let ⟨o,ho⟩:=h4.obj; ⟨a,h1,h2,e.nw a o h3 ho,h4.mono e.ff e.hh⟩
  | some (.p T),s,h=>let ⟨a,bs,h1,h2,h3⟩:=h; ⟨a,bs,h1,h2.mono e.ff e.hh,fun b hb=>let ⟨o,ho⟩:=h2.obj b hb; ⟨(h3 b hb).1,e.nw b o (h3 b hb).2 ho⟩⟩
  | some .no,_,_=>trivial
  | none,_,_=>trivial
mutual
theorem zjS:∀ (T:Tr) {v:V} {f f':List Addr},TrOk K F H T v f→TrOk K F H T v f'→f=f'
  | .d x,v,f,f',h1,h2=>by
    simp only [TrOk] at h1 h2
    rw [h1.1,h2.1]
  | .l ts,v,f,f',h1,h2=>by
    simp only [TrOk] at h1 h2
    obtain ⟨a,vs,fs,rfl,rfl,e1,o1⟩:=h1
    obtain ⟨a',vs',fs',e,rfl,e2,o2⟩:=h2
    cases e
    rw [e1] at e2
    cases e2
    rw [zhm ts o1 o2]
  | .t ts,v,f,f',h1,h2=>by
    simp only [TrOk] at h1 h2
    obtain ⟨a,vs,rfl,e1,o1⟩:=h1
    obtain ⟨a',vs',e,e2,o2⟩:=h2
    cases e
    rw [e1] at e2
    cases e2
    exact zhm ts o1 o2
theorem zhm:∀ (ts:List Tr) {vs:List V} {f f':List Addr},TrOkL K F H ts vs f→TrOkL K F H ts vs f'→f=f'
  | [],vs,f,f',h1,h2=>by
    simp only [TrOkL] at h1 h2
    rw [h1.2,h2.2]
  | t :: ts,vs,f,f',h1,h2=>by
    simp only [TrOkL] at h1 h2
    obtain ⟨v,r,f1,f2,rfl,rfl,o1,o2⟩:=h1
    obtain ⟨v',r',g1,g2,e,rfl,p1,p2⟩:=h2
    cases e
    rw [zjS t o1 p1,zhm ts o2 p2]
end
theorem zj5 {a:Addr} {bs bs':List Addr} {T:Tr} (t:Tab K F H a bs T) (t':Tab K F H a bs' T):bs=bs':=(List.cons.inj (zjS T t.ok t'.ok)).2
theorem EnvOk.tab (I:EnvOk K Λ F0 H0 F H σ δ) {i:Nat} {T:Tr} (hx:δ[i]?=some (.p T)):∃ a bs,σ[i]?=some (some (.ref a))∧Tab K F H a bs T∧(∀ b ∈ a :: bs,H0 b=none∧F b=none)∧(∀ (j:Nat) (b:Addr),j ≠ i→Sl.own δ[j]?=true→σ[j]?=some (some (.ref b))→b ∉ a :: bs)∧∀ (j:Nat) (T':Tr),j ≠ i→δ[j]?=some (.p T')→∃ a' bs',σ[j]?=some (some (.ref a'))∧Tab K F H a' bs' T'∧∀ b ∈ a' :: bs',b ∉ a :: bs:=I.tabs i T hx
theorem EnvOk.tabsOf {δ':En} {σ':St} (I:EnvOk K Λ F0 H0 F H σ δ) (h1:∀ (i:Nat) (T:Tr),δ'[i]?=some (.p T)→δ[i]?=some (.p T)∧σ'[i]?=σ[i]?)
    (h2:∀ (i:Nat) (a:Addr) (bs:List Addr) (T:Tr),δ[i]?=some (.p T)→σ[i]?=some (some (.ref a))→Tab K F H a bs T→(∀ b ∈ a :: bs,H0 b=none∧F b=none)→(∀ (j:Nat) (b:Addr),j ≠ i→Sl.own δ[j]?=true→σ[j]?=some (some (.ref b))→b ∉ a :: bs)→Tab K F' H' a bs T∧∀ b ∈ a :: bs,F' b=none)
    (h3:∀ (i j:Nat) (T:Tr) (a b:Addr) (bs:List Addr),δ[i]?=some (.p T)→σ[i]?=some (some (.ref a))→Tab K F H a bs T→j ≠ i→Sl.own δ'[j]?=true→σ'[j]?=some (some (.ref b))→(Sl.own δ[j]?=true∧σ[j]?=some (some (.ref b)))∨b ∉ a :: bs) :
    ∀ (i:Nat) (T:Tr),δ'[i]?=some (.p T)→∃ a bs,σ'[i]?=some (some (.ref a))∧Tab K F' H' a bs T∧(∀ b ∈ a :: bs,H0 b=none∧F' b=none)∧(∀ (j:Nat) (b:Addr),j ≠ i→Sl.own δ'[j]?=true→σ'[j]?=some (some (.ref b))→b ∉ a :: bs)∧∀ (j:Nat) (T':Tr),j ≠ i→δ'[j]?=some (.p T')→∃ a' bs',σ'[j]?=some (some (.ref a'))∧Tab K F' H' a' bs' T'∧∀ b ∈ a' :: bs',b ∉ a :: bs:=by
  intro i T g1
  obtain ⟨d1,d2⟩:=h1 i T g1
  obtain ⟨a,bs,t1,t2,t3,t4,t5⟩:=I.tab d1
  obtain ⟨u1,u2⟩:=h2 i a bs T d1 t1 t2 t3 t4
  refine ⟨a,bs,d2.trans t1,u1,fun b hb=>⟨(t3 b hb).1,u2 b hb⟩,fun j b hj ho hs hb=>?_,fun j T' hj hT=>?_⟩
  · rcases h3 i j T a b bs d1 t1 t2 hj ho hs with ⟨o1,o2⟩ | o
    · exact t4 j b hj o1 o2 hb
    · exact o hb
  · obtain ⟨e1,e2⟩:=h1 j T' hT
    obtain ⟨a',bs',s1,s2,s3⟩:=t5 j T' hj e1
    obtain ⟨a2,bs2,u1,u2,u3,u4,_⟩:=I.tab e1
    rw [s1] at u1
    cases u1
    have eb:=zj5 u2 s2
    subst eb
    exact ⟨a',bs2,e2.trans s1,(h2 j a' bs2 T' e1 s1 s2 u3 u4).1,s3⟩
theorem zgV (e:Ext F H F' H') {a:Addr} {bs:List Addr} {T:Tr} (t:Tab K F H a bs T) (f:∀ b ∈ a :: bs,H0 b=none∧F b=none):Tab K F' H' a bs T∧∀ b ∈ a :: bs,F' b=none :=
  ⟨t.mono e.ff e.hh,fun b hb=>let ⟨o,ho⟩:=t.obj b hb; e.nw b o (f b hb).2 ho⟩
theorem EnvOk.grow (I:EnvOk K Λ F0 H0 F H σ δ) (e:Ext F H F' H'):EnvOk K Λ F0 H0 F' H' σ δ :=
  ⟨I.ext.trans e,I.len,fun i=>(I.slot i).mono e,I.dist,fun x hx=>let ⟨h1,h2,h3⟩:=I.lent x hx; ⟨h1,h2,e.hh _ _ h3⟩,I.tabsOf (fun i T h=>⟨h,rfl⟩) (fun i a bs T _ _ t f _=>zgV e t f) fun i j T a b bs _ _ _ _ ho hs=>.inl ⟨ho,hs⟩⟩
theorem EnvOk.same (I:EnvOk K Λ F0 H0 F H σ δ):Same F H:=I.ext.fh
theorem Ext.base (a:Ext F0 H0 F1 H1) (b:Ext F1 H0 F' H'):Ext F0 H0 F' H' :=
  ⟨a.ff.trans b.ff,b.hh,b.fh,fun p o h1 h2=>b.nw p o (a.nw p o h1 h2) h2⟩
theorem EnvOk.up (I:EnvOk K Λ F0 H0 F H σ δ):EnvOk K Λ F H0 F H σ δ :=
  ⟨⟨.refl _,I.ext.hh,I.ext.fh,fun p o h1 h2=>h1⟩,I.len,I.slot,I.dist,I.lent,I.tabs⟩
theorem EnvOk.down (a:Ext F0 H0 F1 H1) (I:EnvOk K Λ F1 H0 F H σ δ):EnvOk K Λ F0 H0 F H σ δ :=
  ⟨a.base I.ext,I.len,I.slot,I.dist,I.lent,I.tabs⟩
theorem EnvOk.put {i:Nat} {d:D} {v:V} (I:EnvOk K Λ F0 H0 F H σ δ) (hl:∃ x,δ[i]?=some x∧∀ d,x ≠ .l d) (r:Rep K F d v):EnvOk K Λ F0 H0 F H (σ.set i (some v)) (δ.set i (.v d)):=by
  obtain ⟨x,hx,hn⟩:=hl
  have hi:i < δ.length:=(List.getElem?_eq_some_iff.mp hx).1
  have hi':i < σ.length:=by rw [I.len]; exact hi
  refine ⟨I.ext,by simp [I.len],fun j=>?_,fun j k a hjk h1 h2 h3 h4=>?_,fun y hy=>?_,I.tabsOf (fun k ll h=>by
      by_cases e:i=k
      · subst e; rw [List.getElem?_set_self hi] at h; cases h
      · rw [List.getElem?_set_ne e] at h; exact ⟨h,List.getElem?_set_ne e⟩) (fun _ _ _ _ _ _ t f _=>⟨t,fun b hb=>(f b hb).2⟩) fun k j ll a b bs _ _ _ _ ho hs=>.inl (by
      by_cases e:i=j
      · subst e; rw [List.getElem?_set_self hi] at ho; cases ho
      · rw [List.getElem?_set_ne e] at ho hs; exact ⟨ho,hs⟩)⟩
  · by_cases e:i=j
    · subst e
      rw [List.getElem?_set_self hi,List.getElem?_set_self hi']
      exact ⟨v,rfl,r⟩
    · rw [List.getElem?_set_ne e,List.getElem?_set_ne e]
      exact I.slot j
  · have ne:∀ k:Nat,Sl.own (δ.set i (.v d))[k]?=true→i ≠ k:=by
      rintro k h rfl
      rw [List.getElem?_set_self hi] at h
      cases h
    have n1:=ne j h1
    have n2:=ne k h2
    rw [List.getElem?_set_ne n1] at h1 h3
    rw [List.getElem?_set_ne n2] at h2 h4
    exact I.dist j k a hjk h1 h2 h3 h4
  · obtain ⟨⟨d',h1⟩,h2,h3⟩:=I.lent y hy
    have n:i ≠ y.1:=by
      intro e
      rw [← e,hx] at h1
      exact hn d' (Option.some.inj h1)
    exact ⟨⟨d',by rw [List.getElem?_set_ne n]; exact h1⟩,by rw [List.getElem?_set_ne n]; exact h2,h3⟩
theorem EnvOk.putO {i:Nat} {d:D} {p:Addr} (I:EnvOk K Λ F0 H0 F H σ δ) (hl:∃ x,δ[i]?=some x∧∀ d,x ≠ .l d) (e:Ext F H F' H') (h0:F' p=none) (h1:H p=none) (o:Own K F' H' d p) :
    EnvOk K Λ F0 H0 F' H' (σ.set i (some (.ref p))) (δ.set i (.o d)):=by
  obtain ⟨x,hx,hn⟩:=hl
  have hi:i < δ.length:=(List.getElem?_eq_some_iff.mp hx).1
  have hi':i < σ.length:=by rw [I.len]; exact hi
  have fresh:∀ k:Nat,Sl.own δ[k]?=true→σ[k]? ≠ some (some (V.ref p)):=fun k hk e=>by
    have z:=I.slot k
    cases q:δ[k]? with
    | none=>rw [q] at hk; cases hk
    | some y =>
      rw [q] at hk z
      cases y with
      | no=>cases hk
      | v d=>cases hk
      | o d =>
        obtain ⟨a,z1,_,_,z4⟩:=z
        rw [e] at z1; cases z1
        obtain ⟨u,hu⟩:=z4.obj
        rw [h1] at hu; cases hu
      | l d =>
        obtain ⟨a,z1,_,_,z4⟩:=z
        rw [e] at z1; cases z1
        obtain ⟨u,hu⟩:=z4.obj
        rw [h1] at hu; cases hu
      | p ll =>
        obtain ⟨a,bs,z1,z2,_⟩:=z
        rw [e] at z1; cases z1
        obtain ⟨u,hu⟩:=z2.obj p (by simp)
        rw [h1] at hu; cases hu
  have J:=I.grow e
  refine ⟨J.ext,by simp [I.len],fun j=>?_,fun j k a hjk g1 g2 g3 g4=>?_,fun y hy=>?_,I.tabsOf (fun k ll h=>by
      by_cases e:i=k
      · subst e; rw [List.getElem?_set_self hi] at h; cases h
      · rw [List.getElem?_set_ne e] at h; exact ⟨h,List.getElem?_set_ne e⟩) (fun k a bs T _ _ t f _=>zgV e t f) fun k j ll a b bs _ _ t _ ho hs=>by
      by_cases e:i=j
      · subst e
        rw [List.getElem?_set_self hi'] at hs
        cases hs
        refine .inr fun hb=>?_
        obtain ⟨u,hu⟩:=t.obj p hb
        rw [h1] at hu; cases hu
      · rw [List.getElem?_set_ne e] at ho hs; exact .inl ⟨ho,hs⟩⟩
  · by_cases e:i=j
    · subst e
      rw [List.getElem?_set_self hi,List.getElem?_set_self hi']
      exact ⟨p,rfl,I.ext.hh.free h1,h0,o⟩
    · rw [List.getElem?_set_ne e,List.getElem?_set_ne e]
      exact J.slot j
  · by_cases e1:i=j
    · subst e1
      rw [List.getElem?_set_self hi'] at g3
      cases g3
      rw [List.getElem?_set_ne hjk] at g2 g4
      exact fresh k g2 g4
    · by_cases e2:i=k
      · subst e2
        rw [List.getElem?_set_self hi'] at g4
        cases g4
        rw [List.getElem?_set_ne e1] at g1 g3
        exact fresh j g1 g3
      · rw [List.getElem?_set_ne e1] at g1 g3
        rw [List.getElem?_set_ne e2] at g2 g4
        exact I.dist j k a hjk g1 g2 g3 g4
  · obtain ⟨⟨d',g1⟩,g2,g3⟩:=J.lent y hy
    have n:i ≠ y.1:=by
      intro e
      rw [← e,hx] at g1
      exact hn d' (Option.some.inj g1)
    exact ⟨⟨d',by rw [List.getElem?_set_ne n]; exact g1⟩,by rw [List.getElem?_set_ne n]; exact g2,g3⟩
theorem EnvOk.chg {i:Nat} {d d':D} {a:Addr} {u:HO} (I:EnvOk K Λ F0 H0 F H σ δ) (hx:δ[i]?=some (.o d)) (ha:σ[i]?=some (some (.ref a))) (o:Own K F (upd H a u) d' a) :
    EnvOk K Λ F0 H0 F (upd H a u) σ (δ.set i (.o d')):=by
  have hi:i < δ.length:=(List.getElem?_eq_some_iff.mp hx).1
  have z:=I.slot i
  rw [hx] at z
  obtain ⟨a',z1,z2,z3,z4⟩:=z
  rw [ha] at z1; cases z1
  have oth:∀ (k:Nat) (b:Addr),i ≠ k→Sl.own δ[k]?=true→σ[k]?=some (some (.ref b))→b ≠ a:=fun k b hk h1 h2 e=>by
    subst e
    exact I.dist i k b hk (by rw [hx]; rfl) h1 ha h2
  refine ⟨⟨I.ext.ff,fun b w q=>?_,fun b w q=>?_,I.ext.nw⟩,by simp [I.len],fun j=>?_,fun j k b hjk g1 g2 g3 g4=>?_,fun y hy=>?_,I.tabsOf (fun k ll h=>by
      by_cases e:i=k
      · subst e; rw [List.getElem?_set_self hi] at h; cases h
      · rw [List.getElem?_set_ne e] at h; exact ⟨h,rfl⟩) (fun k r bs T g1 g2 t f dj=>by
      have e:i ≠ k:=fun e=>by subst e; rw [hx] at g1; cases g1
      exact ⟨t.at' fun b hb=>zar fun e'=>dj i a e (by rw [hx]; rfl) ha (e' ▸ hb),fun b hb=>(f b hb).2⟩) fun k j ll r b bs _ _ _ _ ho hs=>.inl (by
      by_cases e:i=j
      · subst e; exact ⟨by rw [hx]; rfl,hs⟩
      · rw [List.getElem?_set_ne e] at ho; exact ⟨ho,hs⟩)⟩
  · rw [zar (zas q z2)]; exact I.ext.hh b w q
  · rw [zar (zas q z3)]; exact I.ext.fh b w q
  · by_cases e:i=j
    · subst e
      rw [List.getElem?_set_self hi]
      exact ⟨a,ha,z2,z3,o⟩
    · rw [List.getElem?_set_ne e]
      have w:=I.slot j
      cases q:δ[j]? with
      | none=>trivial
      | some y =>
        rw [q] at w
        cases y with
        | no=>trivial
        | v d=>exact w
        | o d =>
          obtain ⟨b,w1,w2,w3,w4⟩:=w
          exact ⟨b,w1,w2,w3,w4.at (zar (oth j b e (by rw [q]; rfl) w1))⟩
        | l d =>
          obtain ⟨b,w1,w2,w3,w4⟩:=w
          exact ⟨b,w1,w2,w3,w4.at (zar (oth j b e (by rw [q]; rfl) w1))⟩
        | p ll =>
          obtain ⟨r,bs,t1,t2,t3,t4,t5⟩:=I.tab q
          exact ⟨r,bs,t1,t2.at' fun b hb=>zar fun e'=>t4 i a e (by rw [hx]; rfl) ha (e' ▸ hb),t3⟩
  · have ow:∀ k:Nat,Sl.own (δ.set i (.o d'))[k]?=true→Sl.own δ[k]?=true:=by
      intro k h
      by_cases e:i=k
      · subst e; rw [hx]; rfl
      · rw [List.getElem?_set_ne e] at h; exact h
    exact I.dist j k b hjk (ow j g1) (ow k g2) g3 g4
  · obtain ⟨⟨d2,g1⟩,g2,g3⟩:=I.lent y hy
    have n:i ≠ y.1:=by
      intro e
      rw [← e,hx] at g1
      cases g1
    exact ⟨⟨d2,by rw [List.getElem?_set_ne n]; exact g1⟩,g2,by rw [zar (oth y.1 y.2.1 n (by rw [g1]; rfl) g2)]; exact g3⟩
theorem EnvOk.frz {i:Nat} {d:D} (I:EnvOk K Λ F0 H0 F H σ δ) (hx:δ[i]?=some (.o d)):∃ F',Same F F'∧EnvOk K Λ F0 H0 F' H σ (δ.set i (.v d)):=by
  have hi:i < δ.length:=(List.getElem?_eq_some_iff.mp hx).1
  have z:=I.slot i
  rw [hx] at z
  obtain ⟨a,z1,z2,z3,z4⟩:=z
  obtain ⟨u,hu⟩:=z4.obj
  have hs:Same F (upd F a u):=Same.upd z3
  have sl:∀ j:Nat,i ≠ j→Sl.own δ[j]?=true→σ[j]? ≠ some (some (V.ref a)):=fun j hj h e=>I.dist i j a hj (by rw [hx]; rfl) h z1 e
  refine ⟨upd F a u,hs,⟨I.ext.ff.trans hs,I.ext.hh,fun b w q=>?_,fun p o h1 h2=>?_⟩,by simp [I.len],fun j=>?_,fun j k b hjk g1 g2 g3 g4=>?_,fun y hy=>?_,I.tabsOf (fun k ll h=>by
      by_cases e:i=k
      · subst e; rw [List.getElem?_set_self hi] at h; cases h
      · rw [List.getElem?_set_ne e] at h; exact ⟨h,rfl⟩) (fun k r bs T g1 g2 t f dj=>by
      have e:i ≠ k:=fun e=>by subst e; rw [hx] at g1; cases g1
      exact ⟨t.mono hs (.refl _),fun b hb=>by rw [zar (show b ≠ a from fun e'=>dj i a e (by rw [hx]; rfl) z1 (e' ▸ hb))]; exact (f b hb).2⟩) fun k j ll r b bs _ _ _ _ ho hs=>.inl (by
      by_cases e:i=j
      · subst e; rw [List.getElem?_set_self hi] at ho; cases ho
      · rw [List.getElem?_set_ne e] at ho; exact ⟨ho,hs⟩)⟩
  · by_cases e:b=a
    · subst e; rw [zaD] at q; cases q; exact hu
    · rw [zar e] at q; exact I.ext.fh _ _ q
  · rw [zar (zas h2 z2)]; exact I.ext.nw p o h1 h2
  · by_cases e:i=j
    · subst e
      rw [List.getElem?_set_self hi]
      refine ⟨.ref a,z1,?_⟩
      cases d with
      | lst l =>
        obtain ⟨vs,h2,h3⟩:=z4
        rw [hu] at h2; cases h2
        simp only [Rep]
        exact ⟨a,vs,rfl,.inl zaD,h3.mono hs⟩
      | dct ks l =>
        obtain ⟨vs,h2,h3,h4⟩:=z4
        rw [hu] at h2; cases h2
        simp only [Rep]
        exact ⟨a,vs,rfl,zaD,h3,h4.mono hs⟩
      | obj c ks l =>
        obtain ⟨dx,vs,h2,h3,h4⟩:=z4
        rw [hu] at h2; cases h2
        simp only [Rep]
        exact ⟨a,dx,vs,rfl,zaD,h3,h4.mono hs⟩
      | _=>exact z4.elim
    · rw [List.getElem?_set_ne e]
      have w:=I.slot j
      cases q:δ[j]? with
      | none=>trivial
      | some y =>
        rw [q] at w
        cases y with
        | no=>trivial
        | v d=>obtain ⟨v,w1,w2⟩:=w; exact ⟨v,w1,Rep.mono hs d w2⟩
        | o d =>
          obtain ⟨b,w1,w2,w3,w4⟩:=w
          exact ⟨b,w1,w2,by rw [zar (show b ≠ a from fun e'=>sl j e (by rw [q]; rfl) (by rw [w1,e']))]; exact w3,w4.mono hs (.refl _)⟩
        | p ll =>
          obtain ⟨r,bs,t1,t2,t3,t4,t5⟩:=I.tab q
          exact ⟨r,bs,t1,t2.mono hs (.refl _),fun b hb=>⟨(t3 b hb).1,by rw [zar (show b ≠ a from fun e'=>t4 i a e (by rw [hx]; rfl) z1 (e' ▸ hb))]; exact (t3 b hb).2⟩⟩
        | l d =>
          obtain ⟨b,w1,w2,w3,w4⟩:=w
          exact ⟨b,w1,w2,by rw [zar (show b ≠ a from fun e'=>sl j e (by rw [q]; rfl) (by rw [w1,e']))]; exact w3,w4.mono hs (.refl _)⟩
  · have ow:∀ k:Nat,Sl.own (δ.set i (.v d))[k]?=true→Sl.own δ[k]?=true:=by
      intro k h
      by_cases e:i=k
      · subst e; rw [List.getElem?_set_self hi] at h; cases h
      · rw [List.getElem?_set_ne e] at h; exact h
    exact I.dist j k b hjk (ow j g1) (ow k g2) g3 g4
  · obtain ⟨⟨d2,g1⟩,g2,g3⟩:=I.lent y hy
    have n:i ≠ y.1:=by
      intro e
      rw [← e,hx] at g1
      cases g1
    exact ⟨⟨d2,by rw [List.getElem?_set_ne n]; exact g1⟩,g2,g3⟩
end
end PM
namespace PM
open PySem L2
abbrev XOT:=Xc→Hp→Hp→Value→Option Addr→Prop
def Aft {α:Type} (E:St→XK) (XO:XOT) (σ:St) (F H:Hp) (P:α→Hp→Hp→Prop):R α→Prop
  | .no=>False
  | .ok a=>∀ F' H',Ext F H F' H'→P a F' H'
  | .ex x=>∀ C dct F' H',Ext F H F' H'→XO x F' H' C dct→E σ C dct H'
section
variable {E:St→XK} {XO:XOT} {σ:St} {F H F1 H1:Hp} {α β:Type} {P P':α→Hp→Hp→Prop}
theorem Aft.mono (e:Ext F H F1 H1):∀ {r:R α},Aft E XO σ F H P r→Aft E XO σ F1 H1 P r
  | .no,h=>h
  | .ok _,h=>fun F' H' e'=>h F' H' (e.trans e')
  | .ex _,h=>fun C dct F' H' e' x=>h C dct F' H' (e.trans e') x
theorem Aft.imp (i:∀ a F1 H1,Ext F H F1 H1→P a F1 H1→P' a F1 H1):∀ {r:R α},Aft E XO σ F H P r→Aft E XO σ F H P' r
  | .no,h=>h
  | .ok _,h=>fun F' H' e'=>i _ F' H' e' (h F' H' e')
  | .ex _,h=>h
theorem Aft.bind {P:β→Hp→Hp→Prop} {f:α→R β}:∀ {r:R α},Aft E XO σ F H P (r.bind f)→Aft E XO σ F H (fun a F1 H1=>Aft E XO σ F1 H1 P (f a)) r
  | .no,h=>h
  | .ok _,h=>fun F' H' e'=>Aft.mono e' h
  | .ex _,h=>h
end
inductive Prd (T:D→V→Prop):List D→List V→Prop where
  | nil:Prd T [] []
  | cons {d:D} {v:V} {ds:List D} {vs:List V}:T d v→Prd T ds vs→Prd T (d :: ds) (v :: vs)
section
variable (K:Kx) (XO:XOT) (E:St→XK)
def SE (t:TE) (m:En→R D):Prop:=∀ Λ F0 H0 F H σ δ Q,EnvOk K Λ F0 H0 F H σ δ→Aft E XO σ F H (fun d F' H'=>∀ v,Rep K F' d v→Q v H') (m δ)→t σ H Q
def SEr (t:TE) (m:En→R D):Prop:=∀ Λ F0 H0 F H σ δ Q,EnvOk K Λ F0 H0 F H σ δ→Aft E XO σ F H (fun d F' H'=>∀ v,Top K F' H' d v→Q v H') (m δ)→t σ H Q
def SEo (t:TE) (m:En→R D):Prop:=∀ Λ F0 H0 F H σ δ Q,EnvOk K Λ F0 H0 F H σ δ→Aft E XO σ F H (fun d F' H'=>∀ p,F' p=none→H p=none→Own K F' H' d p→Q (.ref p) H') (m δ)→t σ H Q
def ST (t:TT) (m:En→R Bool):Prop:=∀ Λ F0 H0 F H σ δ Q,EnvOk K Λ F0 H0 F H σ δ→Aft E XO σ F H (fun b _ H'=>Q b H') (m δ)→t σ H Q
def SA (t:TA) (m:En→R (List D)):Prop:=∀ Λ F0 H0 F H σ δ Q,EnvOk K Λ F0 H0 F H σ δ→Aft E XO σ F H (fun ds F' H'=>∀ vs,RepL K F' ds vs→Q vs H') (m δ)→t σ H Q
def SAr (t:TA) (m:En→R (List D)):Prop:=∀ Λ F0 H0 F H σ δ Q,EnvOk K Λ F0 H0 F H σ δ→Aft E XO σ F H (fun ds F' H'=>∀ vs,Prd (Top K F' H') ds vs→Q vs H') (m δ)→t σ H Q
end
section
variable {K:Kx} {XO:XOT} {E:St→XK} {t ta tb te:TE} {m ma mb me:En→R D}
theorem SE.r (h:SE K XO E t m):SEr K XO E t m:=fun Λ F0 H0 F H σ δ Q I a=>h Λ F0 H0 F H σ δ Q I (a.imp fun d F1 H1 e p v r=>p v (r.top e.fh))
theorem SEo.e (h:SEo K XO E t m):SE K XO E t m:=fun Λ F0 H0 F H σ δ Q I a=>h Λ F0 H0 F H σ δ Q I (by
  cases q:m δ with
  | no=>rw [q] at a; exact a
  | ex x=>rw [q] at a; exact a
  | ok d =>
    rw [q] at a
    intro F1 H1 e p h0 h1 o
    obtain ⟨F2,e2,s2,r⟩:=o.freeze e h0 h1
    exact a F2 H1 e2 _ r)
def mVar (i:Nat) (δ:En):R D:=match δ[i]? with | some (.v d)=>.ok d | _=>.no
def mRd (i:Nat) (δ:En):R D:=match δ[i]? with | some (.v d)=>.ok d | some (.o d)=>.ok d | some (.l d)=>.ok d | _=>.no
theorem zam {i:Nat}:SE K XO E (tVar i) (mVar i):=by
  intro Λ F0 H0 F H σ δ Q I a
  unfold mVar at a
  have z:=I.slot i
  split at a
  · rename_i d q
    rw [q] at z
    obtain ⟨u,h1,h2⟩:=z
    exact ⟨u,h1,a F H (.refl I.same) u h2⟩
  · exact a.elim
theorem zac {i:Nat}:SEr K XO E (tVar i) (mRd i):=by
  intro Λ F0 H0 F H σ δ Q I a
  unfold mRd at a
  have z:=I.slot i
  split at a
  · rename_i d q
    rw [q] at z
    obtain ⟨u,h1,h2⟩:=z
    exact ⟨u,h1,a F H (.refl I.same) u (h2.top I.same)⟩
  · rename_i d q
    rw [q] at z
    obtain ⟨u,h1,_,_,h2⟩:=z
    exact ⟨_,h1,a F H (.refl I.same) _ h2.top⟩
  · rename_i d q
    rw [q] at z
    obtain ⟨u,h1,_,_,h2⟩:=z
    exact ⟨_,h1,a F H (.refl I.same) _ h2.top⟩
  · exact a.elim
def mC (d:D) (_:En):R D:=.ok d
theorem zaf {i:Int}:SE K XO E (tC (.int i)) (mC (.int i)):=fun Λ F0 H0 F H σ δ Q I a=>a F H (.refl I.same) _ (by simp only [Rep])
theorem zeo {i:Bool}:SE K XO E (tC (.bl i)) (mC (.bl i)):=fun Λ F0 H0 F H σ δ Q I a=>a F H (.refl I.same) _ (by simp only [Rep])
theorem zbD {i:Str}:SE K XO E (tC (.str i)) (mC (.str i)):=fun Λ F0 H0 F H σ δ Q I a=>a F H (.refl I.same) _ (by simp only [Rep])
def R.of {α:Type}:Option α→R α
  | some a=>.ok a
  | none=>.no
@[simp] theorem R.of_some {α:Type} (a:α):R.of (some a) = .ok a:=rfl
@[simp] theorem R.of_none {α:Type}:R.of (none:Option α) = .no:=rfl
def m2 (f:D→D→Option D) (ma mb:En→R D) (δ:En):R D:=(ma δ).bind fun x=>(mb δ).bind fun y=>R.of (f x y)
def m1 (f:D→Option D) (ma:En→R D) (δ:En):R D:=(ma δ).bind fun x=>R.of (f x)
@[simp] theorem zdJ {f:D→D→Option D} {ma mb:En→R D} {δ:En}:m2 f ma mb δ=(ma δ).bind fun x=>(mb δ).bind fun y=>R.of (f x y):=rfl
@[simp] theorem zkE {f:D→Option D} {ma:En→R D} {δ:En}:m1 f ma δ=(ma δ).bind fun x=>R.of (f x):=rfl
variable (K) in
def SR (r:R2) (f:D→D→Option D):Prop:=∀ F H x y dx dy d Q,Same F H→Top K F H dx x→Top K F H dy y→f dx dy=some d→(∀ v F' H',Ext F H F' H'→Rep K F' d v→Q v H')→r x y H Q
variable (K) in
def SRo (r:R2) (f:D→D→Option D):Prop:=∀ F H x y dx dy d Q,Same F H→Top K F H dx x→Top K F H dy y→f dx dy=some d→(∀ p F' H',Ext F H F' H'→F' p=none→H p=none→Own K F' H' d p→Q (.ref p) H')→r x y H Q
theorem zaj {r:R2} {f:D→D→Option D} (hr:SR K r f) (ha:SEr K XO E ta ma) (hb:SEr K XO E tb mb):SE K XO E (tOp r ta tb) (m2 f ma mb):=by
  intro Λ F0 H0 F H σ δ Q I a
  refine ha Λ F0 H0 F H σ δ _ I (a.bind.imp fun dx F1 H1 e1 a1 x rx=>?_)
  refine hb Λ F0 H0 F1 H1 σ δ _ (I.grow e1) (a1.bind.imp fun dy F2 H2 e2 a2 y ry=>?_)
  cases q:f dx dy with
  | none=>rw [q] at a2; exact a2.elim
  | some d =>
    rw [q] at a2
    exact hr F2 H2 x y dx dy d Q e2.fh (rx.mono e2.ff e2.hh) ry q fun v F' H' e r=>a2 F' H' e v r
theorem ziF {r:R2} {f:D→D→Option D} (hr:SRo K r f) (ha:SEr K XO E ta ma) (hb:SEr K XO E tb mb):SEo K XO E (tOp r ta tb) (m2 f ma mb):=by
  intro Λ F0 H0 F H σ δ Q I a
  refine ha Λ F0 H0 F H σ δ _ I (a.bind.imp fun dx F1 H1 e1 a1 x rx=>?_)
  refine hb Λ F0 H0 F1 H1 σ δ _ (I.grow e1) (a1.bind.imp fun dy F2 H2 e2 a2 y ry=>?_)
  cases q:f dx dy with
  | none=>rw [q] at a2; exact a2.elim
  | some d =>
    rw [q] at a2
    exact hr F2 H2 x y dx dy d Q e2.fh (rx.mono e2.ff e2.hh) ry q fun p F' H' e h0 h1 o=>a2 F' H' e p h0 (e1.hh.free (e2.hh.free h1)) o
def mNil (_:En):R (List D):=.ok []
def zab (ma:En→R D) (mr:En→R (List D)) (δ:En):R (List D):=(ma δ).bind fun x=>(mr δ).bind fun l=>.ok (x :: l)
theorem zau:SA K XO E tNil mNil:=fun Λ F0 H0 F H σ δ Q I a=>a F H (.refl I.same) _ .nil
theorem zad {tr:TA} {mr:En→R (List D)} (ha:SE K XO E ta ma) (hr:SA K XO E tr mr):SA K XO E (zf6 ta tr) (zab ma mr):=by
  intro Λ F0 H0 F H σ δ Q I a
  refine ha Λ F0 H0 F H σ δ _ I (a.bind.imp fun dx F1 H1 e1 a1 x rx=>?_)
  refine hr Λ F0 H0 F1 H1 σ δ _ (I.grow e1) (a1.bind.imp fun dy F2 H2 e2 a2 y ry=>?_)
  exact a2 F2 H2 (.refl e2.fh) _ (.cons (Rep.mono e2.ff _ rx) ry)
theorem zaX:SAr K XO E tNil mNil:=fun Λ F0 H0 F H σ δ Q I a=>a F H (.refl I.same) _ .nil
theorem zaE {tr:TA} {mr:En→R (List D)} (ha:SEr K XO E ta ma) (hr:SAr K XO E tr mr):SAr K XO E (zf6 ta tr) (zab ma mr):=by
  intro Λ F0 H0 F H σ δ Q I a
  refine ha Λ F0 H0 F H σ δ _ I (a.bind.imp fun dx F1 H1 e1 a1 x rx=>?_)
  refine hr Λ F0 H0 F1 H1 σ δ _ (I.grow e1) (a1.bind.imp fun dy F2 H2 e2 a2 y ry=>?_)
  exact a2 F2 H2 (.refl e2.fh) _ (.cons (rx.mono e2.ff e2.hh) ry)
def mTup (ml:En→R (List D)) (δ:En):R D:=(ml δ).bind fun l=>ifC (l.length ≤ sizeLine) (.ok (.tup l)) .no
def mLst (ml:En→R (List D)) (δ:En):R D:=(ml δ).bind fun l=>ifC (l.length ≤ sizeLine) (.ok (.lst l)) .no
theorem zc8 {tl:TA} {ml:En→R (List D)} (h:SA K XO E tl ml):SE K XO E (tTup tl) (mTup ml):=by
  intro Λ F0 H0 F H σ δ Q I a
  refine h Λ F0 H0 F H σ δ _ I (a.bind.imp fun ds F1 H1 e1 a1 vs r=>?_)
  unfold ifC at a1
  split at a1
  · rename_i hl
    refine ⟨by rw [r.length]; exact hl,fun p hp=>a1 _ _ (.new e1.fh hp) _ ?_⟩
    simp only [Rep]
    exact ⟨p,vs,rfl,zaD,r.mono (Same.upd (e1.fh.free hp))⟩
  · exact a1.elim
theorem zdq {tl:TA} {ml:En→R (List D)} (h:SA K XO E tl ml):SEo K XO E (tLst tl) (mLst ml):=by
  intro Λ F0 H0 F H σ δ Q I a
  refine h Λ F0 H0 F H σ δ _ I (a.bind.imp fun ds F1 H1 e1 a1 vs r=>?_)
  unfold ifC at a1
  split at a1
  · rename_i hl
    refine ⟨by rw [r.length]; exact hl,fun p hp=>a1 _ _ (.newO e1.fh hp) _ (e1.fh.free hp) (e1.hh.free hp) ⟨vs,zaD,r⟩⟩
  · exact a1.elim
def asB:D→Option Bool
  | .bl b=>some b
  | _=>none
def zav (me:En→R D) (δ:En):R Bool:=(me δ).bind fun d=>R.of (asB d)
theorem zaJ (h:SE K XO E te me):ST K XO E (zjE te) (zav me):=by
  intro Λ F0 H0 F H σ δ Q I a
  refine h Λ F0 H0 F H σ δ _ I (a.bind.imp fun d F1 H1 e1 a1 v r=>?_)
  cases d with
  | bl b=>simp only [Rep] at r; exact ⟨b,r,a1 F1 H1 (.refl e1.fh)⟩
  | _=>exact a1.elim
theorem st_b (h:SE K XO E te me):ST K XO E (tB te) (zav me):=zaJ h
variable {tA tB':TT} {nA nB:En→R Bool}
def mOr (nA nB:En→R Bool) (δ:En):R Bool:=(nA δ).bind fun b=>if b=true then .ok true else nB δ
def mNot (nA:En→R Bool) (δ:En):R Bool:=(nA δ).bind fun b=>.ok (!b)
theorem zd5 (h:ST K XO E tA nA) (h':ST K XO E tB' nB):ST K XO E (tOr tA tB') (mOr nA nB):=by
  intro Λ F0 H0 F H σ δ Q I a
  refine h Λ F0 H0 F H σ δ _ I (a.bind.imp fun b F1 H1 e1 a1=>?_)
  cases b with
  | false=>exact h' Λ F0 H0 F1 H1 σ δ _ (I.grow e1) a1
  | true=>exact a1 F1 H1 (.refl e1.fh)
theorem zdx (h:ST K XO E tA nA):ST K XO E (tNot tA) (mNot nA):=by
  intro Λ F0 H0 F H σ δ Q I a
  exact h Λ F0 H0 F H σ δ _ I (a.bind.imp fun b F1 H1 e1 a1=>a1 F1 H1 (.refl e1.fh))
def ze6 (ma mb:En→R D) (δ:En):R D:=(ma δ).bind fun d=>(R.of (asB d)).bind fun b=>if b=true then mb δ else .ok (.bl false)
def mOrV (ma mb:En→R D) (δ:En):R D:=(ma δ).bind fun d=>(R.of (asB d)).bind fun b=>if b=true then .ok (.bl true) else mb δ
def zim (ma:En→R D) (δ:En):R D:=(ma δ).bind fun d=>(R.of (asB d)).bind fun b=>.ok (.bl (!b))
theorem zfK (h:SE K XO E ta ma) (h':SE K XO E tb mb):SE K XO E (zjw ta tb) (ze6 ma mb):=by
  intro Λ F0 H0 F H σ δ Q I a
  refine h Λ F0 H0 F H σ δ _ I (a.bind.imp fun d F1 H1 e1 a1 v r=>?_)
  cases d with
  | bl b =>
    simp only [Rep] at r
    refine ⟨b,r,?_⟩
    cases b with
    | true=>exact h' Λ F0 H0 F1 H1 σ δ _ (I.grow e1) a1
    | false=>exact a1 F1 H1 (.refl e1.fh) _ (by simp only [Rep])
  | _=>exact a1.elim
theorem zji (h:SE K XO E ta ma) (h':SE K XO E tb mb):SE K XO E (tOrV ta tb) (mOrV ma mb):=by
  intro Λ F0 H0 F H σ δ Q I a
  refine h Λ F0 H0 F H σ δ _ I (a.bind.imp fun d F1 H1 e1 a1 v r=>?_)
  cases d with
  | bl b =>
    simp only [Rep] at r
    refine ⟨b,r,?_⟩
    cases b with
    | false=>exact h' Λ F0 H0 F1 H1 σ δ _ (I.grow e1) a1
    | true=>exact a1 F1 H1 (.refl e1.fh) _ (by simp only [Rep])
  | _=>exact a1.elim
theorem zju (h:SE K XO E ta ma):SE K XO E (zjL ta) (zim ma):=by
  intro Λ F0 H0 F H σ δ Q I a
  refine h Λ F0 H0 F H σ δ _ I (a.bind.imp fun d F1 H1 e1 a1 v r=>?_)
  cases d with
  | bl b =>
    simp only [Rep] at r
    exact ⟨b,r,a1 F1 H1 (.refl e1.fh) _ (by simp only [Rep])⟩
  | _=>exact a1.elim
def spM (K:Kx) (XO:XOT) (f:List D→R D):Sp:=fun vs H Q E=>∃ F ds,Same F H∧RepL K F ds vs∧Aft (fun _=>E) XO [] F H (fun d F' H'=>∀ v,Rep K F' d v→Q v H') (f ds)
def R.nev {α:Type}:R α→R α
  | .ex _=>.no
  | r=>r
@[simp] theorem R.nev_ok {α:Type} (a:α):(R.ok a).nev = .ok a:=rfl
def zai (f:List D→R D) (ml:En→R (List D)) (δ:En):R D:=(ml δ).bind fun l=>(f l).nev
theorem Aft.any {α:Type} {E E':St→XK} {σ σ':St} {F H:Hp} {P:α→Hp→Hp→Prop} {r:R α} (h:Aft E XO σ F H P r.nev):Aft E' XO σ' F H P r:=by
  cases r with
  | no=>exact h
  | ok a=>exact h
  | ex x=>exact h.elim
theorem zap {f:List D→R D} {tl:TA} {ml:En→R (List D)} {E':XK} (h:SA K XO E tl ml):SE K XO E (ziq (spM K XO f) [] E' tl) (zai f ml):=by
  intro Λ F0 H0 F H σ δ Q I a
  refine h Λ F0 H0 F H σ δ _ I (a.bind.imp fun ds F1 H1 e1 a1 vs r=>⟨F1,ds,e1.fh,by rw [List.append_nil]; exact r,a1.any⟩)
variable (K) in
def SG (g:TG) (b:D→En→Option En):Prop:=∀ Λ F0 H0 F H σ δ d v δ' Q,EnvOk K Λ F0 H0 F H σ δ→Rep K F d v→b d δ=some δ'→(∀ σ',EnvOk K Λ F0 H0 F H σ' δ'→Q σ' H)→g v σ H Q
variable (K) in
def SGs (g:TGs) (b:List D→En→Option En):Prop:=∀ Λ F0 H0 F H σ δ d v δ' Q,EnvOk K Λ F0 H0 F H σ δ→RepL K F d v→b d δ=some δ'→(∀ σ',EnvOk K Λ F0 H0 F H σ' δ'→Q σ' H)→g v σ H Q
def zax (i:Nat) (d:D) (δ:En):Option En:=match δ[i]? with | none=>none | some (.l _)=>none | some _=>some (δ.set i (.v d))
def zbg (i:Nat) (d:D) (δ:En):Option En:=match δ[i]? with | some .no=>some (δ.set i (.v d)) | _=>none
def bNil (l:List D) (δ:En):Option En:=match l with | []=>some δ | _=>none
def zcP (b:D→En→Option En) (c:List D→En→Option En) (l:List D) (δ:En):Option En:=match l with | d :: r=>(b d δ).bind (c r) | []=>none
def bTup (n:Nat) (c:List D→En→Option En) (d:D) (δ:En):Option En:=match d with | .tup l=>if l.length=n then c l δ else none | _=>none
theorem zaw {i:Nat}:SG K (zgr i) (zax i):=by
  intro Λ F0 H0 F H σ δ d v δ' Q I r e q
  unfold zax at e
  split at e
  · cases e
  · cases e
  · rename_i x h2 h1
    cases e
    exact q _ (I.put ⟨x,h1,fun d' z=>h2 d' (by rw [z])⟩ r)
theorem zbz {i:Nat}:SG K (zgr i) (zbg i):=by
  intro Λ F0 H0 F H σ δ d v δ' Q I r e q
  unfold zbg at e
  split at e
  · rename_i h1
    cases e
    exact q _ (I.put ⟨_,h1,fun d' z=>by cases z⟩ r)
  · cases e
theorem zeX:SGs K gNil bNil:=by
  intro Λ F0 H0 F H σ δ d v δ' Q I r e q
  cases d with
  | nil=>simp only [RepL] at r; cases e; exact ⟨r,q _ I⟩
  | cons x l=>cases e
theorem zb2 {g:TG} {h:TGs} {b:D→En→Option En} {c:List D→En→Option En} (hg:SG K g b) (hh:SGs K h c):SGs K (zjQ g h) (zcP b c):=by
  intro Λ F0 H0 F H σ δ d v δ' Q I r e q
  cases d with
  | nil=>cases e
  | cons x l =>
    simp only [RepL] at r
    obtain ⟨u,w,rfl,r1,r2⟩:=r
    change (b x δ).bind (c l)=some δ' at e
    cases z:b x δ with
    | none=>rw [z] at e; cases e
    | some δ1 =>
      rw [z] at e
      exact ⟨u,w,rfl,hg Λ F0 H0 F H σ δ x u δ1 _ I r1 z fun σ1 I1=>hh Λ F0 H0 F H σ1 δ1 l w δ' Q I1 r2 e q⟩
theorem zgI {n:Nat} {h:TGs} {c:List D→En→Option En} (hh:SGs K h c):SG K (gTup K.f n h) (bTup n c):=by
  intro Λ F0 H0 F H σ δ d v δ' Q I r e q
  cases d with
  | tup l =>
    simp only [Rep] at r
    obtain ⟨a,vs,rfl,h1,h2⟩:=r
    simp only [bTup] at e
    split at e
    · rename_i hn
      exact ⟨a,vs,rfl,.inl (.inl (I.same _ _ h1)),by rw [h2.length]; exact hn,hh Λ F0 H0 F H σ δ l vs δ' Q I h2 e q⟩
    · cases e
  | _=>cases e
def Weak (δ δ':En):Prop:=δ.length=δ'.length∧∀ i:Nat,δ[i]?=some .no∨δ[i]?=δ'[i]?
theorem Weak.refl (δ:En):Weak δ δ:=⟨rfl,fun _=>.inr rfl⟩
theorem Weak.trans {a b c:En} (h:Weak a b) (h':Weak b c):Weak a c:=⟨h.1.trans h'.1,fun i=>by
  rcases h.2 i with z | z
  · exact .inl z
  · rcases h'.2 i with y | y
    · exact .inl (z.trans y)
    · exact .inr (z.trans y)⟩
def BW (b:D→En→Option En):Prop:=∀ d δ δ',b d δ=some δ'→Weak δ δ'
def BWs (b:List D→En→Option En):Prop:=∀ d δ δ',b d δ=some δ'→Weak δ δ'
theorem zb6 {i:Nat}:BW (zbg i):=by
  intro d δ δ' e
  unfold zbg at e
  split at e
  · rename_i h1
    cases e
    refine ⟨by simp,fun j=>?_⟩
    by_cases h:i=j
    · subst h; exact .inl h1
    · exact .inr (by rw [List.getElem?_set_ne h])
  · cases e
theorem zhp:BWs bNil:=by
  intro d δ δ' e
  cases d with
  | nil=>cases e; exact .refl _
  | cons x l=>cases e
theorem zdN {b:D→En→Option En} {c:List D→En→Option En} (h:BW b) (h':BWs c):BWs (zcP b c):=by
  intro d δ δ' e
  cases d with
  | nil=>cases e
  | cons x l =>
    change (b x δ).bind (c l)=some δ' at e
    cases z:b x δ with
    | none=>rw [z] at e; cases e
    | some δ1=>rw [z] at e; exact (h _ _ _ z).trans (h' _ _ _ e)
theorem ziT {n:Nat} {c:List D→En→Option En} (h:BWs c):BW (bTup n c):=by
  intro d δ δ' e
  cases d with
  | tup l =>
    simp only [bTup] at e
    split at e
    · exact h _ _ _ e
    · cases e
  | _=>cases e
variable (K) in
def IsIt (J:It) (P:Hp→Hp→Prop) (ds:List D):Prop:=∀ F2 H2,P F2 H2→∀ i:Nat,(∀ d,ds[i]?=some d→J.go i H2∧∀ x H',J.yld i H2 x H'→∃ F3,Ext F2 H2 F3 H'∧Rep K F3 d x)∧(ds[i]?=none→J.stop i H2)
variable (K XO E) in
def SI (wi:TI) (m:En→R (List D)):Prop:=∀ Λ F0 H0 F H σ δ R,EnvOk K Λ F0 H0 F H σ δ→Aft E XO σ F H (fun ds F1 H1=>∀ J,IsIt K J (fun F2 H2=>Same F1 F2∧Same F2 H2) ds→R J H1) (m δ)→wi σ H R
variable (K XO E) in
def SIc (wi:TI) (m:En→R (List D)):Prop:=∀ Λ F0 H0 F H σ δ R,EnvOk K Λ F0 H0 F H σ δ→Aft E XO σ F H (fun ds F1 H1=>∀ J,IsIt K J (fun F2 H2=>Ext F1 H1 F2 H2) ds→R J H1) (m δ)→wi σ H R
theorem SI.c {wi:TI} {m:En→R (List D)} (h:SI K XO E wi m):SIc K XO E wi m:=fun Λ F0 H0 F H σ δ R I a=>h Λ F0 H0 F H σ δ R I (a.imp fun ds F1 H1 e p J hJ=>p J fun F2 H2 x=>hJ F2 H2 ⟨x.ff,x.fh⟩)
def asL:D→Option (List D)
  | .lst l=>some l
  | .scr l=>some (l.map .int)
  | _=>none
def mItL (ml:En→R D) (δ:En):R (List D):=(ml δ).bind fun d=>R.of (asL d)
theorem zc6 {a:Addr} {ds:List D} {vs:List V} {F1:Hp} {P:Hp→Hp→Prop} (r:RepL K F1 ds vs) (h:∀ F2 H2,P F2 H2→Same F1 F2∧Same F2 H2∧SqL K.f H2 a vs):IsIt K (Itl K.f a) P ds:=by
  intro F2 H2 p i
  obtain ⟨s1,s2,q⟩:=h F2 H2 p
  refine ⟨fun d hd=>?_,fun hn=>?_⟩
  · obtain ⟨v,hv,rv⟩:=r.get hd
    refine ⟨⟨vs,v,q,hv⟩,fun x H' y=>?_⟩
    obtain ⟨rfl,y⟩:=y
    have z:=y vs q
    rw [hv] at z; cases z
    exact ⟨F2,.refl s2,Rep.mono s1 _ rv⟩
  · exact ⟨vs,q,by rw [r.length]; exact List.getElem?_eq_none_iff.mp hn⟩
theorem zgs (h:SE K XO E te me):SI K XO E (ziZ K.f te) (mItL me):=by
  intro Λ F0 H0 F H σ δ R I a
  refine h Λ F0 H0 F H σ δ _ I (a.bind.imp fun d F1 H1 e1 a1 v r=>?_)
  cases d with
  | lst l =>
    simp only [Rep] at r
    obtain ⟨a,vs,rfl,h1,h2⟩:=r
    exact ⟨a,rfl,⟨vs,.inl (PM.Same.rd e1.fh h1)⟩,a1 F1 H1 (.refl e1.fh) _ (zc6 h2 fun F2 H2 x=>⟨x.1,x.2,.inl (PM.Same.rd x.2 (PM.Same.rd x.1 h1))⟩)⟩
  | scr l =>
    simp only [Rep] at r
    obtain ⟨a,rfl,h1⟩:=r
    exact ⟨a,rfl,⟨_,e1.fh.seq h1⟩,a1 F1 H1 (.refl e1.fh) _ (zc6 .ints fun F2 H2 x=>⟨x.1,x.2,x.2.seq (x.1.seq h1)⟩)⟩
  | _=>exact a1.elim
theorem zcL (h:SEr K XO E te me):SIc K XO E (ziZ K.f te) (mItL me):=by
  intro Λ F0 H0 F H σ δ R I a
  refine h Λ F0 H0 F H σ δ _ I (a.bind.imp fun d F1 H1 e1 a1 v r=>?_)
  cases d with
  | lst l =>
    obtain ⟨a,vs,rfl,h1,h2⟩:=r
    exact ⟨a,rfl,⟨vs,.inl h1⟩,a1 F1 H1 (.refl e1.fh) _ (zc6 h2 fun F2 H2 x=>⟨x.ff,x.fh,.inl (PM.Same.rd x.hh h1)⟩)⟩
  | scr l =>
    simp only [Top,Rep] at r
    obtain ⟨a,rfl,h1⟩:=r
    exact ⟨a,rfl,⟨_,e1.fh.seq h1⟩,a1 F1 H1 (.refl e1.fh) _ (zc6 .ints fun F2 H2 x=>⟨x.ff,x.fh,x.fh.seq (x.ff.seq h1)⟩)⟩
  | _=>exact a1.elim
def zfD (lo:Int) (n:Nat):List D:=(List.range n).map fun (k:Nat)=>D.int (lo + (k:Int))
theorem zg8 {lo:Int} {n:Nat} {P:Hp→Hp→Prop} (h:∀ F2 H2,P F2 H2→Same F2 H2):IsIt K (Itr lo n) P (zfD lo n):=by
  intro F2 H2 p i
  unfold zfD
  rw [List.getElem?_map]
  have er:(List.range n)[i]?=if i < n then some i else none:=by
    by_cases hi:i < n
    · rw [if_pos hi,List.getElem?_range hi]
    · rw [if_neg hi,List.getElem?_eq_none_iff]; simpa using hi
  rw [er]
  refine ⟨fun d hd=>?_,fun hn=>?_⟩
  · by_cases hi:i < n
    · rw [if_pos hi] at hd
      cases hd
      refine ⟨hi,fun x H' y=>?_⟩
      obtain ⟨rfl,rfl⟩:=y
      exact ⟨F2,.refl (h F2 _ p),by simp only [Rep]⟩
    · rw [if_neg hi] at hd; cases hd
  · by_cases hi:i < n
    · rw [if_pos hi] at hn; cases hn
    · exact Nat.le_of_not_lt hi
def rng (l:List D):Option (List D):=match l with
  | [.int j]=>ifC (-(2 ^ 62) ≤ j∧j < 2 ^ 62) (some (zfD 0 j.toNat)) none
  | [.int i,.int j]=>ifC (-(2 ^ 62) ≤ i∧i < 2 ^ 62∧-(2 ^ 62) ≤ j∧j < 2 ^ 62) (some (zfD i (j - i).toNat)) none
  | _=>none
def mRng (ml:En→R (List D)) (δ:En):R (List D):=(ml δ).bind fun l=>R.of (rng l)
theorem RepL.two {F:Hp} {d e:D} {vs:List V} (r:RepL K F [d,e] vs):∃ v u,vs = [v,u]∧Rep K F d v∧Rep K F e u:=by
  simp only [RepL] at r
  obtain ⟨v,r',rfl,h,v2,r2,rfl,h2,rfl⟩:=r
  exact ⟨v,v2,rfl,h,h2⟩
theorem zhx {tl:TA} {ml:En→R (List D)} (hn:∀ δ l,ml δ = .ok l→l.length=2) (h:SA K XO E tl ml):SI K XO E (zjP tl) (mRng ml):=by
  intro Λ F0 H0 F H σ δ R I a
  unfold mRng at a
  cases hm:ml δ with
  | no=>rw [hm] at a; exact a.elim
  | ex x=>refine h Λ F0 H0 F H σ δ _ I ?_; rw [hm] at a ⊢; exact a
  | ok l =>
    refine h Λ F0 H0 F H σ δ _ I ?_
    rw [hm] at a ⊢
    intro F1 H1 e1 vs r
    have h1:=hn δ l hm
    match l,h1 with
    | [d,d'],_ =>
      obtain ⟨v,u,rfl,rv,ru⟩:=r.two
      have a1:=Aft.mono e1 a
      cases d with
      | int i =>
        cases d' with
        | int j =>
          simp only [Rep] at rv ru
          subst rv ru
          change Aft E XO σ F1 H1 _ (PM.R.of (ifC (-(2 ^ 62) ≤ i∧i < 2 ^ 62∧-(2 ^ 62) ≤ j∧j < 2 ^ 62) _ _)) at a1
          by_cases hj : -(2 ^ 62) ≤ i∧i < 2 ^ 62∧-(2 ^ 62) ≤ j∧j < 2 ^ 62
          · rw [za3 hj] at a1
            exact ⟨i,j,rfl,hj,a1 F1 H1 (.refl e1.fh) _ (zg8 fun F2 H2 x=>x.2)⟩
          · rw [zjl hj] at a1; exact a1.elim
        | _=>exact a1.elim
      | _=>exact a1.elim
theorem len2 {ma mb:En→R D}:∀ δ l,zab ma (zab mb mNil) δ = .ok l→l.length=2:=by
  intro δ l h
  unfold zab mNil at h
  cases e:ma δ with
  | ok d =>
    rw [e] at h
    cases e2:mb δ with
    | ok d=>rw [R.bind_ok,e2] at h; cases h; rfl
    | no=>rw [R.bind_ok,e2] at h; cases h
    | ex x=>rw [R.bind_ok,e2] at h; cases h
  | no=>rw [e] at h; cases h
  | ex x=>rw [e] at h; cases h
def zg7 (l:List D):List D:=l.mapIdx fun i d=>.tup [.int i,d]
theorem zhM {a:Addr} {ds:List D} {vs:List V} {F1:Hp} {P:Hp→Hp→Prop} (r:RepL K F1 ds vs) (h:∀ F2 H2,P F2 H2→Same F1 F2∧Same F2 H2∧SqL K.f H2 a vs):IsIt K (Ite K.f a) P (zg7 ds):=by
  intro F2 H2 p i
  obtain ⟨s1,s2,q⟩:=h F2 H2 p
  unfold zg7
  rw [List.getElem?_mapIdx]
  refine ⟨fun d hd=>?_,fun hn=>?_⟩
  · cases e:ds[i]? with
    | none=>rw [e] at hd; cases hd
    | some x =>
      rw [e] at hd
      cases hd
      obtain ⟨v,hv,rv⟩:=r.get e
      refine ⟨⟨vs,v,q,hv⟩,fun x' H' y=>?_⟩
      obtain ⟨p',y',rfl,hp,rfl,y⟩:=y
      have z:=y vs q
      rw [hv] at z; cases z
      refine ⟨_,.new s2 hp,?_⟩
      simp only [Rep]
      exact ⟨p',_,rfl,zaD,.cons (by simp only [Rep]) (.cons (Rep.mono (s1.trans (Same.upd (s2.free hp))) _ rv) .nil)⟩
  · cases e:ds[i]? with
    | none=>exact ⟨vs,q,by rw [r.length]; exact List.getElem?_eq_none_iff.mp e⟩
    | some x=>rw [e] at hn; cases hn
def asL':D→Option (List D)
  | .lst l=>some l
  | _=>none
def zh9:List D→Option (List D)
  | [d]=>(asL' d).map zg7
  | _=>none
def zjf (ml:En→R (List D)) (δ:En):R (List D):=(ml δ).bind fun l=>R.of (zh9 l)
theorem zha {l r:List D} (h:zh9 l=some r):∃ x,l = [.lst x]∧r=zg7 x:=by
  cases l with
  | nil=>cases h
  | cons d t =>
    cases t with
    | cons _ _=>cases h
    | nil =>
      cases d with
      | lst x=>cases h; exact ⟨x,rfl,rfl⟩
      | _=>cases h
theorem zh8 {tl:TA} {ml:En→R (List D)} (h:SAr K XO E tl ml):SIc K XO E (zj2 K.f tl) (zjf ml):=by
  intro Λ F0 H0 F H σ δ R I a
  refine h Λ F0 H0 F H σ δ _ I (a.bind.imp fun ds F1 H1 e1 a1 vs r=>?_)
  cases q:zh9 ds with
  | none=>rw [q] at a1; exact a1.elim
  | some z =>
    rw [q] at a1
    obtain ⟨l,rfl,rfl⟩:=zha q
    cases r with
    | cons r r' =>
      cases r'
      obtain ⟨a,vs,rfl,h1,h2⟩:=r
      exact ⟨a,rfl,⟨vs,.inl h1⟩,a1 F1 H1 (.refl e1.fh) _ (zhM h2 fun F2 H2 x=>⟨x.ff,x.fh,.inl (PM.Same.rd x.hh h1)⟩)⟩
end
end PM
namespace PM
open PySem L2
section
variable (K:Kx) (XO:XOT) (E:St→XK)
def AftS (Λ:List (Nat × Addr × HO)) (F0 H0:Hp) (Dn:Ends):O→Prop
  | .no=>False
  | .nx δ=>∀ σ F H,EnvOk K Λ F0 H0 F H σ δ→Dn.nx σ H
  | .bk δ=>∀ σ F H,EnvOk K Λ F0 H0 F H σ δ→Dn.bk σ H
  | .ct δ=>∀ σ F H,EnvOk K Λ F0 H0 F H σ δ→Dn.ct σ H
  | .rt d=>∀ v F H,Ext F0 H0 F H→Rep K F d v→Dn.rt v H
  | .ro d=>∀ p F H,Ext F0 H0 F H→F p=none→H0 p=none→Own K F H d p→Dn.rt (.ref p) H
  | .ex δ x=>∀ σ F H C dct,EnvOk K Λ F0 H0 F H σ δ→XO x F H C dct→E σ C dct H
def SS (t:TS) (m:En→O):Prop:=∀ Λ F0 H0 F H σ δ Dn,EnvOk K Λ F0 H0 F H σ δ→AftS K XO E Λ F0 H0 Dn (m δ)→t Dn σ H
end
def R.toO {α:Type} (r:R α) (δ:En) (f:α→O):O:=match r with | .no=>.no | .ok a=>f a | .ex x=>.ex δ x
@[simp] theorem R.toO_ok {α:Type} (a:α) (δ:En) (f:α→O):(R.ok a).toO δ f=f a:=rfl
@[simp] theorem R.toO_no {α:Type} (δ:En) (f:α→O):(R.no:R α).toO δ f = .no:=rfl
@[simp] theorem R.toO_ex {α:Type} (x:Xc) (δ:En) (f:α→O):(R.ex x:R α).toO δ f = .ex δ x:=rfl
section
variable {K:Kx} {XO:XOT} {E:St→XK} {ta tb te:TE} {ma mb me:En→R D} {t u:TS} {m n:En→O} {Λ:List (Nat × Addr × HO)} {F0 H0 F H F1 H1:Hp} {σ:St} {δ:En} {Dn:Ends}
theorem AftS.of {α:Type} {r:R α} {f:α→O} (I:EnvOk K Λ F0 H0 F H σ δ) (a:AftS K XO E Λ F0 H0 Dn (r.toO δ f)):Aft E XO σ F H (fun a _ _=>AftS K XO E Λ F0 H0 Dn (f a)) r:=by
  cases r with
  | no=>exact a
  | ok b=>exact fun _ _ _=>a
  | ex x=>exact fun C dct F' H' e h=>a σ F' H' C dct (I.grow e) h
theorem AftS.up (e:Ext F0 H0 F1 H1):∀ {o:O},AftS K XO E Λ F0 H0 Dn o→AftS K XO E Λ F1 H0 Dn o
  | .no,h=>h
  | .nx _,h=>fun σ F H I=>h σ F H (I.down e)
  | .bk _,h=>fun σ F H I=>h σ F H (I.down e)
  | .ct _,h=>fun σ F H I=>h σ F H (I.down e)
  | .rt _,h=>fun v F H x=>h v F H (e.base x)
  | .ro _,h=>fun p F H x=>h p F H (e.base x)
  | .ex _ _,h=>fun σ F H C d I=>h σ F H C d (I.down e)
def zaU (δ:En):O:=.nx δ
def mSeq (m n:En→O) (δ:En):O:=match m δ with | .nx δ'=>n δ' | r=>r
theorem zaW:SS K XO E zke zaU:=fun Λ F0 H0 F H σ δ Dn I a=>a σ F H I
theorem zaq (h:SS K XO E t m) (h':SS K XO E u n):SS K XO E (tSeq t u) (mSeq m n):=by
  intro Λ F0 H0 F H σ δ Dn I a
  refine h Λ F0 H0 F H σ δ _ I ?_
  unfold mSeq at a
  cases q:m δ with
  | no=>rw [q] at a; exact a
  | nx δ'=>rw [q] at a; exact fun σ' F' H' I'=>h' Λ F0 H0 F' H' σ' δ' Dn I' a
  | rt d=>rw [q] at a; exact a
  | ro d=>rw [q] at a; exact a
  | bk δ'=>rw [q] at a; exact a
  | ct δ'=>rw [q] at a; exact a
  | ex δ' x=>rw [q] at a; exact a
theorem zgQ:SS K XO E ziC (fun _=>.no):=fun Λ F0 H0 F H σ δ Dn I a=>a
def mRet (me:En→R D) (δ:En):O:=(me δ).toO δ .rt
theorem zaG (h:SE K XO E te me):SS K XO E (tRet te) (mRet me):=by
  intro Λ F0 H0 F H σ δ Dn I a
  exact h Λ F0 H0 F H σ δ _ I ((AftS.of I a).imp fun d F1 H1 e p v r=>p v F1 H1 (I.ext.trans e) r)
def zgd (me:En→R D) (δ:En):O:=(me δ).toO δ .ro
theorem zh0 (h:SEo K XO E te me):SS K XO E (tRet te) (zgd me):=by
  intro Λ F0 H0 F H σ δ Dn I a
  exact h Λ F0 H0 F H σ δ _ I ((AftS.of I a).imp fun d F1 H1 e p v h0 h1 o=>p v F1 H1 (I.ext.trans e) h0 (I.ext.hh.free h1) o)
def mDo (me:En→R D) (δ:En):O:=(me δ).toO δ fun _=>.nx δ
theorem zbN (h:SE K XO E te me):SS K XO E (zi2 te) (mDo me):=by
  intro Λ F0 H0 F H σ δ Dn I a
  exact h Λ F0 H0 F H σ δ _ I ((AftS.of I a).imp fun d F1 H1 e p v r=>p σ F1 H1 (I.grow e))
def mIfS (n:En→R Bool) (m m':En→O) (δ:En):O:=(n δ).toO δ fun b=>if b=true then m δ else m' δ
theorem zbH {tc:TT} {nc:En→R Bool} (h:ST K XO E tc nc) (ha:SS K XO E t m) (hb:SS K XO E u n):SS K XO E (tIfS tc t u) (mIfS nc m n):=by
  intro Λ F0 H0 F H σ δ Dn I a
  refine h Λ F0 H0 F H σ δ _ I ((AftS.of I a).imp fun b F1 H1 e p=>?_)
  cases b with
  | true=>exact ha Λ F0 H0 F1 H1 σ δ Dn (I.grow e) p
  | false=>exact hb Λ F0 H0 F1 H1 σ δ Dn (I.grow e) p
def O.of:Option En→O
  | some δ=>.nx δ
  | none=>.no
@[simp] theorem O.of_some (δ:En):O.of (some δ) = .nx δ:=rfl
@[simp] theorem O.of_none:O.of none = .no:=rfl
def mAsg (me:En→R D) (b:D→En→Option En) (δ:En):O:=(me δ).toO δ fun d=>O.of (b d δ)
theorem zaQ {g:TG} {b:D→En→Option En} (h:SE K XO E te me) (hg:SG K g b):SS K XO E (tAsg te g) (mAsg me b):=by
  intro Λ F0 H0 F H σ δ Dn I a
  refine h Λ F0 H0 F H σ δ _ I ((AftS.of I a).imp fun d F1 H1 e p v r=>?_)
  cases q:b d δ with
  | none=>rw [q] at p; exact p.elim
  | some δ'=>rw [q] at p; exact hg Λ F0 H0 F1 H1 σ δ d v δ' _ (I.grow e) r q fun σ' I'=>p σ' F1 H1 I'
def bNew (i:Nat) (d:D) (δ:En):Option En:=match δ[i]? with | none=>none | some (.l _)=>none | some _=>some (δ.set i (.o d))
theorem zkh {i:Nat} (h:SEo K XO E te me):SS K XO E (tAsg te (zgr i)) (mAsg me (bNew i)):=by
  intro Λ F0 H0 F H σ δ Dn I a
  refine h Λ F0 H0 F H σ δ _ I ((AftS.of I a).imp fun d F1 H1 e p v h0 h1 o=>?_)
  unfold bNew at p
  split at p
  · exact p.elim
  · exact p.elim
  · rename_i x h3 h2
    exact p _ F1 H1 (I.putO ⟨x,h2,fun d' z=>h3 d' (by rw [z])⟩ e h0 h1 o)
def mPar (i j:Nat) (ml:En→R (List D)) (δ:En):O:=(ml δ).toO δ fun l=>match l with | [x,y]=>O.of ((zax i x δ).bind (zax j y)) | _=>.no
theorem zjX {i j:Nat} {tl:TA} {ml:En→R (List D)} (h:SA K XO E tl ml):SS K XO E (tPar i j tl) (mPar i j ml):=by
  intro Λ F0 H0 F H σ δ Dn I a
  refine h Λ F0 H0 F H σ δ _ I ((AftS.of I a).imp fun l F1 H1 e p vs r=>?_)
  match l,p,r with
  | [],p,_=>exact p.elim
  | [_],p,_=>exact p.elim
  | _ :: _ :: _ :: _,p,_=>exact p.elim
  | [x,y],p,r =>
    obtain ⟨v,w,rfl,r1,r2⟩:=RepL.two r
    refine ⟨v,w,rfl,?_⟩
    cases q:zax i x δ with
    | none=>simp only [q] at p; exact p.elim
    | some δ1 =>
      cases q2:zax j y δ1 with
      | none=>simp only [q,Option.bind_some,q2] at p; exact p.elim
      | some δ2 =>
        simp only [q,Option.bind_some,q2] at p
        exact zaw Λ F0 H0 F1 H1 σ δ x v δ1 (fun σ1 H=>Dn.nx (σ1.set j (some w)) H) (I.grow e) r1 q fun σ1 I1 =>
          zaw Λ F0 H0 F1 H1 σ1 δ1 y w δ2 Dn.nx I1 r2 q2 fun σ2 I2=>p σ2 F1 H1 I2
def mFrz (i:Nat) (m:En→O) (δ:En):O:=match δ[i]? with | some (.o d)=>m (δ.set i (.v d)) | some (.v _)=>m δ | _=>.no
theorem zjT {i:Nat} (h:SS K XO E t m):SS K XO E t (mFrz i m):=by
  intro Λ F0 H0 F H σ δ Dn I a
  unfold mFrz at a
  split at a
  · rename_i d q
    obtain ⟨F',_,I'⟩:=I.frz q
    exact h Λ F0 H0 F' H σ _ Dn I' a
  · exact h Λ F0 H0 F H σ _ Dn I a
  · exact a.elim
def zeu (b:D→En→Option En) (m:En→O):List D→En→O
  | [],δ=>.nx δ
  | d :: l,δ=>match b d δ with
    | none=>.no
    | some δ1=>match m δ1 with
      | .nx δ2=>zeu b m l δ2
      | .ct δ2=>zeu b m l δ2
      | .bk δ2=>.nx δ2
      | r=>r
def mFor (mi:En→R (List D)) (b:D→En→Option En) (m:En→O) (δ:En):O:=(mi δ).toO δ fun l=>zeu b m l δ
theorem zi3 {J:It} {P:Hp→Hp→Prop} {g:TG} {b:D→En→Option En} {ds:List D} (hJ:IsIt K J P ds) (hP:∀ σ δ F H,EnvOk K Λ F0 H0 F H σ δ→P F H) (hg:SG K g b) (hb:SS K XO E t m) (I:EnvOk K Λ F0 H0 F H σ δ)
    (a:AftS K XO E Λ F0 H0 Dn (zeu b m ds δ)):∃ W:Nat→Nat→St→Hp→Prop,(∃ k,W 0 k σ H)∧∀ i k σ H,W i k σ H →
      (J.stop i H∧Dn.nx σ H)∨(J.go i H∧∃ N:St→Hp→Prop,(∀ σ' H',N σ' H'→∃ k',k' < k∧W (i + 1) k' σ' H')∧∀ x H',J.yld i H x H'→g x σ H' fun σ2 H2=>t { Dn with nx:=N,ct:=N,bk:=Dn.nx } σ2 H2):=by
  let W:Nat→Nat→St→Hp→Prop:=fun i k σ H=>∃ F δ,EnvOk K Λ F0 H0 F H σ δ∧k=ds.length - i∧i ≤ ds.length∧AftS K XO E Λ F0 H0 Dn (zeu b m (ds.drop i) δ)
  refine ⟨W,⟨ds.length,F,δ,I,rfl,Nat.zero_le _,a⟩,?_⟩
  rintro i k σ H ⟨F,δ,I,rfl,hi,a⟩
  have hP':=hP σ δ F H I
  by_cases hlt:i < ds.length
  · have e:ds.drop i=ds[i] :: ds.drop (i + 1):=List.drop_eq_getElem_cons hlt
    obtain ⟨h1,h2⟩:=(hJ F H hP' i).1 ds[i] (by simp [hlt])
    refine .inr ⟨h1,W (i + 1) (ds.length - (i + 1)),fun σ' H' w=>⟨_,by omega,w⟩,fun x H' y=>?_⟩
    obtain ⟨F3,e3,r⟩:=h2 x H' y
    rw [e] at a
    unfold zeu at a
    cases q:b ds[i] δ with
    | none=>rw [q] at a; exact a.elim
    | some δ1 =>
      rw [q] at a
      refine hg Λ F0 H0 F3 H' σ δ _ x δ1 _ (I.grow e3) r q fun σ1 I1=>hb Λ F0 H0 F3 H' σ1 δ1 _ I1 ?_
      cases q2:m δ1 with
      | no=>simp only [q2] at a; exact a
      | nx δ2=>simp only [q2] at a; exact fun σ' F' H' I'=>⟨F',δ2,I',rfl,hlt,a⟩
      | ct δ2=>simp only [q2] at a; exact fun σ' F' H' I'=>⟨F',δ2,I',rfl,hlt,a⟩
      | bk δ2=>simp only [q2] at a; exact a
      | rt d=>simp only [q2] at a; exact a
      | ro d=>simp only [q2] at a; exact a
      | ex δ' x=>simp only [q2] at a; exact a
  · have e:i=ds.length:=by omega
    subst e
    rw [List.drop_length] at a
    exact .inl ⟨(hJ F H hP' _).2 (by simp),a σ F H I⟩
theorem zfz {wi:TI} {mi:En→R (List D)} {g:TG} {b:D→En→Option En} (hi:SI K XO E wi mi) (hg:SG K g b) (hb:SS K XO E t m):SS K XO E (tFor wi g t) (mFor mi b m):=by
  intro Λ F0 H0 F H σ δ Dn I a
  refine hi Λ F0 H0 F H σ δ _ I ((AftS.of I a).imp fun ds F1 H1 e p J hJ=>?_)
  have I1:=I.grow e
  exact zi3 (F0:=F1) hJ (fun σ δ F H I=>⟨I.ext.ff,I.ext.fh⟩) hg hb I1.up (p.up I1.ext)
def zcM (c:En→R Bool) (m:En→O):Nat→En→O
  | 0,_=>.no
  | n + 1,δ=>(c δ).toO δ fun b=>if b=true then (match m δ with | .nx δ2=>zcM c m n δ2 | .ct δ2=>zcM c m n δ2 | .bk δ2=>.nx δ2 | r=>r) else .nx δ
open Classical in
def zd3 (c:En→R Bool) (m:En→O) (δ:En):O:=if h:∃ n,zcM c m n δ ≠ .no then zcM c m (choose h) δ else .no
theorem zgR {tc:TT} {nc:En→R Bool} (hc:ST K XO E tc nc) (hb:SS K XO E t m):SS K XO E (ziS tc t) (zd3 nc m):=by
  intro Λ F0 H0 F H σ δ Dn I a
  unfold zd3 at a
  split at a
  · rename_i h
    refine ⟨fun k σ H=>∃ F δ,EnvOk K Λ F0 H0 F H σ δ∧AftS K XO E Λ F0 H0 Dn (zcM nc m k δ),⟨_,F,δ,I,a⟩,?_⟩
    rintro k σ H ⟨F,δ,I,a⟩
    cases k with
    | zero=>exact a.elim
    | succ k =>
      unfold zcM at a
      refine hc Λ F0 H0 F H σ δ _ I ((AftS.of I a).imp fun b F1 H1 e p=>?_)
      cases b with
      | false=>exact p σ F1 H1 (I.grow e)
      | true =>
        refine ⟨fun σ H=>∃ F δ,EnvOk K Λ F0 H0 F H σ δ∧AftS K XO E Λ F0 H0 Dn (zcM nc m k δ),fun σ' H' w=>⟨k,Nat.lt_succ_self _,w⟩,hb Λ F0 H0 F1 H1 σ δ _ (I.grow e) ?_⟩
        rw [if_pos rfl] at p
        cases q2:m δ with
        | no=>simp only [q2] at p; exact p
        | nx δ2=>simp only [q2] at p; exact fun σ' F' H' I'=>⟨F',δ2,I',p⟩
        | ct δ2=>simp only [q2] at p; exact fun σ' F' H' I'=>⟨F',δ2,I',p⟩
        | bk δ2=>simp only [q2] at p; exact p
        | rt d=>simp only [q2] at p; exact p
        | ro d=>simp only [q2] at p; exact p
        | ex δ' x=>simp only [q2] at p; exact p
  · exact a.elim
end
end PM
namespace PM
open PySem L2
section
variable {K:Kx} {F H:Hp}
end
section
variable {K:Kx} {XO:XOT} {E:St→XK} {ta tb te ty td:TE} {ma mb me my md:En→R D} {t u:TS} {m n:En→O} {Λ:List (Nat × Addr × HO)} {F0 H0 F H F1 H1:Hp} {σ:St} {δ:En} {Dn:Ends}
theorem EnvOk.own {i:Nat} {d:D} (I:EnvOk K Λ F0 H0 F H σ δ) (hx:δ[i]?=some (.o d)):∃ a,σ[i]?=some (some (.ref a))∧Own K F H d a:=by
  have z:=I.slot i
  rw [hx] at z
  obtain ⟨a,z1,z2,z3,z4⟩:=z
  exact ⟨a,z1,z4⟩
def zgc (i:Nat) (me:En→R D) (δ:En):O:=match δ[i]? with
  | some (.o (.lst l))=>(me δ).toO δ fun d=>ifC (l.length < sizeLine) (.nx (δ.set i (.o (.lst (l ++ [d]))))) .no
  | _=>.no
theorem zhK {i:Nat} (h:SE K XO E te me):SS K XO E (zi2 (tBM K.f "list" zhF (tVar i) (zf6 te tNil))) (zgc i me):=by
  intro Λ F0 H0 F H σ δ Dn I a
  unfold zgc at a
  split at a
  · rename_i l q
    obtain ⟨p,s1,vs,s2,s3⟩:=I.own q
    refine ⟨_,s1,.inl ⟨rfl,vs,.inl (.inl s2)⟩,?_⟩
    refine h Λ F0 H0 F H σ δ _ I ((AftS.of I a).imp fun d F1 H1 e c v r=>?_)
    unfold ifC at c
    split at c
    · rename_i hl
      refine ⟨p,vs,v,rfl,rfl,e.hh _ _ s2,by rw [s3.length]; exact hl,?_⟩
      exact c σ F1 _ ((I.grow e).chg q s1 ⟨_,zaD,(s3.mono e.ff).append (.cons r .nil)⟩)
    · exact c.elim
  · exact a.elim
def i2 (f:Int→Int→D) (x y:D):Option D:=match x,y with | .int i,.int j=>some (f i j) | _,_=>none
def i2c (C:Int→Int→Prop) (f:Int→Int→D) (x y:D):Option D:=match x,y with | .int i,.int j=>ifC (C i j) (some (f i j)) none | _,_=>none
theorem zjb {g:Int→Int→V} {f:Int→Int→D} (h:∀ i j F,Rep K F (f i j) (g i j)):SR K (rI0 g) (i2 f):=by
  intro F H x y dx dy d Q s hx hy e q
  cases dx with
  | int i =>
    cases dy with
    | int j =>
      cases e
      simp only [Top,Rep] at hx hy
      exact ⟨i,j,hx,hy,q _ F H (.refl s) (h i j F)⟩
    | _=>cases e
  | _=>cases e
theorem zgT {C:Int→Int→Prop} {g:Int→Int→V} {f:Int→Int→D} (h:∀ i j F,Rep K F (f i j) (g i j)):SR K (rI C g) (i2c C f):=by
  intro F H x y dx dy d Q s hx hy e q
  cases dx with
  | int i =>
    cases dy with
    | int j =>
      simp only [Top,Rep] at hx hy
      simp only [i2c] at e
      unfold ifC at e
      split at e
      · rename_i hc
        cases e
        exact ⟨i,j,hx,hy,hc,q _ F H (.refl s) (h i j F)⟩
      · cases e
    | _=>cases e
  | _=>cases e
def oAdd:D→D→Option D:=i2 fun i j=>.int (i + j)
def oMul:D→D→Option D:=i2c (fun i j=>Fit i∧Fit j) fun i j=>.int (i * j)
def oDiv:D→D→Option D:=i2c (fun _ j=>j ≠ 0∧Fit j) fun i j=>.int (i.fdiv j)
def oMod:D→D→Option D:=i2c (fun _ j=>0 < j) fun i j=>.int (i % j)
def oPow:D→D→Option D:=i2c CPow fun i j=>.int (i ^ j.toNat)
def oLt:D→D→Option D:=i2 fun i j=>.bl (decide (i < j))
def oGt:D→D→Option D:=i2 fun i j=>.bl (decide (j < i))
theorem zdC:SR K (rI0 fun i j=>.int (i + j)) oAdd:=zjb fun _ _ _=>by simp only [Rep]
theorem zdH:SR K (rI (fun i j=>Fit i∧Fit j) fun i j=>.int (i * j)) oMul:=zgT fun _ _ _=>by simp only [Rep]
theorem zcG:SR K (rI (fun _ j=>j ≠ 0∧Fit j) fun i j=>.int (i.fdiv j)) oDiv:=zgT fun _ _ _=>by simp only [Rep]
theorem zcc:SR K (rI (fun _ j=>0 < j) fun i j=>.int (i % j)) oMod:=zgT fun _ _ _=>by simp only [Rep]
theorem zfQ:SR K (rI CPow fun i j=>.int (i ^ j.toNat)) oPow:=zgT fun _ _ _=>by simp only [Rep]
theorem ziV:SR K (rI0 fun i j=>.bl (decide (i < j))) oLt:=zjb fun _ _ _=>by simp only [Rep]
theorem zfL:SR K (rI0 fun i j=>.bl (decide (j < i))) oGt:=zjb fun _ _ _=>by simp only [Rep]
def fl:D→Option V
  | .non=>some .non
  | .bl b=>some (.bl b)
  | .int i=>some (.int i)
  | .str x=>some (.str x)
  | _=>none
theorem zgz {d:D} {v x:V} (h:fl d=some v) (r:Top K F H d x):x=v:=by
  cases d with
  | non=>cases h; simpa only [Top,Rep] using r
  | bl _=>cases h; simpa only [Top,Rep] using r
  | int _=>cases h; simpa only [Top,Rep] using r
  | str _=>cases h; simpa only [Top,Rep] using r
  | _=>cases h
def oEq (x y:D):Option D:=match fl x,fl y with | some a,some b=>if scal a b=true then some (.bl (decide (a=b))) else none | _,_=>none
def oNe (x y:D):Option D:=match fl x,fl y with | some a,some b=>if scal a b=true then some (.bl (!decide (a=b))) else none | _,_=>none
theorem zci:SR K rEq oEq:=by
  intro F H x y dx dy d Q s hx hy e q
  unfold oEq at e
  split at e
  · rename_i a b h1 h2
    split at e
    · rename_i hs
      cases e
      cases zgz h1 hx; cases zgz h2 hy
      exact ⟨hs,q _ F H (.refl s) (by simp only [Rep])⟩
    · cases e
  · cases e
theorem zg5:SR K rNe oNe:=by
  intro F H x y dx dy d Q s hx hy e q
  unfold oNe at e
  split at e
  · rename_i a b h1 h2
    split at e
    · rename_i hs
      cases e
      cases zgz h1 hx; cases zgz h2 hy
      exact ⟨hs,q _ F H (.refl s) (by simp only [Rep])⟩
    · cases e
  · cases e
def oIxL (x y:D):Option D:=match x,y with | .lst l,.int i=>atI l i | .scr l,.int i=>(atI l i).map .int | _,_=>none
def oIxT (x y:D):Option D:=match x,y with | .tup l,.int i=>atI l i | _,_=>none
theorem zgq {l:List D} {vs:List V} {i:Int} {d:D} (r:RepL K F l vs) (h:atI l i=some d):∃ v,atI vs i=some v∧Rep K F d v:=by
  unfold atI at h ⊢
  rw [r.length]
  cases q:ixN l.length i with
  | none=>rw [q] at h; cases h
  | some j=>rw [q] at h; exact r.get h
theorem zdj:SR K (rIxL K.f) oIxL:=by
  intro F H x y dx dy d Q s hx hy e q
  cases dx with
  | lst l =>
    cases dy with
    | int i =>
      obtain ⟨a,vs,rfl,h1,h2⟩:=hx
      simp only [Top,Rep] at hy
      obtain ⟨v,g1,g2⟩:=zgq h2 e
      exact ⟨a,vs,i,v,rfl,hy,.inl h1,g1,q _ F H (.refl s) g2⟩
    | _=>cases e
  | scr l =>
    cases dy with
    | int i =>
      simp only [Top,Rep] at hx hy
      obtain ⟨a,rfl,h1⟩:=hx
      simp only [oIxL] at e
      cases z:atI l i with
      | none=>rw [z] at e; cases e
      | some n =>
        rw [z] at e; cases e
        obtain ⟨v,g1,g2⟩:=zgq (F:=F) (K:=K) (l:=l.map .int) (vs:=l.map V.int) (i:=i) (d:=.int n) .ints (by
          unfold atI at z ⊢
          rw [List.length_map]
          cases q:ixN l.length i with
          | none=>rw [q] at z; cases z
          | some j =>
            rw [q] at z
            change l[j]?=some n at z
            show (l.map D.int)[j]?=_
            rw [List.getElem?_map,z]; rfl)
        exact ⟨a,_,i,v,rfl,hy,s.seq h1,g1,q _ F H (.refl s) g2⟩
    | _=>cases e
  | _=>cases e
theorem za6:SR K (rIxT K.f) oIxT:=by
  intro F H x y dx dy d Q s hx hy e q
  cases dx with
  | tup l =>
    cases dy with
    | int i =>
      simp only [Top,Rep] at hx hy
      obtain ⟨a,vs,rfl,h1,h2⟩:=hx
      obtain ⟨v,g1,g2⟩:=zgq h2 e
      exact ⟨a,vs,i,v,rfl,hy,.inl (.inl (s _ _ h1)),g1,q _ F H (.refl s) g2⟩
    | _=>cases e
  | _=>cases e
end
end PM
namespace PM
open PySem L2
section
variable {K:Kx} {XO:XOT} {E:St→XK} {ta tb te ty td:TE} {ma mb me my md:En→R D} {t u:TS} {m n:En→O} {Λ:List (Nat × Addr × HO)} {F0 H0 F H F1 H1:Hp} {σ:St} {δ:En} {Dn:Ends}
abbrev EN:St→XK:=fun _ _ _ _=>False
def zgh:Sl→Sl
  | .o d=>.l d
  | .p _=>.no
  | s=>s
def zaS (δ:En) (ix:List Nat) (n:Nat):En:=ix.map (fun i=>zgh (δ[i]?.getD .no)) ++ List.replicate n .no
def zbZ (f:D→R (Option D)):List D→R (List D)
  | []=>.ok []
  | d :: l=>(f d).bind fun o=>(zbZ f l).bind fun r=>.ok (o.toList ++ r)
def zdi (b:D→En→Option En) (nc:Option (En→R Bool)) (me:En→R D) (δ:En) (d:D):R (Option D):=match b d δ with
  | none=>.no
  | some δ1=>(match nc with
    | none=>(me δ1).nev.bind fun x=>.ok (some x)
    | some c=>(c δ1).nev.bind fun k=>if k=true then (me δ1).nev.bind fun x=>.ok (some x) else .ok none)
def zd1 (mi:En→R (List D)) (ix:List Nat) (n:Nat) (b:D→En→Option En) (nc:Option (En→R Bool)) (me:En→R D) (δ:En):R D :=
  (mi δ).bind fun ds=>ifC (ds.length ≤ sizeLine) ((zbZ (zdi b nc me (zaS δ ix n)) ds).nev.bind fun l=>.ok (.lst l)) .no
theorem zhl {ix:List Nat} {n:Nat} (I:EnvOk K Λ F0 H0 F H σ δ) (hix:ix.Nodup) :
    ∃ Λc,EnvOk K Λc F0 H0 F H (zbQ σ ix n) (zaS δ ix n)∧(∀ i:Nat,Sl.own (zaS δ ix n)[i]?=true→∃ x ∈ Λc,x.1=i)∧∀ x ∈ Λc,∃ o,H x.2.1=some o:=by
  have gd:∀ j:Nat,j < ix.length→(zaS δ ix n)[j]?=some (zgh (δ[ix.getD j 0]?.getD .no)):=fun j hj=>by
    unfold zaS
    rw [List.getElem?_append_left (by simpa using hj),List.getElem?_map,List.getElem?_eq_getElem hj]
    simp [List.getD_eq_getElem?_getD,List.getElem?_eq_getElem hj]
  have gs:∀ j:Nat,j < ix.length→(zbQ σ ix n)[j]?=some ((σ[ix.getD j 0]?).getD none):=fun j hj=>by
    unfold zbQ
    rw [List.getElem?_append_left (by simpa using hj),List.getElem?_map,List.getElem?_eq_getElem hj]
    simp [List.getD_eq_getElem?_getD,List.getElem?_eq_getElem hj]
  have gn:∀ j:Nat,¬ j < ix.length→(zaS δ ix n)[j]?=some .no∨(zaS δ ix n)[j]?=none:=fun j hj=>by
    unfold zaS
    rw [List.getElem?_append_right (by simpa using hj),List.getElem?_replicate]
    split
    · exact .inl rfl
    · exact .inr rfl
  have own:∀ j:Nat,Sl.own (zaS δ ix n)[j]?=true→j < ix.length∧∃ d a o,δ[ix.getD j 0]?=some d∧Sl.own (some d)=true∧(zaS δ ix n)[j]?=some (zgh d)∧(∃ e,zgh d = .l e)∧σ[ix.getD j 0]?=some (some (.ref a))∧(zbQ σ ix n)[j]?=some (some (.ref a))∧H a=some o∧H0 a=none∧F a=none:=fun j h=>by
    by_cases hj:j < ix.length
    · refine ⟨hj,?_⟩
      rw [gd j hj] at h
      have z:=I.slot (ix.getD j 0)
      cases q:δ[ix.getD j 0]? with
      | none=>rw [q] at h; cases h
      | some s =>
        rw [q] at h z
        cases s with
        | no=>cases h
        | v d=>cases h
        | o d =>
          obtain ⟨a,z1,z2,z3,z4⟩:=z
          obtain ⟨o,ho⟩:=z4.obj
          exact ⟨_,a,o,rfl,rfl,by rw [gd j hj,q]; rfl,⟨d,rfl⟩,z1,by rw [gs j hj,z1]; rfl,ho,z2,z3⟩
        | l d =>
          obtain ⟨a,z1,z2,z3,z4⟩:=z
          obtain ⟨o,ho⟩:=z4.obj
          exact ⟨_,a,o,rfl,rfl,by rw [gd j hj,q]; rfl,⟨d,rfl⟩,z1,by rw [gs j hj,z1]; rfl,ho,z2,z3⟩
        | p ll=>cases h
    · rcases gn j hj with z | z <;> (rw [z] at h; cases h)
  let Λc:List (Nat × Addr × HO):=(List.range ix.length).filterMap fun (j:Nat)=>match (zbQ σ ix n)[j]? with
    | some (some (V.ref a))=>if Sl.own (zaS δ ix n)[j]?=true then (H a).map fun o=>(j,a,o) else none
    | _=>none
  have mem:∀ x ∈ Λc,(zbQ σ ix n)[x.1]?=some (some (.ref x.2.1))∧Sl.own (zaS δ ix n)[x.1]?=true∧H x.2.1=some x.2.2:=fun x hx=>by
    obtain ⟨j,_,h⟩:=List.mem_filterMap.mp hx
    split at h
    · rename_i a q
      split at h
      · rename_i ow
        cases q2:H a with
        | none=>rw [q2] at h; cases h
        | some o=>rw [q2] at h; cases h; exact ⟨q,ow,q2⟩
      · cases h
    · cases h
  have noTab:∀ (j:Nat) (ll:Tr),(zaS δ ix n)[j]? ≠ some (.p ll):=fun j ll h=>by
    by_cases hj:j < ix.length
    · rw [gd j hj] at h
      cases q:δ[ix.getD j 0]? with
      | none=>rw [q] at h; cases h
      | some s=>rw [q] at h; cases s <;> cases h
    · rcases gn j hj with z | z <;> (rw [z] at h; cases h)
  refine ⟨Λc,⟨I.ext,?_,fun j=>?_,fun i j a hij h1 h2 h3 h4=>?_,fun x hx=>?_,fun j ll h=>absurd h (noTab j ll)⟩,fun j h=>?_,fun x hx=>⟨_,(mem x hx).2.2⟩⟩
  · unfold zbQ zaS
    simp
  · by_cases hj:j < ix.length
    · rw [gd j hj,gs j hj]
      have z:=I.slot (ix.getD j 0)
      cases q:δ[ix.getD j 0]? with
      | none=>trivial
      | some s =>
        rw [q] at z
        cases s with
        | no=>trivial
        | v d=>obtain ⟨u,z1,z2⟩:=z; exact ⟨u,by rw [z1]; rfl,z2⟩
        | o d=>obtain ⟨a,z1,z2⟩:=z; exact ⟨a,by rw [z1]; rfl,z2⟩
        | l d=>obtain ⟨a,z1,z2⟩:=z; exact ⟨a,by rw [z1]; rfl,z2⟩
        | p ll=>trivial
    · rcases gn j hj with z | z <;> (rw [z]; trivial)
  · obtain ⟨i1,d1,a1,o1,i2,i3,i4,i5,i6,i7,i8⟩:=own i h1
    obtain ⟨j1,d2,a2,o2,j2,j3,j4,j5,j6,j7,j8⟩:=own j h2
    rw [i7] at h3; cases h3
    rw [j7] at h4; cases h4
    refine I.dist (ix.getD i 0) (ix.getD j 0) a (fun e=>hij ?_) (by rw [i2]; exact i3) (by rw [j2]; exact j3) i6 j6
    rw [List.getD_eq_getElem?_getD,List.getD_eq_getElem?_getD,List.getElem?_eq_getElem i1,List.getElem?_eq_getElem j1] at e
    exact ((List.getElem?_inj i1 hix).mp (by rw [List.getElem?_eq_getElem i1,List.getElem?_eq_getElem j1]; exact congrArg some e))
  · obtain ⟨m1,m2,m3⟩:=mem x hx
    obtain ⟨_,d,_,_,_,_,h4,⟨e,h5⟩,_⟩:=own x.1 m2
    exact ⟨⟨e,by rw [h4,h5]⟩,m1,m3⟩
  · obtain ⟨i1,d1,a1,o1,i2,i3,i4,i5,i6,i7,i8,_⟩:=own j h
    refine ⟨(j,a1,o1),List.mem_filterMap.mpr ⟨j,List.mem_range.mpr i1,?_⟩,rfl⟩
    rw [i7]
    show (if Sl.own (zaS δ ix n)[j]?=true then (H a1).map fun o=>(j,a1,o) else none)=_
    rw [if_pos h,i8]
    rfl
theorem EnvOk.side {p:Addr} {w:HO} (I:EnvOk K Λ F0 H0 F H σ δ) (ho:∀ i:Nat,Sl.own δ[i]?=true→∃ x ∈ Λ,x.1=i) (hp:∀ x ∈ Λ,x.2.1 ≠ p) (h0:H0 p=none) (h1:F p=none):EnvOk K Λ F0 H0 F (upd H p w) σ δ:=by
  have ne:∀ (i:Nat) (a:Addr),Sl.own δ[i]?=true→σ[i]?=some (some (.ref a))→a ≠ p:=fun i a h h'=>by
    obtain ⟨x,hx,e⟩:=ho i h
    have z:=(I.lent x hx).2.1
    rw [e,h'] at z
    cases z
    exact hp x hx
  have noTab:∀ (j:Nat) (ll:Tr),δ[j]? ≠ some (.p ll):=fun j ll h=>by
    obtain ⟨x,hx,e⟩:=ho j (by rw [h]; rfl)
    obtain ⟨d,hd⟩:=(I.lent x hx).1
    rw [e,h] at hd; cases hd
  refine ⟨⟨I.ext.ff,fun b o q=>?_,fun b o q=>?_,I.ext.nw⟩,I.len,fun i=>?_,I.dist,fun x hx=>?_,fun j ll h=>absurd h (noTab j ll)⟩
  · rw [zar (zas q h0)]; exact I.ext.hh b o q
  · rw [zar (zas q h1)]; exact I.ext.fh b o q
  · have z:=I.slot i
    cases q:δ[i]? with
    | none=>trivial
    | some s =>
      rw [q] at z
      cases s with
      | no=>trivial
      | v d=>exact z
      | o d=>obtain ⟨a,z1,z2,z3,z4⟩:=z; exact ⟨a,z1,z2,z3,z4.at (zar (ne i a (by rw [q]; rfl) z1))⟩
      | l d=>obtain ⟨a,z1,z2,z3,z4⟩:=z; exact ⟨a,z1,z2,z3,z4.at (zar (ne i a (by rw [q]; rfl) z1))⟩
      | p ll=>exact absurd q (noTab i ll)
  · obtain ⟨z1,z2,z3⟩:=I.lent x hx
    exact ⟨z1,z2,by rw [zar (hp x hx)]; exact z3⟩
theorem EnvOk.weakL {δ':En} (w:Weak δ δ') (hl:∀ x ∈ Λ,∃ d,δ[x.1]?=some (.l d)) (I:EnvOk K Λ F0 H0 F H σ δ'):EnvOk K Λ F0 H0 F H σ δ:=by
  refine ⟨I.ext,I.len.trans w.1.symm,fun i=>?_,fun i j a hij h1 h2 h3 h4=>?_,fun x hx=>⟨hl x hx,(I.lent x hx).2⟩,I.tabsOf (fun k ll h=>⟨(w.2 k).elim (fun z=>by rw [z] at h; cases h) fun z=>by rw [← z]; exact h,rfl⟩) (fun _ _ _ _ _ _ t f _=>⟨t,fun b hb=>(f b hb).2⟩) fun k j ll r b bs _ _ _ _ ho hs=>.inl ⟨(w.2 j).elim (fun z=>by rw [z] at ho; cases ho) fun z=>by rw [← z]; exact ho,hs⟩⟩
  · rcases w.2 i with z | z
    · rw [z]; trivial
    · rw [z]; exact I.slot i
  · have ow:∀ k:Nat,Sl.own δ[k]?=true→Sl.own δ'[k]?=true:=fun k h=>by
      rcases w.2 k with z | z
      · rw [z] at h; cases h
      · rw [← z]; exact h
    exact I.dist i j a hij (ow i h1) (ow j h2) h3 h4
theorem zgf {f:D→R (Option D)} {d:D} {l r:List D} (h:(zbZ f (d :: l)).nev = .ok r):∃ o r',f d = .ok o∧(zbZ f l).nev = .ok r'∧r=o.toList ++ r':=by
  unfold zbZ at h
  cases q:f d with
  | no=>rw [q] at h; cases h
  | ex x=>rw [q] at h; cases h
  | ok o =>
    rw [q] at h
    cases q2:zbZ f l with
    | no=>rw [R.bind_ok,q2] at h; cases h
    | ex x=>rw [R.bind_ok,q2] at h; cases h
    | ok r'=>rw [R.bind_ok,q2] at h; cases h; exact ⟨o,r',rfl,rfl,rfl⟩
theorem nev_ok {α:Type} {r:R α} {a:α} (h:r.nev = .ok a):r = .ok a:=by
  cases r with
  | no=>cases h
  | ok b=>cases h; rfl
  | ex x=>cases h
theorem zbX {wi:TI} {mi:En→R (List D)} {ix:List Nat} {n:Nat} {g:TG} {b:D→En→Option En} {tc:Option TT} {nc:Option (En→R Bool)}
    (hi:SIc K XO E wi mi) (hix:ix.Nodup) (hg:SG K g b) (hw:BW b) (hc:(tc=none∧nc=none)∨∃ c k,tc=some c∧nc=some k∧ST K XO EN c k) (he:SE K XO EN te me):SEo K XO E (zi7 wi ix n g tc te) (zd1 mi ix n b nc me):=by
  intro Λ F0 H0 F H σ δ Q I a
  refine hi Λ F0 H0 F H σ δ _ I (a.bind.imp fun ds F1 H1 e1 a1 J hJ p hp=>?_)
  unfold ifC at a1
  split at a1
  case isFalse=>exact a1.elim
  rename_i hsz
  have I1:=I.grow e1
  obtain ⟨Λc,Ic,hown,hall⟩:=zhl (n:=n) I1 hix
  cases qg:(zbZ (zdi b nc me (zaS δ ix n)) ds).nev with
  | no=>rw [qg] at a1; exact a1.elim
  | ex x=>cases q2:zbZ (zdi b nc me (zaS δ ix n)) ds <;> (rw [q2] at qg; cases qg)
  | ok l =>
  rw [qg] at a1
  have hlent:∀ x ∈ Λc,∃ d,(zaS δ ix n)[x.1]?=some (.l d):=fun x hx=>(Ic.lent x hx).1
  have hpn:∀ x ∈ Λc,x.2.1 ≠ p:=fun x hx e=>by
    obtain ⟨o,ho⟩:=hall x hx
    rw [e,hp] at ho; cases ho
  have p0:H0 p=none:=I1.ext.hh.free hp
  have f1:F1 p=none:=e1.fh.free hp
  refine ⟨fun i k ys σ2 H2=>∃ F2 l1 l2,EnvOk K Λc F0 H0 F2 H2 σ2 (zaS δ ix n)∧Ext F1 H1 F2 H2∧H2 p=some (.lst ys)∧F2 p=none∧RepL K F2 l1 ys∧(zbZ (zdi b nc me (zaS δ ix n)) (ds.drop i)).nev = .ok l2∧l=l1 ++ l2∧k=ds.length - i∧i ≤ ds.length∧ys.length ≤ i,
    ⟨_,F1,[],l,?_,.newO e1.fh hp,zaD,f1,.nil,qg,rfl,rfl,Nat.zero_le _,Nat.le_refl _⟩,?_⟩
  · exact Ic.grow (.newO e1.fh hp)
  rintro i k ys σ2 H2 ⟨F2,l1,l2,I2,x2,hD,hF,r,qd,rfl,rfl,hil,hys⟩
  refine ⟨hD,?_⟩
  by_cases hlt:i < ds.length
  · have e:ds.drop i=ds[i] :: ds.drop (i + 1):=List.drop_eq_getElem_cons hlt
    rw [e] at qd
    obtain ⟨o,l3,q1,q3,rfl⟩:=zgf qd
    obtain ⟨h1,h2⟩:=(hJ F2 H2 x2 i).1 ds[i] (by simp [hlt])
    refine .inr ⟨h1,fun ys' σ' H'=>∃ F' l1',EnvOk K Λc F0 H0 F' H' σ' (zaS δ ix n)∧Ext F1 H1 F' H'∧H' p=some (.lst ys')∧F' p=none∧RepL K F' l1' ys'∧l1 ++ (o.toList ++ l3)=l1' ++ l3∧ys'.length ≤ i + 1,
      fun ys' σ' H' ⟨F',l1',w1,w2,w3,w4,w5,w6,w7⟩=>⟨_,by omega,F',l1',l3,w1,w2,w3,w4,w5,q3,w6,rfl,hlt,w7⟩,fun x H' y=>?_⟩
    obtain ⟨F3,e3,rx⟩:=h2 x H' y
    have hp2:∀ {F5 H5:Hp},Ext F2 H2 F5 H5→H5 p=some (.lst ys)∧F5 p=none:=fun z=>⟨z.hh _ _ hD,z.nw p _ hF hD⟩
    unfold zdi at q1
    cases qb:b ds[i] (zaS δ ix n) with
    | none=>rw [qb] at q1; cases q1
    | some δ1 =>
      rw [qb] at q1
      have hwk:=hw _ _ _ qb
      refine hg Λc F0 H0 F3 H' σ2 _ _ x δ1 _ (I2.grow e3) rx qb fun σ3 I3=>?_
      have fin:∀ F4 H4,Ext F3 H' F4 H4→(me δ1).nev.bind (fun x=>R.ok (some x)) = .ok o→te σ3 H4 fun y H5=>H5 p=some (.lst ys)∧ys.length < sizeLine ∧
          ∃ F' l1',EnvOk K Λc F0 H0 F' (upd H5 p (.lst (ys ++ [y]))) σ3 (zaS δ ix n)∧Ext F1 H1 F' (upd H5 p (.lst (ys ++ [y])))∧upd H5 p (.lst (ys ++ [y])) p=some (.lst (ys ++ [y]))∧F' p=none∧RepL K F' l1' (ys ++ [y])∧l1 ++ (o.toList ++ l3)=l1' ++ l3∧(ys ++ [y]).length ≤ i + 1:=by
        intro F4 H4 e4 qe
        cases qm:me δ1 with
        | no=>rw [qm] at qe; cases qe
        | ex x=>rw [qm] at qe; cases qe
        | ok d =>
          rw [qm] at qe
          cases qe
          refine he Λc F0 H0 F4 H4 σ3 δ1 _ (I3.grow e4) ?_
          rw [qm]
          intro F5 H5 e5 v rv
          have z:=e3.trans (e4.trans e5)
          obtain ⟨z1,z2⟩:=hp2 z
          refine ⟨z1,by omega,F5,l1 ++ [d],(((I3.grow e4).grow e5).weakL hwk hlent).side hown hpn p0 z2,?_,zaD,z2,(r.mono z.ff).append (.cons rv .nil),by simp,by simpa using hys⟩
          have w:=x2.trans z
          exact ⟨w.ff,fun c o q=>by rw [zar (zas q hp)]; exact w.hh c o q,fun c o q=>by rw [zar (zas q z2)]; exact w.fh c o q,w.nw⟩
      rcases hc with ⟨rfl,rfl⟩ | ⟨c,kc,rfl,rfl,hcc⟩
      · have z:=fin F3 H' (.refl e3.fh) q1
        unfold ziE
        simp only [if_true]
        exact z
      · simp only at q1
        refine hcc Λc F0 H0 F3 H' σ3 δ1 _ I3 ?_
        cases qk:kc δ1 with
        | no=>rw [qk] at q1; cases q1
        | ex x=>rw [qk] at q1; cases q1
        | ok bb =>
          rw [qk] at q1
          intro F4 H4 e4
          cases bb with
          | true=>rw [if_pos rfl]; exact fin F4 H4 e4 q1
          | false =>
            rw [if_neg Bool.false_ne_true]
            have eo:o=none:=by
              rw [R.nev_ok,R.bind_ok,if_neg Bool.false_ne_true] at q1
              cases q1; rfl
            subst eo
            have z:=e3.trans e4
            obtain ⟨z1,z2⟩:=hp2 z
            exact ⟨F4,l1,(I3.grow e4).weakL hwk hlent,x2.trans z,z1,z2,r.mono z.ff,rfl,by omega⟩
  · have e:i=ds.length:=by omega
    subst e
    rw [List.drop_length] at qd
    cases qd
    refine .inl ⟨(hJ F2 H2 x2 _).2 (by simp),a1 F2 H2 x2 p hF (e1.hh.free hp) ⟨ys,hD,?_⟩⟩
    rw [List.append_nil]
    exact r
def zbq (n:Nat) (ds:List D):En:=ds.map .v ++ List.replicate n .no
def runF (np nv:Nat) (m:En→O) (ds:List D):R D:=if ds.length=np then (match m (zbq nv ds) with | .rt d=>.ok d | .nx _=>.ok .non | .ex _ x=>.ex x | _=>.no) else .no
theorem zgL {np nv:Nat} {N:List Str} {ds:List D} {vs:List V} (s:Same F H) (r:RepL K F ds vs) (hn:N.length=np + nv) (hl:ds.length=np):EnvOk K [] F H F H (L2.start N vs) (zbq nv ds):=by
  have hv:=r.length
  unfold L2.start zbq
  have en:N.length - vs.length=nv:=by omega
  rw [en]
  refine ⟨.refl s,by simp [hv],fun i=>?_,fun i j a _ h1 _ _ _=>?_,fun x hx=>(by cases hx),fun i ll h1=>(by
    by_cases hi:i < ds.length
    · rw [List.getElem?_append_left (by simpa using hi),List.getElem?_map,List.getElem?_eq_getElem hi] at h1
      cases h1
    · rw [List.getElem?_append_right (by simpa using hi),List.getElem?_replicate] at h1
      split at h1 <;> cases h1)⟩
  · by_cases hi:i < ds.length
    · rw [List.getElem?_append_left (by simpa using hi),List.getElem?_append_left (by simp; omega),List.getElem?_map,List.getElem?_map,List.getElem?_eq_getElem hi]
      obtain ⟨v,h1,h2⟩:=r.get (List.getElem?_eq_getElem hi)
      rw [h1]
      exact ⟨v,rfl,h2⟩
    · rw [List.getElem?_append_right (by simpa using hi),List.getElem?_replicate]
      split <;> trivial
  · by_cases hi:i < ds.length
    · rw [List.getElem?_append_left (by simpa using hi),List.getElem?_map,List.getElem?_eq_getElem hi] at h1
      cases h1
    · rw [List.getElem?_append_right (by simpa using hi),List.getElem?_replicate] at h1
      split at h1 <;> cases h1
theorem zbT {np nv:Nat} {N:List Str} {vs:List V} {Q:VK} {E:XK} (h:SS K XO (fun _=>E) t m) (hn:N.length=np + nv) (sp:spM K XO (runF np nv m) vs H Q E):t { nx:=fun _ H'=>Q .non H',rt:=Q } (L2.start N vs) H:=by
  obtain ⟨F,ds,s,r,a⟩:=sp
  unfold runF at a
  split at a
  · rename_i hl
    refine h [] F H F H _ _ _ (zgL s r hn hl) ?_
    cases q:m (zbq nv ds) with
    | no=>rw [q] at a; exact a
    | nx δ=>rw [q] at a; exact fun σ F' H' I=>a F' H' I.ext _ (by simp only [Rep])
    | rt d=>rw [q] at a; exact fun v F' H' e r=>a F' H' e v r
    | ro d=>rw [q] at a; exact a.elim
    | bk δ=>rw [q] at a; exact a.elim
    | ct δ=>rw [q] at a; exact a.elim
    | ex δ x=>rw [q] at a; exact fun σ F' H' C dct I w=>a C dct F' H' I.ext w
  · exact a.elim
def runO (np nv:Nat) (m:En→O) (ds:List D):R D:=if ds.length=np then (match m (zbq nv ds) with | .ro d=>.ok d | .ex _ x=>.ex x | _=>.no) else .no
def spO (K:Kx) (XO:XOT) (f:List D→R D):Sp:=fun vs H Q E=>∃ F ds,Same F H∧RepL K F ds vs∧Aft (fun _=>E) XO [] F H (fun d F' H'=>∀ p,F' p=none→H p=none→Own K F' H' d p→Q (.ref p) H') (f ds)
theorem ziP {np nv:Nat} {N:List Str} {vs:List V} {Q:VK} {E:XK} (h:SS K XO (fun _=>E) t m) (hn:N.length=np + nv) (sp:spO K XO (runO np nv m) vs H Q E):t { nx:=fun _ H'=>Q .non H',rt:=Q } (L2.start N vs) H:=by
  obtain ⟨F,ds,s,r,a⟩:=sp
  unfold runO at a
  split at a
  · rename_i hl
    refine h [] F H F H _ _ _ (zgL s r hn hl) ?_
    cases q:m (zbq nv ds) with
    | no=>rw [q] at a; exact a
    | nx δ=>rw [q] at a; exact a.elim
    | rt d=>rw [q] at a; exact a.elim
    | ro d=>rw [q] at a; exact fun p F' H' e h0 h1 o=>a F' H' e p h0 h1 o
    | bk δ=>rw [q] at a; exact a.elim
    | ct δ=>rw [q] at a; exact a.elim
    | ex δ x=>rw [q] at a; exact fun σ F' H' C dct I w=>a C dct F' H' I.ext w
  · exact a.elim
theorem zhU {np nv:Nat} {vs:List V} {Q:VK} {E:XK} (sp:spO K XO (runO np nv m) vs H Q E):vs.length=np:=by
  obtain ⟨F,ds,s,r,a⟩:=sp
  unfold runO at a
  split at a
  · rename_i hl; rw [r.length]; exact hl
  · exact a.elim
theorem za0 {np nv:Nat} {vs:List V} {Q:VK} {E:XK} (sp:spM K XO (runF np nv m) vs H Q E):vs.length=np:=by
  obtain ⟨F,ds,s,r,a⟩:=sp
  unfold runF at a
  split at a
  · rename_i hl; rw [r.length]; exact hl
  · exact a.elim
theorem zjG {f:List D→R D} {ns:List Int} {a:Addr} {Q:VK} {E:XK} (hf:f [.scr ns] = .ok (.bl true)) (h:SqL K.f H a (ns.map V.int)) (q:∀ H',Q (.bl true) H'):spM K XO f [.ref a] H Q E:=by
  refine ⟨fun b=>if b=a then H b else none,[.scr ns],fun b o e=>?_,.cons ?_ .nil,?_⟩
  · dsimp only at e
    split at e
    · exact e
    · cases e
  · simp only [Rep]
    refine ⟨a,rfl,?_⟩
    rcases h with (h | ⟨o,h⟩) | h
    · exact .inl (.inl (by dsimp only; rw [if_pos rfl]; exact h))
    · exact .inl (.inr ⟨o,by dsimp only; rw [if_pos rfl]; exact h⟩)
    · exact .inr h
  · rw [hf]
    intro F' H' _ v r
    simp only [Rep] at r
    subst r
    exact q H'
theorem zfZ {f:List D→R D} {tl:TA} {ml:En→R (List D)} {E':XK} (h:SA K XO E tl ml):SEo K XO E (ziq (spO K XO f) [] E' tl) (zai f ml):=by
  intro Λ F0 H0 F H σ δ Q I a
  refine h Λ F0 H0 F H σ δ _ I (a.bind.imp fun ds F1 H1 e1 a1 vs r=>⟨F1,ds,e1.fh,by rw [List.append_nil]; exact r,?_⟩)
  exact Aft.imp (fun d F2 H2 e2 p q h0 h1 o=>p q h0 (e1.hh.free h1) o) (Aft.any a1)
variable (K) in
def Bor (F H:Hp) (d:D) (v:V):Prop:=Rep K F d v∨(∃ a,v = .ref a∧Own K F H d a)∨∃ T fp,d=trD T∧TrOk K F H T v fp
def zc3 (F H:Hp):Hp:=fun b=>match F b with
  | some o=>some o
  | none=>match H b with
    | some (.lst vs)=>some (.lst vs)
    | some (.dK kvs)=>some (.dK kvs)
    | some (.frz o u)=>some (.frz o u)
    | some (.ins C dx fs)=>some (.ins C dx fs)
    | _=>none
theorem zcJ {F H:Hp}:Same F (zc3 F H):=fun b o h=>by unfold zc3; rw [h]
theorem zjn {F H:Hp} (s:Same F H):Same (zc3 F H) H:=fun b o h=>by
  unfold zc3 at h
  cases q:F b with
  | some u=>rw [q] at h; cases h; exact s _ _ q
  | none =>
    simp only [q] at h
    cases q2:H b with
    | none=>rw [q2] at h; cases h
    | some u=>cases u <;> simp only [q2] at h <;> cases h <;> rfl
theorem zi5 {a:Addr} {vs:List V} (s:Same F H) (h:H a=some (.lst vs)):zc3 F H a=some (.lst vs):=by
  unfold zc3
  cases q:F a with
  | some u=>rw [s _ _ q] at h; exact h
  | none=>simp only [h]
mutual
theorem zgW (s:Same F H):∀ (T:Tr) {v:V} {fp:List Addr},TrOk K F H T v fp→Rep K (zc3 F H) (trD T) v
  | .d x,v,fp,h=>by
    simp only [TrOk] at h
    simp only [trD]
    exact Rep.mono zcJ x h.2
  | .l ts,v,fp,h=>by
    simp only [TrOk] at h
    obtain ⟨a,vs,fs,rfl,h2,h3,h4⟩:=h
    simp only [trD,Rep]
    exact ⟨a,vs,rfl,.inl (zi5 s h3),zd0 s ts h4⟩
  | .t ts,v,fp,h=>by
    simp only [TrOk] at h
    obtain ⟨a,vs,rfl,h3,h4⟩:=h
    simp only [trD,Rep]
    exact ⟨a,vs,rfl,zcJ _ _ h3,zd0 s ts h4⟩
theorem zd0 (s:Same F H):∀ (ts:List Tr) {vs:List V} {fp:List Addr},TrOkL K F H ts vs fp→RepL K (zc3 F H) (trDL ts) vs
  | [],vs,fp,h=>by
    simp only [TrOkL] at h
    rw [h.1]
    simp only [trDL]
    exact .nil
  | t :: ts,vs,fp,h=>by
    simp only [TrOkL] at h
    obtain ⟨v,r,f1,f2,rfl,h2,h3,h4⟩:=h
    simp only [trDL]
    exact .cons (zgW s t h3) (zd0 s ts h4)
end
theorem zi4 {F H:Hp} (s:Same F H):∀ {d:D} {v:V},Bor K F H d v→Rep K (zc3 F H) d v:=by
  intro d v h
  rcases h with h | ⟨a,rfl,h⟩ | ⟨T,fp,rfl,h⟩
  · exact Rep.mono zcJ _ h
  · cases d with
    | lst l =>
      obtain ⟨vs,h1,h2⟩:=h
      simp only [Rep]
      refine ⟨a,vs,rfl,.inl ?_,h2.mono zcJ⟩
      unfold zc3
      cases q:F a with
      | some u=>rw [s _ _ q] at h1; exact h1
      | none=>simp only [h1]
    | dct ks l =>
      obtain ⟨vs,h1,h0,h2⟩:=h
      simp only [Rep]
      refine ⟨a,vs,rfl,?_,h0,h2.mono zcJ⟩
      unfold zc3
      cases q:F a with
      | some u=>rw [s _ _ q] at h1; exact h1
      | none=>simp only [h1]
    | obj c ks l =>
      obtain ⟨dx,vs,h1,h0,h2⟩:=h
      simp only [Rep]
      refine ⟨a,dx,vs,rfl,?_,h0,h2.mono zcJ⟩
      unfold zc3
      cases q:F a with
      | some u=>rw [s _ _ q] at h1; exact h1
      | none=>simp only [h1]
    | _=>exact h.elim
  · exact zgW s T h
variable (K) in
def SC (r:List V→Hp→VK→Prop) (f:List D→Option D):Prop:=∀ F H vs ds d Q,Same F H→Prd (Top K F H) ds vs→f ds=some d→(∀ v F' H',Ext F H F' H'→Rep K F' d v→Q v H')→r vs H Q
def mCB (f:List D→Option D) (ml:En→R (List D)) (δ:En):R D:=(ml δ).bind fun l=>R.of (f l)
theorem zbW {r:List V→Hp→VK→Prop} {f:List D→Option D} {tl:TA} {ml:En→R (List D)} (hr:SC K r f) (h:SAr K XO E tl ml):SE K XO E (tCB r tl) (mCB f ml):=by
  intro Λ F0 H0 F H σ δ Q I a
  refine h Λ F0 H0 F H σ δ _ I (a.bind.imp fun ds F1 H1 e1 a1 vs rv=>?_)
  cases q:f ds with
  | none=>rw [q] at a1; exact a1.elim
  | some d=>rw [q] at a1; exact hr F1 H1 vs ds d Q e1.fh rv q fun v F' H' e r=>a1 F' H' e v r
def fLen:List D→Option D
  | [.lst l]=>some (.int l.length)
  | [.scr l]=>some (.int l.length)
  | [.tup l]=>some (.int l.length)
  | _=>none
theorem zcS:SC K (fun xs H Q=>∃ p ys,xs = [.ref p]∧(SqL K.f H p ys∨SqT K.f H p ys)∧Q (.int ys.length) H) fLen:=by
  intro F H vs ds d Q s r e q
  unfold fLen at e
  split at e
  · cases e
    cases r with
    | cons r r' =>
      cases r'
      obtain ⟨a,xs,rfl,h1,h2⟩:=r
      exact ⟨a,xs,rfl,.inl (.inl h1),q _ F H (.refl s) (by simp only [Rep]; rw [h2.length])⟩
  · cases e
    cases r with
    | cons r r' =>
      cases r'
      simp only [Top,Rep] at r
      obtain ⟨a,rfl,h1⟩:=r
      exact ⟨a,_,rfl,.inl (s.seq h1),q _ F H (.refl s) (by simp only [Rep]; rw [List.length_map])⟩
  · cases e
    cases r with
    | cons r r' =>
      cases r'
      simp only [Top,Rep] at r
      obtain ⟨a,xs,rfl,h1,h2⟩:=r
      exact ⟨a,xs,rfl,.inr (.inl (.inl (s _ _ h1))),q _ F H (.refl s) (by simp only [Rep]; rw [h2.length])⟩
  · cases e
def fAbs:List D→Option D
  | [.int i]=>some (.int (if i < 0 then -i else i))
  | _=>none
theorem ziy:SC K (fun xs H Q=>∃ i,xs = [.int i]∧Q (.int (if i < 0 then -i else i)) H) fAbs:=by
  intro F H vs ds d Q s r e q
  unfold fAbs at e
  split at e
  · rename_i i
    cases e
    cases r with
    | cons r r' =>
      cases r'
      simp only [Top,Rep] at r
      subst r
      exact ⟨i,rfl,q _ F H (.refl s) (by simp only [Rep])⟩
  · cases e
def asI:D→Option Int
  | .int i=>some i
  | _=>none
def mNoP (_:En):R (Option Int):=.ok none
def zec (me:En→R D) (δ:En):R (Option Int):=(me δ).bind fun d=>(R.of (asI d)).bind fun i=>.ok (some i)
variable (K XO E) in
def SO (t:TO) (m:En→R (Option Int)):Prop:=∀ Λ F0 H0 F H σ δ Q,EnvOk K Λ F0 H0 F H σ δ→Aft E XO σ F H (fun o _ H'=>Q o H') (m δ)→t σ H Q
theorem zku:SO K XO E zhH mNoP:=fun Λ F0 H0 F H σ δ Q I a=>a F H (.refl I.same)
theorem zgx (h:SE K XO E te me):SO K XO E (zjK te) (zec me):=by
  intro Λ F0 H0 F H σ δ Q I a
  refine h Λ F0 H0 F H σ δ _ I (a.bind.imp fun d F1 H1 e1 a1 v r=>?_)
  cases d with
  | int i=>simp only [Rep] at r; exact ⟨i,r,a1 F1 H1 (.refl e1.fh)⟩
  | _=>exact a1.elim
def cutD (xs:List D) (lo hi:Option Int):List D:=(xs.drop (HT.sIx xs.length 0 lo)).take (HT.sIx xs.length xs.length hi - HT.sIx xs.length 0 lo)
def mSl (me:En→R D) (ml mh:En→R (Option Int)) (δ:En):R D:=(me δ).bind fun d=>(ml δ).bind fun lo=>(mh δ).bind fun hi=>(R.of (asL d)).bind fun l=>.ok (.lst (cutD l lo hi))
theorem zfu {tl th:TO} {ml mh:En→R (Option Int)} (h:SEr K XO E te me) (hl:SO K XO E tl ml) (hh:SO K XO E th mh):SEo K XO E (tSl (rSlL K.f) te tl th) (mSl me ml mh):=by
  intro Λ F0 H0 F H σ δ Q I a
  refine h Λ F0 H0 F H σ δ _ I (a.bind.imp fun d F1 H1 e1 a1 v r=>?_)
  refine hl Λ F0 H0 F1 H1 σ δ _ (I.grow e1) (a1.bind.imp fun lo F2 H2 e2 a2=>?_)
  refine hh Λ F0 H0 F2 H2 σ δ _ ((I.grow e1).grow e2) (a2.bind.imp fun hi F3 H3 e3 a3=>?_)
  cases d with
  | lst l =>
    obtain ⟨p,vs,rfl,h1,h2⟩:=r
    refine ⟨p,vs,rfl,.inl (PM.Same.rd e3.hh (PM.Same.rd e2.hh h1)),fun q hq=>a3 F3 _ (.newO e3.fh hq) q (e3.fh.free hq) (e1.hh.free (e2.hh.free (e3.hh.free hq))) ⟨_,zaD,?_⟩⟩
    unfold cutD cutV
    rw [← h2.length]
    exact (((h2.mono e2.ff).mono e3.ff).drop _).take _
  | scr l =>
    simp only [Top,Rep] at r
    obtain ⟨p,rfl,h1⟩:=r
    refine ⟨p,_,rfl,e3.hh.seq (e2.hh.seq (e1.fh.seq h1)),fun q hq=>a3 F3 _ (.newO e3.fh hq) q (e3.fh.free hq) (e1.hh.free (e2.hh.free (e3.hh.free hq))) ⟨_,zaD,?_⟩⟩
    unfold cutD cutV
    rw [List.length_map,List.length_map]
    exact (RepL.ints.drop _).take _
  | _=>exact a3.elim
end
end PM
namespace PM
open PySem L2
def oCat (x y:D):Option D:=match x,y with | .lst l,.lst r=>ifC (l.length + r.length ≤ sizeLine) (some (.lst (l ++ r))) none | _,_=>none
def zbC:Nat→D→Bool
  | _,.non=>true
  | _,.int _=>true
  | n + 1,.tup l=>l.all (zbC n)
  | n + 1,.lst l=>l.all (zbC n)
  | _,_=>false
open Classical in
def oNeD (x y:D):Option D:=ifC (zbC 8 x=true∧zbC 8 y=true) (some (.bl (!decide (x=y)))) none
def isiB:String→D→Bool
  | "int",.int _=>true
  | "int",.bl _=>true
  | "bool",.bl _=>true
  | "list",.lst _=>true
  | "tuple",.tup _=>true
  | "str",.str _=>true
  | _,_=>false
def okI:D→Bool
  | .scr _=>false
  | .exc _=>false
  | .fd _ _=>false
  | .obj _ _ _=>false
  | _=>true
def oIsi (c:String) (d:D):Option D:=match d with | .scr _=>none | .exc _=>none | .fd _ _=>none | .obj _ _ _=>none | d=>some (.bl (isiB c d))
theorem zhB {c:En→R Bool} {m:En→O} {δ:En} {n:Nat} {o:O} (h:zcM c m n δ=o) (ho:o ≠ .no):zd3 c m δ=o:=by
  have mono:∀ k n δ,zcM c m n δ ≠ .no→zcM c m (n + k) δ=zcM c m n δ:=by
    intro k n
    induction n with
    | zero=>intro δ h; exact absurd rfl h
    | succ n ih =>
      intro δ h
      have e:n + 1 + k=(n + k) + 1:=by omega
      rw [e]
      unfold zcM at h ⊢
      cases q:c δ with
      | no=>rfl
      | ex x=>rfl
      | ok b =>
        rw [q] at h
        cases b with
        | false=>rfl
        | true =>
          simp only [R.toO_ok,if_true] at h ⊢
          cases q2:m δ <;> simp only [q2] at h ⊢ <;> exact ih _ h
  have hex:∃ n,zcM c m n δ ≠ .no:=⟨n,by rw [h]; exact ho⟩
  unfold zd3
  rw [dif_pos hex]
  have h1:=mono n (Classical.choose hex) δ (Classical.choose_spec hex)
  have h2:=mono (Classical.choose hex) n δ (by rw [h]; exact ho)
  rw [← h1,Nat.add_comm,h2,h]
theorem zf1 {c:En→R Bool} {m:En→O} {α:Type} (env:α→En) (go:α→Bool) (nxt:α→α) (P:α→Prop) (μ:α→Nat) (hc:∀ a,P a→c (env a) = .ok (go a)) (hs:∀ a,P a→go a=true→m (env a) = .nx (env (nxt a))∧P (nxt a)∧μ (nxt a) < μ a)
    (a:α) (h:P a):∃ b,P b∧go b=false∧zd3 c m (env a) = .nx (env b)∧∃ k,b=Nat.repeat nxt k a:=by
  have key:∀ n a,P a→μ a < n→∃ b,P b∧go b=false∧zcM c m n (env a) = .nx (env b)∧∃ k,b=Nat.repeat nxt k a:=by
    intro n
    induction n with
    | zero=>intro a _ h; omega
    | succ n ih =>
      intro a hp hm
      cases g:go a with
      | false=>exact ⟨a,hp,g,by unfold zcM; rw [hc a hp,g]; rfl,0,rfl⟩
      | true =>
        obtain ⟨h1,h2,h3⟩:=hs a hp g
        obtain ⟨b,b1,b2,b3,k,b4⟩:=ih (nxt a) h2 (by omega)
        refine ⟨b,b1,b2,?_,k + 1,?_⟩
        · unfold zcM
          rw [hc a hp,g]
          simp only [R.toO_ok,if_true,h1]
          exact b3
        · rw [b4]
          clear b4 b3 b2 b1 b h3 h2 h1 hm hp ih
          induction k with
          | zero=>rfl
          | succ k ih=>show nxt (Nat.repeat nxt k (nxt a))=nxt (Nat.repeat nxt (k + 1) a); rw [ih]
  obtain ⟨b,b1,b2,b3,k⟩:=key (μ a + 1) a h (Nat.lt_succ_self _)
  exact ⟨b,b1,b2,zhB b3 (by intro z; cases z),k⟩
theorem zeI {β:Type} {f:D→R (Option D)} (enc:β→D) (g:β→Option D):∀ (l:List β),(∀ x ∈ l,f (enc x) = .ok (g x))→zbZ f (l.map enc) = .ok (l.filterMap g)
  | [],_=>rfl
  | x :: l,h=>by
    rw [List.map_cons]
    unfold zbZ
    rw [h x List.mem_cons_self,R.bind_ok,zeI enc g l fun y hy=>h y (List.mem_cons_of_mem _ hy)]
    cases q:g x with
    | none=>rw [List.filterMap_cons_none q]; rfl
    | some d=>rw [List.filterMap_cons_some q]; rfl
theorem small {n:Nat} (h:n ≤ 100000):n ≤ sizeLine:=Nat.le_trans h (by decide)
end PM
namespace PM
open PySem L2
theorem fitN {i:Int} (n:Nat) (h:i.natAbs ≤ n) (h2:n < 2 ^ 8000:=by decide +kernel):Fit i:=Nat.lt_of_le_of_lt h h2
@[simp] theorem zkA (i j:Int):oAdd (.int i) (.int j)=some (.int (i + j)):=rfl
theorem zeO {i j:Int} (h:Fit i) (h':Fit j):oMul (.int i) (.int j)=some (.int (i * j)):=za3 (p:=Fit i∧Fit j) ⟨h,h'⟩
theorem zka {i j:Int} (h:j ≠ 0) (h':Fit j):oDiv (.int i) (.int j)=some (.int (i.fdiv j)):=za3 (p:=j ≠ 0∧Fit j) ⟨h,h'⟩
theorem zdf {i j:Int} (h:0 < j) (h':Fit j):oDiv (.int i) (.int j)=some (.int (i / j)):=by
  rw [zka (by omega) h',Int.fdiv_eq_ediv_of_nonneg _ (by omega)]
theorem zcC {i j:Int} (h:0 < j):oMod (.int i) (.int j)=some (.int (i % j)):=za3 (p:=0 < j) h
theorem zgE {i j:Int} (h:CPow i j):oPow (.int i) (.int j)=some (.int (i ^ j.toNat)):=za3 (p:=CPow i j) h
@[simp] theorem zkC (i j:Int):oLt (.int i) (.int j)=some (.bl (decide (i < j))):=rfl
@[simp] theorem zkG (i j:Int):oGt (.int i) (.int j)=some (.bl (decide (j < i))):=rfl
@[simp] theorem zkF (i j:Int):oEq (.int i) (.int j)=some (.bl (decide (i=j))):=by simp [oEq,fl,scal]
@[simp] theorem zkH (i j:Int):oNe (.int i) (.int j)=some (.bl (!decide (i=j))):=by simp [oNe,fl,scal]
@[simp] theorem zkn (b:Bool):asB (.bl b)=some b:=rfl
@[simp] theorem zkI (l:List D):asL (.lst l)=some l:=rfl
@[simp] theorem zj4 (i:Int):asI (.int i)=some i:=rfl
@[simp] theorem zky (l:List D):fLen [.lst l]=some (.int l.length):=rfl
@[simp] theorem zkz (l:List D):fLen [.tup l]=some (.int l.length):=rfl
@[simp] theorem zkq (a b:D):oIxT (.tup [a,b]) (.int 0)=some a:=rfl
@[simp] theorem zkp (a b:D):oIxT (.tup [a,b]) (.int 1)=some b:=rfl
theorem atI_nat {α:Type} {l:List α} {k:Nat} {d:α} (h:l[k]?=some d):atI l (k:Int)=some d:=by
  have hk:=(List.getElem?_eq_some_iff.mp h).1
  unfold atI ixN
  rw [if_pos (by omega),if_pos (by omega)]
  exact h
theorem zjr {l:List D} {k:Nat} {d:D} (h:l[k]?=some d):oIxL (.lst l) (.int (k:Int))=some d:=atI_nat h
theorem zj3 {l:List D} {i:Int} {d:D} (h0:0 ≤ i) (h:l[i.toNat]?=some d):oIxL (.lst l) (.int i)=some d:=by
  have e:i=((i.toNat:Nat):Int):=by omega
  rw [e]
  exact zjr h
theorem rng2 {a b:Int} (h0 : -100000 ≤ a∧a ≤ 100000) (h : -100000 ≤ b∧b ≤ 100000):rng [.int a,.int b]=some (zfD a (b - a).toNat):=by
  show ifC _ _ _=_
  rw [za3 (by omega)]
theorem zif (l:List D):zg7 l=(l.zipIdx).map fun p=>D.tup [.int (p.2:Int),p.1]:=by
  unfold zg7
  rw [List.mapIdx_eq_zipIdx_map]
@[simp] theorem zkD (a b:α):([a,b].length ≤ sizeLine)=True:=by simp [sizeLine]
end PM
namespace PM
open PySem L2
def sv:Option D→Sl
  | none=>.no
  | some d=>.v d
theorem zfd {i:Nat} {d:D} {δ:En} {o:Option D} (h:δ[i]?=some (sv o)):zax i d δ=some (δ.set i (.v d)):=by
  unfold zax
  rw [h]
  cases o <;> rfl
@[simp] theorem zkv:sv none = .no:=rfl
@[simp] theorem zkw (d:D):sv (some d) = .v d:=rfl
def iL (l:List Int):D:=.lst (l.map .int)
theorem zbt {α:Type} {f:D→R (Option D)} (enc:α→D) (g:α→D) (l:List α) (h:∀ x ∈ l,f (enc x) = .ok (some (g x))):zbZ f (l.map enc) = .ok (l.map g):=by
  rw [zeI enc (fun x=>some (g x)) l h,List.filterMap_eq_map']
end PM
namespace PM
open PySem L2
theorem zb0 {mi:En→R (List D)} {ix:List Nat} {n:Nat} {b:D→En→Option En} {nc:Option (En→R Bool)} {me:En→R D} {δ:En} {l r:List D} (h1:mi δ = .ok l) (hl:l.length ≤ 100000)
    (h2:zbZ (zdi b nc me (zaS δ ix n)) l = .ok r):zd1 mi ix n b nc me δ = .ok (.lst r):=by
  unfold zd1
  rw [h1,R.bind_ok,za3 (small hl),h2]
  rfl
theorem zed {mi:En→R (List D)} {b:D→En→Option En} {m:En→O} {δ:En} {l:List D} (h:mi δ = .ok l):mFor mi b m δ=zeu b m l δ:=by
  unfold mFor
  rw [h]
  rfl
theorem zbh {np nv:Nat} {m:En→O} {ds:List D} {d:D} (h:m (zbq nv ds) = .rt d) (hl:ds.length=np:=by rfl):runF np nv m ds = .ok d:=by
  unfold runF
  rw [if_pos hl,h]
theorem zh3 {np nv:Nat} {m:En→O} {ds:List D} {d:D} (h:m (zbq nv ds) = .ro d) (hl:ds.length=np:=by rfl):runO np nv m ds = .ok d:=by
  unfold runO
  rw [if_pos hl,h]
theorem zan {m n:En→O} {δ δ':En} (h:m δ = .nx δ'):mSeq m n δ=n δ':=by unfold mSeq; rw [h]
theorem zaK {me:En→R D} {b:D→En→Option En} {δ δ':En} {d:D} (h:me δ = .ok d) (h2:b d δ=some δ'):mAsg me b δ = .nx δ':=by unfold mAsg; rw [h,R.toO_ok,h2]; rfl
theorem zgA {n:En→R Bool} {m m':En→O} {δ:En} (h:n δ = .ok true):mIfS n m m' δ=m δ:=by unfold mIfS; rw [h]; rfl
theorem zff {n:En→R Bool} {m m':En→O} {δ:En} (h:n δ = .ok false):mIfS n m m' δ=m' δ:=by unfold mIfS; rw [h]; rfl
theorem zdO {β:Type} {b:D→En→Option En} {m:En→O} (enc:β→D) (P:List β→En→Prop) (all:List β)
    (step:∀ pre x post δ,all=pre ++ x :: post→P pre δ→∃ δ1 δ2,b (enc x) δ=some δ1∧(m δ1 = .nx δ2∨m δ1 = .ct δ2)∧P (pre ++ [x]) δ2) (δ:En) (h:P [] δ):∃ δ2,zeu b m (all.map enc) δ = .nx δ2∧P all δ2:=by
  have key:∀ (post pre:List β) (δ:En),all=pre ++ post→P pre δ→∃ δ2,zeu b m (post.map enc) δ = .nx δ2∧P all δ2:=by
    intro post
    induction post with
    | nil=>intro pre δ e h; exact ⟨δ,rfl,by rw [e,List.append_nil]; exact h⟩
    | cons x post ih =>
      intro pre δ e h
      obtain ⟨δ1,δ2,h1,h2,h3⟩:=step pre x post δ e h
      obtain ⟨δ3,h4,h5⟩:=ih (pre ++ [x]) δ2 (by rw [e]; simp) h3
      refine ⟨δ3,?_,h5⟩
      rw [List.map_cons]
      unfold zeu
      rw [h1]
      rcases h2 with h2 | h2 <;> (simp only [h2]; exact h4)
  exact key all [] δ rfl h
end PM
namespace PM
open PySem L2
@[simp] theorem zkl (l:List Int):fLen [iL l]=some (.int l.length):=by simp [iL]
@[simp] theorem zkB (l:List Int):asL (iL l)=some (l.map .int):=rfl
end PM
namespace PM
open PySem L2
theorem zia {l:List D} {k:Nat} (h:k ≤ l.length):cutD l (some (k:Int)) none=l.drop k:=by
  unfold cutD
  have e:HT.sIx l.length 0 (some (k:Int))=k:=by
    show (if (k:Int) < 0 then ((k:Int) + (l.length:Int)).toNat else min (k:Int).toNat l.length)=k
    rw [if_neg (by omega)]; omega
  rw [e]
  show (l.drop k).take (l.length - k)=_
  rw [List.take_of_length_le (by simp)]
theorem zil (l:List Int) (lo hi:Option Int):∃ cs:List Int,cutD (l.map .int) lo hi=cs.map .int∧cs.length ≤ l.length:=by
  refine ⟨(l.drop (HT.sIx l.length 0 lo)).take (HT.sIx l.length l.length hi - HT.sIx l.length 0 lo),?_,by rw [List.length_take,List.length_drop]; omega⟩
  unfold cutD
  rw [List.length_map,List.map_take,List.map_drop]
theorem ziB {l r:List D} (h:l.length + r.length ≤ 100000):oCat (.lst l) (.lst r)=some (.lst (l ++ r)):=by
  show ifC _ _ _=_
  rw [za3 (small h)]
theorem zjd {x y:D} (hx:zbC 8 x=true) (hy:zbC 8 y=true) (h:x=y):oNeD x y=some (.bl false):=by
  unfold oNeD
  rw [za3 ⟨hx,hy⟩]
  simp [h]
end PM
namespace PM
open PySem L2 PyProof.Rows
section
variable {K:Kx} {ca:Nat→Addr} {an:Nat→Str} {XO:XOT} {E:L2.St→XK} {ta tb te:TE} {ma mb me:En→R D} {X:Cx}
def zjs:R2:=fun x y H Q=>∃ l b xs zs,x = .ref l∧y = .ref b∧Rd H l (.lst xs)∧Rd H b (.lst zs)∧xs.length + zs.length ≤ sizeLine∧∀ p,H p=none→Q (.ref p) (upd H p (.lst (xs ++ zs)))
theorem zhJ:OpR X (binaryOp .Add) zjs:=by
  intro pins s σ H x y v u Q I rx ry h
  obtain ⟨l,b,xs,zs,rfl,rfl,hH,hB,hz,q⟩:=h
  cases rx
  cases ry
  obtain ⟨z,its,n,r,e⟩:=hH.ok I.hok
  obtain ⟨z2,its2,n2,r2,e2⟩:=hB.ok I.hok
  have hl:=r.length
  have hl2:=r2.length
  refine PySem.P.add_list e e2 ?_ (by rw [List.size_toArray,List.size_toArray]; omega)
  have ea:its.toArray ++ its2.toArray=(its ++ its2).toArray:=by simp
  rw [ea]
  exact ⟨.ref _,_,I.lnew (t':=s.toks) (r.append r2) (by rw [List.length_append]; omega),rfl,q _ I.fresh⟩
theorem ziO:SRo K zjs oCat:=by
  intro F H x y dx dy d Q s hx hy e q
  cases dx with
  | lst l =>
    cases dy with
    | lst r =>
      simp only [oCat] at e
      unfold ifC at e
      split at e
      · rename_i hc
        cases e
        obtain ⟨a,vs,rfl,h1,h2⟩:=hx
        obtain ⟨b,ws,rfl,g1,g2⟩:=hy
        exact ⟨a,b,vs,ws,rfl,rfl,h1,g1,by rw [h2.length,g2.length]; exact hc,fun p hp=>q p F _ (.newO s hp) (s.free hp) hp ⟨_,zaD,h2.append g2⟩⟩
      · cases e
    | _=>cases e
  | _=>cases e
theorem ziW {K:W.Frag} {S T:String} (h2:PySem.W.kitMeta T=true) (h3:(PySem.fastBuiltinMro S).map (·.contains (.type T))=some true):PySem.W.kitOne K (.type S) (.type T)=some true:=by
  unfold PySem.W.kitOne
  split
  · rfl
  · show (if PySem.W.kitMeta T=true then PySem.W.subIn K (.type S) (.type T) else none)=some true
    rw [if_pos h2]
    exact h3
def zd4:D→String
  | .non=>"NoneType"
  | .bl _=>"bool"
  | .int _=>"int"
  | .str _=>"str"
  | .tup _=>"tuple"
  | .lst _=>"list"
  | .dct _ _=>"dict"
  | .scr _=>"list"
  | .exc _=>"object"
  | .fd _ _=>"object"
  | .obj _ _ _=>"object"
theorem zdK {K:W.Frag}:PySem.W.kitOne K (.type "NoneType") (.type "int")=some false:=L2.kit_no (by decide +kernel) (by decide +kernel) (by decide +kernel)
theorem kit_int_bool {K:W.Frag}:PySem.W.kitOne K (.type "bool") (.type "int")=some true:=ziW (by decide +kernel) (by decide +kernel)
theorem zgv {K:W.Frag}:PySem.W.kitOne K (.type "int") (.type "int")=some true:=L2.kit_self
theorem zgk {K:W.Frag}:PySem.W.kitOne K (.type "str") (.type "int")=some false:=L2.kit_no (by decide +kernel) (by decide +kernel) (by decide +kernel)
theorem ze9 {K:W.Frag}:PySem.W.kitOne K (.type "tuple") (.type "int")=some false:=L2.kit_no (by decide +kernel) (by decide +kernel) (by decide +kernel)
theorem zfB {K:W.Frag}:PySem.W.kitOne K (.type "list") (.type "int")=some false:=L2.kit_no (by decide +kernel) (by decide +kernel) (by decide +kernel)
theorem zfU {K:W.Frag}:PySem.W.kitOne K (.type "dict") (.type "int")=some false:=L2.kit_no (by decide +kernel) (by decide +kernel) (by decide +kernel)
theorem zdm {K:W.Frag}:PySem.W.kitOne K (.type "NoneType") (.type "bool")=some false:=L2.kit_no (by decide +kernel) (by decide +kernel) (by decide +kernel)
theorem zeW {K:W.Frag}:PySem.W.kitOne K (.type "bool") (.type "bool")=some true:=L2.kit_self
theorem zfy {K:W.Frag}:PySem.W.kitOne K (.type "int") (.type "bool")=some false:=L2.kit_no (by decide +kernel) (by decide +kernel) (by decide +kernel)
theorem zfv {K:W.Frag}:PySem.W.kitOne K (.type "str") (.type "bool")=some false:=L2.kit_no (by decide +kernel) (by decide +kernel) (by decide +kernel)
theorem zem {K:W.Frag}:PySem.W.kitOne K (.type "tuple") (.type "bool")=some false:=L2.kit_no (by decide +kernel) (by decide +kernel) (by decide +kernel)
theorem zfe {K:W.Frag}:PySem.W.kitOne K (.type "list") (.type "bool")=some false:=L2.kit_no (by decide +kernel) (by decide +kernel) (by decide +kernel)
theorem ze2 {K:W.Frag}:PySem.W.kitOne K (.type "dict") (.type "bool")=some false:=L2.kit_no (by decide +kernel) (by decide +kernel) (by decide +kernel)
theorem zdo {K:W.Frag}:PySem.W.kitOne K (.type "NoneType") (.type "list")=some false:=L2.kit_no (by decide +kernel) (by decide +kernel) (by decide +kernel)
theorem zeT {K:W.Frag}:PySem.W.kitOne K (.type "bool") (.type "list")=some false:=L2.kit_no (by decide +kernel) (by decide +kernel) (by decide +kernel)
theorem zft {K:W.Frag}:PySem.W.kitOne K (.type "int") (.type "list")=some false:=L2.kit_no (by decide +kernel) (by decide +kernel) (by decide +kernel)
theorem zfk {K:W.Frag}:PySem.W.kitOne K (.type "str") (.type "list")=some false:=L2.kit_no (by decide +kernel) (by decide +kernel) (by decide +kernel)
theorem zel {K:W.Frag}:PySem.W.kitOne K (.type "tuple") (.type "list")=some false:=L2.kit_no (by decide +kernel) (by decide +kernel) (by decide +kernel)
theorem zfa {K:W.Frag}:PySem.W.kitOne K (.type "list") (.type "list")=some true:=L2.kit_self
theorem ze1 {K:W.Frag}:PySem.W.kitOne K (.type "dict") (.type "list")=some false:=L2.kit_no (by decide +kernel) (by decide +kernel) (by decide +kernel)
theorem zc5 {K:W.Frag}:PySem.W.kitOne K (.type "NoneType") (.type "tuple")=some false:=L2.kit_no (by decide +kernel) (by decide +kernel) (by decide +kernel)
theorem zeD {K:W.Frag}:PySem.W.kitOne K (.type "bool") (.type "tuple")=some false:=L2.kit_no (by decide +kernel) (by decide +kernel) (by decide +kernel)
theorem ze0 {K:W.Frag}:PySem.W.kitOne K (.type "int") (.type "tuple")=some false:=L2.kit_no (by decide +kernel) (by decide +kernel) (by decide +kernel)
theorem zeS {K:W.Frag}:PySem.W.kitOne K (.type "str") (.type "tuple")=some false:=L2.kit_no (by decide +kernel) (by decide +kernel) (by decide +kernel)
theorem zdZ {K:W.Frag}:PySem.W.kitOne K (.type "tuple") (.type "tuple")=some true:=L2.kit_self
theorem zey {K:W.Frag}:PySem.W.kitOne K (.type "list") (.type "tuple")=some false:=L2.kit_no (by decide +kernel) (by decide +kernel) (by decide +kernel)
theorem zeA {K:W.Frag}:PySem.W.kitOne K (.type "dict") (.type "tuple")=some false:=L2.kit_no (by decide +kernel) (by decide +kernel) (by decide +kernel)
theorem zdM {K:W.Frag}:PySem.W.kitOne K (.type "NoneType") (.type "str")=some false:=L2.kit_no (by decide +kernel) (by decide +kernel) (by decide +kernel)
theorem zf7 {K:W.Frag}:PySem.W.kitOne K (.type "bool") (.type "str")=some false:=L2.kit_no (by decide +kernel) (by decide +kernel) (by decide +kernel)
theorem zgi {K:W.Frag}:PySem.W.kitOne K (.type "int") (.type "str")=some false:=L2.kit_no (by decide +kernel) (by decide +kernel) (by decide +kernel)
theorem zgj {K:W.Frag}:PySem.W.kitOne K (.type "str") (.type "str")=some true:=L2.kit_self
theorem zeV {K:W.Frag}:PySem.W.kitOne K (.type "tuple") (.type "str")=some false:=L2.kit_no (by decide +kernel) (by decide +kernel) (by decide +kernel)
theorem zfE {K:W.Frag}:PySem.W.kitOne K (.type "list") (.type "str")=some false:=L2.kit_no (by decide +kernel) (by decide +kernel) (by decide +kernel)
theorem zf8 {K:W.Frag}:PySem.W.kitOne K (.type "dict") (.type "str")=some false:=L2.kit_no (by decide +kernel) (by decide +kernel) (by decide +kernel)
theorem zgZ {K:W.Frag} (d:D) (h:okI d=true):PySem.W.kitOne K (.type (zd4 d)) (.type "int")=some (isiB "int" d):=by
  cases d with
  | non=>exact zdK
  | bl b=>exact kit_int_bool
  | int b=>exact zgv
  | str b=>exact zgk
  | tup b=>exact ze9
  | lst b=>exact zfB
  | dct b b'=>exact zfU
  | scr b=>cases h
  | exc b=>cases h
  | fd b b'=>cases h
  | obj b b' b''=>cases h
theorem zfM {K:W.Frag} (d:D) (h:okI d=true):PySem.W.kitOne K (.type (zd4 d)) (.type "bool")=some (isiB "bool" d):=by
  cases d with
  | non=>exact zdm
  | bl b=>exact zeW
  | int b=>exact zfy
  | str b=>exact zfv
  | tup b=>exact zem
  | lst b=>exact zfe
  | dct b b'=>exact ze2
  | scr b=>cases h
  | exc b=>cases h
  | fd b b'=>cases h
  | obj b b' b''=>cases h
theorem zf3 {K:W.Frag} (d:D) (h:okI d=true):PySem.W.kitOne K (.type (zd4 d)) (.type "list")=some (isiB "list" d):=by
  cases d with
  | non=>exact zdo
  | bl b=>exact zeT
  | int b=>exact zft
  | str b=>exact zfk
  | tup b=>exact zel
  | lst b=>exact zfa
  | dct b b'=>exact ze1
  | scr b=>cases h
  | exc b=>cases h
  | fd b b'=>cases h
  | obj b b' b''=>cases h
theorem zeM {K:W.Frag} (d:D) (h:okI d=true):PySem.W.kitOne K (.type (zd4 d)) (.type "tuple")=some (isiB "tuple" d):=by
  cases d with
  | non=>exact zc5
  | bl b=>exact zeD
  | int b=>exact ze0
  | str b=>exact zeS
  | tup b=>exact zdZ
  | lst b=>exact zey
  | dct b b'=>exact zeA
  | scr b=>cases h
  | exc b=>cases h
  | fd b b'=>cases h
  | obj b b' b''=>cases h
theorem zgY {K:W.Frag} (d:D) (h:okI d=true):PySem.W.kitOne K (.type (zd4 d)) (.type "str")=some (isiB "str" d):=by
  cases d with
  | non=>exact zdM
  | bl b=>exact zf7
  | int b=>exact zgi
  | str b=>exact zgj
  | tup b=>exact zeV
  | lst b=>exact zfE
  | dct b b'=>exact zf8
  | scr b=>cases h
  | exc b=>cases h
  | fd b b'=>cases h
  | obj b b' b''=>cases h
theorem zcR {c:String} (hk:∀ d,okI d=true→PySem.W.kitOne K.f (.type (zd4 d)) (.type c)=some (isiB c d)) (ha:SEr K XO E ta ma):SE K XO E (tCB (rIs K.f) (zf6 ta (zf6 (tC (.ty c)) tNil))) (m1 (oIsi c) ma):=by
  intro Λ F0 H0 F H σ δ Q I a
  refine ha Λ F0 H0 F H σ δ _ I (a.bind.imp fun d F1 H1 e1 a1 x rx=>?_)
  by_cases hs':okI d=true
  case neg =>
    cases d with
    | scr _=>exact a1.elim
    | exc _=>exact a1.elim
    | fd _ _=>exact a1.elim
    | obj _ _ _=>exact a1.elim
    | _=>exact absurd rfl hs'
  have a2:Aft E XO σ F1 H1 (fun d F' H'=>∀ v,Rep K F' d v→Q v H') (.ok (.bl (isiB c d))):=by
    cases d with
    | scr l=>cases hs'
    | exc l=>cases hs'
    | fd _ _=>cases hs'
    | obj _ _ _=>cases hs'
    | _=>exact a1
  have fin:=a2 F1 H1 (.refl e1.fh) (.bl (isiB c d)) (by simp only [Rep])
  suffices h:TyOf K.f H1 x (.type (zd4 d)) from ⟨x,.ty c,.type c,_,_,rfl,rfl,h,hk d hs',fin⟩
  cases d with
  | non=>simp only [Top,Rep] at rx; subst rx; exact .non
  | bl b=>simp only [Top,Rep] at rx; subst rx; exact .bl _
  | int b=>simp only [Top,Rep] at rx; subst rx; exact .int _
  | str b=>simp only [Top,Rep] at rx; subst rx; exact .str _
  | tup l =>
    simp only [Top,Rep] at rx
    obtain ⟨p,vs,rfl,h1,h2⟩:=rx
    exact .tup (e1.fh _ _ h1)
  | lst l =>
    obtain ⟨p,vs,rfl,h1,h2⟩:=rx
    rcases h1 with h | ⟨o,h⟩
    · exact .lst h
    · exact .frz h
  | dct ks l=>obtain ⟨p,kvs,rfl,h1,h2⟩:=rx; exact .dK h1
  | scr l=>cases hs'
  | exc l=>cases hs'
  | fd _ _=>cases hs'
  | obj _ _ _=>cases hs'
def toPy:Nat→D→PyData
  | _,.non=>.none
  | _,.int i=>.int i
  | n + 1,.tup l=>.tuple (l.map (toPy n))
  | n + 1,.lst l=>.list (l.map (toPy n))
  | _,_=>.none
theorem zgN:∀ (n:Nat) (d:D),zbC n d=true→(toPy n d).canLay0=true∧(toPy n d).depth ≤ n:=by
  intro n
  induction n with
  | zero =>
    intro d h
    cases d with
    | non=>exact ⟨rfl,Nat.le_refl _⟩
    | int i=>exact ⟨rfl,Nat.le_refl _⟩
    | _=>cases h
  | succ n ih =>
    have all:∀ l:List D,l.all (zbC n)=true→PyData.canLayAll0 (l.map (toPy n))=true∧PyData.depthAll (l.map (toPy n)) ≤ n:=by
      intro l
      induction l with
      | nil=>intro _; exact ⟨rfl,Nat.zero_le _⟩
      | cons a l ih2 =>
        intro h
        rw [List.all_cons,Bool.and_eq_true] at h
        obtain ⟨h1,h2⟩:=ih a h.1
        obtain ⟨h3,h4⟩:=ih2 h.2
        refine ⟨?_,?_⟩
        · simp only [List.map_cons,PyData.canLayAll0,h1,h3,Bool.and_self]
        · simp only [List.map_cons,PyData.depthAll]; omega
    intro d h
    cases d with
    | non=>exact ⟨rfl,Nat.zero_le _⟩
    | int i=>exact ⟨rfl,Nat.zero_le _⟩
    | tup l=>obtain ⟨h1,h2⟩:=all l h; exact ⟨by simpa only [toPy,PyData.canLay0] using h1,by simp only [toPy,PyData.depth]; omega⟩
    | lst l=>obtain ⟨h1,h2⟩:=all l h; exact ⟨by simpa only [toPy,PyData.canLay0] using h1,by simp only [toPy,PyData.depth]; omega⟩
    | _=>cases h
open Classical in
theorem zi9:∀ (n:Nat) (d d':D),zbC n d=true→zbC n d'=true→PyData.eqv (toPy n d) (toPy n d')=decide (d=d'):=by
  intro n
  induction n with
  | zero =>
    intro d d' h h'
    cases d with
    | non=>cases d' <;> first | (simp [toPy,PyData.eqv]; done) | cases h'
    | int i =>
      cases d' with
      | int j=>simp only [toPy,PyData.eqv]; by_cases e:i=j <;> simp [e]
      | _=>first | (simp [toPy,PyData.eqv]; done) | cases h'
    | _=>cases h
  | succ n ih =>
    have all:∀ l l':List D,l.all (zbC n)=true→l'.all (zbC n)=true→PyData.eqvAll (l.map (toPy n)) (l'.map (toPy n))=decide (l=l'):=by
      intro l
      induction l with
      | nil=>intro l' _ _; cases l' <;> simp [PyData.eqvAll]
      | cons a l ih2 =>
        intro l' h h'
        cases l' with
        | nil=>simp [PyData.eqvAll]
        | cons b l' =>
          rw [List.all_cons,Bool.and_eq_true] at h h'
          simp only [List.map_cons,PyData.eqvAll,ih a b h.1 h'.1,ih2 l' h.2 h'.2]
          by_cases e1:a=b <;> by_cases e2:l=l' <;> simp [e1,e2]
    intro d d' h h'
    cases d with
    | non=>cases d' <;> first | (simp [toPy,PyData.eqv]; done) | cases h'
    | int i =>
      cases d' with
      | int j=>simp only [toPy,PyData.eqv]; by_cases e:i=j <;> simp [e]
      | _=>first | (simp [toPy,PyData.eqv]; done) | cases h'
    | tup l =>
      cases d' with
      | tup l'=>simp only [toPy,PyData.eqv,all l l' h h']; simp
      | _=>first | (simp [toPy,PyData.eqv]; done) | cases h'
    | lst l =>
      cases d' with
      | lst l'=>simp only [toPy,PyData.eqv,all l l' h h']; simp
      | _=>first | (simp [toPy,PyData.eqv]; done) | cases h'
    | _=>cases h
theorem zin {pins:List (Addr × Obj)} {σ:L2.St} {H F:Hp} {s:Shared} (I:Inv X pins σ H s) (sm:Same F H):∀ (n:Nat) (d:D) (v:V) (u:Value),zbC n d=true→Rep ⟨X.K,ca,an⟩ F d v→RelV v u→∃ as,Reads s.heap u (toPy n d) as:=by
  intro n
  induction n with
  | zero =>
    intro d v u h r ru
    cases d with
    | non=>simp only [Rep] at r; subst r; cases ru; exact ⟨_,.none⟩
    | int i=>simp only [Rep] at r; subst r; obtain ⟨t,rfl⟩:=ru; exact ⟨_,.int i t⟩
    | _=>cases h
  | succ n ih =>
    have all:∀ (l:List D) (vs:List V) (us:List Value),l.all (zbC n)=true→RepL ⟨X.K,ca,an⟩ F l vs→Vals vs us→∃ as,ReadsAll s.heap us (l.map (toPy n)) as:=by
      intro l
      induction l with
      | nil=>intro vs us _ r ru; simp only [RepL] at r; subst r; cases ru; exact ⟨_,.nil⟩
      | cons a l ih2 =>
        intro vs us h r ru
        rw [List.all_cons,Bool.and_eq_true] at h
        simp only [RepL] at r
        obtain ⟨v,r',rfl,r1,r2⟩:=r
        cases ru with
        | cons ru ru' =>
          obtain ⟨as,h1⟩:=ih a v _ h.1 r1 ru
          obtain ⟨bs,h2⟩:=ih2 r' _ h.2 r2 ru'
          exact ⟨_,.cons h1 h2⟩
    intro d v u h r ru
    cases d with
    | non=>simp only [Rep] at r; subst r; cases ru; exact ⟨_,.none⟩
    | int i=>simp only [Rep] at r; subst r; obtain ⟨t,rfl⟩:=ru; exact ⟨_,.int i t⟩
    | tup l =>
      simp only [Rep] at r
      obtain ⟨a,vs,rfl,h1,h2⟩:=r
      cases ru
      obtain ⟨its,rv,⟨o,e,c,k,dd⟩,_⟩:=I.tuple (show SqT X.K H a vs from .inl (.inl (sm _ _ h1)))
      obtain ⟨as,h3⟩:=all l vs its h h2 rv
      exact ⟨_,.tuple e c dd (by simpa using h3)⟩
    | lst l =>
      simp only [Rep] at r
      obtain ⟨a,vs,rfl,h1,h2⟩:=r
      cases ru
      obtain ⟨its,rv,⟨o,k,e,c,_,dd⟩,_⟩:=I.list (show SqL X.K H a vs from .inl (PM.Same.rd sm h1))
      obtain ⟨as,h3⟩:=all l vs its h h2 rv
      exact ⟨_,.list e c dd (by simpa using h3)⟩
    | _=>cases h
theorem zfC {pins:List (Addr × Obj)} {σ:L2.St} {H F:Hp} {s:Shared} (I:Inv X pins σ H s) (sm:Same F H) {n:Nat} {d:D} {v:V} {u:Value} (h:zbC n d=true) (r:Top ⟨X.K,ca,an⟩ F H d v) (ru:RelV v u):∃ as,Reads s.heap u (toPy n d) as:=by
  have r':Rep ⟨X.K,ca,an⟩ (zc3 F H) d v:=by
    cases d with
    | lst l =>
      obtain ⟨a,vs,rfl,h1,h2⟩:=r
      rcases h1 with h1 | ⟨o,h1⟩
      · exact zi4 sm (.inr (.inl ⟨a,rfl,vs,h1,h2⟩))
      · simp only [Rep]
        refine ⟨a,vs,rfl,.inr ⟨o,?_⟩,h2.mono zcJ⟩
        unfold zc3
        cases q:F a with
        | some u=>rw [sm _ _ q] at h1; exact h1
        | none=>simp only [h1]
    | dct ks l=>cases n <;> cases h
    | obj c ks l=>cases n <;> cases h
    | _=>exact Rep.mono zcJ _ r
  exact zin I (zjn sm) n d v u h r' ru
open Classical in
def rEqD (K:Kx) (neg:Bool):R2:=fun x y H Q=>∃ (F:Hp) (dx dy:D),Same F H∧Top K F H dx x∧Top K F H dy y∧zbC 8 dx=true∧zbC 8 dy=true∧Q (.bl (if neg=true then !decide (dx=dy) else decide (dx=dy))) H
theorem zkf (hu:X.A.units + 64 < cLine):OpR X (compareOp .NotEq) (rEqD ⟨X.K,ca,an⟩ true):=by
  intro pins s σ H x y v u Q I rx ry h
  obtain ⟨F,dx,dy,sm,tx,ty,px,py,q⟩:=h
  obtain ⟨as,ra⟩:=zfC I sm px tx rx
  obtain ⟨bs,rb⟩:=zfC I sm py ty ry
  obtain ⟨l1,l2⟩:=zgN 8 dx px
  obtain ⟨m1,m2⟩:=zgN 8 dy py
  refine SeqAt.compareNe_reads ra rb l1 m1 (by omega) ?_
  rw [zi9 8 dx dy px py]
  exact ⟨.bl _,H,I,rfl,q⟩
theorem zjW:SR K (rEqD K true) oNeD:=by
  intro F H x y dx dy d Q s hx hy e q
  unfold oNeD ifC at e
  split at e
  · rename_i h
    cases e
    exact ⟨F,dx,dy,s,hx,hy,h.1,h.2,q _ F H (.refl s) (by simp only [Rep]; rfl)⟩
  · cases e
end
end PM
namespace L2
open PySem PySem.Spec PyProof.Rows
section
variable {X:Cx}
end
end L2
namespace PM
open PySem L2
section
variable {K:Kx} {XO:XOT} {E:L2.St→XK}
end
end PM
namespace PM
open PySem L2
section
variable {K:Kx} {E:L2.St→XK} {ta:TE} {ma:En→R D} {t u:TS} {m n:En→O} {Λ:List (Nat × Addr × HO)} {F0 H0 F H:Hp} {σ:L2.St} {δ:En}
end
end PM
namespace L2
open PySem PySem.Spec PyProof.Rows
section
variable {P:Program} {w:World} {B:Around} {Z:Result→Shared→Prop} {J S:Addr} {fp wr:List Addr} {n:Nat} {Pv:Nat→Value→Prop} {Sn:Nat→Heap→Prop}
end
section
variable {P:Program} {w:World} {B:Around} {E:Value→Shared→Prop} {s:Shared} {Q:Value→Shared→Prop} {l:Addr} {xs:Array (Int × Tok)} {df:Value}
end
end L2
namespace L2
open PySem PySem.Spec PyProof.Rows
section
variable {X:Cx}
end
end L2
namespace PM
open PySem L2
section
variable {K:Kx} {XO:XOT} {E:L2.St→XK} {td te:TE} {md me:En→R D}
end
end PM
namespace L2
open PySem PySem.Spec PyProof.Rows
section
variable {X:Cx}
end
end L2
namespace PM
open PySem L2
section
variable {K:Kx} {XO:XOT} {E:L2.St→XK} {td ty tx:TE} {md my mx:En→R D}
end
end PM
namespace L2
open PySem PySem.Spec PyProof.Rows
section
variable {X:Cx}
end
end L2
namespace PM
open PySem L2
section
variable {K:Kx} {XO:XOT} {E:L2.St→XK}
end
end PM
namespace L2
open PySem PySem.Spec PyProof.Rows
theorem Inv.turnedL {X:Cx} {pins:List (Addr × Obj)} {σ:St} {H:Hp} {s:Shared} {h':Heap} {t':Nat} (ch:List Addr) (I:Inv X pins σ H s) (hf:∀ b ∈ ch,FpOk X pins H b) (k:∀ b o,b ∉ ch→s.heap.get? b=some o→h'.get? b=some o):Inv X pins σ H { s with heap:=h',toks:=t' }:=by
  have nit:∀ b u,H b=some u→b ∉ ch:=fun b u e z=>by
    obtain ⟨f0,_⟩:=hf b z
    rw [f0] at e; cases e
  refine I.step (g':=s.gens) (d':=s.drawn) (ch:=ch) (fun b hb=>?_) (fun b o _ _ hc e _=>k b o hc e) (fun b o _ _ hc e _=>⟨o.slots,k b o hc e⟩) (fun _ _ _ _ n=>n)
    (fun b o hc e=>⟨o,k b o hc e⟩) (fun _ _ e=>e) (fun _ _ _ e=>e) (fun b ps e=>⟨#[],by rw [e]; simp⟩) (fun m hm=>?_) (fun b u e=>?_) I.bare
  · obtain ⟨f0,f1,f2,f3,f4,f5⟩:=hf b hb
    exact ⟨f3,f1,f4,f5⟩
  · obtain ⟨o,es,ep,ho,r⟩:=hm
    refine ⟨o,es,ep,k _ o (fun z=>?_) ho,r⟩
    obtain ⟨_,f1,_⟩:=hf _ z
    exact f1 rfl
  · refine (I.hok b u e).stay (fun c v hc q=>k c v ?_ q) (fun _ q=>q) fun _ _ q=>q
    rcases hc with z | z
    · rw [z]; exact nit b u e
    · exact nit c _ z
theorem Inv.laidT {X:Cx} {pins:List (Addr × Obj)} {σ:St} {H:Hp} {s:Shared} {h':Heap} {t':Nat} (ch:List Addr) {xs:List V} {us:List Value} (I:Inv X pins σ H s) (hf:∀ b ∈ ch,FpOk X pins H b) (k:∀ b o,b ∉ ch→s.heap.get? b=some o→h'.get? b=some o)
    (hl:xs.length ≤ sizeLine) (rv:Vals xs us) (ht:h'.get? s.heap.objs.size=some { cls:=.type "tuple",data:=.seq us.toArray }):Inv X pins σ (upd H s.heap.objs.size (.tup xs)) { s with heap:=h',toks:=t' }:=by
  have hT:H s.heap.objs.size=none:=I.hok.fresh (Nat.le_refl _)
  have nit:∀ b u,H b=some u→b ∉ ch:=fun b u e z=>by
    obtain ⟨f0,_⟩:=hf b z
    rw [f0] at e; cases e
  refine I.step (h':=h') (g':=s.gens) (d':=s.drawn) (t':=t') (ch:=ch) (fun b hb=>?_) (fun b o _ _ hb q _=>k b o hb q) (fun b o _ _ hb q _=>⟨o.slots,k b o hb q⟩) (fun b o hb q n=>?_) (fun b o hb q=>⟨o,k b o hb q⟩) (fun b ys q=>?_) (fun b o ys q=>?_) (fun b ps q=>⟨#[],?_⟩) (fun m hm=>?_) ?_ I.bare
  · obtain ⟨f0,f1,f2,f3,f4,f5⟩:=hf b hb
    exact ⟨f3,f1,f4,f5⟩
  · rw [zar (Nat.ne_of_lt (Heap.lt_size q))]; exact n
  · rw [zar (zas q hT)]; exact q
  · rw [zar (zas q hT)]; exact q
  · rw [zar (zas q hT),q]; simp
  · obtain ⟨o,es',ep,ho',r⟩:=hm
    refine ⟨o,es',ep,k _ o (fun z=>?_) ho',r⟩
    obtain ⟨_,f1,_⟩:=hf _ z
    exact f1 rfl
  · intro b o q
    by_cases hb:b=s.heap.objs.size
    · subst hb
      rw [zaD] at q; cases q
      exact ⟨hl,us,rv,⟨_,ht,rfl,_,rfl⟩⟩
    · rw [zar hb] at q
      refine (I.hok b o q).stay (fun c v hc' q'=>?_) (fun c q'=>by rw [zar (zas q' hT)]; exact q') fun c ys q'=>by rw [zar (zas q' hT)]; exact q'
      rcases hc' with rfl | hc'
      · exact k _ v (nit _ _ q) q'
      · exact k _ v (nit _ _ hc') q'
theorem zfm {h:Heap} {z TI TO i1 i2 a b:Addr} {f0 u v:Value} {k1 k2:Nat} {xs ys:Array Value} (hd : [z,TI,TO,i1,i2].Nodup) (h1:IsZip h z TI TO f0) (h3:IsPair h TO u v) (h4:h.IsListIter i1 a k1) (h5:h.IsListIter i2 b k2) (p:PlainL h a xs) (p':PlainL h b ys):ZipApart z TI TO i1 i2 a b:=by
  obtain ⟨o,n,e,c,_⟩:=p
  obtain ⟨o',n',e',c',_⟩:=p'
  obtain ⟨j1,g1,d1,_⟩:=h4
  obtain ⟨j2,g2,d2,_⟩:=h5
  simp only [List.nodup_cons,List.mem_cons,List.not_mem_nil,or_false,not_or,List.nodup_nil,and_true,not_false_eq_true] at hd
  obtain ⟨⟨z1,z2,z3,z4⟩,⟨y1,y2,y3⟩,⟨x1,x2⟩,w1⟩:=hd
  have q1:∀ {o:Obj} {l:Addr},h.get? l=some o→o.cls = .type "list"→l ≠ z:=fun e c r=>by subst r; rw [h1] at e; cases e; simp at c
  have q2:∀ {o:Obj} {l:Addr},h.get? l=some o→o.cls = .type "list"→l ≠ TO:=fun e c r=>by subst r; rw [h3] at e; cases e; simp at c
  have q3:∀ {o:Obj} {l:Addr},h.get? l=some o→o.cls = .type "list"→l ≠ i1:=fun e c r=>by subst r; rw [g1] at e; cases e; rw [d1] at c; simp at c
  have q4:∀ {o:Obj} {l:Addr},h.get? l=some o→o.cls = .type "list"→l ≠ i2:=fun e c r=>by subst r; rw [g2] at e; cases e; rw [d2] at c; simp at c
  exact ⟨Ne.symm z1,Ne.symm z2,Ne.symm z3,Ne.symm z4,y1,y2,y3,x1,x2,w1,q1 e c,q2 e c,q3 e c,q4 e c,q1 e' c',q2 e' c',q3 e' c',q4 e' c'⟩
def Itz (K:PySem.W.Frag) (a b:Addr):It :=
  ⟨fun i H=>∃ xs ys x y,SqL K H a xs∧SqL K H b ys∧xs[i]?=some x∧ys[i]?=some y,
   fun i H v H'=>∃ p x y,v = .ref p∧H p=none∧H'=upd H p (.tup [x,y])∧(∀ xs,SqL K H a xs→xs[i]?=some x)∧∀ ys,SqL K H b ys→ys[i]?=some y,
   fun i H=>∃ xs ys,SqL K H a xs∧SqL K H b ys∧(xs.length ≤ i∨ys.length ≤ i)⟩
theorem zig {P:Program} {w:World} {K:PySem.W.Frag} {es:List Expr} {k} {pos:Pos} (a b z TI TO i1 i2:Addr) (hd : [z,TI,TO,i1,i2].Nodup) :
    Turn P w K (.Tuple es k pos) (Itz K a b) [z,TI,TO,i1,i2] z (fun i h=>IsZip h z TI TO .none∧IsPair h TI (.ref i1) (.ref i2)∧(∃ u v,IsPair h TO u v)∧h.IsListIter i1 a i∧h.IsListIter i2 b i) where
  mem:=by simp
  obj:=fun i h st c hc=>by
    obtain ⟨h1,h2,⟨u,v,h3⟩,⟨o1,h4,c1,d1⟩,o2,h5,c2,d2⟩:=st
    simp only [List.mem_cons,List.not_mem_nil,or_false] at hc
    rcases hc with rfl | rfl | rfl | rfl | rfl
    · exact ⟨_,h1,fun v z=>by cases (show Data.fields _=Data.cell v from z)⟩
    · exact ⟨_,h2,fun v z=>by cases (show Data.seq _=Data.cell v from z)⟩
    · exact ⟨_,h3,fun v z=>by cases (show Data.seq _=Data.cell v from z)⟩
    · exact ⟨o1,h4,fun v z=>by rw [d1] at z; cases z⟩
    · exact ⟨o2,h5,fun v z=>by rw [d2] at z; cases z⟩
  keep:=fun i h h' st q=>by
    obtain ⟨h1,h2,⟨u,v,h3⟩,h4,h5⟩:=st
    exact ⟨q z (by simp) _ h1,q TI (by simp) _ h2,⟨u,v,q TO (by simp) _ h3⟩,h4.at fun o e=>q i1 (by simp) o e,h5.at fun o e=>q i2 (by simp) o e⟩
  item:=by
    intro X hP hw hK hc i pins s σ H E I hf st hg
    subst hP hw hK
    obtain ⟨xs,ys,x,y,q1,q2,hx,hy⟩:=hg
    obtain ⟨its,rv,p,hz⟩:=I.list q1
    obtain ⟨its',rv',p',hz'⟩:=I.list q2
    obtain ⟨u,hu,ru⟩:=rv.get hx
    obtain ⟨u',hu',ru'⟩:=rv'.get hy
    obtain ⟨h1,h2,⟨f,g,h3⟩,h4,h5⟩:=st
    have D:=zfm hd h1 h3 h4 h5 p p'
    have hT:H s.heap.objs.size=none:=I.hok.fresh (Nat.le_refl _)
    have nT:∀ c o,s.heap.get? c=some o→c ≠ s.heap.objs.size:=fun c o e=>Nat.ne_of_lt (Heap.lt_size e)
    refine wpAny_pyNext_zip_item D h1 h2 h3 h4 h5 p.isList p'.isList (x:=u) (y:=u') (by simpa using hu) (by simpa using hu') fun h' a1 a2 a3 a4 a5 a6 hk=>⟨_,rfl,?_⟩
    refine wpAny_letOwnedTupleGo_zip a1 fun h'' b1 hs''=>?_
    have hs2:Heap.SameBut z h' h'':=hs''
    have nzT:=nT z _ h1
    have hk2:∀ c o,c ∉ [z,TI,TO,i1,i2]→s.heap.get? c=some o→h''.get? c=some o:=fun c o hc q=>by
      simp only [List.mem_cons,List.not_mem_nil,or_false,not_or] at hc
      exact (hs2.2 c hc.1).trans (hk c o hc.1 hc.2.2.1 hc.2.2.2.1 hc.2.2.2.2 q)
    refine ⟨.ref s.heap.objs.size,upd H s.heap.objs.size (.tup [x,y]),?_,rfl,⟨_,x,y,rfl,hT,rfl,fun xs' h=>by rw [I.list_inj h q1]; exact hx,fun ys' h=>by rw [I.list_inj h q2]; exact hy⟩,
      ⟨b1,(hs2.2 _ D.TIz).trans (hk _ _ D.TIz D.TITO D.TIi1 D.TIi2 h2),⟨u,u',(hs2.2 _ D.TOz).trans a2⟩,a3.at fun o e=>(hs2.2 _ D.i1z).trans e,a4.at fun o e=>(hs2.2 _ D.i2z).trans e⟩,fun c hc=>?_⟩
    · exact I.laidT (t':=s.toks) [z,TI,TO,i1,i2] hf hk2 (by show 2 ≤ sizeLine; decide) (.cons ru (.cons ru' .nil)) ((hs2.2 _ (Ne.symm nzT)).trans a5)
    · obtain ⟨f0,_⟩:=hf c hc
      rw [zar]
      · exact f0
      · obtain ⟨o1,e4,_⟩:=h4
        obtain ⟨o2,e5,_⟩:=h5
        simp only [List.mem_cons,List.not_mem_nil,or_false] at hc
        rcases hc with rfl | rfl | rfl | rfl | rfl
        · exact nT _ _ h1
        · exact nT _ _ h2
        · exact nT _ _ h3
        · exact nT _ _ e4
        · exact nT _ _ e5
  done:=by
    intro X hP hw hK hc i pins s σ H E I hf st hg
    subst hP hw hK
    obtain ⟨xs,ys,q1,q2,he⟩:=hg
    obtain ⟨its,rv,p,hz⟩:=I.list q1
    obtain ⟨its',rv',p',hz'⟩:=I.list q2
    obtain ⟨h1,h2,⟨f,g,h3⟩,h4,h5⟩:=st
    have D:=zfm hd h1 h3 h4 h5 p p'
    have l1:=rv.length
    have l2:=rv'.length
    refine wpAny_pyNext_zip_end (I.ok.hd hc) D h1 h2 h3 h4 h5 p.isList p'.isList (he.imp (fun z=>by simp; omega) fun z=>by simp; omega) fun h' hk=>⟨rfl,?_⟩
    exact I.turnedL (t':=s.toks) [z,TI,TO,i1,i2] hf fun c o hc q=>by
      simp only [List.mem_cons,List.not_mem_nil,or_false,not_or] at hc
      exact hk c o hc.1 hc.2.2.1 hc.2.2.2.1 hc.2.2.2.2 q
  self:=fun _ _ _ _ _ st h=>wpAny_pyIter_zip st.1 h
section
variable {X:Cx}
def iZip (K:PySem.W.Frag) (ta:TA):TI:=fun σ H R=>ta σ H fun vs H1=>∃ a b,vs = [.ref a,.ref b]∧(∃ xs,SqL K H1 a xs)∧(∃ ys,SqL K H1 b ys)∧R (Itz K a b) H1
theorem zjV {es:List Expr} {k} {tp:Pos} {l l':Expr} {ta:TA} {p pos:Pos} (hg:Gl X "zip") (hm:X.mg "zip"=none) (ha:PA X [l,l'] ta) (hs:starEach [l,l'] X.env=(false,eval l X.env) :: starEach [l'] X.env:=by rfl) (hs2:(backTo pos (starEach [l'] X.env)).any (·.1)=false:=by rfl) :
    PI X (.Tuple es k tp) (.Call (.Name "zip" p) [l,l'] [] pos) (iZip X.K ta):=by
  intro pins s σ H R I h
  refine Call_ (zeL I hg hm PyProof.Rows.boot_zip (PyProof.Rows.callWith_type1 (thn (ha pos pins s σ H _ I h) fun us s1 ⟨vs,H1,I1,r1,q1⟩=>?_) hs hs2))
  obtain ⟨a,b,e,⟨xs,hq⟩,⟨ys,hq'⟩,q⟩:=q1
  subst e
  obtain ⟨u,v,rfl,rx,ry⟩:=zkj r1
  cases rx
  cases ry
  obtain ⟨its,rv,pl,hz⟩:=I1.list hq
  obtain ⟨its',rv',pl',hz'⟩:=I1.list hq'
  refine call_zip_2 pl.isList pl'.isList fun h' c1 c2 c3 c4 c5 hsz hk=>?_
  have I2:Inv X pins σ H1 { s1 with heap:=h' }:=I1.kept (t':=s1.toks) hk
  obtain ⟨m,em⟩:∃ m,m=s1.heap.objs.size:=⟨_,rfl⟩
  have hnd : [m + 4,m + 2,m + 3,m,m + 1].Nodup:=by simp
  rw [← em] at c1 c2 c3 c4 c5 ⊢
  refine wpAny_pyIter_zip c1 ⟨m + 4,[m + 4,m + 2,m + 3,m,m + 1],_,_,H1,rfl,I2,zig a b _ _ _ _ _ hnd,⟨c1,c2,⟨_,_,c3⟩,c4,c5⟩,fun d hd=>?_,q⟩
  have hd':s1.heap.objs.size ≤ d:=by
    simp only [List.mem_cons,List.not_mem_nil,or_false] at hd
    rcases hd with rfl | rfl | rfl | rfl | rfl <;> omega
  exact I1.fpOk hd' (I1.hok.fresh hd')
end
end L2
namespace PM
open PySem L2
section
variable {K:Kx} {XO:XOT} {E:L2.St→XK}
def zipD (l r:List D):List D:=List.zipWith (fun x y=>.tup [x,y]) l r
def zip1:List D→Option (List D)
  | [x,y]=>(asL' x).bind fun l=>(asL' y).map (zipD l)
  | _=>none
def mZip (ml:En→R (List D)) (δ:En):R (List D):=(ml δ).bind fun l=>R.of (zip1 l)
theorem zho {l r:List D} (h:zip1 l=some r):∃ x y,l = [.lst x,.lst y]∧r=zipD x y:=by
  match l,h with
  | [x,y],h =>
    cases x with
    | lst x =>
      cases y with
      | lst y=>cases h; exact ⟨x,y,rfl,rfl⟩
      | _=>cases h
    | _=>cases h
theorem zih {a b:Addr} {ds es:List D} {vs ws:List V} {F1:Hp} {P:Hp→Hp→Prop} (r:RepL K F1 ds vs) (r':RepL K F1 es ws) (h:∀ F2 H2,P F2 H2→Same F1 F2∧Same F2 H2∧SqL K.f H2 a vs∧SqL K.f H2 b ws):IsIt K (Itz K.f a b) P (zipD ds es):=by
  intro F2 H2 p i
  obtain ⟨s1,s2,q,q'⟩:=h F2 H2 p
  unfold zipD
  rw [List.getElem?_zipWith]
  refine ⟨fun d hd=>?_,fun hn=>?_⟩
  · cases e:ds[i]? with
    | none=>rw [e] at hd; cases hd
    | some x =>
      cases e':es[i]? with
      | none=>rw [e,e'] at hd; cases hd
      | some y =>
        rw [e,e'] at hd
        cases hd
        obtain ⟨v,hv,rv⟩:=r.get e
        obtain ⟨w,hw,rw'⟩:=r'.get e'
        refine ⟨⟨vs,ws,v,w,q,q',hv,hw⟩,fun x' H' y=>?_⟩
        obtain ⟨p',x1,y1,rfl,hp,rfl,z1,z2⟩:=y
        have z:=z1 vs q
        rw [hv] at z; cases z
        have z:=z2 ws q'
        rw [hw] at z; cases z
        refine ⟨_,.new s2 hp,?_⟩
        simp only [Rep]
        have m:=s1.trans (Same.upd (u:=.tup [v,w]) (s2.free hp))
        exact ⟨p',_,rfl,zaD,.cons (Rep.mono m _ rv) (.cons (Rep.mono m _ rw') .nil)⟩
  · cases e:ds[i]? with
    | none=>exact ⟨vs,ws,q,q',.inl (by rw [r.length]; exact List.getElem?_eq_none_iff.mp e)⟩
    | some x =>
      cases e':es[i]? with
      | none=>exact ⟨vs,ws,q,q',.inr (by rw [r'.length]; exact List.getElem?_eq_none_iff.mp e')⟩
      | some y=>rw [e,e'] at hn; cases hn
theorem zj9 {tl:TA} {ml:En→R (List D)} (h:SA K XO E tl ml):SI K XO E (iZip K.f tl) (mZip ml):=by
  intro Λ F0 H0 F H σ δ R I a
  refine h Λ F0 H0 F H σ δ _ I (a.bind.imp fun ds F1 H1 e1 a1 vs r=>?_)
  cases q:zip1 ds with
  | none=>rw [q] at a1; exact a1.elim
  | some z =>
    rw [q] at a1
    obtain ⟨l,l',rfl,rfl⟩:=zho q
    obtain ⟨v,w,rfl,r1,r2⟩:=RepL.two r
    simp only [Rep] at r1 r2
    obtain ⟨a,vs,rfl,h1,h2⟩:=r1
    obtain ⟨b,ws,rfl,h3,h4⟩:=r2
    exact ⟨a,b,rfl,⟨vs,.inl (PM.Same.rd e1.fh h1)⟩,⟨ws,.inl (PM.Same.rd e1.fh h3)⟩,a1 F1 H1 (.refl e1.fh) _ (zih h2 h4 fun F2 H2 x=>⟨x.1,x.2,.inl (PM.Same.rd x.2 (PM.Same.rd x.1 h1)),.inl (PM.Same.rd x.2 (PM.Same.rd x.1 h3))⟩)⟩
end
end PM
namespace PM
end PM
namespace L2
open PySem PySem.Spec PyProof.Rows
section
variable {X:Cx}
end
end L2
namespace PM
open PySem L2
section
variable {K:Kx}
end
end PM
namespace L2
open PySem PySem.Spec PyProof.Rows
section
variable {X:Cx}
end
end L2
namespace PM
open PySem L2
section
variable {K:Kx}
end
end PM
namespace PM
open PySem L2
section
variable {K:Kx} {XO:XOT} {E:L2.St→XK} {te:TE} {me:En→R D}
end
end PM
namespace L2
open PySem PySem.Spec PyProof.Rows
section
variable {X:Cx}
end
end L2
namespace PM
open PySem L2
section
variable {K:Kx} {XO:XOT} {E:L2.St→XK} {tl te:TE} {ml me:En→R D}
end
end PM
namespace L2
open PySem PySem.Spec PyProof.Rows
open Sem (wp)
section
variable {P:Program} {w:World} {B:Around} {Er:Value→Shared→Prop} {hp:Heap} {gs:Array GenState} {dr:Drawn} {tk:Nat} {os:OsState}
variable {nm q:Str} {C N:Addr} {bs bm bmB:List Value} {hdct:Bool} {sn:List Str} {sub:List Value} {ab:Bool} {col:Option Bool} {dd:Option Addr} {k0 k1 k2 k3 k5:Option Value} {B0 Bn newId nid initId inN:String} {bmN:List Value}
end
end L2
namespace L2
open PySem PySem.Spec PyProof.Rows
section
variable {P:Program} {w:World} {B:Around} {Er:Value→Shared→Prop} {s:Shared}
end
end L2
namespace L2
open PySem PySem.Spec PyProof.Rows
section
variable {X:Cx}
end
end L2
namespace PM
open PySem L2
section
variable {K:Kx} {XO:XOT} {E:L2.St→XK}
end
end PM
namespace L2
open PySem PySem.Spec PyProof.Rows
section
variable {X:Cx}
end
end L2
namespace PM
open PySem L2
section
variable {K:Kx} {XO:XOT} {E:L2.St→XK}
end
end PM
namespace L2
open PySem PySem.Spec PyProof.Rows
section
variable {X:Cx}
def zht:TE:=fun _ _ _=>False
theorem zby {e:Expr}:PE X e zht:=fun _ _ _ _ _ _ h=>h.elim
end
end L2
namespace PM
open PySem L2
section
variable {K:Kx} {XO:XOT} {E:L2.St→XK} {tk te:TE} {mk me:En→R D}
def mNo (_:En):R D:=.no
theorem zbA:SE K XO E zht mNo:=fun _ _ _ _ _ _ _ _ _ a=>a
end
end PM
namespace PM
open PySem L2
section
variable {K:Kx} {XO:XOT} {E:St→XK} {ta tb te:TE} {ma mb me:En→R D} {t u:TS} {m n:En→O} {Λ:List (Nat × Addr × HO)} {F0 H0 F H F' H' F1 H1:Hp} {σ:St} {δ:En} {Dn:Ends}
end
end PM
namespace L2
open PySem PySem.Spec PyProof.Rows
section
variable {X:Cx} {x:Str} {np hpos pos:Pos} {body:List Stmt} {b₀:Stmt} {suite:List Stmt} {D':Addr} {tb:(St→XK)→TS} {th:TS}
end
end L2
namespace PM
open PySem L2
section
variable {K:Kx} {E:L2.St→XK}
end
end PM
namespace PM
end PM
namespace L2
open PySem PySem.Spec PyProof.Rows
section
variable {prog:Program} {w:World} {A:Around} {E:Value→Shared→Prop} {s:Shared}
end
section
variable {prog:Program} {w:World} {A:Around} {R:Result→Shared→Prop} {I S:Addr} {fp wr:List Addr} {n:Nat} {P:Nat→Value→Prop} {St:Nat→Heap→Prop} {bt:Nat→Nat→Bool}
end
section
variable {prog:Program} {w:World} {A:Around} {E:Value→Shared→Prop} {s:Shared}
end
section
variable {X:Cx}
end
end L2
namespace PM
open PySem L2
section
variable {K:Kx}
end
end PM
namespace L2
open PySem PySem.Spec PyProof.Rows
section
variable {X:Cx}
end
end L2
namespace PM
open PySem L2
section
variable {K:Kx} {XO:XOT} {E:L2.St→XK}
end
end PM
namespace L2
open PySem PySem.Spec PyProof.Rows
section
variable {X:Cx} {a b c:Expr} {ta tb tc:TE} {pos:Pos}
def rAll:List V→Hp→VK→Prop:=fun xs H Q=>∃ (p:Addr) (bs:List Bool),xs = [.ref p]∧Rd H p (.lst (bs.map V.bl))∧Q (.bl (bs.all id)) H
theorem zfn {bs:List Bool} {its:List Value} (rv:Vals (bs.map V.bl) its):its=bs.map Value.bool:=by
  induction bs generalizing its with
  | nil=>cases rv; rfl
  | cons a l ih =>
    cases rv with
    | cons h t =>
      have:_=Value.bool a:=h
      rw [this,ih t]; rfl
theorem zfg:∀ (bs:List Bool),((List.range bs.length).all fun i=>bs.getD i false)=bs.all id
  | []=>rfl
  | b :: bs=>by
    rw [List.length_cons,List.range_succ_eq_map,List.all_cons,List.all_map,List.all_cons,← zfg bs]
    rfl
theorem zhr (hc:X.calm=true):zez X (.builtin "all") rAll:=by
  intro pins s σ H xs us Q I r h
  obtain ⟨p,bs,rfl,hq,q⟩:=h
  obtain ⟨u,rfl,rx⟩:=zf2 r
  cases rx
  obtain ⟨z,its,n,rv,e⟩:=hq.ok I.hok
  have ei:=zfn rv
  subst ei
  have isl:s.heap.IsList p (bs.map Value.bool).toArray:=⟨_,e,rfl,n,rfl⟩
  have plt:p < s.heap.objs.size:=Heap.lt_size e
  refine call_all_walk (wpAny_pyIter_list isl ?_)
  refine ⟨s.heap.objs.size,[s.heap.objs.size,p],[s.heap.objs.size],(bs.map Value.bool).toArray.size,_,_,(fun i=>bs.getD i false),rfl,Walks.list (A:=X.A.in1) (I.ok.hd hc) s.heap.objs.size p (Nat.ne_of_lt plt) (bs.map Value.bool).toArray,⟨⟨_,Heap.get?_push_size _ rfl,rfl,rfl⟩,isl.push _⟩,?_,?_⟩
  · intro i v s' Q' E' hi hQ
    have hi':(bs.map Value.bool).toArray[i]?=some v:=hi
    rw [List.getElem?_toArray,List.getElem?_map] at hi'
    cases z:bs[i]? with
    | none=>rw [z] at hi'; cases hi'
    | some b =>
      rw [z] at hi'
      cases hi'
      refine wpAny_truthy_bool ?_
      have:bs.getD i false=b:=by rw [List.getD_eq_getElem?_getD,z]; rfl
      have hQ':Q' (bs.getD i false) s':=hQ
      rw [this] at hQ'
      exact hQ'
  · intro h' tk hk
    rw [List.size_toArray,List.length_map,zfg]
    refine ⟨.bl _,H,I.kept (t':=tk) (fun b o eo=>hk b o (fun hm=>?_) (Heap.get?_push_of_some _ eo)),rfl,q⟩
    rw [List.mem_singleton.mp hm] at eo
    exact absurd (Heap.lt_size eo) (Nat.lt_irrefl _)
end
end L2
namespace PM
open PySem L2
section
variable {K:Kx} {XO:XOT} {E:L2.St→XK} {ta tb tc:TE} {ma mb mc:En→R D}
def asBs:List D→Option (List Bool)
  | []=>some []
  | .bl b :: l=>(asBs l).map fun bs=>b :: bs
  | _ :: _=>none
theorem zdW:∀ {l:List D} {bs:List Bool},asBs l=some bs→l=bs.map .bl
  | [],_,h=>by cases h; rfl
  | d :: l,bs,h=>by
    cases d with
    | bl b =>
      unfold asBs at h
      cases q:asBs l with
      | none=>rw [q] at h; cases h
      | some r=>rw [q] at h; cases h; rw [zdW q]; rfl
    | _=>unfold asBs at h; cases h
theorem zg1 (bs:List Bool):asBs (bs.map .bl)=some bs:=by
  induction bs with
  | nil=>rfl
  | cons b bs ih=>simp [asBs,ih]
def fAll:List D→Option D
  | [.lst l]=>(asBs l).map fun bs=>.bl (bs.all id)
  | _=>none
theorem zdp {F:Hp}:∀ {bs:List Bool} {vs:List V},RepL K F (bs.map .bl) vs→vs=bs.map V.bl
  | [],vs,h=>h
  | b :: bs,vs,h=>by
    obtain ⟨v,r,rfl,h1,h2⟩:=h
    have:v = .bl b:=h1
    rw [this,zdp h2]; rfl
theorem zjv:SC K rAll fAll:=by
  intro F H vs ds d Q s r e q
  unfold fAll at e
  split at e
  · rename_i l
    cases q2:asBs l with
    | none=>rw [q2] at e; cases e
    | some bs =>
      rw [q2] at e
      cases e
      cases r with
      | cons r r' =>
        cases r'
        obtain ⟨p,xs,rfl,h1,h2⟩:=r
        rw [zdW q2] at h2
        have:=zdp h2
        subst this
        exact ⟨p,bs,rfl,h1,q _ F H (.refl s) (by simp only [Rep])⟩
  · cases e
end
end PM
namespace L2
open PySem PySem.Spec PyProof.Rows
section
variable {X:Cx} {e st:Expr} {te ts:TE} {p2 pos:Pos}
end
end L2
namespace PM
open PySem L2
section
variable {K:Kx} {XO:XOT} {E:L2.St→XK} {te ts:TE} {me ms:En→R D}
end
end PM
namespace L2
open PySem PySem.Spec PyProof.Rows
section
variable {prog:Program} {w:World} {A:Around} {E:Value→Shared→Prop} {s:Shared}
end
section
variable {prog:Program} {w:World} {A:Around} {E:Value→Shared→Prop} {s:Shared}
end
section
variable {X:Cx} {l:Expr} {tl:TE}
end
end L2
namespace PM
open PySem L2
section
variable {K:Kx} {XO:XOT} {E:L2.St→XK} {te:TE} {me:En→R D}
end
end PM
namespace L2
open PySem PySem.Spec PyProof.Rows Builtin Builtin.ObjectAttr
section
variable {prog:Program} {w:World} {A:Around} {E:Value→Shared→Prop} {s:Shared} {K:PySem.W.Frag} {x C:Addr} {ox:Obj} {od:Option Obj} {name:Str} {tk:Tok} {v:Value} {R:Result→Shared→Prop}
end
section
variable {X:Cx} {o e value:Expr} {f:Str} {pos pos' tpos:Pos} {ta tv:TE}
end
section
variable {M:Model} {A:Around} {E:Value→Shared→Prop} {s:Shared} {B:Heap} {env:Env} {outer l:List Env} {L e:Addr} {Q:Unit→Shared→Prop}
end
section
variable {P:Program} {w:World} {K:PySem.W.Frag} {mg:Str→Option Value} {base:Heap} {N:List Str} {qual:Str} {scope:Scope} {f:Addr} {cd:Value} {A:Around} {outer:List Env} {s0:Shared} {H0:Hp} {E:XK}
end
section
variable {M:Model} {A:Around} {E:Value→Shared→Prop} {env:Env}
variable {nm q:Str} {C N:Addr} {bs bm:List Value} {hdct:Bool} {sn:List Str} {sub:List Value} {ab:Bool} {col:Option Bool} {dd:Option Addr} {k0 k1 k2 k3 k5:Option Value} {newId:String}
end
section
variable {P:Program} {w:World} {K:PySem.W.Frag} {mg:Str→Option Value} {base:Heap} {N:List Str} {qual:Str} {scope:Scope} {f:Addr} {cd:Value} {A:Around} {outer:List Env} {s0:Shared} {H0:Hp} {E:XK}
end
section
variable {X:Cx} {CX:CXT} {k:Nat} {fa:Addr} {fd:FuncData} {ps:List Str} {sp:Sp} {x:Str} {np cpos pos:Pos} {e₀:Expr} {rest:List Expr} {C:Addr} {bmB bmN:List Value} {newId Bn B nid inN initId:String} {E:St→XK} {t:TA}
end
end L2
namespace PM
open PySem L2
section
variable {X:Cx} {fa:Addr} {ps:List Str} {sp:Sp} {x:Str} {np cpos pos:Pos} {e₀:Expr} {rest:List Expr} {C:Addr} {bmB bmN:List Value} {newId Bn B nid inN initId:String} {E:L2.St→XK} {t:TA}
end
section
variable {K:Kx} {XO:XOT} {E:L2.St→XK} {ta:TE} {ma:En→R D} {Λ:List (Nat × Addr × HO)} {F0 H0 F H:Hp} {σ:L2.St} {δ:En}
end
end PM
namespace L2
open PySem PyProof.Rows
section
variable {N:Nat} {p:Array Nat}
end
section
variable {ky:Nat→Int} {N:Nat} {cmp:Nat→Nat→(Bool→Shared→Prop)→Shared→Prop}
end
end L2
namespace L2
open PySem PySem.Spec PyProof.Rows
section
variable {prog:Program} {w:World} {A:Around} {E:Value→Shared→Prop} {s:Shared}
end
section
variable {X:Cx} {pins:List (Addr × Obj)} {σ:St} {H:Hp} {s:Shared} {h':Heap}
end
end L2
namespace PM
open PySem L2
section
variable {K:Kx} {XO:XOT} {E:L2.St→XK}
end
end PM
namespace L2
open PySem PySem.Spec PyProof.Rows
section
variable {P:Program} {w:World} {K:PySem.W.Frag} {mg mb:Str→Option Value} {CX:CXT} {k:Nat} {fa a tP:Addr} {fd:FuncData} {x:Str} {sp:Sp} {s₁:Shared} {vs:List Value} {ns:List Int}
end
end L2
namespace L2
open PySem PySem.Spec PyProof.Rows
section
variable {X:Cx}
end
end L2
namespace PM
open PySem L2
section
variable {K:Kx} {XO:XOT} {E:L2.St→XK}
end
end PM
namespace PM
open PySem L2
section
variable {K:Kx}
end
end PM
namespace L2
open PySem PySem.Spec PyProof.Rows
section
variable {prog:Program} {w:World} {A:Around} {E:Value→Shared→Prop} {s:Shared}
end
end L2
namespace L2
open PySem PySem.Spec PyProof.Rows
section
variable {prog:Program} {w:World} {A:Around} {E:Value→Shared→Prop} {s:Shared}
end
section
variable {X:Cx} {pins:List (Addr × Obj)} {σ:St} {A:Around} {R:Result→Shared→Prop}
end
end L2
namespace PM
open PySem L2
section
variable {K:Kx} {XO:XOT} {E:L2.St→XK}
end
end PM
namespace L2
open PySem PySem.Spec PyProof.Rows
section
variable {X:Cx} {pins:List (Addr × Obj)} {σ:St} {H:Hp} {s:Shared} {a:Addr} {kvs:List (Key × V)}
end
section
variable {X:Cx}
end
end L2
namespace PM
open PySem L2
section
variable {K:Kx} {XO:XOT} {E:L2.St→XK}
end
end PM
namespace L2
open PySem PySem.Spec PyProof.Rows
section
variable {P:Program} {w:World} {K:PySem.W.Frag} {mg:Str→Option Value} {base:Heap} {CX:CXT} {k:Nat} {x:Str} {ps:List Str} {sp:Sp} {d:V}
end
section
variable {X:Cx} {CX:CXT} {k:Nat} {x:Str} {ps:List Str} {sp:Sp} {E:XK} {p pos:Pos} {a b:Expr} {ta tb:TE} {d:V}
end
section
variable {P:Program} {w:World} {K:PySem.W.Frag} {mg:Str→Option Value} {base:Heap} {d:V}
end
end L2
namespace PM
open PySem L2
section
variable {K:Kx} {F H:Hp}
end
section
variable {K:Kx} {XO:XOT} {E:L2.St→XK} {ta te:TE} {ma me:En→R D}
end
section
variable {K:Kx} {XO:XOT} {E:L2.St→XK} {F0 H0 F H:Hp} {σ:L2.St} {δ:En}
end
end PM
namespace L2
open PySem PySem.Spec PyProof.Rows
section
variable {prog:Program} {w:World} {A:Around} {E:Value→Shared→Prop} {s:Shared}
end
end L2
namespace L2
open PySem PySem.Spec PyProof.Rows
section
variable {X:Cx}
end
end L2
namespace PM
open PySem L2
section
variable {K:Kx} {XO:XOT} {E:L2.St→XK}
end
end PM
namespace L2
open PySem PySem.Spec PyProof.Rows
section
variable {X:Cx} {CX:CXT} {k:Nat} {x m:Str} {C:Addr} {ps:List Str} {sp:Sp} {E:XK} {p pos apos:Pos} {e o:Expr} {es:List Expr} {t:TA} {ta:TE}
end
end L2
namespace PM
open PySem L2
section
variable {K:Kx} {XO:XOT} {E:L2.St→XK} {F0 H0 F H:Hp} {σ:L2.St} {δ:En}
end
end PM
namespace PM
open PySem L2
section
variable {K:Kx} {XO:XOT} {E:L2.St→XK} {F0 H0 F H F1 H1 F' H':Hp}
end
end PM
namespace L2
open PySem PySem.Spec PyProof.Rows
section
variable {P:Program} {w:World} {K:PySem.W.Frag} {mg:Str→Option Value} {base:Heap} {CX:CXT} {k:Nat} {x m qual:Str} {C:Addr} {st:Stmt} {f:Addr} {fd:FuncData} {ps:List Str} {sp:Sp}
end
end L2
namespace L2
open PySem PySem.Spec PyProof.Rows
section
variable {X:Cx} {CX:CXT} {k:Nat} {x:Str} {C:Addr} {ps:List Str} {sp:Sp} {E:St→XK} {p pos:Pos} {e:Expr} {es:List Expr} {t:TA}
end
end L2
namespace PM
open PySem L2
section
variable {K:Kx} {XO:XOT} {E:L2.St→XK} {F0 H0 F H F1 H1 F' H':Hp}
end
end PM
namespace L2
open PySem PySem.Spec PyProof.Rows
section
variable {prog:Program} {w:World} {A:Around} {E:Value→Shared→Prop} {s:Shared}
end
section
variable {X:Cx}
end
end L2
namespace PM
open PySem L2
section
variable {K:Kx} {XO:XOT} {E:L2.St→XK}
end
end PM
namespace L2
open PySem PySem.Spec PyProof.Rows
section
variable {prog:Program} {w:World} {A:Around} {E:Value→Shared→Prop} {s:Shared}
end
section
variable {X:Cx}
end
end L2
namespace PM
open PySem L2
section
variable {K:Kx} {XO:XOT} {E:L2.St→XK}
end
end PM
namespace L2
open PySem PySem.Spec PyProof.Rows
end L2
namespace L2
open PySem PySem.Spec PyProof.Rows
section
variable {prog:Program} {w:World} {K:Type} [DecidableEq K] {knd:KeyKind prog w K} {A:Around} {E:Value→Shared→Prop} {s:Shared}
end
section
variable {prog:Program} {w:World} {K:Type} [DecidableEq K] {knd:KeyKind prog w K} {A:Around} {E:Value→Shared→Prop} {s:Shared}
end
section
variable {prog:Program} {w:World} {K:Type} [DecidableEq K] {knd:KeyKind prog w K} {A:Around} {E:Value→Shared→Prop} {s:Shared}
end
end L2
namespace L2
open PySem PySem.Spec PyProof.Rows
section
variable {X:Cx}
end
end L2
namespace PM
open PySem L2
section
variable {K:Kx} {XO:XOT} {E:L2.St→XK}
end
end PM
namespace PM
open PySem L2
section
variable {K:Kx} {XO:XOT} {E:St→XK} {ta tb te:TE} {ma mb me:En→R D} {t u:TS} {m n:En→O} {Λ:List (Nat × Addr × HO)} {F0 H0 F H F' H' F1 H1:Hp} {σ:St} {δ:En} {Dn:Ends}
end
end PM
namespace PM
open PySem L2
section
variable {K:Kx} {XO:XOT} {E:St→XK} {ta tb te:TE} {ma mb me:En→R D} {t u:TS} {m n:En→O} {Λ:List (Nat × Addr × HO)} {F0 H0 F H F' H' F1 H1:Hp} {σ:St} {δ:En} {Dn:Ends}
end
end PM
namespace PM
open PySem L2
section
variable {K:Kx} {XO:XOT} {E:St→XK} {ta tb te to:TE} {ma mb me mo:En→R D} {t u:TS} {m n:En→O} {Λ:List (Nat × Addr × HO)} {F0 H0 F H F' H' F1 H1:Hp} {σ:St} {δ:En} {Dn:Ends}
end
end PM
namespace PM
open PySem L2
section
variable {K:Kx} {XO:XOT} {E:St→XK} {te ti tj:TE} {me mi mj:En→R D} {Λ:List (Nat × Addr × HO)} {F0 H0 F H:Hp} {σ:St} {δ:En} {Dn:Ends}
end
end PM
namespace L2
open PySem PySem.Spec PyProof.Rows
section
variable {X:Cx}
def rAny:List V→Hp→VK→Prop:=fun xs H Q=>∃ (p:Addr) (bs:List Bool),xs = [.ref p]∧Rd H p (.lst (bs.map V.bl))∧Q (.bl (bs.any id)) H
theorem zfR:∀ (bs:List Bool),((List.range bs.length).any fun i=>bs.getD i false)=bs.any id
  | []=>rfl
  | b :: bs=>by
    rw [List.length_cons,List.range_succ_eq_map,List.any_cons,List.any_map,List.any_cons,← zfR bs]
    rfl
theorem zhn (hc:X.calm=true):zez X (.builtin "any") rAny:=by
  intro pins s σ H xs us Q I r h
  obtain ⟨p,bs,rfl,hq,q⟩:=h
  obtain ⟨u,rfl,rx⟩:=zf2 r
  cases rx
  obtain ⟨z,its,n,rv,e⟩:=hq.ok I.hok
  have ei:=zfn rv
  subst ei
  have isl:s.heap.IsList p (bs.map Value.bool).toArray:=⟨_,e,rfl,n,rfl⟩
  have plt:p < s.heap.objs.size:=Heap.lt_size e
  refine call_any_walk (wpAny_pyIter_list isl ?_)
  refine ⟨s.heap.objs.size,[s.heap.objs.size,p],[s.heap.objs.size],(bs.map Value.bool).toArray.size,_,_,(fun i=>bs.getD i false),rfl,Walks.list (A:=X.A.in1) (I.ok.hd hc) s.heap.objs.size p (Nat.ne_of_lt plt) (bs.map Value.bool).toArray,⟨⟨_,Heap.get?_push_size _ rfl,rfl,rfl⟩,isl.push _⟩,?_,?_⟩
  · intro i v s' Q' E' hi hQ
    have hi':(bs.map Value.bool).toArray[i]?=some v:=hi
    rw [List.getElem?_toArray,List.getElem?_map] at hi'
    cases z:bs[i]? with
    | none=>rw [z] at hi'; cases hi'
    | some b =>
      rw [z] at hi'
      cases hi'
      refine wpAny_truthy_bool ?_
      have:bs.getD i false=b:=by rw [List.getD_eq_getElem?_getD,z]; rfl
      have hQ':Q' (bs.getD i false) s':=hQ
      rw [this] at hQ'
      exact hQ'
  · intro h' tk hk
    rw [List.size_toArray,List.length_map,zfR]
    refine ⟨.bl _,H,I.kept (t':=tk) (fun b o eo=>hk b o (fun hm=>?_) (Heap.get?_push_of_some _ eo)),rfl,q⟩
    rw [List.mem_singleton.mp hm] at eo
    exact absurd (Heap.lt_size eo) (Nat.lt_irrefl _)
end
end L2
namespace PM
open PySem L2
section
variable {K:Kx}
def fAny:List D→Option D
  | [.lst l]=>(asBs l).map fun bs=>.bl (bs.any id)
  | _=>none
theorem zjR:SC K rAny fAny:=by
  intro F H vs ds d Q s r e q
  unfold fAny at e
  split at e
  · rename_i l
    cases q2:asBs l with
    | none=>rw [q2] at e; cases e
    | some bs =>
      rw [q2] at e
      cases e
      cases r with
      | cons r r' =>
        cases r'
        obtain ⟨p,xs,rfl,h1,h2⟩:=r
        rw [zdW q2] at h2
        have:=zdp h2
        subst this
        exact ⟨p,bs,rfl,h1,q _ F H (.refl s) (by simp only [Rep])⟩
  · cases e
end
end PM
namespace L2
open PySem PySem.Spec PyProof.Rows
end L2
namespace PM
end PM
namespace L2
open PySem PySem.Spec PyProof.Rows
section
variable {prog:Program} {w:World} {A:Around} {E:Value→Shared→Prop} {s:Shared}
end
end L2
namespace L2
open PySem PySem.Spec PyProof.Rows
end L2
namespace PM
open PySem L2
end PM
namespace L2
open PySem PySem.Spec PyProof.Rows PM
section
variable {X:Cx} {ca:Nat→Addr} {an:Nat→Str}
end
end L2
namespace PM
open PySem L2
section
variable {K:Kx} {c:Nat} {d:Int→Int→Int} {L:D} {F H F' H' F'' H'':Hp} {x kp dx:Addr} {lv:V} {kvs:List (List Key × V)}
end
section
variable {K:Kx} {XO:XOT} {E:L2.St→XK}
end
end PM
namespace PM
open PySem L2
section
variable {K:Kx} {c m:Nat} {d:Int→Int→Int} {L:D} {E:XK}
end
end PM
namespace PM
open PySem L2
section
variable {K:Kx} {c m:Nat} {d:Int→Int→Int} {L:D}
end
end PM
namespace L2
open PySem PySem.Spec PyProof.Rows
section
variable {P:Program} {w:World} {K:PySem.W.Frag} {mg:Str→Option Value} {base:Heap} {CX:CXT} {k:Nat} {m:Str} {C:Addr} {ps:List Str} {sp sp':Sp}
end
end L2
namespace PM
open PySem L2
section
variable {K:Kx} {c m:Nat} {d:Int→Int→Int} {L:D}
end
end PM
namespace L2
open PySem PySem.Spec PyProof.Rows
section
variable {prog:Program} {w:World} {K:Type} [DecidableEq K] {knd:KeyKind prog w K} {A:Around} {E:Value→Shared→Prop} {s:Shared}
end
section
variable {X:Cx}
end
end L2
namespace PM
open PySem L2
section
variable {K:Kx} {XO:XOT} {E:L2.St→XK}
end
end PM
namespace PM
open PySem L2
section
variable {K:Kx} {XO:XOT} {E:L2.St→XK} {Λ:List (Nat × Addr × HO)} {F0 H0 F H:Hp} {σ:L2.St} {δ:En}
end
end PM
namespace PM
open PySem L2
section
variable {K:Kx} {XO:XOT} {E:L2.St→XK} {Λ:List (Nat × Addr × HO)} {F0 H0 F H:Hp} {σ:L2.St} {δ:En} {t:TS} {m:En→O}
end
end PM
namespace L2
open PySem PySem.Spec PyProof.Rows
section
variable {X:Cx}
end
end L2
namespace PM
open PySem L2
section
variable {X:Cx} {K:Kx} {XO:XOT} {E:L2.St→XK} {te:TE} {me:En→R D} {ca:Nat→Addr} {an:Nat→Str}
end
end PM
namespace L2
open PySem PySem.Spec PyProof.Rows
section
variable {X:Cx}
section
variable {prog:Program} {w:World} {A:Around} {E:Value→Shared→Prop} {s:Shared} {a:Addr} {xs:Array (Int × Tok)}
end
end
end L2
namespace PM
open PySem L2
section
variable {K:Kx}
end
end PM
namespace L2
open PySem PySem.Spec PyProof.Rows
section
variable {prog:Program} {w:World} {A:Around} {E:Value→Shared→Prop} {s:Shared}
end
end L2
namespace PM
open PySem L2
end PM
namespace L2
open PySem PySem.Spec PyProof.Rows PM
section
variable {X:Cx} {ca:Nat→Addr} {an:Nat→Str}
end
end L2
namespace PM
open PySem L2
section
variable {K:Kx}
end
end PM
namespace PM
open PySem L2
section
variable {K:Kx} {XO:XOT} {E:L2.St→XK} {F0 H0 F H F1 H1 F' H':Hp}
end
end PM
namespace L2
open PySem PySem.Spec PyProof.Rows
section
variable {X:Cx}
end
end L2
namespace PM
open PySem L2
section
variable {K:Kx} {XO:XOT} {E:L2.St→XK} {F0 H0 F H F1 H1 F' H':Hp}
end
end PM
namespace PM
open PySem L2
section
variable {K:Kx} {XO:XOT} {E:L2.St→XK} {Λ:List (Nat × Addr × HO)} {F0 H0 F H:Hp} {σ:L2.St} {δ:En}
end
end PM
namespace L2
open PySem PySem.Spec PyProof.Rows
section
variable {prog:Program} {w:World} {A:Around} {E:Value→Shared→Prop} {s:Shared}
end
section
variable {X:Cx}
end
end L2
namespace PM
open PySem L2
section
variable {K:Kx} {XO:XOT} {E:L2.St→XK}
end
end PM
namespace L2
open PySem PySem.Spec PyProof.Rows
section
variable {X:Cx} {x:Str} {C:Addr} {p pos:Pos}
end
end L2
namespace PM
open PySem L2
section
variable {K:Kx} {XO:XOT} {E:L2.St→XK} {F0 H0 F H F1 H1 F' H':Hp}
end
end PM
namespace PM
open PySem L2
section
variable {K:Kx} {XO:XOT} {E:L2.St→XK} {Λ:List (Nat × Addr × HO)} {F0 H0 F H:Hp} {σ:L2.St} {δ:En}
end
end PM
namespace PM
open PySem L2
section
variable {K:Kx} {XO:XOT} {E:L2.St→XK} {F0 H0 F H F1 H1 F' H':Hp} {α:Type} {An:α→V→Hp→Hp→Hp→Prop}
end
end PM
namespace HT
open PySem PyProof.Rows
section
open PySem.SeqAt
open PySem.AutoSeq1 (wpAny_loadPart')
open PySem.MeetsSeq PySem.MeetsSeq2 PySem.MeetsSeq3
variable {prog:Program} {w:World} {A:Around} {E:Value→Shared→Prop} {s:Shared}
end
end HT
namespace L2
open PySem PySem.Spec PyProof.Rows
section
variable {X:Cx}
end
section
variable {P:Program} {w:World} {K:PySem.W.Frag} {mg:Str→Option Value} {base:Heap} {d:V}
end
section
variable {X:Cx} {CX:CXT} {k:Nat} {x:Str} {ps:List Str} {sp:Sp} {p pos:Pos} {a:Expr} {ta:TE} {d:V}
end
end L2
namespace PM
open PySem L2
section
variable {K:Kx} {XO:XOT} {E:L2.St→XK} {F0 H0 F H F1 H1 F' H':Hp}
end
end PM
namespace L2
open PySem PySem.Spec PyProof.Rows
open Builtin Builtin.Str
section
variable {X:Cx} {tg:Expr} {pos:Pos}
theorem zfN:∀ (l:List (Str × Tok)),Vals (l.map fun p=>V.str p.1) (strValues l)
  | []=>.nil
  | p :: l=>.cons ⟨p.2,rfl⟩ (zfN l)
theorem zhZ:∀ {l:List Str} {us:List Value},Vals (l.map V.str) us→∃ ps:List (Str × Tok),us=strValues ps∧ps.map (·.1)=l
  | [],us,r=>by cases r; exact ⟨[],rfl,rfl⟩
  | x :: l,us,r=>by
    cases r with
    | cons h t =>
      obtain ⟨k,rfl⟩:=h
      obtain ⟨ps,rfl,e⟩:=zhZ t
      exact ⟨(x,k) :: ps,rfl,by rw [List.map_cons,e]⟩
def ziJ:V→List V→Hp→VK→Prop:=fun x vs H Q=>∃ z y,x = .str z∧vs = [.str y]∧(y.length == 0)=false∧z.length ≤ sizeLine∧(Txt.split z y).length ≤ sizeLine∧∀ p,H p=none→Q (.ref p) (upd H p (.lst ((Txt.split z y).map V.str)))
theorem zfb:MtR X "str.split" ziJ:=by
  intro pins s σ H x vs v us Q I rx rv h
  obtain ⟨z,y,rfl,rfl,hy,hz,hn,q⟩:=h
  obtain ⟨t,rfl⟩:=rx
  obtain ⟨u,rfl,ru⟩:=rv.one
  obtain ⟨k,rfl⟩:=ru
  have fr:H s.heap.objs.size=none:=I.hok.fresh (Nat.le_refl _)
  have fin:∀ (ps:List (Str × Tok)) (tk:Nat),ps.map (·.1)=Txt.split z y→EP X pins σ Q (.ref s.heap.objs.size) { s with heap:=s.heap.push { cls:=.type "list",data:=.seq (strValues ps).toArray },toks:=tk }:=fun ps tk e=>by
    have r:=zfN ps
    rw [show (ps.map fun p=>V.str p.1)=(Txt.split z y).map V.str by rw [← e,List.map_map]; rfl] at r
    exact ⟨.ref s.heap.objs.size,_,I.laid (t':=tk) (o:=.lst ((Txt.split z y).map V.str)) (fun b ob q=>Heap.get?_push_of_some _ q) (Nat.le_refl _) ⟨by rw [List.length_map]; exact hn,_,0,r,Heap.get?_push_size _ rfl⟩,rfl,q _ fr⟩
  cases h1:(decide (z.length < y.length) || decide (strKind z < strKind y)) with
  | true=>exact call_meets F.slot_str_split (typeIs_str _ _ _) F.entry_str_split (F.args_str_split_2 _ _) (meets_str_split_cannot_occur z y t k h1) (fin [(z,t)] s.toks (by unfold Txt.split; rw [if_pos h1]; rfl))
  | false =>
    cases hf:(occurrences z y 0 z.length (z.length + 1)).isEmpty with
    | true=>exact call_meets F.slot_str_split (typeIs_str _ _ _) F.entry_str_split (F.args_str_split_2 _ _) (meets_str_split_not_found z y t k h1 hy hf) (fin [(z,t)] s.toks (by unfold Txt.split; rw [if_neg (by rw [h1]; decide),if_pos hf]; rfl))
    | false =>
      have e:Txt.split z y=partsBetween z (occurrences z y 0 z.length (z.length + 1)) y.length:=by unfold Txt.split; rw [if_neg (by rw [h1]; decide),if_neg (by rw [hf]; decide)]
      refine call_meets F.slot_str_split (typeIs_str _ _ _) F.entry_str_split (F.args_str_split_2 _ _) (meets_str_split_sep z y t k h1 hy hf hz (by rw [← e]; exact hn)) ?_
      show wants _ _ _ { s with toks:=_,heap:=s.heap.push { cls:=.type "list",data:=.seq (strsFrom s.toks (partsBetween z (occurrences z y 0 z.length (z.length + 1)) y.length)).toArray } }
      rw [strsFrom_eq]
      exact fin (numbered s.toks _) _ ((numbered_texts _ _).trans e.symm)
def zj0 (K:PySem.W.Frag):V→List V→Hp→VK→Prop:=fun x vs H Q=>∃ z p l,x = .str z∧vs = [.ref p]∧SqL K H p (l.map V.str)∧JoinOk z l=true∧Q (.str (Txt.join z l)) H
theorem zja:MtR X "str.join" (zj0 X.K):=by
  intro pins s σ H x vs v us Q I rx rv h
  obtain ⟨z,p,l,rfl,rfl,hq,hok,q⟩:=h
  obtain ⟨t,rfl⟩:=rx
  obtain ⟨u,rfl,ru⟩:=rv.one
  cases ru
  obtain ⟨its,r,pl,_⟩:=I.list hq
  obtain ⟨ps,rfl,e⟩:=zhZ r
  subst e
  have hok':=hok
  unfold JoinOk at hok'
  rw [Bool.not_eq_true'] at hok'
  exact call_meets F.slot_str_join (typeIs_str _ _ _) F.entry_str_join (F.args_str_join_2 _ _) (meets_str_join_list z t p ps hok') ⟨pl.isList,post_join ps ⟨joinFit_length hok',fun t' k=>⟨.str _,H,I.kept (t':=k) fun _ _ e=>e,⟨t',rfl⟩,q⟩⟩⟩
def zjH:List V→Hp→VK→Prop:=fun xs H Q=>∃ i:Int,xs = [.int i]∧i.natAbs.log2 < 1920∧Q (.str (Str.ofString (toString i))) H
theorem zda:zez X (.type "str") zjH:=by
  intro pins s σ H xs us Q I r h
  obtain ⟨i,rfl,hi,q⟩:=h
  obtain ⟨u,rfl,t,rfl⟩:=zf2 r
  exact PySem.P.str_of_int hi ⟨.str _,H,I.tok _,⟨_,rfl⟩,q⟩
def zj8:List V→Hp→VK→Prop:=fun xs H Q=>∃ (x:Str) (n:Int),xs = [.str x]∧PySem.intText? x=some n∧x.length ≤ 640∧Q (.int n) H
theorem zfq:zez X (.type "int") zj8:=by
  intro pins s σ H xs us Q I r h
  obtain ⟨x,n,rfl,hn,hl,q⟩:=h
  obtain ⟨u,rfl,t,rfl⟩:=zf2 r
  exact PySem.W.KIN.call_text hn hl ⟨.int n,H,I.tok _,⟨_,rfl⟩,q⟩
def rInS (f:Bool→Bool):R2:=fun x y H Q=>∃ a b,x = .str a∧y = .str b∧Q (.bl (f (Txt.contains b a))) H
theorem zhC:OpR X (compareOp .NotIn) (rInS not):=by
  intro pins s σ H x y v u Q I rx ry h
  obtain ⟨a,b,rfl,rfl,q⟩:=h
  obtain ⟨t,rfl⟩:=rx
  obtain ⟨k,rfl⟩:=ry
  exact PySem.SB.notContains ⟨.bl _,H,I,rfl,q⟩
def ItS (x:Str):It:=⟨fun i _=>i < x.cps.size,fun i H v H'=>H'=H∧∃ c,x.cps[i]?=some c∧v = .str ⟨#[c]⟩,fun i _=>x.cps.size ≤ i⟩
theorem zic {P:Program} {w:World} {K:PySem.W.Frag} {tg:Expr} (x:Str) (t:Tok) (it:Addr):Turn P w K tg (ItS x) [it] it (fun i h=>h.IsStrIter it "str_ascii_iterator" x t i) where
  mem:=by simp
  obj:=fun i h st b hb=>by
    have e:b=it:=by simpa using hb
    subst e
    obtain ⟨o,e,c,d⟩:=st
    exact ⟨o,e,fun v z=>by rw [d] at z; cases z⟩
  keep:=fun i h h' st k=>by
    obtain ⟨o,e,c,d⟩:=st
    exact ⟨o,k it (by simp) o e,c,d⟩
  item:=by
    intro X hP hw hK hc i pins s σ H E I hf st hg
    subst hP hw hK
    have hg':i < x.cps.size:=hg
    obtain ⟨f0,f1,f2,f3,f4,f5⟩:=hf it (by simp)
    refine wpAny_pyNext_ascii_item st (c:=x.cps[i]) (by simp [hg']) fun h' st' sb=>?_
    have I1:Inv X pins σ H { s with heap:=h',toks:=s.toks + 1 }:=I.turned (t':=s.toks + 1) (fun b o hb e=>(sb.2 b hb).trans e) f0 f1 f3 f4 f5
    obtain ⟨o,e,c,d⟩:=id st'
    exact ⟨_,rfl,ziY (s:={ s with heap:=h',toks:=s.toks + 1 }) e c d (by decide) ⟨.str ⟨#[x.cps[i]]⟩,H,I1,⟨_,rfl⟩,⟨rfl,x.cps[i],by simp [hg'],rfl⟩,st',fun b hb=>(hf b hb).1⟩⟩
  done:=by
    intro X hP hw hK hc i pins s σ H E I hf st hg
    subst hP hw hK
    have hg':x.cps.size ≤ i:=hg
    obtain ⟨f0,f1,f2,f3,f4,f5⟩:=hf it (by simp)
    exact wpAny_pyNext_ascii_end (I.ok.hd hc) st (by simp [hg']) fun h' eb=>⟨rfl,I.turned (t':=s.toks) (fun b o hb e=>eb b o hb e) f0 f1 f3 f4 f5⟩
  self:=fun _ _ _ _ _ st h=>wpAny_pyIter_striter_ascii st h
def iStr (tl:TE):TI:=fun σ H R=>tl σ H fun x H1=>∃ z,x = .str z∧z.cps.all (· < 128)=true∧R (ItS z) H1
theorem zjq {l:Expr} {tl:TE} (hl:PE X l tl):PI X tg l (iStr tl):=by
  intro pins s σ H R I h
  refine thn (hl pins s σ H _ I h) fun v s1 ⟨x,H1,I1,r1,q1⟩=>?_
  obtain ⟨z,rfl,ha,q⟩:=q1
  obtain ⟨t,rfl⟩:=r1
  refine wpAny_pyIter_ascii ha ?_
  refine ⟨s1.heap.objs.size,[s1.heap.objs.size],_,_,H1,rfl,I1.kept (t':=s1.toks) fun b o e=>Heap.get?_push_of_some _ e,zic z t _,⟨_,Heap.get?_push_size _ rfl,rfl,rfl⟩,fun b hb=>?_,q⟩
  have e:b=s1.heap.objs.size:=by simpa using hb
  subst e
  exact I1.fpOk (Nat.le_refl _) (I1.hok.fresh (Nat.le_refl _))
end
end L2
namespace L2
open PySem PySem.Spec PyProof.Rows
section
variable {X:Cx} {a b:Expr} {ta tb:TE} {pos p1 p2 p3:Pos}
def tFst (x:Str) (ta tb:TE):TE:=fun σ H Q=>ta σ H fun v H1=>∃ i:Int,v = .int i∧i.natAbs.log2 < 1920∧(Str.ofString (toString i) ++ x).length ≤ sizeLine∧tb σ H1 fun u H2=>∃ k:Int,u = .int k∧k.natAbs.log2 < 1920∧(Str.ofString (toString i) ++ x ++ Str.ofString (toString k)).length ≤ sizeLine∧Q (.str (Str.ofString (toString i) ++ x ++ Str.ofString (toString k))) H2
theorem zjz {x:Str} {j} (ha:PE X a ta) (hb:PE X b tb):PE X (.JoinedStr [.FormattedValue a (-1) none p1,.Constant (.str x) j p2,.FormattedValue b (-1) none p3] pos) (tFst x ta tb):=by
  intro pins s σ H Q I h
  refine wpAny_JoinedStr ?_
  show wpAny _ _ (eval (.FormattedValue a (-1) none p1) X.env) _ _ s
  refine wpAny_FormattedValue_plain (thn (ha pins s σ H _ I h) fun v s1 ⟨y,H1,I1,r1,i,e,hi,hz,q1⟩=>?_)
  subst e
  obtain ⟨t,rfl⟩:=r1
  refine wpAny_formatField_int hi ⟨_,_,rfl,?_,?_⟩
  · rw [Str.empty_append]; exact int_text_fits hi
  show wpAny _ _ (eval (.Constant (.str x) j p2) X.env) _ _ _
  refine Calls.Constant_str ⟨_,_,rfl,?_,?_⟩
  · rw [Str.empty_append]; exact hz
  have I2:=(I1.tok (s1.toks + 1 + 1)).tok (s1.toks + 1 + 1 + 1)
  show wpAny _ _ (eval (.FormattedValue b (-1) none p3) X.env) _ _ _
  refine wpAny_FormattedValue_plain (thn (hb pins _ σ H1 _ I2 q1) fun v s3 ⟨y,H3,I3,r3,k,e,hk,hz3,q3⟩=>?_)
  subst e
  obtain ⟨t3,rfl⟩:=r3
  refine wpAny_formatField_int hk ⟨_,_,rfl,?_,?_,?_⟩
  · rw [Str.empty_append]; exact hz3
  · rw [Str.empty_append]; exact hz3
  · rw [Str.empty_append]
    exact ⟨.str _,H3,(I3.tok _).tok _,⟨_,rfl⟩,q3⟩
end
end L2
namespace PM
open PySem L2
section
variable {K:Kx} {XO:XOT} {E:L2.St→XK} {ta tb te:TE} {ma mb me:En→R D}
theorem zhw {F H:Hp} {z:Str} {v:V} (h:Top K F H (.str z) v):v = .str z:=by simpa only [Top,Rep] using h
def zge:List D→Option D
  | [.str z]=>ifC (z.length ≤ sizeLine) (some (.int z.length)) none
  | _=>none
theorem zhY:SC K (fun xs H Q=>∃ z,xs = [.str z]∧z.length ≤ sizeLine∧Q (.int z.length) H) zge:=by
  intro F H vs ds d Q s r e q
  unfold zge at e
  split at e
  · rename_i z
    unfold ifC at e
    split at e
    · rename_i hz
      cases e
      cases r with
      | cons r r' =>
        cases r'
        rw [zhw r]
        exact ⟨z,rfl,hz,q _ F H (.refl s) (by simp only [Rep])⟩
    · cases e
  · cases e
def oIxS (x y:D):Option D:=match x,y with
  | .str z,.int i=>ifC (z.length ≤ sizeLine) ((atI z.cps.toList i).map fun c=>.str ⟨#[c]⟩) none
  | _,_=>none
theorem zjM:SR K rIxS oIxS:=by
  intro F H x y dx dy d Q s hx hy e q
  unfold oIxS at e
  split at e
  · rename_i z i
    unfold ifC at e
    split at e
    · rename_i hz
      cases ec:atI z.cps.toList i with
      | none=>rw [ec] at e; cases e
      | some c =>
        rw [ec] at e
        cases e
        simp only [Top,Rep] at hx hy
        exact ⟨z,i,c,hx,hy,hz,ec,q _ F H (.refl s) (by simp only [Rep])⟩
    · cases e
  · cases e
def oInS (f:Bool→Bool) (x y:D):Option D:=match x,y with
  | .str a,.str b=>some (.bl (f (Txt.contains b a)))
  | _,_=>none
theorem zjF {f:Bool→Bool}:SR K (rInS f) (oInS f):=by
  intro F H x y dx dy d Q s hx hy e q
  unfold oInS at e
  split at e
  · rename_i a b
    cases e
    simp only [Top,Rep] at hx hy
    exact ⟨a,b,hx,hy,q _ F H (.refl s) (by simp only [Rep])⟩
  · cases e
def zdw (x:D) (y:Str):R D:=match x with
  | .str z=>ifC ((y.length == 0)=false∧z.length ≤ sizeLine∧(Txt.split z y).length ≤ sizeLine) (.ok (.lst ((Txt.split z y).map .str))) .no
  | _=>.no
def zd7 (ma:En→R D) (y:Str) (δ:En):R D:=(ma δ).bind fun x=>zdw x y
theorem zfp {F:Hp}:∀ (l:List Str),RepL K F (l.map .str) (l.map V.str)
  | []=>.nil
  | x :: l=>.cons (by simp only [Rep]) (zfp l)
theorem zee {y:Str} (ha:SE K XO E ta ma):SEo K XO E (tBM K.f "str" ziJ ta (zf6 (tC (.str y)) tNil)) (zd7 ma y):=by
  intro Λ F0 H0 F H σ δ Q I a
  refine ha Λ F0 H0 F H σ δ _ I (a.bind.imp fun x F1 H1 e1 a1 v rv=>?_)
  cases x with
  | str z =>
    simp only [Rep] at rv
    subst rv
    refine ⟨rfl,?_⟩
    unfold zdw ifC at a1
    dsimp only at a1
    split at a1
    · rename_i hc
      refine ⟨z,y,rfl,rfl,hc.1,hc.2.1,hc.2.2,fun p hp=>?_⟩
      exact a1 F1 _ (.newO e1.fh hp) p (e1.fh.free hp) (e1.hh.free hp) ⟨_,zaD,zfp _⟩
    · exact a1.elim
  | _=>exact a1.elim
def asSs:List D→Option (List Str)
  | []=>some []
  | .str x :: l=>(asSs l).map (x :: ·)
  | _=>none
theorem zfJ:∀ {l:List D} {xs:List Str},asSs l=some xs→l=xs.map .str
  | [],xs,h=>by cases h; rfl
  | d :: l,xs,h=>by
    cases d with
    | str x =>
      simp only [asSs] at h
      cases q:asSs l with
      | none=>rw [q] at h; cases h
      | some r=>rw [q] at h; cases h; rw [zfJ q]; rfl
    | _=>cases h
theorem zgX:∀ (xs:List Str),asSs (xs.map .str)=some xs
  | []=>rfl
  | x :: xs=>by rw [List.map_cons,asSs,zgX xs]; rfl
theorem zhN {F:Hp}:∀ {l:List Str} {vs:List V},RepL K F (l.map .str) vs→vs=l.map V.str
  | [],vs,h=>by simpa only [List.map_nil,RepL] using h
  | x :: l,vs,h=>by
    simp only [List.map_cons,RepL,Rep] at h
    obtain ⟨v,r,rfl,rfl,h3⟩:=h
    rw [zhN h3]; rfl
def ziv (z:Str) (y:D):R D:=match y with
  | .lst l=>(match asSs l with | some xs=>if JoinOk z xs=true then .ok (.str (Txt.join z xs)) else .no | none=>.no)
  | _=>.no
def zie (z:Str) (mb:En→R D) (δ:En):R D:=(mb δ).bind fun y=>ziv z y
theorem zjj {z:Str} (hb:SE K XO E tb mb):SE K XO E (tBM K.f "str" (zj0 K.f) (tC (.str z)) (zf6 tb tNil)) (zie z mb):=by
  intro Λ F0 H0 F H σ δ Q I a
  refine ⟨rfl,hb Λ F0 H0 F H σ δ _ I (a.bind.imp fun y F1 H1 e1 a1 v rv=>?_)⟩
  unfold ziv at a1
  split at a1
  · rename_i l
    cases q:asSs l with
    | none=>rw [q] at a1; exact a1.elim
    | some xs =>
      rw [q] at a1
      dsimp only at a1
      split at a1
      · rename_i hok
        rw [zfJ q] at rv
        simp only [Rep] at rv
        obtain ⟨p,vs,rfl,h1,h2⟩:=rv
        rw [zhN h2] at h1
        exact ⟨z,p,xs,rfl,rfl,.inl (PM.Same.rd e1.fh h1),hok,a1 F1 H1 (.refl e1.fh) _ (by simp only [Rep])⟩
      · exact a1.elim
  · exact a1.elim
def zeB:List D→Option D
  | [.int i]=>ifC (i.natAbs.log2 < 1920) (some (.str (Str.ofString (toString i)))) none
  | _=>none
theorem zeP:SC K zjH zeB:=by
  intro F H vs ds d Q s r e q
  unfold zeB at e
  split at e
  · rename_i i
    unfold ifC at e
    split at e
    · rename_i hz
      cases e
      cases r with
      | cons r r' =>
        cases r'
        simp only [Top,Rep] at r
        subst r
        exact ⟨i,rfl,hz,q _ F H (.refl s) (by simp only [Rep])⟩
    · cases e
  · cases e
def zgp:List D→Option D
  | [.str x]=>(PySem.intText? x).bind fun n=>ifC (x.length ≤ 640) (some (.int n)) none
  | _=>none
theorem zhD:SC K zj8 zgp:=by
  intro F H vs ds d Q s r e q
  unfold zgp at e
  split at e
  · rename_i x
    cases hn:PySem.intText? x with
    | none=>rw [hn] at e; cases e
    | some n =>
      rw [hn] at e
      simp only [Option.bind] at e
      unfold ifC at e
      split at e
      · rename_i hz
        cases e
        cases r with
        | cons r r' =>
          cases r'
          rw [zhw r]
          exact ⟨x,n,rfl,hn,hz,q _ F H (.refl s) (by simp only [Rep])⟩
      · cases e
  · cases e
def fstD (x:Str) (a b:D):Option D:=match a,b with
  | .int i,.int k=>ifC (i.natAbs.log2 < 1920∧k.natAbs.log2 < 1920∧(Str.ofString (toString i) ++ x).length ≤ sizeLine∧(Str.ofString (toString i) ++ x ++ Str.ofString (toString k)).length ≤ sizeLine) (some (.str (Str.ofString (toString i) ++ x ++ Str.ofString (toString k)))) none
  | _,_=>none
def mFst (x:Str) (i j:Nat) (δ:En):R D:=match δ[i]?,δ[j]? with
  | some (.v a),some (.v b)=>R.of (fstD x a b)
  | _,_=>.no
theorem zj1 {x:Str} {i j:Nat}:SE K XO E (tFst x (tVar i) (tVar j)) (mFst x i j):=by
  intro Λ F0 H0 F H σ δ Q I a
  unfold mFst at a
  split at a
  · rename_i d1 d2 q1 q2
    have s1:=I.slot i
    have s2:=I.slot j
    rw [q1] at s1
    rw [q2] at s2
    obtain ⟨u1,g1,r1⟩:=s1
    obtain ⟨u2,g2,r2⟩:=s2
    cases q:fstD x d1 d2 with
    | none=>rw [q] at a; exact a.elim
    | some d =>
      rw [q] at a
      unfold fstD at q
      split at q
      · rename_i i' k'
        unfold ifC at q
        split at q
        · rename_i hc
          cases q
          simp only [Rep] at r1 r2
          subst r1 r2
          exact ⟨_,g1,i',rfl,hc.1,hc.2.2.1,_,g2,k',rfl,hc.2.1,hc.2.2.2,a F H (.refl I.same) _ (by simp only [Rep])⟩
        · cases q
      · cases q
  · exact a.elim
def sgnD (z:Str):List D:=z.cps.toList.map fun c=>.str ⟨#[c]⟩
def mItS (me:En→R D) (δ:En):R (List D):=(me δ).bind fun d=>match d with
  | .str z=>if z.cps.all (· < 128)=true then .ok (sgnD z) else .no
  | _=>.no
theorem zjx (h:SE K XO E te me):SI K XO E (iStr te) (mItS me):=by
  intro Λ F0 H0 F H σ δ R I a
  refine h Λ F0 H0 F H σ δ _ I (a.bind.imp fun d F1 H1 e1 a1 v r=>?_)
  cases d with
  | str z =>
    simp only [Rep] at r
    subst r
    dsimp only at a1
    split at a1
    · rename_i ha
      refine ⟨z,rfl,ha,a1 F1 H1 (.refl e1.fh) _ fun F2 H2 p i=>⟨fun d hd=>?_,fun hn=>?_⟩⟩
      · unfold sgnD at hd
        rw [List.getElem?_map] at hd
        cases q:z.cps.toList[i]? with
        | none=>rw [q] at hd; cases hd
        | some c =>
          rw [q] at hd
          cases hd
          rw [Array.getElem?_toList] at q
          refine ⟨(Array.getElem?_eq_some_iff.mp q).1,fun x H' y=>?_⟩
          obtain ⟨rfl,c',h1,rfl⟩:=y
          rw [q] at h1
          cases h1
          exact ⟨F2,.refl p.2,by simp only [Rep]⟩
      · have:z.cps.toList.length ≤ i:=by
          have:=List.getElem?_eq_none_iff.mp hn
          unfold sgnD at this
          rw [List.length_map] at this; exact this
        rw [Array.length_toList] at this
        exact this
    · exact a1.elim
  | _=>exact a1.elim
end
end PM
namespace L2
open PySem PySem.Spec PyProof.Rows
section
variable {X:Cx} {x:Str} {pos:Pos}
theorem zdR {i:Int} (hg:Gl X x) (hm:∃ t,X.mg x=some (.int i t)) (hd:(x == ("__debug__" : Str))=false:=by decide):PE X (.Name x pos) (tC (.int i)):=by
  obtain ⟨t,hm⟩:=hm
  exact zhW hg hm ⟨t,rfl⟩ hd
theorem zii {z:Str} (hg:Gl X x) (hm:∃ t,X.mg x=some (.str z t)) (hd:(x == ("__debug__" : Str))=false:=by decide):PE X (.Name x pos) (tC (.str z)):=by
  obtain ⟨t,hm⟩:=hm
  exact zhW hg hm ⟨t,rfl⟩ hd
end
end L2
namespace PM
open PySem L2
section
variable {K:Kx}
def zg4 (x y:D):Option D:=match x,y with
  | .str i,.str j=>ifC (i.length + j.length ≤ sizeLine) (some (.str (i ++ j))) none
  | _,_=>none
theorem zh1:SR K (fun x y H Q=>∃ i j,x = .str i∧y = .str j∧i.length + j.length ≤ sizeLine∧Q (.str (i ++ j)) H) zg4:=by
  intro F H x y dx dy d Q s hx hy e q
  unfold zg4 at e
  split at e
  · rename_i i j
    unfold ifC at e
    split at e
    · rename_i hz
      cases e
      simp only [Top,Rep] at hx hy
      exact ⟨i,j,hx,hy,hz,q _ F H (.refl s) (by simp only [Rep])⟩
    · cases e
  · cases e
end
end PM
namespace L2
open PySem PySem.Spec PyProof.Rows
end L2
namespace My
open PySem L2 PM
def zbK:En→O:=(mSeq (mIfS (zav (m2 oLt (mRd 1) (mCB fLen (zab (mRd 0) mNil))))
  (mRet (m2 oIxL (mRd 0) (mRd 1)))
  zaU)
  (mRet (mC (.int 0))))
def zat:List D→R D:=runF 2 0 zbK
def zcF:En→O:=(mRet (m2 oMod (m2 oMul (m2 oAdd (m2 oAdd (m2 oMod (mRd 0) (m2 oPow (mC (.int 10)) (mC (.int 20)))) (m2 oMul (mRd 1) (mRd 1))) (mC (.int 1))) (m2 oAdd (mC (.int 48271)) (m2 oMul (mC (.int 2)) (mRd 1)))) (mC (.int 2147483647))))
def zba:List D→R D:=runF 2 0 zcF
def zbP:En→R Bool:=(zav (m2 oGt (mRd 1) (mC (.int 0))))
def zbR:En→O:=(mPar 0 1 (zab (mVar 1) (zab (m2 oMod (mRd 0) (mRd 1)) mNil)))
def zcU:En→O:=zd3 zbP zbR
def zc9:En→O:=(mSeq zcU
  (mRet (mVar 0)))
def zaH:List D→R D:=runF 2 0 zc9
def zd8:En→O:=(mSeq (mAsg (zai zba (zab (mVar 0) (zab (m2 oAdd (mRd 1) (mC (.int 400))) mNil))) (zax 2))
  (mSeq (mAsg (m2 oIxL (mLst (zab (mC (.int 1)) (zab (mC (.int 1)) (zab (mC (.int 2)) (zab (mC (.int 3)) (zab (mC (.int 4)) (zab (mC (.int 6)) (zab (mC (.int 7)) (zab (mC (.int 12)) (zab (m2 oAdd (mC (.int 1)) (m2 oMod (m2 oDiv (mRd 2) (mC (.int 8))) (mC (.int 12)))) mNil)))))))))) (m2 oMod (m2 oDiv (mRd 2) (mC (.int 128))) (mC (.int 9)))) (zax 3))
  (mSeq (mAsg (m2 oMod (m2 oDiv (mRd 2) (mC (.int 1200))) (mC (.int 30))) (zax 4))
  (mSeq (mIfS (zav (m2 oEq (m2 oMod (mRd 2) (mC (.int 3))) (mC (.int 0))))
  (mAsg (m2 oMod (m2 oAdd (m2 oMul (m2 oMod (mRd 0) (m2 oPow (mC (.int 10)) (mC (.int 20)))) (mC (.int 48271))) (mRd 2)) (m2 oPow (mC (.int 10)) (mC (.int 12)))) (zax 4))
  zaU)
  (mSeq (mAsg (zai zaH (zab (mVar 3) (zab (mVar 4) mNil))) (zax 5))
  (mRet (mTup (zab (m2 oDiv (mRd 4) (mRd 5)) (zab (m2 oDiv (mRd 3) (mRd 5)) mNil)))))))))
def zbs:List D→R D:=runF 2 4 zd8
def zdG:En→O:=(mAsg (m2 oDiv (m2 oMul (mRd 1) (mRd 3)) (zai zaH (zab (mVar 1) (zab (mVar 3) mNil)))) (zax 1))
def zei:En→O:=mFor (mItL (mVar 0)) (bTup 2 (zcP (zax 2) (zcP (zax 3) bNil))) zdG
def zeJ:En→O:=(mSeq (mAsg (mC (.int 1)) (zax 1))
  (mSeq zei
  (mRet (mVar 1))))
def zbL:List D→R D:=runF 1 3 zeJ
def zdb:En→O:=(mSeq (mIfS (zav (m2 oEq (m2 oIxT (mRd 0) (mC (.int 1))) (mC (.int 1))))
  (mRet (mCB zeB (zab (m2 oIxT (mRd 0) (mC (.int 0))) mNil)))
  zaU)
  (mRet (m2 zg4 (m2 zg4 (mCB zeB (zab (m2 oIxT (mRd 0) (mC (.int 0))) mNil)) (mC (.str "/"))) (mCB zeB (zab (m2 oIxT (mRd 0) (mC (.int 1))) mNil)))))
def zaO:List D→R D:=runF 1 0 zdb
def zb7:En→O:=(mIfS (zav (mVar 0))
  (fun _=>.no)
  zaU)
def zao:List D→R D:=runF 2 0 zb7
def zbl:En→O:=(mDo (zai zao (zab (mOrV (m2 oLt (mCB fLen (zab (mRd 0) mNil)) (mRd 1)) (m2 oGt (mCB fLen (zab (mRd 0) mNil)) (mRd 2))) (zab (mVar 3) mNil))))
def zaB:List D→R D:=runF 4 0 zbl
def zcH:En→R D:=zd1 (mItS (mVar 0)) [] 1 (zbg 0) none (m2 (oInS not) (mRd 0) (mC (.str "0123456789")))
def zdV:En→O:=(mSeq (mIfS (mOr (zav (m2 oEq (mCB zge (zab (mRd 0) mNil)) (mC (.int 0)))) (zav (m2 oGt (mCB zge (zab (mRd 0) mNil)) (mC (.int 12)))))
  (mRet (mC (.bl false)))
  zaU)
  (mSeq (mIfS (zav (mCB fAny (zab zcH mNil)))
  (mRet (mC (.bl false)))
  zaU)
  (mRet (mOrV (m2 oNe (m2 oIxS (mRd 0) (mC (.int 0))) (mC (.str "0"))) (m2 oEq (mRd 0) (mC (.str "0")))))))
def zbj:List D→R D:=runF 1 0 zdV
def zbr:En→R Bool:=(zav (m2 oGt (mRd 3) (mC (.int 0))))
def zbw:En→O:=(mSeq (mAsg (m2 oMod (mRd 2) (mRd 3)) (zax 4))
  (mSeq (mAsg (mVar 3) (zax 2))
  (mAsg (mVar 4) (zax 3))))
def zcB:En→O:=zd3 zbr zbw
def zbU:En→O:=(mSeq (mAsg (mCB fAbs (zab (mRd 0) mNil)) (zax 2))
  (mSeq (mAsg (mCB fAbs (zab (mRd 1) mNil)) (zax 3))
  (mSeq zcB
  (mRet (mVar 2)))))
def zaL:List D→R D:=runF 2 3 zbU
def zb4:En→R D:=zd1 (mItL (mRd 2)) [] 1 (zbg 0) none (zai zbj (zab (mVar 0) mNil))
def zd6:En→O:=(mSeq (mAsg (zd7 (mVar 0) "/") (zax 2))
  (mSeq (mDo (zai zao (zab (m2 oGt (mCB fLen (zab (mRd 2) mNil)) (mC (.int 2))) (zab (mVar 1) mNil))))
  (mSeq (mDo (zai zao (zab (zim (mCB fAll (zab zb4 mNil))) (zab (mVar 1) mNil))))
  (mSeq (mAsg (mCB zgp (zab (m2 oIxL (mRd 2) (mC (.int 0))) mNil)) (zax 3))
  (mSeq (mIfS (zav (m2 oEq (mCB fLen (zab (mRd 2) mNil)) (mC (.int 1))))
  (mRet (mTup (zab (mVar 3) (zab (mC (.int 1)) mNil))))
  zaU)
  (mSeq (mAsg (mCB zgp (zab (m2 oIxL (mRd 2) (mC (.int 1))) mNil)) (zax 4))
  (mSeq (mDo (zai zao (zab (mOrV (m2 oLt (mRd 4) (mC (.int 2))) (m2 oGt (mRd 4) (mC (.int 12)))) (zab (mVar 1) mNil))))
  (mSeq (mDo (zai zao (zab (m2 oGt (zai zaL (zab (mVar 3) (zab (mVar 4) mNil))) (mC (.int 1))) (zab (mVar 1) mNil))))
  (mRet (mTup (zab (mVar 3) (zab (mVar 4) mNil))))))))))))
def zbV:List D→R D:=runF 2 3 zd6
def zbv:En→O:=(mRet (m2 oMul (mRd 0) (m2 oDiv (mRd 1) (zai zaL (zab (mVar 0) (zab (mVar 1) mNil))))))
def zaT:List D→R D:=runF 2 0 zbv
def zdS:En→O:=(mAsg (zai zaT (zab (mVar 1) (zab (m2 oIxT (mRd 2) (mC (.int 1))) mNil))) (zax 1))
def zeH:En→O:=mFor (mItL (mVar 0)) (zax 2) zdS
def zfr:En→O:=(mSeq (mAsg (mC (.int 1)) (zax 1))
  (mSeq zeH
  (mRet (mVar 1))))
def zcd:List D→R D:=runF 1 2 zfr
def zcj:En→O:=(mRet (m2 oMul (m2 oIxT (mRd 0) (mC (.int 0))) (m2 oDiv (mRd 1) (m2 oIxT (mRd 0) (mC (.int 1))))))
def zbf:List D→R D:=runF 2 0 zcj
def zbo:En→R D:=zd1 (mItL (mRd 0)) [1] 1 (zbg 1) none (zai zbf (zab (mVar 1) (zab (mVar 0) mNil)))
def zch:En→O:=(zgd zbo)
def za2:List D→R D:=runO 2 0 zch
def zco:En→R D:=zd1 (mItL (mSl (m2 oIxL (mRd 0) (mC (.int 0))) (zec (mC (.int 1))) mNoP)) [] 1 (zbg 0) none (zai zbV (zab (mVar 0) (zab (mC (.int 0)) mNil)))
def zer:En→O:=(mSeq (mDo (zai zao (zab (m2 oGt (mRd 3) (mC (.int 80))) (zab (mVar 3) mNil))))
  (zgc 2 mNo))
def zc4:En→O:=mFor (mRng (zab (mC (.int 1)) (zab (mCB fLen (zab (mRd 0) mNil)) mNil))) (zax 3) zer
def zdz:En→O:=(mSeq (mDo (zai zaB (zab (m2 oIxL (mRd 0) (mC (.int 0))) (zab (mC (.int 2)) (zab (m2 oAdd (mC (.int 1)) (mC (.int 40))) (zab (mC (.int 0)) mNil))))))
  (mSeq (mAsg zco (zax 1))
  (mSeq (mAsg (mLst mNil) (bNew 2))
  (mSeq zc4
  (mSeq (mAsg (zai zcd (zab (mVar 1) mNil)) (zax 4))
  (mFrz 2 (mRet (mTup (zab (mVar 4) (zab (mTup (zab (zai za2 (zab (mVar 1) (zab (mVar 4) mNil))) (zab (mVar 2) mNil))) mNil))))))))))
def zbB:List D→R D:=runF 1 4 zdz
def zcZ:En→O:=(mSeq (mIfS (zav (m2 oEq (mRd 0) (mC (.str "cover"))))
  (mRet mNo)
  zaU)
  (mSeq (mIfS (zav (m2 oEq (mRd 0) (mC (.str "touch"))))
  (mRet (zai zbB (zab (mVar 1) mNil)))
  zaU)
  (mSeq (mIfS (zav (m2 oEq (mRd 0) (mC (.str "round"))))
  (mRet mNo)
  zaU)
  (mSeq (mIfS (zav (m2 oEq (mRd 0) (mC (.str "places"))))
  (mRet mNo)
  zaU)
  (mSeq (mIfS (zav (m2 oEq (mRd 0) (mC (.str "benches"))))
  (mRet mNo)
  zaU)
  (mSeq (mIfS (zav (m2 oEq (mRd 0) (mC (.str "bins"))))
  (mRet mNo)
  zaU)
  (mSeq (mIfS (zav (m2 oEq (mRd 0) (mC (.str "sack"))))
  (mRet mNo)
  zaU)
  (fun _=>.no))))))))
def zbk:List D→R D:=runF 2 0 zcZ
def zcb:En→O:=(mIfS (zav (m2 oEq (mRd 0) (mC (.str "cover"))))
  (mDo mNo)
  (mIfS (mOr (zav (m2 oEq (mRd 0) (mC (.str "round")))) (zav (m2 oEq (mRd 0) (mC (.str "places")))))
  (mDo mNo)
  (mIfS (zav (m2 oEq (mRd 0) (mC (.str "bins"))))
  (mDo mNo)
  zaU)))
def za1:List D→R D:=runF 2 0 zcb
def zgl:En→R D:=zd1 (mItL (zd7 (mVar 0) "\n")) [] 1 (zbg 0) none (zd7 (mVar 0) " ")
def ziK:En→O:=(mSeq (mAsg zgl (zax 1))
  (mSeq (mAsg (m2 oIxL (m2 oIxL (mRd 1) (mC (.int 0))) (mC (.int 0))) (zax 2))
  (mSeq (mAsg (zai zbk (zab (mVar 2) (zab (mVar 1) mNil))) (zax 3))
  (mSeq (mDo (zai za1 (zab (mVar 2) (zab (m2 oIxT (mRd 3) (mC (.int 1))) mNil))))
  (mRet (mTup (zab (mVar 2) (zab (m2 oIxT (mRd 3) (mC (.int 0))) (zab (m2 oIxT (mRd 3) (mC (.int 1))) mNil)))))))))
def zeG:List D→R D:=runF 1 3 ziK
def zcp:En→R D:=zd1 (mItL (mRd 0)) [1] 2 (bTup 2 (zcP (zbg 1) (zcP (zbg 2) bNil))) none (m2 oDiv (m2 oMul (mRd 1) (mRd 0)) (mRd 2))
def zdB:En→O:=(zgd zcp)
def zbn:List D→R D:=runO 2 0 zdB
def zbu:En→O:=(mIfS (mOr (mNot (zav (m1 (oIsi "int") (mRd 2)))) (mOr (zav (m1 (oIsi "bool") (mRd 2))) (zav (m2 oNe (mRd 2) (mRd 3)))))
  (mRet (mC (.bl false)))
  zaU)
def zcy:En→O:=mFor (mZip (zab (mVar 0) (zab (mVar 1) mNil))) (bTup 2 (zcP (zax 2) (zcP (zax 3) bNil))) zbu
def zcE:En→O:=(mSeq (mIfS (mOr (mNot (zav (m1 (oIsi "list") (mRd 0)))) (zav (m2 oNe (mCB fLen (zab (mRd 0) mNil)) (mCB fLen (zab (mRd 1) mNil)))))
  (mRet (mC (.bl false)))
  zaU)
  (mSeq zcy
  (mRet (mC (.bl true)))))
def za9:List D→R D:=runF 2 2 zcE
def zdg:En→O:=(mSeq (mIfS (mOr (mNot (zav (m1 (oIsi "tuple") (mRd 0)))) (mOr (zav (m2 oNe (mCB fLen (zab (mRd 0) mNil)) (mC (.int 3)))) (mNot (zav (m1 (oIsi "str") (m2 oIxT (mRd 0) (mC (.int 0))))))))
  (mRet (mC (.bl false)))
  zaU)
  (mSeq (mIfS (mOr (mNot (zav (m1 (oIsi "int") (m2 oIxT (mRd 0) (mC (.int 1)))))) (mOr (zav (m1 (oIsi "bool") (m2 oIxT (mRd 0) (mC (.int 1))))) (zav (m2 oNe (m2 oIxT (mRd 0) (mC (.int 1))) (mRd 1)))))
  (mRet (mC (.bl false)))
  zaU)
  (mSeq (mIfS (mOr (mNot (zav (m1 (oIsi "tuple") (m2 oIxT (mRd 0) (mC (.int 2)))))) (mOr (zav (m2 oNe (mCB fLen (zab (m2 oIxT (mRd 0) (mC (.int 2))) mNil)) (mC (.int 2)))) (zav (m2 oNeD (m2 oIxT (m2 oIxT (mRd 0) (mC (.int 2))) (mC (.int 1))) (mLst mNil)))))
  (mRet (mC (.bl false)))
  zaU)
  (mRet (ze6 (m2 oEq (m2 oIxT (mRd 0) (mC (.int 0))) (mC (.str "touch"))) (ze6 (m1 (oIsi "list") (m2 oIxT (m2 oIxT (mRd 0) (mC (.int 2))) (mC (.int 1)))) (zai za9 (zab (m2 oIxT (m2 oIxT (mRd 0) (mC (.int 2))) (mC (.int 0))) (zab (mVar 2) mNil)))))))))
def zbd:List D→R D:=runF 3 0 zdg
def zcQ:En→O:=(mSeq (mAsg (m2 oIxT (mRd 0) (mC (.int 0))) (zax 1))
  (mSeq (mAsg (m2 oIxT (mRd 0) (mC (.int 1))) (zax 2))
  (mSeq (mIfS (zav (m2 oEq (mRd 2) (mC (.int 1))))
  (mRet (mCB zeB (zab (mRd 1) mNil)))
  zaU)
  (mRet (mFst "/" 1 2)))))
def za8:List D→R D:=runF 1 2 zcQ
def zdT:En→O:=(mSeq (mAsg (zai za8 (zab (mVar 0) mNil)) (zax 1))
  (mRet (ze6 (m1 (oIsi "str") (mRd 1)) (m2 oEq (mRd 1) (zai zaO (zab (mVar 0) mNil))))))
def zaN:List D→R D:=runF 1 1 zdT
def zhz:En→R D:=zd1 (zjf (zab (mRd 1) mNil)) [] 2 (bTup 2 (zcP (zbg 0) (zcP (zbg 1) bNil))) none (zai zbs (zab (mVar 1) (zab (mVar 0) mNil)))
def zhs:En→R D:=zd1 (mItL (mRd 2)) [] 1 (zbg 0) none (zai zaO (zab (mVar 0) mNil))
def zgb:En→O:=(mIfS (mNot (zav (zai zaN (zab (mVar 5) mNil))))
  (mRet (mC (.bl false)))
  zaU)
def ziN:En→O:=mFor (mItL (mVar 2)) (zax 5) zgb
def zjC:En→O:=(mSeq (mAsg (m2 oCat (mLst (zab (zai zat (zab (mVar 0) (zab (mC (.int 2)) mNil))) mNil)) (mSl (mRd 0) (zec (mC (.int 3))) (zec (mC (.int 42))))) (zax 1))
  (mSeq (mAsg zhz (zax 2))
  (mSeq (mAsg (zai zbL (zab (mVar 2) mNil)) (zax 3))
  (mSeq (mAsg (zie " " (m2 oCat (mLst (zab (mC (.str "touch")) mNil)) zhs)) (zax 4))
  (mSeq (mIfS (mNot (zav (zai zbd (zab (zai zeG (zab (mVar 4) mNil)) (zab (mVar 3) (zab (zai zbn (zab (mVar 2) (zab (mVar 3) mNil))) mNil))))))
  (mRet (mC (.bl false)))
  zaU)
  (mSeq ziN
  (mSeq (mAsg (m2 oMod (zai zat (zab (mVar 0) (zab (mC (.int 0)) mNil))) (m2 oPow (mC (.int 10)) (mC (.int 60)))) (zax 6))
  (mSeq (mAsg (m2 oAdd (mC (.int 1)) (m2 oMod (zai zat (zab (mVar 0) (zab (mC (.int 1)) mNil))) (m2 oIxL (mLst (zab (m2 oPow (mC (.int 10)) (mC (.int 30))) (zab (mC (.int 3)) mNil))) (m2 oMod (zai zat (zab (mVar 0) (zab (mC (.int 0)) mNil))) (mC (.int 2)))))) (zax 7))
  (mSeq (mAsg (zai zaH (zab (mVar 7) (zab (mVar 6) mNil))) (zax 8))
  (mRet (ze6 (zai zaN (zab (mTup (zab (m2 oDiv (mRd 6) (mRd 8)) (zab (m2 oDiv (mRd 7) (mRd 8)) mNil))) mNil)) (ze6 (zai zaN (zab (mTup (zab (mVar 6) (zab (mC (.int 1)) mNil))) mNil)) (zai zaN (zab (mTup (zab (mC (.int 0)) (zab (mC (.int 1)) mNil))) mNil))))))))))))))
def zkd:List D→R D:=runF 1 8 zjC
end My
namespace My
open PySem L2 PM
end My
namespace My
open PySem L2 PM
theorem p20:oPow (.int 10) (.int 20)=some (.int 100000000000000000000):=zgE ⟨by decide,by decide,by decide⟩
theorem p30:oPow (.int 10) (.int 30)=some (.int 1000000000000000000000000000000):=zgE ⟨by decide,by decide,by decide⟩
theorem zdt (ns:List Int) (k:Nat):zat [.scr ns,.int k] = .ok (.int (ns.getD k 0)):=by
  by_cases h:k < ns.length
  · have e:oIxL (.scr ns) (.int (k:Int))=some (.int (ns.getD k 0)):=by
      show (atI ns (k:Int)).map D.int=_
      rw [atI_nat (d:=ns.getD k 0) (by simp [h,List.getD_eq_getElem?_getD])]; rfl
    simp [zat,runF,zbq,zbK,mSeq,mIfS,zav,mRet,mRd,mC,mCB,zab,mNil,fLen,h,e]
  · have e:ns.getD k 0=0:=by simp [List.getD_eq_getElem?_getD,List.getElem?_eq_none_iff.mpr (Nat.le_of_not_lt h)]
    rw [e]
    simp [zat,runF,zbq,zbK,mSeq,mIfS,zav,mRet,mRd,mC,mCB,zab,mNil,fLen,h,zaU]
theorem zgy {m n:En→O} {δ:En} {d:D} (h:m δ = .rt d):mSeq m n δ = .rt d:=by unfold mSeq; rw [h]
theorem zcV (a:Int) {b:Int} (h:0 < b):0 ≤ a % b:=Int.emod_nonneg _ (by omega)
theorem zcT (a:Int) {b:Int} (h:0 < b):a % b < b:=Int.emod_lt_of_pos _ h
end My
namespace My
open PySem L2 PM
theorem zfc (a b:Str):(a ++ b).cps.toList=a.cps.toList ++ b.cps.toList:=by
  rw [Str.cps_append]; simp
def jl (c:Nat):List (List Nat)→List Nat
  | []=>[]
  | [p]=>p
  | p :: q :: r=>p ++ c :: jl c (q :: r)
theorem zdQ (c:Nat):∀ (ps:List Str),(Str.join ⟨#[c]⟩ ps).cps.toList=jl c (ps.map fun p=>p.cps.toList)
  | []=>rfl
  | [p]=>rfl
  | p :: q :: r=>by
    have ih:=zdQ c (q :: r)
    show (p ++ ⟨#[c]⟩ ++ Str.join ⟨#[c]⟩ (q :: r)).cps.toList=_
    rw [zfc,zfc,ih]
    simp [jl]
theorem ziH {c:Nat}:∀ {p q u v:List Nat},c ∉ p→c ∉ q→p ++ c :: u=q ++ c :: v→p=q∧u=v
  | [],[],u,v,_,_,h=>by simp at h; exact ⟨rfl,h⟩
  | [],b :: q,u,v,_,hq,h=>by
    simp at h
    exact absurd h.1 (fun e=>hq (by simp [e]))
  | a :: p,[],u,v,hp,_,h=>by
    simp at h
    exact absurd h.1 (fun e=>hp (by simp [e]))
  | a :: p,b :: q,u,v,hp,hq,h=>by
    simp at h hp hq
    obtain ⟨h1,h2⟩:=ziH hp.2 hq.2 h.2
    exact ⟨by rw [h.1,h1],h2⟩
theorem ziG {c:Nat}:∀ {ps qs:List (List Nat)},ps ≠ []→qs ≠ []→(∀ p ∈ ps,c ∉ p)→(∀ q ∈ qs,c ∉ q)→jl c ps=jl c qs→ps=qs
  | [],_,h,_,_,_,_=>absurd rfl h
  | _,[],_,h,_,_,_=>absurd rfl h
  | [p],[q],_,_,_,_,e=>by simp only [jl] at e; rw [e]
  | [p],q :: q' :: r,_,_,hp,_,e=>by
    simp only [jl] at e
    exact absurd (by rw [e]; simp) (hp p (by simp))
  | p :: p' :: r,[q],_,_,_,hq,e=>by
    simp only [jl] at e
    exact absurd (by rw [← e]; simp) (hq q (by simp))
  | p :: p' :: r,q :: q' :: s,_,_,hp,hq,e=>by
    simp only [jl] at e
    obtain ⟨h1,h2⟩:=ziH (hp p (by simp)) (hq q (by simp)) e
    have:=ziG (by simp) (by simp) (fun x hx=>hp x (by simp at hx ⊢; exact .inr hx)) (fun x hx=>hq x (by simp at hx ⊢; exact .inr hx)) h2
    rw [h1,this]
theorem zdr {c:Nat} {ws:List Str} (h0:ws ≠ []) (h:∀ w ∈ ws,c ∉ w.cps.toList):Txt.split (Str.join ⟨#[c]⟩ ws) ⟨#[c]⟩=ws:=by
  have e:=StrLaws.join_split (Str.join ⟨#[c]⟩ ws) ⟨#[c]⟩
  have f:=StrLaws.split_free (Str.join ⟨#[c]⟩ ws) c
  have p:=PyProof.Rows.split_pos (Str.join ⟨#[c]⟩ ws) ⟨#[c]⟩
  obtain ⟨S,eS⟩:∃ S,S=Txt.split (Str.join ⟨#[c]⟩ ws) ⟨#[c]⟩:=⟨_,rfl⟩
  rw [← eS] at e f p ⊢
  have e':(Str.join ⟨#[c]⟩ S).cps.toList=(Str.join ⟨#[c]⟩ ws).cps.toList:=by rw [e]
  rw [zdQ,zdQ] at e'
  have k:=ziG (by intro z; have:=List.map_eq_nil_iff.mp z; rw [this] at p; simp at p) (by intro z; exact h0 (List.map_eq_nil_iff.mp z))
    (fun x hx=>by obtain ⟨w,hw,rfl⟩:=List.mem_map.mp hx; exact f w hw) (fun x hx=>by obtain ⟨w,hw,rfl⟩:=List.mem_map.mp hx; exact h w hw) e'
  refine List.ext_getElem? fun i=>?_
  have ki:(S.map fun p=>p.cps.toList)[i]?=(ws.map fun p=>p.cps.toList)[i]?:=by rw [k]
  rw [List.getElem?_map,List.getElem?_map] at ki
  cases a:S[i]? with
  | none=>rw [a] at ki; cases b:ws[i]? with
    | none=>rfl
    | some w=>rw [b] at ki; cases ki
  | some x=>rw [a] at ki; cases b:ws[i]? with
    | none=>rw [b] at ki; cases ki
    | some w =>
      rw [b] at ki
      simp at ki
      rw [Str.ext' ki]
theorem zfs {c:Nat} {w:Str} (h:c ∉ w.cps.toList):Txt.split w ⟨#[c]⟩ = [w]:=zdr (ws:=[w]) (by simp) (by simpa using h)
def dg (n:Int):Str:=Str.ofString (toString n)
theorem zfj (m:Nat):(dg (m:Int)).cps.toList=(Nat.toDigits 10 m).map Char.toNat:=PySem.W.KIN.signs_num m
theorem zgK (m:Nat):PySem.NumText.AllDigits (dg (m:Int)).cps.toList:=by
  intro c hc
  rw [zfj] at hc
  obtain ⟨ch,hch,e⟩:=List.mem_map.mp hc
  have r:=PyProof.Rows.digit_range (Nat.isDigit_of_mem_toDigits (by decide) (by decide) hch)
  rw [← e]
  exact r
theorem zfH {m:Nat} (h:¬ m < 10):Nat.toDigits 10 m=Nat.toDigits 10 (m / 10) ++ [Nat.digitChar (m % 10)]:=by
  have hm:m % 10 < 10:=Nat.mod_lt m (by decide)
  have t:Nat.toDigits 10 (m / 10) ++ Nat.toDigits 10 (m % 10)=Nat.toDigits 10 (10 * (m / 10) + m % 10):=Nat.toDigits_append_toDigits (by decide) (by omega) hm
  rw [Nat.div_add_mod,Nat.toDigits_of_lt_base hm] at t
  exact t.symm
theorem zhd:∀ (k m:Nat),m < 10 ^ (k + 1)→(Nat.toDigits 10 m).length ≤ k + 1
  | 0,m,h=>by rw [Nat.toDigits_of_lt_base (by simpa using h)]; simp
  | k + 1,m,h=>by
    by_cases hm:m < 10
    · rw [Nat.toDigits_of_lt_base hm]; simp
    · rw [zfH hm,List.length_append]
      have:=zhd k (m / 10) (by rw [Nat.pow_succ] at h; omega)
      simp; omega
theorem ziR (m:Nat):Nat.toDigits 10 m ≠ []:=fun e=>by
  have h:=PySem.toDigits_len_ge 10 m
  rw [e] at h
  simp at h
theorem zit (m:Nat):0 < m→(Nat.toDigits 10 m).head? ≠ some '0':=by
  induction m using Nat.strongRecOn with
  | _ m ih =>
    intro h0
    by_cases hm:m < 10
    · rw [Nat.toDigits_of_lt_base hm]
      have key:∀ d:Nat,d < 10→0 < d→Nat.digitChar d ≠ '0':=by decide
      intro e
      exact key m hm h0 (by simpa using e)
    · rw [zfH hm]
      have ne:=ziR (m / 10)
      have:=ih (m / 10) (by omega) (by omega)
      cases q:Nat.toDigits 10 (m / 10) with
      | nil=>exact absurd q ne
      | cons a l=>rw [q] at this; simpa using this
theorem zhq {m k:Nat} (h:m < 10 ^ (k + 1)):(dg (m:Int)).length ≤ k + 1∧1 ≤ (dg (m:Int)).length:=by
  have e:(dg (m:Int)).length=(Nat.toDigits 10 m).length:=by
    have:=congrArg List.length (zfj m)
    rw [List.length_map] at this
    rw [← this]; simp [Str.length]
  rw [e]
  exact ⟨zhd k m h,PySem.toDigits_len_ge 10 m⟩
theorem zjm {m:Nat} (h:m < 10 ^ 60):PySem.intText? (dg (m:Int))=some (m:Int):=by
  have hl:=(zhq (k:=59) h).1
  have hne:(dg (m:Int)).cps.toList ≠ []:=by
    rw [zfj]
    exact fun e=>ziR m (List.map_eq_nil_iff.mp e)
  have e:=PySem.intText_digits (zgK m) hne (by omega)
  rw [zfj,PySem.W.KIN.val_back] at e
  exact e
theorem ze5 {m c:Nat} (h:c < 48∨57 < c):c ∉ (dg (m:Int)).cps.toList:=fun hc=>by
  have:=zgK m c hc
  omega
theorem zdu (a b:Str):(a ++ b).length=a.length + b.length:=Str.length_append a b
end My
namespace My
open PySem L2 PM
theorem zcA (a b:Int):zaL [.int a,.int b] = .ok (.int (Int.gcd a b)):=by
  have ab:∀ z:Int,(if z < 0 then -z else z)=(z.natAbs:Int):=fun z=>by split <;> omega
  let env:Nat × Nat × Option D→En:=fun p=>[.v (.int a),.v (.int b),.v (.int p.1),.v (.int p.2.1),sv p.2.2]
  obtain ⟨⟨x,y,r⟩,h1,h2,h3,_⟩:=zf1 (c:=zbr) (m:=zbw) env (fun p=>decide (0 < p.2.1)) (fun p=>(p.2.1,p.1 % p.2.1,some (.int ((p.1 % p.2.1:Nat):Int)))) (fun p=>Nat.gcd p.1 p.2.1=Int.gcd a b) (fun p=>p.2.1)
    (fun p _=>by simp [env,zbr,zav,mRd,mC]) (fun p hp hg=>by
      have hy:0 < p.2.1:=by simpa using hg
      refine ⟨?_,?_,Nat.mod_lt _ hy⟩
      · have e:oMod (.int (p.1:Int)) (.int (p.2.1:Int))=some (.int ((p.1 % p.2.1:Nat):Int)):=by rw [zcC (by omega)]; simp
        have b4:∀ d,zax 4 d (env p)=some ((env p).set 4 (.v d)):=fun d=>zfd rfl
        simp only [zbw,mSeq,mAsg,zdJ,show mRd 2 (env p) = .ok (.int p.1) from rfl,show mRd 3 (env p) = .ok (.int p.2.1) from rfl,R.bind_ok,e,R.of_some,R.toO_ok,b4,O.of_some]
        rfl
      · rw [Nat.gcd_comm,← hp,Nat.gcd_comm p.1,Nat.gcd_rec p.2.1 p.1]) (a.natAbs,b.natAbs,none) rfl
  have y0:y=0:=by simpa using h2
  subst y0
  have ex:(x:Int)=Int.gcd a b:=by
    have:Nat.gcd x 0=Int.gcd a b:=h1
    rw [Nat.gcd_zero_right] at this
    omega
  refine zbh ?_
  have e3:zcB [.v (.int a),.v (.int b),.v (.int a.natAbs),.v (.int b.natAbs),.no] = .nx [.v (.int a),.v (.int b),.v (.int x),.v (.int 0),sv r]:=h3
  simp [zbU,zbq,mSeq,mAsg,mCB,zab,mNil,mRd,fAbs,ab,zax,e3,mRet,mVar,ex]
end My
namespace My
open PySem L2 PM
theorem zjJ {c:Nat} (h:48 ≤ c∧c ≤ 57):Txt.contains "0123456789" ⟨#[c]⟩=true:=by
  have key:∀ k:Fin 10,Txt.contains "0123456789" ⟨#[48 + k.val]⟩=true:=by decide +kernel
  have:=key ⟨c - 48,by omega⟩
  rwa [show 48 + (c - 48)=c by omega] at this
theorem zhO {l:List Nat} (h:PySem.NumText.AllDigits l):(⟨l.toArray⟩:Str).cps.all (· < 128)=true:=by
  rw [Array.all_eq_true]
  intro i hi
  have:l[i]'(by simpa using hi) ∈ l:=List.getElem_mem _
  have:=h _ this
  simp
  omega
theorem zh6 (m:Nat):(dg (m:Int)).cps.all (· < 128)=true:=by
  have:=zhO (zgK m)
  simpa using this
theorem zdc {x:Int}:zao [.bl false,.int x] = .ok .non:=by
  simp [zao,runF,zbq,zb7,mIfS,zav,mVar,zaU]
theorem zh7 (bs:List Bool):fAny [.lst (bs.map .bl)]=some (.bl (bs.any id)):=by simp only [fAny,zg1,Option.map_some]
theorem zir (bs:List Bool):fAll [.lst (bs.map .bl)]=some (.bl (bs.all id)):=by simp only [fAll,zg1,Option.map_some]
theorem zfO {m:Nat} (h:m < 10 ^ 12):zbj [.str (dg (m:Int))] = .ok (.bl true):=by
  obtain ⟨w,ew⟩:∃ w,w=dg (m:Int):=⟨_,rfl⟩
  have hl:=zhq (k:=11) h
  have ha:=zh6 m
  have hd:=zgK m
  have hc:=zfj m
  rw [← ew] at hl ha hd hc ⊢
  have len:zge [.str w]=some (.int w.length):=za3 (by rw [sizeLine_eq]; omega)
  have wl:w.cps.toList.length=w.length:=by simp [Str.length]
  have l0:¬ (w.length:Int)=0:=by omega
  have l12:¬ (12:Int) < (w.length:Int):=by omega
  have k:zcH [.v (.str w)] = .ok (.lst ((w.cps.toList.map fun _=>false).map .bl)):=by
    refine Eq.trans (zb0 (l:=w.cps.toList.map fun c=>.str ⟨#[c]⟩) (r:=w.cps.toList.map fun _=>.bl false) ?_ (by rw [List.length_map]; omega) ?_) (by rw [List.map_map]; rfl)
    · show (if w.cps.all (· < 128)=true then R.ok (sgnD w) else .no)=_
      rw [if_pos ha]; rfl
    · refine zbt (fun c:Nat=>D.str ⟨#[c]⟩) (fun _=>.bl false) _ fun c hcm=>?_
      have:=zjJ (hd c hcm)
      simp [zdi,zaS,zbg,mRd,mC,oInS,this]
  have an:((w.cps.toList.map fun _=>false).any id)=false:=by
    generalize w.cps.toList=l
    induction l with
    | nil=>rfl
    | cons a l ih=>simpa using ih
  obtain ⟨c0,e0⟩:∃ c0,w.cps.toList[0]?=some c0:=⟨w.cps.toList[0]'(by omega),List.getElem?_eq_getElem (by omega)⟩
  have ix:oIxS (.str w) (.int 0)=some (.str ⟨#[c0]⟩):=by
    show ifC _ _ _=_
    rw [za3 (by rw [sizeLine_eq]; omega),show atI w.cps.toList 0=some c0 by rw [show (0:Int)=((0:Nat):Int) from rfl]; exact PM.atI_nat e0]; rfl
  have fin:mOrV (m2 oNe (m2 oIxS (mRd 0) (mC (.int 0))) (mC (.str "0"))) (m2 oEq (mRd 0) (mC (.str "0"))) [.v (.str w)] = .ok (.bl true):=by
    by_cases hz:(⟨#[c0]⟩:Str) = "0"
    · have hw:w = "0":=by
        have c48:c0=48:=by
          have:=congrArg (fun s:Str=>s.cps.toList) hz
          have e:("0" : Str).cps.toList = [48]:=by decide +kernel
          simp only [e] at this
          simpa using this
        have m0:m=0:=by
          rcases Nat.eq_zero_or_pos m with z | z
          · exact z
          · have hh:=zit m z
            rw [hc,List.getElem?_map] at e0
            cases q:Nat.toDigits 10 m with
            | nil=>rw [q] at e0; cases e0
            | cons a l =>
              rw [q] at e0 hh
              simp at e0 hh
              exact absurd (Char.toNat_inj.mp (e0.trans (c48.trans (show (48:Nat) = '0'.toNat from rfl)))) hh
        rw [ew,m0]
        decide +kernel
      have e1:oNe (.str ⟨#[c0]⟩) (.str "0")=some (.bl false):=by rw [hz]; rfl
      have e2:oEq (.str w) (.str "0")=some (.bl true):=by rw [hw]; rfl
      simp [mOrV,mRd,mC,ix,e1,e2]
    · have e1:oNe (.str ⟨#[c0]⟩) (.str "0")=some (.bl true):=by
        show (if scal (V.str ⟨#[c0]⟩) (V.str "0")=true then some (D.bl (!decide (V.str ⟨#[c0]⟩=V.str "0"))) else none)=_
        rw [if_pos (show scal (V.str ⟨#[c0]⟩) (V.str "0")=true from rfl),decide_eq_false (fun z=>hz (V.str.inj z))]; rfl
      simp [mOrV,mRd,mC,ix,e1]
  refine zbh ?_
  show mSeq _ _ [.v (.str w)]=_
  have q1:mIfS (mOr (zav (m2 oEq (mCB zge (zab (mRd 0) mNil)) (mC (.int 0)))) (zav (m2 oGt (mCB zge (zab (mRd 0) mNil)) (mC (.int 12))))) (mRet (mC (.bl false))) zaU [.v (.str w)] = .nx [.v (.str w)]:=by
    have l0n:¬ w.length=0:=by omega
    simp [mIfS,mOr,zav,mCB,zab,mNil,mRd,mC,len,l0n,l12,zaU]
  have q2:mIfS (zav (mCB fAny (zab zcH mNil))) (mRet (mC (.bl false))) zaU [.v (.str w)] = .nx [.v (.str w)]:=by
    rw [zff]
    · rfl
    · simp only [zav,mCB,zab,mNil,k,R.bind_ok,zh7,R.of_some,an,zkn]
  refine (zan q1).trans ((zan q2).trans ?_)
  simp [mRet,fin]
abbrev Fr:=Int × Int
def encF (f:Fr):D:=.tup [.int f.1,.int f.2]
structure AmOk (f:Fr):Prop where
  lo:0 ≤ f.1
  hi:f.1 < 1000000000000
  b0:1 ≤ f.2
  b1:f.2 ≤ 12
  cop:Int.gcd f.1 f.2=1
def wr (f:Fr):Str:=if f.2=1 then dg f.1 else dg f.1 ++ "/" ++ dg f.2
theorem zjA:("/" : Str)=⟨#[47]⟩:=by decide +kernel
theorem dg_i {i:Int} (h0:0 ≤ i):dg i=dg ((i.toNat:Nat):Int):=by rw [show ((i.toNat:Nat):Int)=i by omega]
theorem ziw {f:Fr} (ok:AmOk f):Txt.split (wr f) "/"=if f.2=1 then [dg f.1] else [dg f.1,dg f.2]:=by
  have h1:=ok.lo
  have h2:=ok.b0
  have f1:47 ∉ (dg f.1).cps.toList:=by rw [dg_i h1]; exact ze5 (.inl (by decide))
  have f2:47 ∉ (dg f.2).cps.toList:=by rw [dg_i (by omega:0 ≤ f.2)]; exact ze5 (.inl (by decide))
  unfold wr
  rw [zjA]
  split
  · exact zfs f1
  · exact zdr (ws:=[dg f.1,dg f.2]) (by simp) (fun w hw=>by
      rcases List.mem_cons.mp hw with e | hw
      · rw [e]; exact f1
      · rw [List.mem_singleton.mp hw]; exact f2)
theorem dgl {i:Int} {k:Nat} (h0:0 ≤ i) (h:i.toNat < 10 ^ (k + 1)):(dg i).length ≤ k + 1:=by rw [dg_i h0]; exact (zhq h).1
theorem ziM {f:Fr} (ok:AmOk f):(wr f).length ≤ 20:=by
  have h1:=ok.lo
  have h2:=ok.hi
  have h3:=ok.b0
  have h4:=ok.b1
  have l1:=dgl (i:=f.1) (k:=11) h1 (by omega)
  have l2:=dgl (i:=f.2) (k:=1) (by omega) (by omega)
  have ls:("/" : Str).length=1:=by decide +kernel
  unfold wr
  split
  · omega
  · rw [zdu,zdu]; omega
theorem intS {i:Int} (h0:0 ≤ i) (h:i.toNat < 10 ^ 60):zgp [.str (dg i)]=some (.int i):=by
  have r:=zjm h
  rw [show ((i.toNat:Nat):Int)=i by omega] at r
  have l:=dgl (k:=59) h0 h
  show (PySem.intText? (dg i)).bind _=_
  rw [r]
  exact za3 (by omega)
theorem isn {i:Int} (h0:0 ≤ i) (h:i < 1000000000000):zbj [.str (dg i)] = .ok (.bl true):=by
  have:=zfO (m:=i.toNat) (by omega)
  rwa [show ((i.toNat:Nat):Int)=i by omega] at this
theorem zfi {f:Fr} (ok:AmOk f) (x:Int):zbV [.str (wr f),.int x] = .ok (encF f):=by
  have h1:=ok.lo
  have h2:=ok.hi
  have h3:=ok.b0
  have h4:=ok.b1
  have wl:=ziM ok
  have sp:=ziw ok
  obtain ⟨ps,eps⟩:∃ ps:List Str,ps=if f.2=1 then [dg f.1] else [dg f.1,dg f.2]:=⟨_,rfl⟩
  have pl:ps.length ≤ 2:=by rw [eps]; split <;> simp
  rw [← eps] at sp
  have i1:=intS h1 (show f.1.toNat < 10 ^ 60 by omega)
  have i2:=intS (show 0 ≤ f.2 by omega) (show f.2.toNat < 10 ^ 60 by omega)
  have p0:oIxL (.lst (ps.map .str)) (.int 0)=some (.str (dg f.1)):=by rw [eps]; split <;> rfl
  have pn:∀ p ∈ ps,zbj [.str p] = .ok (.bl true):=fun p hp=>by
    rw [eps] at hp
    split at hp
    · rw [List.mem_singleton.mp hp]; exact isn h1 h2
    · rcases List.mem_cons.mp hp with e | hp
      · rw [e]; exact isn h1 h2
      · rw [List.mem_singleton.mp hp]; exact isn (by omega) (by omega)
  have ls:("/" : Str).length=1:=by decide +kernel
  have q1:mAsg (zd7 (mVar 0) "/") (zax 2) [.v (.str (wr f)),.v (.int x),.no,.no,.no] = .nx [.v (.str (wr f)),.v (.int x),.v (.lst (ps.map .str)),.no,.no]:=by
    refine zaK (d:=.lst (ps.map .str)) ?_ rfl
    show zdw (.str (wr f)) "/"=_
    unfold zdw
    dsimp only
    rw [sp,za3 ⟨by rw [ls]; rfl,by rw [sizeLine_eq]; omega,by rw [sizeLine_eq]; omega⟩]
  have len:fLen [.lst (ps.map .str)]=some (.int ps.length):=by simp
  have t2:¬ (2:Int) < (ps.length:Int):=by omega
  have q2:mDo (zai zao (zab (m2 oGt (mCB fLen (zab (mRd 2) mNil)) (mC (.int 2))) (zab (mVar 1) mNil))) [.v (.str (wr f)),.v (.int x),.v (.lst (ps.map .str)),.no,.no] = .nx [.v (.str (wr f)),.v (.int x),.v (.lst (ps.map .str)),.no,.no]:=by
    simp [mDo,zai,zab,mNil,mCB,mRd,mC,mVar,len,t2,zdc]
  have k:zb4 [.v (.str (wr f)),.v (.int x),.v (.lst (ps.map .str)),.no,.no] = .ok (.lst ((ps.map fun _=>true).map .bl)):=by
    refine Eq.trans (zb0 (l:=ps.map .str) (r:=ps.map fun _=>.bl true) (by simp [mItL,mRd]) (by rw [List.length_map]; omega) ?_) (by rw [List.map_map]; rfl)
    exact zbt D.str (fun _=>.bl true) _ fun p hp=>by simp [zdi,zaS,zbg,zai,zab,mNil,mVar,pn p hp]
  have al:((ps.map fun _=>true).all id)=true:=by
    generalize ps=l
    induction l with
    | nil=>rfl
    | cons a l ih=>simpa using ih
  have q3:mDo (zai zao (zab (zim (mCB fAll (zab zb4 mNil))) (zab (mVar 1) mNil))) [.v (.str (wr f)),.v (.int x),.v (.lst (ps.map .str)),.no,.no] = .nx [.v (.str (wr f)),.v (.int x),.v (.lst (ps.map .str)),.no,.no]:=by
    have e:mCB fAll (zab zb4 mNil) [.v (.str (wr f)),.v (.int x),.v (.lst (ps.map .str)),.no,.no] = .ok (.bl true):=by
      simp only [mCB,zab,mNil,k,R.bind_ok,zir,R.of_some,al]
    simp [mDo,zai,zab,mNil,zim,mVar,e,zdc]
  have q4:mAsg (mCB zgp (zab (m2 oIxL (mRd 2) (mC (.int 0))) mNil)) (zax 3) [.v (.str (wr f)),.v (.int x),.v (.lst (ps.map .str)),.no,.no] = .nx [.v (.str (wr f)),.v (.int x),.v (.lst (ps.map .str)),.v (.int f.1),.no]:=by
    refine zaK (d:=.int f.1) ?_ rfl
    simp only [mCB,zab,mNil,zdJ,mRd,mC,List.getElem?_cons_succ,List.getElem?_cons_zero,R.bind_ok,p0,R.of_some,i1]
  refine zbh ?_
  show mSeq _ _ [.v (.str (wr f)),.v (.int x),.no,.no,.no]=_
  refine (zan q1).trans ((zan q2).trans ((zan q3).trans ((zan q4).trans ?_)))
  by_cases hb:f.2=1
  · have pl1:ps.length=1:=by rw [eps,if_pos hb]; rfl
    refine zgy ?_
    rw [zgA (by simp [zav,mCB,zab,mNil,mRd,mC,len,pl1])]
    simp [mRet,mTup,zab,mNil,mVar,mC,sizeLine,encF,hb]
  · have pl2:ps.length=2:=by rw [eps,if_neg hb]; rfl
    have p1:oIxL (.lst (ps.map .str)) (.int 1)=some (.str (dg f.2)):=by rw [eps,if_neg hb]; rfl
    have q5:mIfS (zav (m2 oEq (mCB fLen (zab (mRd 2) mNil)) (mC (.int 1)))) (mRet (mTup (zab (mVar 3) (zab (mC (.int 1)) mNil)))) zaU [.v (.str (wr f)),.v (.int x),.v (.lst (ps.map .str)),.v (.int f.1),.no] = .nx [.v (.str (wr f)),.v (.int x),.v (.lst (ps.map .str)),.v (.int f.1),.no]:=by
      rw [zff (by simp [zav,mCB,zab,mNil,mRd,mC,len,pl2])]; rfl
    have q6:mAsg (mCB zgp (zab (m2 oIxL (mRd 2) (mC (.int 1))) mNil)) (zax 4) [.v (.str (wr f)),.v (.int x),.v (.lst (ps.map .str)),.v (.int f.1),.no] = .nx [.v (.str (wr f)),.v (.int x),.v (.lst (ps.map .str)),.v (.int f.1),.v (.int f.2)]:=by
      refine zaK (d:=.int f.2) ?_ rfl
      simp only [mCB,zab,mNil,zdJ,mRd,mC,List.getElem?_cons_succ,List.getElem?_cons_zero,R.bind_ok,p1,R.of_some,i2]
    have t1:¬ f.2 < 2:=by omega
    have t3:¬ 12 < f.2:=by omega
    have cf:=zcA f.1 f.2
    rw [ok.cop] at cf
    have q7:mDo (zai zao (zab (mOrV (m2 oLt (mRd 4) (mC (.int 2))) (m2 oGt (mRd 4) (mC (.int 12)))) (zab (mVar 1) mNil))) [.v (.str (wr f)),.v (.int x),.v (.lst (ps.map .str)),.v (.int f.1),.v (.int f.2)] = .nx [.v (.str (wr f)),.v (.int x),.v (.lst (ps.map .str)),.v (.int f.1),.v (.int f.2)]:=by
      simp [mDo,zai,zab,mNil,mOrV,mRd,mC,mVar,t1,t3,zdc]
    have q8:mDo (zai zao (zab (m2 oGt (zai zaL (zab (mVar 3) (zab (mVar 4) mNil))) (mC (.int 1))) (zab (mVar 1) mNil))) [.v (.str (wr f)),.v (.int x),.v (.lst (ps.map .str)),.v (.int f.1),.v (.int f.2)] = .nx [.v (.str (wr f)),.v (.int x),.v (.lst (ps.map .str)),.v (.int f.1),.v (.int f.2)]:=by
      simp [mDo,zai,zab,mNil,mC,mVar,cf,zdc]
    refine (zan q5).trans ((zan q6).trans ((zan q7).trans ((zan q8).trans ?_)))
    simp [mRet,mTup,zab,mNil,mVar,sizeLine,encF]
end My
namespace My
open PySem L2 PM
theorem zjU (u b:Nat):(u:Int) * ((b:Int) / (Int.gcd (u:Int) (b:Int):Int))=(Nat.lcm u b:Int):=by
  rw [Int.gcd_natCast_natCast,← Int.natCast_ediv,← Int.natCast_mul,Nat.lcm,Nat.mul_div_assoc u (Nat.gcd_dvd_right u b)]
def un (l:List Fr):Nat:=l.foldl (fun u f=>Nat.lcm u f.2.toNat) 1
theorem ziI (l:List Fr) (f:Fr):un (l ++ [f])=Nat.lcm (un l) f.2.toNat:=by simp [un]
theorem zks {b:Nat} (h0:1 ≤ b) (h1:b ≤ 12):b ∣ 27720:=by
  have key:∀ k:Fin 12,k.val + 1 ∣ 27720:=by decide
  have:=key ⟨b - 1,by omega⟩
  rwa [show b - 1 + 1=b by omega] at this
theorem zh4:∀ (l:List Fr) (u:Nat),u ∣ 27720→(∀ f ∈ l,AmOk f)→(l.foldl (fun u f=>Nat.lcm u f.2.toNat) u) ∣ 27720∧u ∣ l.foldl (fun u f=>Nat.lcm u f.2.toNat) u∧∀ f ∈ l,f.2.toNat ∣ l.foldl (fun u f=>Nat.lcm u f.2.toNat) u
  | [],u,h,_=>⟨h,Nat.dvd_refl u,fun f hf=>by cases hf⟩
  | f :: l,u,h,ok=>by
    have o:=ok f (by simp)
    have b0:=o.b0
    have b1:=o.b1
    obtain ⟨h1,h2,h3⟩:=zh4 l (Nat.lcm u f.2.toNat) (Nat.lcm_dvd h (zks (by omega) (by omega))) fun g hg=>ok g (by simp [hg])
    refine ⟨h1,Nat.dvd_trans (Nat.dvd_lcm_left _ _) h2,fun g hg=>?_⟩
    rcases List.mem_cons.mp hg with rfl | hg
    · exact Nat.dvd_trans (Nat.dvd_lcm_right _ _) h2
    · exact h3 g hg
theorem zik {l:List Fr} (ok:∀ f ∈ l,AmOk f):(1 ≤ un l∧un l ≤ 27720)∧∀ f ∈ l,f.2 ∣ (un l:Int):=by
  obtain ⟨h1,h2,h3⟩:=zh4 l 1 (by decide) ok
  have p:un l ≤ 27720:=Nat.le_of_dvd (by decide) h1
  have q:1 ≤ un l:=Nat.pos_of_dvd_of_pos h1 (by decide)
  refine ⟨⟨q,p⟩,fun f hf=>?_⟩
  have b0:=(ok f hf).b0
  rw [show f.2=((f.2.toNat:Nat):Int) by omega]
  exact Int.natCast_dvd_natCast.mpr (h3 f hf)
def zaA (l:List Fr):D:=.lst (l.map encF)
theorem zg3 {l:List Fr} (ok:∀ f ∈ l,AmOk f):zcd [zaA l] = .ok (.int (un l)):=by
  obtain ⟨δ,h1,o2,rfl⟩:=zdO (b:=zax 2) (m:=zdS) encF (fun pre δ=>∃ o2,δ = [.v (zaA l),.v (.int (un pre)),sv o2]) l
    (by
      rintro pre f post δ hall ⟨o2,rfl⟩
      have o:=ok f (by rw [hall]; simp)
      have b0:=o.b0
      have b1:=o.b1
      have up:=(zik (l:=pre) fun g hg=>ok g (by rw [hall]; simp [hg])).1
      have cf:=zcA (un pre:Int) f.2
      obtain ⟨b,eb⟩:∃ b:Nat,f.2=(b:Int):=⟨f.2.toNat,by omega⟩
      have g0:0 < Int.gcd (un pre:Int) f.2:=Int.gcd_pos_of_ne_zero_right _ (by omega)
      have g1:Int.gcd (un pre:Int) f.2 ≤ f.2.natAbs:=Nat.le_of_dvd (by omega) (Int.natAbs_dvd_natAbs.mpr (Int.gcd_dvd_right ..))
      have fg:Fit (Int.gcd (un pre:Int) f.2:Int):=fitN 1000 (by rw [Int.natAbs_natCast]; omega)
      have fu:Fit (un pre:Int):=fitN (10 ^ 6) (by rw [Int.natAbs_natCast]; omega)
      have q0:0 ≤ f.2 / (Int.gcd (un pre:Int) f.2:Int):=Int.ediv_nonneg (by omega) (by omega)
      have q1:f.2 / (Int.gcd (un pre:Int) f.2:Int) ≤ f.2:=Int.ediv_le_self _ (by omega)
      have fq:Fit (f.2 / (Int.gcd (un pre:Int) f.2:Int)):=fitN 1000 (by omega)
      have lc:(un pre:Int) * (f.2 / (Int.gcd (un pre:Int) f.2:Int))=(un (pre ++ [f]):Int):=by
        rw [ziI,eb,Int.toNat_natCast]; exact zjU _ _
      refine ⟨[.v (zaA l),.v (.int (un pre)),.v (encF f)],[.v (zaA l),.v (.int (un (pre ++ [f]))),.v (encF f)],zfd rfl,.inl ?_,some _,rfl⟩
      refine zaK (d:=.int (un (pre ++ [f]))) ?_ rfl
      have cm:zaT [.int (un pre),.int f.2] = .ok (.int (un (pre ++ [f]))):=by
        rw [← lc]
        simp [zaT,runF,zbq,zbv,mRet,mRd,zai,zab,mNil,mVar,cf,zdf (show (0:Int) < (Int.gcd (un pre:Int) f.2:Int) by omega) fg,zeO fu fq]
      have ix:oIxT (encF f) (.int 1)=some (.int f.2):=rfl
      simp [zai,zab,mNil,mVar,mRd,mC,ix,cm])
    [.v (zaA l),.v (.int (un [])),.no] ⟨none,rfl⟩
  refine zbh ?_
  show mSeq _ _ [.v (zaA l),.no,.no]=_
  have e1:mAsg (mC (.int 1)) (zax 1) [.v (zaA l),.no,.no] = .nx [.v (zaA l),.v (.int (un [])),.no]:=rfl
  have e2:zeH [.v (zaA l),.v (.int (un [])),.no] = .nx [.v (zaA l),.v (.int (un l)),sv o2]:=(zed (by simp [mItL,mVar,zaA])).trans h1
  exact (zan e1).trans ((zan e2).trans rfl)
def by1 (u:Nat) (f:Fr):Int:=f.1 * ((u:Int) / f.2)
theorem zkt {u:Nat} {f:Fr} (ok:AmOk f) (hu:u ≤ 27720):zbf [encF f,.int u] = .ok (.int (by1 u f)):=by
  have h1:=ok.lo
  have h2:=ok.hi
  have h3:=ok.b0
  have h4:=ok.b1
  have fb:Fit f.2:=fitN 1000 (by omega)
  have ft:Fit f.1:=fitN (10 ^ 12) (by omega)
  have q0:0 ≤ (u:Int) / f.2:=Int.ediv_nonneg (by omega) (by omega)
  have q1:(u:Int) / f.2 ≤ u:=Int.ediv_le_self _ (by omega)
  have fq:Fit ((u:Int) / f.2):=fitN (10 ^ 6) (by omega)
  have i0:oIxT (encF f) (.int 0)=some (.int f.1):=rfl
  have i1:oIxT (encF f) (.int 1)=some (.int f.2):=rfl
  simp [zbf,runF,zbq,zcj,mRet,mRd,mC,i0,i1,zdf (show (0:Int) < f.2 by omega) fb,zeO ft fq,by1]
theorem zhu {u:Nat} {l:List Fr} (ok:∀ f ∈ l,AmOk f) (hu:u ≤ 27720) (hl:l.length ≤ 1000):za2 [zaA l,.int u] = .ok (iL (l.map (by1 u))):=by
  refine zh3 ?_
  show zgd zbo [.v (zaA l),.v (.int u)]=_
  have k:zbo [.v (zaA l),.v (.int u)] = .ok (iL (l.map (by1 u))):=by
    refine Eq.trans (zb0 (l:=l.map encF) (r:=l.map fun f=>.int (by1 u f)) (by simp [mItL,mRd,zaA]) (by rw [List.length_map]; omega) ?_) (by simp [iL])
    exact zbt encF (fun f=>.int (by1 u f)) _ fun f hf=>by simp [zdi,zaS,zgh,zbg,zai,zab,mNil,mVar,zkt (ok f hf) hu]
  simp [zgd,k]
def wds (l:List Fr):List Str:="touch" :: l.map wr
theorem ziD {c s:Nat}:∀ {ps:List (List Nat)},c ∈ jl s ps→c=s∨∃ p ∈ ps,c ∈ p
  | [],h=>by cases h
  | [p],h=>.inr ⟨p,by simp,h⟩
  | p :: q :: r,h=>by
    simp only [jl] at h
    rcases List.mem_append.mp h with h | h
    · exact .inr ⟨p,by simp,h⟩
    · rcases List.mem_cons.mp h with h | h
      · exact .inl h
      · rcases ziD h with z | ⟨x,hx,hc⟩
        · exact .inl z
        · exact .inr ⟨x,by simp at hx ⊢; exact .inr hx,hc⟩
theorem ziU {f:Fr} (ok:AmOk f) {c:Nat} (h:c < 47):c ∉ (wr f).cps.toList:=by
  have h1:=ok.lo
  have h2:=ok.b0
  have f1:c ∉ (dg f.1).cps.toList:=by rw [dg_i h1]; exact ze5 (.inl (by omega))
  have f2:c ∉ (dg f.2).cps.toList:=by rw [dg_i (by omega:0 ≤ f.2)]; exact ze5 (.inl (by omega))
  unfold wr
  split
  · exact f1
  · rw [zfc,zfc,zjA]
    intro z
    rcases List.mem_append.mp z with z | z
    · rcases List.mem_append.mp z with z | z
      · exact f1 z
      · have:c=47:=by simpa using z
        omega
    · exact f2 z
theorem zhy:("touch" : Str).cps.toList = [116,111,117,99,104]:=by decide +kernel
theorem zg0 {l:List Fr} (ok:∀ f ∈ l,AmOk f) {c:Nat} (h:c < 47):∀ w ∈ wds l,c ∉ w.cps.toList:=fun w hw=>by
  unfold wds at hw
  rcases List.mem_cons.mp hw with e | hw
  · rw [e,zhy]
    simp
    omega
  · obtain ⟨f,hf,rfl⟩:=List.mem_map.mp hw
    exact ziU (ok f hf) h
def txt (l:List Fr):Str:=Txt.join " " (wds l)
theorem zjY:(" " : Str)=⟨#[32]⟩:=by decide +kernel
theorem nl:("\n" : Str)=⟨#[10]⟩:=by decide +kernel
theorem zix (l:List Fr):txt l=Str.join ⟨#[32]⟩ (wds l):=by unfold txt; rw [zjY]; exact StrLaws.glued_eq_join _ _
theorem zhi {l:List Fr} (ok:∀ f ∈ l,AmOk f):Txt.split (txt l) " "=wds l:=by
  rw [zix,zjY]
  exact zdr (by simp [wds]) (zg0 ok (by decide))
theorem zij {l:List Fr} (ok:∀ f ∈ l,AmOk f):Txt.split (txt l) "\n" = [txt l]:=by
  rw [nl]
  refine zfs fun h=>?_
  rw [zix,zdQ] at h
  rcases ziD h with z | ⟨p,hp,hc⟩
  · exact absurd z (by decide)
  · obtain ⟨w,hw,rfl⟩:=List.mem_map.mp hp
    exact zg0 ok (by decide) w hw hc
theorem zgU {l:List Fr} (ok:∀ f ∈ l,AmOk f) (hl:l.length ≤ 40):JoinOk " " (wds l)=true∧(txt l).length ≤ sizeLine:=by
  have b1:(" " : Str).length=1:=by decide +kernel
  have bt:("touch" : Str).length=5:=by decide +kernel
  have hB:∀ y ∈ wds l,y.length ≤ 20:=fun y hy=>by
    rcases List.mem_cons.mp hy with e | hy
    · rw [e,bt]; decide
    · obtain ⟨f,hf,rfl⟩:=List.mem_map.mp hy
      exact ziM (ok f hf)
  have wl:(wds l).length ≤ 41:=by simp [wds]; omega
  have j:=PySem.StrLaws.joinFits (sep:=" ") hB (by rw [b1]; omega)
  have k:JoinOk " " (wds l)=true:=by unfold JoinOk; rw [j]; rfl
  exact ⟨k,joinOk_length k⟩
theorem zeQ {l:List Fr} (ok:∀ f ∈ l,AmOk f) (h0:1 ≤ l.length) (hl:l.length ≤ 40):zbB [.lst [.lst ((wds l).map .str)]] = .ok (.tup [.int (un l),.tup [iL (l.map (by1 (un l))),.lst []]]):=by
  have wl:(wds l).length=l.length + 1:=by simp [wds]
  have up:=(zik ok).1
  obtain ⟨Wd,eW⟩:∃ Wd,Wd=D.lst ((wds l).map .str):=⟨_,rfl⟩
  have fl:fLen [Wd]=some (.int (l.length + 1)):=by rw [eW]; simp [wl]
  have rw0:oIxL (.lst [Wd]) (.int 0)=some Wd:=rfl
  have wc:zaB [Wd,.int 2,.int 41,.int 0] = .ok .non:=by
    have t1:¬ (l.length:Int) + 1 < 2:=by omega
    have t2:¬ (41:Int) < (l.length:Int) + 1:=by omega
    simp [zaB,runF,zbq,zbl,mDo,zai,zab,mNil,mOrV,mCB,mRd,mVar,fl,t1,t2,zdc]
  have q1:mDo (zai zaB (zab (m2 oIxL (mRd 0) (mC (.int 0))) (zab (mC (.int 2)) (zab (m2 oAdd (mC (.int 1)) (mC (.int 40))) (zab (mC (.int 0)) mNil))))) [.v (.lst [Wd]),.no,.no,.no,.no] = .nx [.v (.lst [Wd]),.no,.no,.no,.no]:=by
    simp [mDo,zai,zab,mNil,mRd,mC,rw0,wc]
  have sl:mSl (m2 oIxL (mRd 0) (mC (.int 0))) (zec (mC (.int 1))) mNoP [.v (.lst [Wd]),.no,.no,.no,.no] = .ok (.lst ((l.map wr).map .str)):=by
    have c:=zia (l:=(wds l).map D.str) (k:=1) (by rw [List.length_map]; omega)
    have as:asL Wd=some ((wds l).map D.str):=by rw [eW]; rfl
    simp only [mSl,zdJ,mRd,mC,mNoP,zec,List.getElem?_cons_zero,R.bind_ok,rw0,R.of_some,zj4,as]
    rw [show (1:Int)=((1:Nat):Int) from rfl,c]; rfl
  have k:zco [.v (.lst [Wd]),.no,.no,.no,.no] = .ok (zaA l):=by
    refine Eq.trans (zb0 (l:=(l.map wr).map .str) (r:=l.map encF) (by simp only [mItL,sl,R.bind_ok]; rfl) (by rw [List.length_map,List.length_map]; omega) ?_) rfl
    rw [List.map_map]
    exact zbt (D.str ∘ wr) encF _ fun f hf=>by
      have a:=zfi (ok f hf) 0
      simp [zdi,zaS,zbg,zai,zab,mNil,mVar,mC,a]
  have q2:mAsg zco (zax 1) [.v (.lst [Wd]),.no,.no,.no,.no] = .nx [.v (.lst [Wd]),.v (zaA l),.no,.no,.no]:=zaK k rfl
  have q3:mAsg (mLst mNil) (bNew 2) [.v (.lst [Wd]),.v (zaA l),.no,.no,.no] = .nx [.v (.lst [Wd]),.v (zaA l),.o (.lst []),.no,.no]:=zaK (d:=.lst []) (by simp [mLst,mNil,sizeLine]) rfl
  have q4:zc4 [.v (.lst [Wd]),.v (zaA l),.o (.lst []),.no,.no] = .nx [.v (.lst [Wd]),.v (zaA l),.o (.lst []),.no,.no]:=by
    have r:mRng (zab (mC (.int 1)) (zab (mCB fLen (zab (mRd 0) mNil)) mNil)) [.v (.lst [Wd]),.v (zaA l),.o (.lst []),.no,.no] = .ok []:=by
      have f1:fLen [.lst [Wd]]=some (.int 1):=rfl
      simp only [mRng,zab,mNil,mC,mCB,mRd,List.getElem?_cons_zero,R.bind_ok,f1,R.of_some]
      show R.of (rng [.int 1,.int 1])=_
      rw [rng2 (by decide) (by decide)]; rfl
    exact (zed r).trans rfl
  have q5:mAsg (zai zcd (zab (mVar 1) mNil)) (zax 4) [.v (.lst [Wd]),.v (zaA l),.o (.lst []),.no,.no] = .nx [.v (.lst [Wd]),.v (zaA l),.o (.lst []),.no,.v (.int (un l))]:=by
    refine zaK (d:=.int (un l)) ?_ rfl
    simp [zai,zab,mNil,mVar,zg3 ok]
  have ab:=zhu (u:=un l) ok up.2 (by omega)
  rw [← eW]
  refine zbh ?_
  show mSeq _ _ [.v (.lst [Wd]),.no,.no,.no,.no]=_
  refine (zan q1).trans ((zan q2).trans ((zan q3).trans ((zan q4).trans ((zan q5).trans ?_))))
  simp [mFrz,mRet,mTup,zai,zab,mNil,mVar,ab,sizeLine]
theorem zi0 {l:List Fr} (ok:∀ f ∈ l,AmOk f) (h0:1 ≤ l.length) (hl:l.length ≤ 40):zeG [.str (txt l)] = .ok (.tup [.str "touch",.int (un l),.tup [iL (l.map (by1 (un l))),.lst []]]):=by
  have fit:=(zgU ok hl).2
  have wl:(wds l).length=l.length + 1:=by simp [wds]
  have rt:=zeQ ok h0 hl
  obtain ⟨Wd,eW⟩:∃ Wd,Wd=D.lst ((wds l).map .str):=⟨_,rfl⟩
  obtain ⟨G,eG⟩:∃ G,G=D.tup [iL (l.map (by1 (un l))),.lst []]:=⟨_,rfl⟩
  rw [← eW,← eG] at rt
  rw [← eG]
  have s1:zdw (.str (txt l)) "\n" = .ok (.lst [.str (txt l)]):=by
    unfold zdw
    dsimp only
    rw [zij ok,za3 ⟨by decide +kernel,fit,by rw [sizeLine_eq]; simp⟩]; rfl
  have s2:zdw (.str (txt l)) " " = .ok Wd:=by
    unfold zdw
    dsimp only
    rw [zhi ok,za3 ⟨by decide +kernel,fit,by rw [sizeLine_eq]; omega⟩,eW]
  have k:zgl [.v (.str (txt l)),.no,.no,.no] = .ok (.lst [Wd]):=by
    refine zb0 (l:=[.str (txt l)]) ?_ (by simp) ?_
    · simp only [mItL,zd7,mVar,List.getElem?_cons_zero,R.bind_ok,s1]; rfl
    · simp [zbZ,zdi,zaS,zbg,zd7,mVar,s2]
  have q1:mAsg zgl (zax 1) [.v (.str (txt l)),.no,.no,.no] = .nx [.v (.str (txt l)),.v (.lst [Wd]),.no,.no]:=zaK k rfl
  have i0:oIxL (.lst [Wd]) (.int 0)=some Wd:=rfl
  have i1:oIxL Wd (.int 0)=some (.str "touch"):=by rw [eW]; exact zj3 (Int.le_refl 0) (by simp [wds])
  have q2:mAsg (m2 oIxL (m2 oIxL (mRd 1) (mC (.int 0))) (mC (.int 0))) (zax 2) [.v (.str (txt l)),.v (.lst [Wd]),.no,.no] = .nx [.v (.str (txt l)),.v (.lst [Wd]),.v (.str "touch"),.no]:=by
    refine zaK (d:=.str "touch") ?_ rfl
    simp only [zdJ,mRd,mC,List.getElem?_cons_succ,List.getElem?_cons_zero,R.bind_ok,i0,R.of_some,i1]
  have ne:∀ k:Str,k ≠ "touch"→oEq (.str "touch") (.str k)=some (.bl false):=fun k hk=>by
    show (if scal (V.str "touch") (V.str k)=true then some (D.bl (decide (V.str "touch"=V.str k))) else none)=_
    rw [if_pos (show scal (V.str "touch") (V.str k)=true from rfl),decide_eq_false (fun z=>hk (V.str.inj z).symm)]
  have et:oEq (.str "touch") (.str "touch")=some (.bl true):=rfl
  have n1:=ne "cover" (by decide +kernel)
  have n2:=ne "round" (by decide +kernel)
  have n3:=ne "places" (by decide +kernel)
  have n4:=ne "bins" (by decide +kernel)
  have rr:zbk [.str "touch",.lst [Wd]] = .ok (.tup [.int (un l),G]):=by
    simp [zbk,runF,zbq,zcZ,mSeq,mIfS,zav,mRd,mC,n1,et,zaU,mRet,zai,zab,mNil,mVar,rt]
  have rg:za1 [.str "touch",G] = .ok .non:=by
    simp [za1,runF,zbq,zcb,mIfS,mOr,zav,mRd,mC,n1,n2,n3,n4,zaU]
  have t0:oIxT (.tup [.int (un l),G]) (.int 0)=some (.int (un l)):=rfl
  have t1:oIxT (.tup [.int (un l),G]) (.int 1)=some G:=rfl
  have q3:mAsg (zai zbk (zab (mVar 2) (zab (mVar 1) mNil))) (zax 3) [.v (.str (txt l)),.v (.lst [Wd]),.v (.str "touch"),.no] = .nx [.v (.str (txt l)),.v (.lst [Wd]),.v (.str "touch"),.v (.tup [.int (un l),G])]:=by
    refine zaK (d:=.tup [.int (un l),G]) ?_ rfl
    simp [zai,zab,mNil,mVar,rr]
  have q4:mDo (zai za1 (zab (mVar 2) (zab (m2 oIxT (mRd 3) (mC (.int 1))) mNil))) [.v (.str (txt l)),.v (.lst [Wd]),.v (.str "touch"),.v (.tup [.int (un l),G])] = .nx [.v (.str (txt l)),.v (.lst [Wd]),.v (.str "touch"),.v (.tup [.int (un l),G])]:=by
    simp [mDo,zai,zab,mNil,mVar,mRd,mC,t1,rg]
  refine zbh ?_
  show mSeq _ _ [.v (.str (txt l)),.no,.no,.no]=_
  refine (zan q1).trans ((zan q2).trans ((zan q3).trans ((zan q4).trans ?_)))
  simp [mRet,mTup,zab,mNil,mVar,mRd,mC,t0,t1,sizeLine]
end My
namespace My
open PySem L2 PM
def num (c k:Int):Int:=(c % 100000000000000000000 + k * k + 1) * (48271 + 2 * k) % 2147483647
theorem zhS (c k:Int) (h0:0 ≤ k) (h1:k ≤ 1000):zba [.int c,.int k] = .ok (.int (num c k)):=by
  have e1:=zcV c (show (0:Int) < 100000000000000000000 by decide)
  have e2:=zcT c (show (0:Int) < 100000000000000000000 by decide)
  have e3:0 ≤ k * k:=Int.mul_nonneg h0 h0
  have e4:k * k ≤ 1000 * 1000:=Int.mul_le_mul h1 h1 h0 (by decide)
  have f1:Fit k:=fitN 1000 (by omega)
  have f2:Fit 2:=fitN 1000 (by decide)
  have f3:Fit (c % 100000000000000000000 + k * k + 1):=fitN (10 ^ 21) (by omega)
  have f4:Fit (48271 + 2 * k):=fitN (10 ^ 21) (by omega)
  simp [zba,runF,zbq,zcF,mRet,mRd,mC,p20,zcC,zeO,f1,f2,f3,f4,num]
theorem zdv {a b:Int} (ha:0 ≤ a) (hb:0 ≤ b):zaH [.int a,.int b] = .ok (.int (Int.gcd a b)):=by
  let env:Nat × Nat→En:=fun p=>[.v (.int (p.1:Int)),.v (.int (p.2:Int))]
  obtain ⟨⟨x,y⟩,h1,h2,h3,_⟩:=zf1 (c:=zbP) (m:=zbR) env (fun p=>decide (0 < p.2)) (fun p=>(p.2,p.1 % p.2)) (fun p=>Nat.gcd p.1 p.2=Int.gcd a b) (fun p=>p.2)
    (fun p _=>by simp [env,zbP,zav,mRd,mC])
    (fun p hp hg=>by
      have hy:0 < p.2:=by simpa using hg
      refine ⟨?_,?_,Nat.mod_lt _ hy⟩
      · have e:oMod (.int (p.1:Int)) (.int (p.2:Int))=some (.int ((p.1 % p.2:Nat):Int)):=by rw [zcC (by omega)]; simp
        simp only [env,zbR,mPar,zab,mNil,mVar,zdJ,mRd,List.getElem?_cons_succ,List.getElem?_cons_zero,R.bind_ok,e,R.of_some,R.toO_ok]
        rfl
      · rw [Nat.gcd_comm,← hp,Nat.gcd_comm p.1,Nat.gcd_rec p.2 p.1])
    (a.toNat,b.toNat) (by
      show Nat.gcd a.toNat b.toNat=Int.gcd a b
      rw [Int.gcd,show a.natAbs=a.toNat by omega,show b.natAbs=b.toNat by omega])
  have y0:y=0:=by simpa using h2
  subst y0
  have ex:(x:Int)=Int.gcd a b:=by
    have:Nat.gcd x 0=Int.gcd a b:=h1
    rw [Nat.gcd_zero_right] at this
    omega
  refine zbh ?_
  have e3:zcU [.v (.int a),.v (.int b)] = .nx [.v (.int x),.v (.int 0)]:=by
    have:=h3
    simp only [env] at this
    rw [show (a.toNat:Int)=a by omega,show (b.toNat:Int)=b by omega] at this
    exact this
  show mSeq _ _ [.v (.int a),.v (.int b)]=_
  refine (zan e3).trans ?_
  simp [mRet,mVar,ex]
theorem ziz {t b:Int} (ht:0 ≤ t) (hb:1 ≤ b):(0 ≤ t / (Int.gcd b t:Int)∧t / (Int.gcd b t:Int) ≤ t)∧(1 ≤ b / (Int.gcd b t:Int)∧b / (Int.gcd b t:Int) ≤ b)∧Int.gcd (t / (Int.gcd b t:Int)) (b / (Int.gcd b t:Int))=1∧(0 < (Int.gcd b t:Int)∧(Int.gcd b t:Int) ≤ b):=by
  have g0:0 < Int.gcd b t:=Int.gcd_pos_of_ne_zero_left _ (by omega)
  have g1:Int.gcd b t ≤ b.natAbs:=Nat.le_of_dvd (by omega) (Int.natAbs_dvd_natAbs.mpr (Int.gcd_dvd_left ..))
  have gb:(Int.gcd b t:Int) ≤ b:=by omega
  have gp:(0:Int) < (Int.gcd b t:Int):=by omega
  refine ⟨⟨Int.ediv_nonneg ht (by omega),Int.ediv_le_self _ ht⟩,⟨?_,Int.ediv_le_self _ (by omega)⟩,?_,gp,gb⟩
  · exact Int.le_ediv_of_mul_le gp (by omega)
  · have:=Int.gcd_ediv_gcd_ediv_gcd (i:=t) (j:=b) (by rw [Int.gcd_comm]; exact g0)
    rwa [Int.gcd_comm t b] at this
theorem zio (c:Int) (k:Int) (h0:0 ≤ k) (h1:k ≤ 500):∃ f:Fr,AmOk f∧zbs [.int c,.int k] = .ok (encF f):=by
  have nm:=zhS c (k + 400) (by omega) (by omega)
  obtain ⟨x,ex⟩:∃ x,x=num c (k + 400):=⟨_,rfl⟩
  have x0:0 ≤ x:=by rw [ex]; exact zcV _ (by decide)
  have x1:x < 2147483647:=by rw [ex]; exact zcT _ (by decide)
  rw [← ex] at nm
  have f8:Fit 8:=fitN 10000 (by decide)
  have f128:Fit 128:=fitN 10000 (by decide)
  have f1200:Fit 1200:=fitN 10000 (by decide)
  have m0:=zcV (x / 8) (show (0:Int) < 12 by decide)
  have m1:=zcT (x / 8) (show (0:Int) < 12 by decide)
  have i0:=zcV (x / 128) (show (0:Int) < 9 by decide)
  have i1:=zcT (x / 128) (show (0:Int) < 9 by decide)
  obtain ⟨i,ei⟩:∃ i,i=x / 128 % 9:=⟨_,rfl⟩
  obtain ⟨y,ey⟩:∃ y,y=1 + x / 8 % 12:=⟨_,rfl⟩
  rw [← ei] at i0 i1
  obtain ⟨b,hb,b0,b1⟩:∃ b:Int,oIxL (.lst [.int 1,.int 1,.int 2,.int 3,.int 4,.int 6,.int 7,.int 12,.int y]) (.int i)=some (.int b)∧1 ≤ b∧b ≤ 12:=by
    rcases (show i=0∨i=1∨i=2∨i=3∨i=4∨i=5∨i=6∨i=7∨i=8 by omega) with e | e | e | e | e | e | e | e | e <;> rw [e]
    · exact ⟨1,rfl,by decide,by decide⟩
    · exact ⟨1,rfl,by decide,by decide⟩
    · exact ⟨2,rfl,by decide,by decide⟩
    · exact ⟨3,rfl,by decide,by decide⟩
    · exact ⟨4,rfl,by decide,by decide⟩
    · exact ⟨6,rfl,by decide,by decide⟩
    · exact ⟨7,rfl,by decide,by decide⟩
    · exact ⟨12,rfl,by decide,by decide⟩
    · exact ⟨y,rfl,by omega,by omega⟩
  have q1:mAsg (zai zba (zab (mVar 0) (zab (m2 oAdd (mRd 1) (mC (.int 400))) mNil))) (zax 2) [.v (.int c),.v (.int k),.no,.no,.no,.no] = .nx [.v (.int c),.v (.int k),.v (.int x),.no,.no,.no]:=by
    refine zaK (d:=.int x) ?_ rfl
    simp [zai,zab,mNil,mVar,mRd,mC,nm]
  have q2:mAsg (m2 oIxL (mLst (zab (mC (.int 1)) (zab (mC (.int 1)) (zab (mC (.int 2)) (zab (mC (.int 3)) (zab (mC (.int 4)) (zab (mC (.int 6)) (zab (mC (.int 7)) (zab (mC (.int 12)) (zab (m2 oAdd (mC (.int 1)) (m2 oMod (m2 oDiv (mRd 2) (mC (.int 8))) (mC (.int 12)))) mNil)))))))))) (m2 oMod (m2 oDiv (mRd 2) (mC (.int 128))) (mC (.int 9)))) (zax 3) [.v (.int c),.v (.int k),.v (.int x),.no,.no,.no] = .nx [.v (.int c),.v (.int k),.v (.int x),.v (.int b),.no,.no]:=by
    refine zaK (d:=.int b) ?_ rfl
    have l:mLst (zab (mC (.int 1)) (zab (mC (.int 1)) (zab (mC (.int 2)) (zab (mC (.int 3)) (zab (mC (.int 4)) (zab (mC (.int 6)) (zab (mC (.int 7)) (zab (mC (.int 12)) (zab (m2 oAdd (mC (.int 1)) (m2 oMod (m2 oDiv (mRd 2) (mC (.int 8))) (mC (.int 12)))) mNil))))))))) [.v (.int c),.v (.int k),.v (.int x),.no,.no,.no] = .ok (.lst [.int 1,.int 1,.int 2,.int 3,.int 4,.int 6,.int 7,.int 12,.int y]):=by
      simp [mLst,zab,mNil,mC,mRd,zdf,f8,zcC,sizeLine,ey]
    rw [zdJ,l]
    simp [mRd,mC,zdf,f128,zcC,← ei,hb]
  obtain ⟨t,t0,t1,q34⟩:∃ t:Int,0 ≤ t∧t < 1000000000000∧∀ n:En→O,mSeq (mAsg (m2 oMod (m2 oDiv (mRd 2) (mC (.int 1200))) (mC (.int 30))) (zax 4)) (mSeq (mIfS (zav (m2 oEq (m2 oMod (mRd 2) (mC (.int 3))) (mC (.int 0)))) (mAsg (m2 oMod (m2 oAdd (m2 oMul (m2 oMod (mRd 0) (m2 oPow (mC (.int 10)) (mC (.int 20)))) (mC (.int 48271))) (mRd 2)) (m2 oPow (mC (.int 10)) (mC (.int 12)))) (zax 4)) zaU) n) [.v (.int c),.v (.int k),.v (.int x),.v (.int b),.no,.no]=n [.v (.int c),.v (.int k),.v (.int x),.v (.int b),.v (.int t),.no]:=by
    have a0:=zcV (x / 1200) (show (0:Int) < 30 by decide)
    have a1:=zcT (x / 1200) (show (0:Int) < 30 by decide)
    have s1:mAsg (m2 oMod (m2 oDiv (mRd 2) (mC (.int 1200))) (mC (.int 30))) (zax 4) [.v (.int c),.v (.int k),.v (.int x),.v (.int b),.no,.no] = .nx [.v (.int c),.v (.int k),.v (.int x),.v (.int b),.v (.int (x / 1200 % 30)),.no]:=by
      refine zaK (d:=.int (x / 1200 % 30)) ?_ rfl
      simp [mRd,mC,zdf,f1200,zcC]
    by_cases h3:x % 3=0
    · have p12:oPow (.int 10) (.int 12)=some (.int 1000000000000):=zgE ⟨by decide,by decide,by decide⟩
      have e1:=zcV c (show (0:Int) < 100000000000000000000 by decide)
      have e2:=zcT c (show (0:Int) < 100000000000000000000 by decide)
      have fc:Fit (c % 100000000000000000000):=fitN (10 ^ 20) (by omega)
      have f4:Fit 48271:=fitN (10 ^ 6) (by decide)
      refine ⟨(c % 100000000000000000000 * 48271 + x) % 1000000000000,zcV _ (by decide),zcT _ (by decide),fun n=>?_⟩
      refine (zan s1).trans (zan ?_)
      rw [zgA (by simp [zav,mRd,mC,zcC,h3])]
      refine zaK (d:=.int ((c % 100000000000000000000 * 48271 + x) % 1000000000000)) ?_ rfl
      simp [mRd,mC,p20,p12,zcC,zeO fc f4]
    · refine ⟨x / 1200 % 30,a0,by omega,fun n=>?_⟩
      refine (zan s1).trans (zan ?_)
      rw [zff (by simp [zav,mRd,mC,zcC,h3])]; rfl
  have dv:=zdv (a:=b) (b:=t) (by omega) t0
  obtain ⟨⟨l1,l2⟩,⟨l3,l4⟩,l5,g0,g1⟩:=ziz (t:=t) (b:=b) t0 b0
  obtain ⟨g,eg⟩:∃ g:Int,g=(Int.gcd b t:Int):=⟨_,rfl⟩
  rw [← eg] at dv l1 l2 l3 l4 l5 g0 g1
  have fg:Fit g:=fitN 1000 (by omega)
  refine ⟨(t / g,b / g),⟨l1,by show t / g < _; omega,l3,by show b / g ≤ 12; omega,l5⟩,zbh ?_⟩
  show mSeq _ _ [.v (.int c),.v (.int k),.no,.no,.no,.no]=_
  refine (zan q1).trans ((zan q2).trans ((q34 _).trans ?_))
  have q5:mAsg (zai zaH (zab (mVar 3) (zab (mVar 4) mNil))) (zax 5) [.v (.int c),.v (.int k),.v (.int x),.v (.int b),.v (.int t),.no] = .nx [.v (.int c),.v (.int k),.v (.int x),.v (.int b),.v (.int t),.v (.int g)]:=by
    refine zaK (d:=.int g) ?_ rfl
    simp [zai,zab,mNil,mVar,dv]
  refine (zan q5).trans ?_
  simp [mRet,mTup,zab,mNil,mRd,zdf g0 fg,sizeLine,encF]
theorem zgu {l:List Fr} (ok:∀ f ∈ l,AmOk f):zbL [zaA l] = .ok (.int (un l)):=by
  obtain ⟨δ,h1,o2,o3,rfl⟩:=zdO (b:=bTup 2 (zcP (zax 2) (zcP (zax 3) bNil))) (m:=zdG) encF (fun pre δ=>∃ o2 o3,δ = [.v (zaA l),.v (.int (un pre)),sv o2,sv o3]) l
    (by
      rintro pre f post δ hall ⟨o2,o3,rfl⟩
      have o:=ok f (by rw [hall]; simp)
      have b0:=o.b0
      have b1:=o.b1
      have up:=(zik (l:=pre) fun g hg=>ok g (by rw [hall]; simp [hg])).1
      have dv:=zdv (a:=(un pre:Int)) (b:=f.2) (by omega) (by omega)
      obtain ⟨b,eb⟩:∃ b:Nat,f.2=(b:Int):=⟨f.2.toNat,by omega⟩
      have g0:0 < Int.gcd (un pre:Int) f.2:=Int.gcd_pos_of_ne_zero_right _ (by omega)
      have g1:Int.gcd (un pre:Int) f.2 ≤ f.2.natAbs:=Nat.le_of_dvd (by omega) (Int.natAbs_dvd_natAbs.mpr (Int.gcd_dvd_right ..))
      have fg:Fit (Int.gcd (un pre:Int) f.2:Int):=fitN 1000 (by rw [Int.natAbs_natCast]; omega)
      have fu:Fit (un pre:Int):=fitN (10 ^ 6) (by rw [Int.natAbs_natCast]; omega)
      have fb:Fit f.2:=fitN 1000 (by omega)
      have lc:(un pre:Int) * f.2 / (Int.gcd (un pre:Int) f.2:Int)=(un (pre ++ [f]):Int):=by
        rw [Int.mul_ediv_assoc _ (Int.gcd_dvd_right ..),ziI,eb,Int.toNat_natCast]; exact zjU _ _
      refine ⟨[.v (zaA l),.v (.int (un pre)),.v (.int f.1),.v (.int f.2)],[.v (zaA l),.v (.int (un (pre ++ [f]))),.v (.int f.1),.v (.int f.2)],?_,.inl ?_,some _,some _,rfl⟩
      · rcases o2 with _ | o2 <;> rcases o3 with _ | o3 <;> rfl
      · refine zaK (d:=.int (un (pre ++ [f]))) ?_ rfl
        simp [mRd,zai,zab,mNil,mVar,dv,zeO fu fb,zdf (show (0:Int) < (Int.gcd (un pre:Int) f.2:Int) by omega) fg,lc])
    [.v (zaA l),.v (.int (un [])),.no,.no] ⟨none,none,rfl⟩
  refine zbh ?_
  show mSeq _ _ [.v (zaA l),.no,.no,.no]=_
  have e1:mAsg (mC (.int 1)) (zax 1) [.v (zaA l),.no,.no,.no] = .nx [.v (zaA l),.v (.int (un [])),.no,.no]:=rfl
  have e2:zei [.v (zaA l),.v (.int (un [])),.no,.no] = .nx [.v (zaA l),.v (.int (un l)),sv o2,sv o3]:=(zed (by simp [mItL,mVar,zaA])).trans h1
  exact (zan e1).trans ((zan e2).trans rfl)
theorem ze8 {l:List Fr} (ok:∀ f ∈ l,AmOk f) (hl:l.length ≤ 1000):zbn [zaA l,.int (un l)] = .ok (iL (l.map (by1 (un l)))):=by
  obtain ⟨⟨u0,u1⟩,ud⟩:=zik ok
  refine zh3 ?_
  show zgd zcp [.v (zaA l),.v (.int (un l))]=_
  have k:zcp [.v (zaA l),.v (.int (un l))] = .ok (iL (l.map (by1 (un l)))):=by
    refine Eq.trans (zb0 (l:=l.map encF) (r:=l.map fun f=>.int (by1 (un l) f)) (by simp [mItL,mRd,zaA]) (by rw [List.length_map]; omega) ?_) (by simp [iL])
    refine zbt encF (fun f=>.int (by1 (un l) f)) _ fun f hf=>?_
    have o:=ok f hf
    have h1:=o.lo
    have h2:=o.hi
    have h3:=o.b0
    have h4:=o.b1
    have ft:Fit f.1:=fitN (10 ^ 12) (by omega)
    have fu:Fit (un l:Int):=fitN (10 ^ 6) (by rw [Int.natAbs_natCast]; omega)
    have fb:Fit f.2:=fitN 1000 (by omega)
    have e:f.1 * (un l:Int) / f.2=by1 (un l) f:=Int.mul_ediv_assoc _ (ud f hf)
    simp [zdi,zaS,zgh,encF,bTup,zcP,bNil,zbg,mRd,zeO ft fu,zdf (show (0:Int) < f.2 by omega) fb,e]
  simp [zgd,k]
theorem zfl (l:List Int):za9 [iL l,iL l] = .ok (.bl true):=by
  have z:zipD (l.map D.int) (l.map D.int)=l.map fun x=>D.tup [.int x,.int x]:=by
    unfold zipD
    induction l with
    | nil=>rfl
    | cons a l ih=>simp only [List.map_cons,List.zipWith_cons_cons,ih]
  obtain ⟨δ,h1,o2,o3,rfl⟩:=zdO (b:=bTup 2 (zcP (zax 2) (zcP (zax 3) bNil))) (m:=zbu) (fun x:Int=>D.tup [.int x,.int x]) (fun _ δ=>∃ o2 o3,δ = [.v (iL l),.v (iL l),sv o2,sv o3]) l
    (by
      rintro pre x post δ hall ⟨o2,o3,rfl⟩
      refine ⟨[.v (iL l),.v (iL l),.v (.int x),.v (.int x)],[.v (iL l),.v (iL l),.v (.int x),.v (.int x)],?_,.inl ?_,some _,some _,rfl⟩
      · rcases o2 with _ | o2 <;> rcases o3 with _ | o3 <;> rfl
      · have i1:oIsi "int" (.int x)=some (.bl true):=rfl
        have i2:oIsi "bool" (.int x)=some (.bl false):=rfl
        simp [zbu,mIfS,mOr,mNot,zav,mRd,i1,i2,zaU])
    [.v (iL l),.v (iL l),.no,.no] ⟨none,none,rfl⟩
  refine zbh ?_
  show mSeq _ _ [.v (iL l),.v (iL l),.no,.no]=_
  have il:oIsi "list" (iL l)=some (.bl true):=rfl
  have q1:mIfS (mOr (mNot (zav (m1 (oIsi "list") (mRd 0)))) (zav (m2 oNe (mCB fLen (zab (mRd 0) mNil)) (mCB fLen (zab (mRd 1) mNil))))) (mRet (mC (.bl false))) zaU [.v (iL l),.v (iL l),.no,.no] = .nx [.v (iL l),.v (iL l),.no,.no]:=by simp [mIfS,mOr,mNot,zav,mRd,mCB,zab,mNil,il,zaU]
  have q2:zcy [.v (iL l),.v (iL l),.no,.no] = .nx [.v (iL l),.v (iL l),sv o2,sv o3]:=by
    refine (zed ?_).trans h1
    simp only [mZip,zab,mNil,mVar,List.getElem?_cons_succ,List.getElem?_cons_zero,R.bind_ok]
    show R.of (some (zipD (l.map D.int) (l.map D.int)))=_
    rw [z]; rfl
  exact (zan q1).trans ((zan q2).trans rfl)
theorem ziA {i:Int} (h0:0 ≤ i) (h:i.toNat < 10 ^ 60):i.natAbs.log2 < 1920:=by
  have:i.natAbs < 2 ^ 1920:=Nat.lt_of_lt_of_le (show i.natAbs < 10 ^ 60 by omega) (by decide +kernel)
  by_cases z:i.natAbs=0
  · rw [z]; decide
  · exact (Nat.log2_lt z).mpr this
theorem zdP {t b:Int} (ht:0 ≤ t) (h1:t.toNat < 10 ^ 60) (hb:0 ≤ b) (h2:b.toNat < 10 ^ 60):zaN [encF (t,b)] = .ok (.bl true)∧zaO [encF (t,b)] = .ok (.str (wr (t,b))):=by
  have i0:oIxT (encF (t,b)) (.int 0)=some (.int t):=rfl
  have i1:oIxT (encF (t,b)) (.int 1)=some (.int b):=rfl
  have lt:=ziA ht h1
  have lb:=ziA hb h2
  have e1:=dgl (k:=59) ht h1
  have e2:=dgl (k:=59) hb h2
  have ls:("/" : Str).length=1:=by decide +kernel
  have s1:zeB [.int t]=some (.str (dg t)):=za3 lt
  have s2:zeB [.int b]=some (.str (dg b)):=za3 lb
  have a1:zg4 (.str (dg t)) (.str "/")=some (.str (dg t ++ "/")):=za3 (by rw [ls,sizeLine_eq]; omega)
  have a2:zg4 (.str (dg t ++ "/")) (.str (dg b))=some (.str (dg t ++ "/" ++ dg b)):=za3 (by rw [zdu,ls,sizeLine_eq]; omega)
  have tw:zav (m2 oEq (m2 oIxT (mRd 0) (mC (.int 1))) (mC (.int 1))) [.v (encF (t,b))] = .ok (decide (b=1)):=by simp [zav,mRd,mC,i1]
  have wt:zaO [encF (t,b)] = .ok (.str (wr (t,b))):=by
    by_cases hb1:b=1
    · have e:wr (t,b)=dg t:=if_pos hb1
      rw [e]
      refine zbh ?_
      show mSeq _ _ [.v (encF (t,b))]=_
      refine zgy ?_
      rw [zgA (tw.trans (by rw [decide_eq_true hb1]))]
      simp only [mRet,mCB,zab,mNil,zdJ,mRd,mC,List.getElem?_cons_zero,R.bind_ok,i0,R.of_some,s1,R.toO_ok]
    · have e:wr (t,b)=dg t ++ "/" ++ dg b:=if_neg hb1
      rw [e]
      refine zbh ?_
      show mSeq _ _ [.v (encF (t,b))]=_
      have q1:mIfS (zav (m2 oEq (m2 oIxT (mRd 0) (mC (.int 1))) (mC (.int 1)))) (mRet (mCB zeB (zab (m2 oIxT (mRd 0) (mC (.int 0))) mNil))) zaU [.v (encF (t,b))] = .nx [.v (encF (t,b))]:=by
        rw [zff (tw.trans (by rw [decide_eq_false hb1]))]; rfl
      refine (zan q1).trans ?_
      simp only [mRet,mCB,zab,mNil,zdJ,mRd,mC,List.getElem?_cons_zero,R.bind_ok,i0,i1,R.of_some,s1,s2,a1,a2,R.toO_ok]
  have sh:za8 [encF (t,b)] = .ok (.str (wr (t,b))):=by
    refine zbh ?_
    show mSeq _ _ [.v (encF (t,b)),.no,.no]=_
    have q1:mAsg (m2 oIxT (mRd 0) (mC (.int 0))) (zax 1) [.v (encF (t,b)),.no,.no] = .nx [.v (encF (t,b)),.v (.int t),.no]:=by
      refine zaK (d:=.int t) ?_ rfl
      simp [mRd,mC,i0]
    have q2:mAsg (m2 oIxT (mRd 0) (mC (.int 1))) (zax 2) [.v (encF (t,b)),.v (.int t),.no] = .nx [.v (encF (t,b)),.v (.int t),.v (.int b)]:=by
      refine zaK (d:=.int b) ?_ rfl
      simp [mRd,mC,i1]
    refine (zan q1).trans ((zan q2).trans ?_)
    by_cases hb1:b=1
    · have e:wr (t,b)=dg t:=if_pos hb1
      rw [e]
      refine zgy ?_
      rw [zgA (by simp [zav,mRd,mC,hb1])]
      simp only [mRet,mCB,zab,mNil,mRd,List.getElem?_cons_succ,List.getElem?_cons_zero,R.bind_ok,s1,R.of_some,R.toO_ok]
    · have e:wr (t,b)=dg t ++ "/" ++ dg b:=if_neg hb1
      rw [e]
      have q3:mIfS (zav (m2 oEq (mRd 2) (mC (.int 1)))) (mRet (mCB zeB (zab (mRd 1) mNil))) zaU [.v (encF (t,b)),.v (.int t),.v (.int b)] = .nx [.v (encF (t,b)),.v (.int t),.v (.int b)]:=by
        rw [zff (by simp [zav,mRd,mC,hb1])]; rfl
      refine (zan q3).trans ?_
      have fs:mFst "/" 1 2 [.v (encF (t,b)),.v (.int t),.v (.int b)] = .ok (.str (dg t ++ "/" ++ dg b)):=by
        show R.of (fstD "/" (.int t) (.int b))=_
        unfold fstD
        dsimp only
        have l1:(dg t ++ "/").length ≤ sizeLine:=by rw [zdu,ls,sizeLine_eq]; omega
        have l2:(dg t ++ "/" ++ dg b).length ≤ sizeLine:=by rw [zdu,zdu,ls,sizeLine_eq]; omega
        rw [za3 ⟨lt,lb,l1,l2⟩]; rfl
      simp only [mRet,fs,R.toO_ok]
  refine ⟨zbh ?_,wt⟩
  show mSeq _ _ [.v (encF (t,b)),.no]=_
  obtain ⟨w,ew⟩:∃ w,w=wr (t,b):=⟨_,rfl⟩
  rw [← ew] at sh wt
  have q1:mAsg (zai za8 (zab (mVar 0) mNil)) (zax 1) [.v (encF (t,b)),.no] = .nx [.v (encF (t,b)),.v (.str w)]:=by
    refine zaK (d:=.str w) ?_ rfl
    simp [zai,zab,mNil,mVar,sh]
  refine (zan q1).trans ?_
  have t1:oIsi "str" (.str w)=some (.bl true):=rfl
  have t2:oEq (.str w) (.str w)=some (.bl true):=by
    show (if scal (V.str w) (V.str w)=true then some (D.bl (decide (V.str w=V.str w))) else none)=_
    rw [if_pos (show scal (V.str w) (V.str w)=true from rfl),decide_eq_true rfl]
  simp [mRet,ze6,mRd,zai,zab,mNil,mVar,t1,t2,wt]
theorem zg2 {l:List Fr}:zbd [.tup [.str "touch",.int (un l),.tup [iL (l.map (by1 (un l))),.lst []]],.int (un l),iL (l.map (by1 (un l)))] = .ok (.bl true):=by
  obtain ⟨W,eW⟩:∃ W,W=iL (l.map (by1 (un l))):=⟨_,rfl⟩
  have ww:=zfl (l.map (by1 (un l)))
  rw [← eW] at ww ⊢
  obtain ⟨u,eu⟩:∃ u:Int,u=(un l:Int):=⟨_,rfl⟩
  rw [← eu]
  obtain ⟨G,eG⟩:∃ G,G=D.tup [W,.lst []]:=⟨_,rfl⟩
  obtain ⟨A,eA⟩:∃ A,A=D.tup [.str "touch",.int u,G]:=⟨_,rfl⟩
  rw [← eG,← eA]
  have a0:oIxT A (.int 0)=some (.str "touch"):=by rw [eA]; rfl
  have a1:oIxT A (.int 1)=some (.int u):=by rw [eA]; rfl
  have a2:oIxT A (.int 2)=some G:=by rw [eA]; rfl
  have g0:oIxT G (.int 0)=some W:=by rw [eG]; rfl
  have g1:oIxT G (.int 1)=some (.lst []):=by rw [eG]; rfl
  have la:fLen [A]=some (.int 3):=by rw [eA]; rfl
  have lg:fLen [G]=some (.int 2):=by rw [eG]; rfl
  have t1:oIsi "tuple" A=some (.bl true):=by rw [eA]; rfl
  have t2:oIsi "tuple" G=some (.bl true):=by rw [eG]; rfl
  have t3:oIsi "str" (.str "touch")=some (.bl true):=rfl
  have t4:oIsi "int" (.int u)=some (.bl true):=rfl
  have t5:oIsi "bool" (.int u)=some (.bl false):=rfl
  have t6:oIsi "list" (.lst [])=some (.bl true):=rfl
  have ne:oNeD (.lst []) (.lst [])=some (.bl false):=zjd rfl rfl rfl
  have et:oEq (.str "touch") (.str "touch")=some (.bl true):=rfl
  refine zbh ?_
  show mSeq _ _ [.v A,.v (.int u),.v W]=_
  have q1:mIfS (mOr (mNot (zav (m1 (oIsi "tuple") (mRd 0)))) (mOr (zav (m2 oNe (mCB fLen (zab (mRd 0) mNil)) (mC (.int 3)))) (mNot (zav (m1 (oIsi "str") (m2 oIxT (mRd 0) (mC (.int 0)))))))) (mRet (mC (.bl false))) zaU [.v A,.v (.int u),.v W] = .nx [.v A,.v (.int u),.v W]:=by
    simp [mIfS,mOr,mNot,zav,mRd,mC,mCB,zab,mNil,t1,la,a0,t3,zaU]
  have q2:mIfS (mOr (mNot (zav (m1 (oIsi "int") (m2 oIxT (mRd 0) (mC (.int 1)))))) (mOr (zav (m1 (oIsi "bool") (m2 oIxT (mRd 0) (mC (.int 1))))) (zav (m2 oNe (m2 oIxT (mRd 0) (mC (.int 1))) (mRd 1))))) (mRet (mC (.bl false))) zaU [.v A,.v (.int u),.v W] = .nx [.v A,.v (.int u),.v W]:=by
    simp [mIfS,mOr,mNot,zav,mRd,mC,a1,t4,t5,zaU]
  have q3:mIfS (mOr (mNot (zav (m1 (oIsi "tuple") (m2 oIxT (mRd 0) (mC (.int 2)))))) (mOr (zav (m2 oNe (mCB fLen (zab (m2 oIxT (mRd 0) (mC (.int 2))) mNil)) (mC (.int 2)))) (zav (m2 oNeD (m2 oIxT (m2 oIxT (mRd 0) (mC (.int 2))) (mC (.int 1))) (mLst mNil))))) (mRet (mC (.bl false))) zaU [.v A,.v (.int u),.v W] = .nx [.v A,.v (.int u),.v W]:=by
    simp [mIfS,mOr,mNot,zav,mRd,mC,mCB,zab,mNil,mLst,sizeLine,a2,t2,lg,g1,ne,zaU]
  refine (zan q1).trans ((zan q2).trans ((zan q3).trans ?_))
  simp [mRet,ze6,mRd,mC,zai,zab,mNil,mVar,a0,et,a2,g1,t6,g0,ww]
theorem law_true (ns:List Int) (h:ns.length ≤ 63):zkd [.scr ns] = .ok (.bl true):=by
  obtain ⟨c0,ec0⟩:∃ c0,c0=ns.getD 0 0:=⟨_,rfl⟩
  obtain ⟨c1,ec1⟩:∃ c1,c1=ns.getD 1 0:=⟨_,rfl⟩
  obtain ⟨c2,ec2⟩:∃ c2,c2=ns.getD 2 0:=⟨_,rfl⟩
  have ca0:zat [.scr ns,.int 0] = .ok (.int c0):=by rw [ec0]; exact zdt ns 0
  have ca1:zat [.scr ns,.int 1] = .ok (.int c1):=by rw [ec1]; exact zdt ns 1
  have ca2:zat [.scr ns,.int 2] = .ok (.int c2):=by rw [ec2]; exact zdt ns 2
  obtain ⟨cs,hcut,hc39⟩:∃ cs:List Int,cutD (ns.map D.int) (some 3) (some 42)=cs.map D.int∧cs.length ≤ 39:=by
    obtain ⟨cs,h1,h2⟩:=zil ns (some 3) (some 42)
    refine ⟨cs,h1,?_⟩
    have:=congrArg List.length h1
    rw [List.length_map] at this
    rw [← this]
    unfold cutD
    have e1:HT.sIx (ns.map D.int).length 0 (some 3)=min 3 (ns.map D.int).length:=rfl
    have e2:HT.sIx (ns.map D.int).length (ns.map D.int).length (some 42)=min 42 (ns.map D.int).length:=rfl
    rw [e1,e2,List.length_take,List.length_drop]
    omega
  obtain ⟨C,eC⟩:∃ C:List Int,C=c2 :: cs:=⟨_,rfl⟩
  have C1:C.length ≤ 40:=by rw [eC]; simp; omega
  have C0:1 ≤ C.length:=by rw [eC]; simp
  obtain ⟨F,hF⟩:=Classical.axiomOfChoice (r:=fun (p:Int × Nat) (f:Fr)=>p.2 ≤ 100→AmOk f∧zbs [.int p.1,.int (p.2:Int)] = .ok (encF f)) (fun p=>by
    by_cases hp:p.2 ≤ 100
    · obtain ⟨f,hf⟩:=zio p.1 (p.2:Int) (by omega) (by omega)
      exact ⟨f,fun _=>hf⟩
    · exact ⟨(0,0),fun z=>absurd z hp⟩)
  have idx:∀ p ∈ C.zipIdx,p.2 ≤ 100:=fun p hp=>by
    have:=List.mk_mem_zipIdx_iff_getElem?.mp (show (p.1,p.2) ∈ C.zipIdx from hp)
    have:=(List.getElem?_eq_some_iff.mp this).1
    omega
  obtain ⟨l,el⟩:∃ l:List Fr,l=C.zipIdx.map F:=⟨_,rfl⟩
  have ll:l.length=C.length:=by rw [el]; simp
  have ok:∀ f ∈ l,AmOk f:=fun f hf=>by
    rw [el] at hf
    obtain ⟨p,hp,rfl⟩:=List.mem_map.mp hf
    exact (hF p (idx p hp)).1
  have lu:=zgu ok
  have lw:=ze8 ok (by omega)
  have rd:=zi0 ok (by omega) (by omega)
  have ir:=zg2 (l:=l)
  have jo:=(zgU ok (by omega)).1
  have sh:∀ f ∈ l,zaN [encF f] = .ok (.bl true)∧zaO [encF f] = .ok (.str (wr f)):=fun f hf=>by
    have o:=ok f hf
    have h1:=o.lo
    have h2:=o.hi
    have h3:=o.b0
    have h4:=o.b1
    exact zdP (t:=f.1) (b:=f.2) h1 (by omega) (by omega) (by omega)
  refine zbh ?_
  show mSeq _ _ [.v (.scr ns),.no,.no,.no,.no,.no,.no,.no,.no]=_
  have q1:mAsg (m2 oCat (mLst (zab (zai zat (zab (mVar 0) (zab (mC (.int 2)) mNil))) mNil)) (mSl (mRd 0) (zec (mC (.int 3))) (zec (mC (.int 42))))) (zax 1) [.v (.scr ns),.no,.no,.no,.no,.no,.no,.no,.no] = .nx [.v (.scr ns),.v (iL C),.no,.no,.no,.no,.no,.no,.no]:=by
    refine zaK (d:=iL C) ?_ rfl
    have sl:mSl (mRd 0) (zec (mC (.int 3))) (zec (mC (.int 42))) [.v (.scr ns),.no,.no,.no,.no,.no,.no,.no,.no] = .ok (iL cs):=by
      simp only [mSl,mRd,zec,mC,List.getElem?_cons_zero,R.bind_ok,zj4,R.of_some,asL,hcut]
      rfl
    have ct:oCat (.lst [.int c2]) (.lst (cs.map .int))=some (iL C):=by rw [ziB (by simp; omega),eC]; rfl
    rw [zdJ,sl]
    simp [mLst,zab,mNil,zai,mVar,mC,ca2,sizeLine,iL] at ct ⊢
    rw [ct]; rfl
  have k1:zhz [.v (.scr ns),.v (iL C),.no,.no,.no,.no,.no,.no,.no] = .ok (zaA l):=by
    refine Eq.trans (zb0 (l:=C.zipIdx.map fun p=>.tup [.int (p.2:Int),.int p.1]) (r:=C.zipIdx.map fun p=>encF (F p)) ?_ (by simp; omega) ?_) (by rw [el]; simp [zaA])
    · simp [zjf,zab,mNil,mRd,iL,zh9,asL',zif,List.zipIdx_map]
    · refine zbt (fun p:Int × Nat=>.tup [.int (p.2:Int),.int p.1]) _ _ fun p hp=>?_
      have:=(hF p (idx p hp)).2
      simp [zdi,zaS,zgh,bTup,zcP,bNil,zbg,zai,zab,mNil,mVar,this]
  have q2:mAsg zhz (zax 2) [.v (.scr ns),.v (iL C),.no,.no,.no,.no,.no,.no,.no] = .nx [.v (.scr ns),.v (iL C),.v (zaA l),.no,.no,.no,.no,.no,.no]:=zaK k1 rfl
  have q3:mAsg (zai zbL (zab (mVar 2) mNil)) (zax 3) [.v (.scr ns),.v (iL C),.v (zaA l),.no,.no,.no,.no,.no,.no] = .nx [.v (.scr ns),.v (iL C),.v (zaA l),.v (.int (un l)),.no,.no,.no,.no,.no]:=by
    refine zaK (d:=.int (un l)) ?_ rfl
    simp [zai,zab,mNil,mVar,lu]
  have q4:mAsg (zie " " (m2 oCat (mLst (zab (mC (.str "touch")) mNil)) zhs)) (zax 4) [.v (.scr ns),.v (iL C),.v (zaA l),.v (.int (un l)),.no,.no,.no,.no,.no] = .nx [.v (.scr ns),.v (iL C),.v (zaA l),.v (.int (un l)),.v (.str (txt l)),.no,.no,.no,.no]:=by
    refine zaK (d:=.str (txt l)) ?_ rfl
    have k2:zhs [.v (.scr ns),.v (iL C),.v (zaA l),.v (.int (un l)),.no,.no,.no,.no,.no] = .ok (.lst ((l.map wr).map .str)):=by
      refine Eq.trans (zb0 (l:=l.map encF) (r:=l.map fun f=>.str (wr f)) (by simp [mItL,mRd,zaA]) (by rw [List.length_map]; omega) ?_) (by rw [List.map_map]; rfl)
      exact zbt encF (fun f=>.str (wr f)) _ fun f hf=>by simp [zdi,zaS,zbg,zai,zab,mNil,mVar,(sh f hf).2]
    have ct:oCat (.lst [.str "touch"]) (.lst ((l.map wr).map .str))=some (.lst ((wds l).map .str)):=by rw [ziB (by simp; omega)]; rfl
    have ls:mLst (zab (mC (.str "touch")) mNil) [.v (.scr ns),.v (iL C),.v (zaA l),.v (.int (un l)),.no,.no,.no,.no,.no] = .ok (.lst [.str "touch"]):=by simp [mLst,zab,mNil,mC,sizeLine]
    unfold zie
    rw [zdJ,ls,k2,R.bind_ok,R.bind_ok,ct]
    show ziv " " (.lst ((wds l).map .str))=_
    unfold ziv
    dsimp only
    rw [zgX]
    dsimp only
    rw [if_pos jo]; rfl
  have q5:mIfS (mNot (zav (zai zbd (zab (zai zeG (zab (mVar 4) mNil)) (zab (mVar 3) (zab (zai zbn (zab (mVar 2) (zab (mVar 3) mNil))) mNil)))))) (mRet (mC (.bl false))) zaU [.v (.scr ns),.v (iL C),.v (zaA l),.v (.int (un l)),.v (.str (txt l)),.no,.no,.no,.no] = .nx [.v (.scr ns),.v (iL C),.v (zaA l),.v (.int (un l)),.v (.str (txt l)),.no,.no,.no,.no]:=by
    simp [mIfS,mNot,zav,zai,zab,mNil,mVar,rd,lw,ir,zaU]
  obtain ⟨δ,h6,o5,rfl⟩:=zdO (b:=zax 5) (m:=zgb) encF (fun _ δ=>∃ o5,δ = [.v (.scr ns),.v (iL C),.v (zaA l),.v (.int (un l)),.v (.str (txt l)),sv o5,.no,.no,.no]) l
    (by
      rintro pre f post δ hall ⟨o5,rfl⟩
      refine ⟨[.v (.scr ns),.v (iL C),.v (zaA l),.v (.int (un l)),.v (.str (txt l)),.v (encF f),.no,.no,.no],[.v (.scr ns),.v (iL C),.v (zaA l),.v (.int (un l)),.v (.str (txt l)),.v (encF f),.no,.no,.no],zfd rfl,.inl ?_,some _,rfl⟩
      have:=(sh f (by rw [hall]; simp)).1
      simp [zgb,mIfS,mNot,zav,zai,zab,mNil,mVar,this,zaU])
    [.v (.scr ns),.v (iL C),.v (zaA l),.v (.int (un l)),.v (.str (txt l)),.no,.no,.no,.no] ⟨none,rfl⟩
  have q6:ziN [.v (.scr ns),.v (iL C),.v (zaA l),.v (.int (un l)),.v (.str (txt l)),.no,.no,.no,.no] = .nx [.v (.scr ns),.v (iL C),.v (zaA l),.v (.int (un l)),.v (.str (txt l)),sv o5,.no,.no,.no]:=(zed (by simp [mItL,mVar,zaA])).trans h6
  obtain ⟨t,et,t0,t1⟩:∃ t:Int,t=c0 % 1000000000000000000000000000000000000000000000000000000000000∧0 ≤ t∧t < 1000000000000000000000000000000000000000000000000000000000000:=⟨_,rfl,zcV _ (by decide),zcT _ (by decide)⟩
  have p60:oPow (.int 10) (.int 60)=some (.int 1000000000000000000000000000000000000000000000000000000000000):=zgE ⟨by decide,by decide,by decide⟩
  have q7:mAsg (m2 oMod (zai zat (zab (mVar 0) (zab (mC (.int 0)) mNil))) (m2 oPow (mC (.int 10)) (mC (.int 60)))) (zax 6) [.v (.scr ns),.v (iL C),.v (zaA l),.v (.int (un l)),.v (.str (txt l)),sv o5,.no,.no,.no] = .nx [.v (.scr ns),.v (iL C),.v (zaA l),.v (.int (un l)),.v (.str (txt l)),sv o5,.v (.int t),.no,.no]:=by
    refine zaK (d:=.int t) ?_ rfl
    simp only [zdJ,zai,zab,mNil,mVar,mC,List.getElem?_cons_zero,R.bind_ok,ca0,R.nev_ok,p60,R.of_some,zcC (show (0:Int) < 1000000000000000000000000000000000000000000000000000000000000 by decide),et]
  obtain ⟨m,hm,m0,m1⟩:∃ m:Int,oIxL (.lst [.int 1000000000000000000000000000000,.int 3]) (.int (c0 % 2))=some (.int m)∧0 < m∧m ≤ 1000000000000000000000000000000:=by
    have a0:=zcV c0 (show (0:Int) < 2 by decide)
    have a1:=zcT c0 (show (0:Int) < 2 by decide)
    rcases (show c0 % 2=0∨c0 % 2=1 by omega) with e | e <;> rw [e]
    · exact ⟨1000000000000000000000000000000,rfl,by decide,by decide⟩
    · exact ⟨3,rfl,by decide,by decide⟩
  have d0:=zcV c1 m0
  have d1:=zcT c1 m0
  obtain ⟨b,eb⟩:∃ b,b=1 + c1 % m:=⟨_,rfl⟩
  have q8:mAsg (m2 oAdd (mC (.int 1)) (m2 oMod (zai zat (zab (mVar 0) (zab (mC (.int 1)) mNil))) (m2 oIxL (mLst (zab (m2 oPow (mC (.int 10)) (mC (.int 30))) (zab (mC (.int 3)) mNil))) (m2 oMod (zai zat (zab (mVar 0) (zab (mC (.int 0)) mNil))) (mC (.int 2)))))) (zax 7) [.v (.scr ns),.v (iL C),.v (zaA l),.v (.int (un l)),.v (.str (txt l)),sv o5,.v (.int t),.no,.no] = .nx [.v (.scr ns),.v (iL C),.v (zaA l),.v (.int (un l)),.v (.str (txt l)),sv o5,.v (.int t),.v (.int b),.no]:=by
    refine zaK (d:=.int b) ?_ rfl
    simp [mC,zai,zab,mNil,mVar,ca0,ca1,mLst,p30,sizeLine,zcC,hm,zcC m0,eb]
  have dv:=zdv (a:=b) (b:=t) (by omega) t0
  obtain ⟨⟨l1,l2⟩,⟨l3,l4⟩,l5,g0,g1⟩:=ziz (t:=t) (b:=b) t0 (by omega)
  obtain ⟨g,eg⟩:∃ g:Int,g=(Int.gcd b t:Int):=⟨_,rfl⟩
  rw [← eg] at dv l1 l2 l3 l4 l5 g0 g1
  have fg:Fit g:=fitN (10 ^ 31) (by omega)
  have q9:mAsg (zai zaH (zab (mVar 7) (zab (mVar 6) mNil))) (zax 8) [.v (.scr ns),.v (iL C),.v (zaA l),.v (.int (un l)),.v (.str (txt l)),sv o5,.v (.int t),.v (.int b),.no] = .nx [.v (.scr ns),.v (iL C),.v (zaA l),.v (.int (un l)),.v (.str (txt l)),sv o5,.v (.int t),.v (.int b),.v (.int g)]:=by
    refine zaK (d:=.int g) ?_ rfl
    simp [zai,zab,mNil,mVar,dv]
  have s1:zaN [.tup [.int (t / g),.int (b / g)]] = .ok (.bl true):=(zdP (t:=t / g) (b:=b / g) l1 (by omega) (by omega) (by omega)).1
  have s2:zaN [.tup [.int t,.int 1]] = .ok (.bl true):=(zdP (t:=t) (b:=1) t0 (by omega) (by decide) (by decide)).1
  have s3:zaN [.tup [.int 0,.int 1]] = .ok (.bl true):=(zdP (t:=0) (b:=1) (by decide) (by decide) (by decide) (by decide)).1
  refine (zan q1).trans ((zan q2).trans ((zan q3).trans ((zan q4).trans ((zan q5).trans ((zan q6).trans ((zan q7).trans ((zan q8).trans ((zan q9).trans ?_))))))))
  simp [mRet,ze6,zai,zab,mNil,mVar,mRd,mC,mTup,sizeLine,zdf g0 fg,s1,s2,s3]
end My
namespace My
open PySem L2 PM PyProof.Rows
def top (i:Nat):Stmt:=PySem.Challenge.pw_goodenough_k51_amounts_and_units.main.body.getD i (.Pass ⟨0,0,0,0⟩)
abbrev XO0:XOT:=fun _ _ _ _ _=>False
abbrev KX (K:PySem.W.Frag):Kx:=⟨K,fun _=>0,fun _=>Str.empty⟩
def zgD (K:PySem.W.Frag):Sp:=fun vs H Q _=>∃ (a:Addr) (ns:List Int),vs = [.ref a]∧SqL K H a (ns.map V.int)∧ns.length ≤ 63∧∀ H',Q (.bl true) H'
structure Txt (K:PySem.W.Frag) (mg:Str→Option Value):Prop where
  len:mg "len"=none
  abs:mg "abs"=none
  isinstance:mg "isinstance"=none
  list:mg "list"=none
  int:mg "int"=none
  bool:mg "bool"=none
  tuple:mg "tuple"=none
  str:mg "str"=none
  range:mg "range"=none
  enumerate:mg "enumerate"=none
  zip:mg "zip"=none
  all:mg "all"=none
  any:mg "any"=none
  g_FIGURES:∃ t,mg "FIGURES"=some (.str "0123456789" t)
  g_MOST_FIGURES:∃ t,mg "MOST_FIGURES"=some (.int 12 t)
  g_MOST_BOTTOM:∃ t,mg "MOST_BOTTOM"=some (.int 12 t)
  g_MOST_THINGS:∃ t,mg "MOST_THINGS"=some (.int 40 t)
  g_MOST_LINES:∃ t,mg "MOST_LINES"=some (.int 80 t)
section
variable {P:Program} {w:World} {K:PySem.W.Frag} {mg:Str→Option Value} {base:Heap}
abbrev zcv:Stmt:=top 49
theorem zeq:FnScope ["_law_script","_law_k"] ["_law_script","_law_k"] (zal zcv):=⟨rfl,rfl,rfl,by decide +kernel,rfl,by decide +kernel,by decide +kernel⟩
theorem zek {f:Addr} {fd:FuncData} (F:Fun K "_law_cell_at" "_law_cell_at" zcv f fd) (T:Txt K mg)  : FnOk P w K mg base CX0 1 f fd ["_law_script","_law_k"] (spM (KX K) XO0 zat):=by
  refine F.ok zeq (fun vs H Q E h=>za0 h) (fun cdv A outer s H vs Q E hr h=>?_)
  have hu:=zbF hr
  exact ⟨_,(zae (zbG (zaM zjc (pv 1) (zay zaR (by rfl) T.len PySem.boot_len (zaa (pv 0) zah)) (zaI _))
      (zak (zaC (zbb zcw (pv 0) (pv 1) (fun _ _=>rfl))))
      zaV)
      (zak (zaC zag))),zbT (K:=(KX K)) (XO:=XO0) (E:=E) (np:=2) (nv:=0) (m:=zbK)
      (zaq (zbH (zaJ (zaj ziV zac ((zbW zcS (zaE zac zaX))).r))
      (zaG (zaj zdj zac zac))
      zaW)
      (zaG zaf)) rfl h⟩
abbrev zcI:Stmt:=top 50
theorem ze3:FnScope ["_law_cell","_law_k"] ["_law_cell","_law_k"] (zal zcI):=⟨rfl,rfl,rfl,by decide +kernel,rfl,by decide +kernel,by decide +kernel⟩
theorem zeZ {f:Addr} {fd:FuncData} (F:Fun K "_law_number" "_law_number" zcI f fd) (T:Txt K mg)  : FnOk P w K mg base CX0 1 f fd ["_law_cell","_law_k"] (spM (KX K) XO0 zba):=by
  refine F.ok ze3 (fun vs H Q E h=>za0 h) (fun cdv A outer s H vs Q E hr h=>?_)
  have hu:=zbF hr
  exact ⟨_,(zak (zaC (zaP zcf (zaP zcK (zaP zdE (zaP zdE (zaP zcf (pv 0) (zaP zga zag zag)) (zaP zcK (pv 1) (pv 1))) zag) (zaP zdE zag (zaP zcK zag (pv 1)))) zag))),zbT (K:=(KX K)) (XO:=XO0) (E:=E) (np:=2) (nv:=0) (m:=zcF)
      (zaG (zaj zcc ((zaj zdH ((zaj zdC ((zaj zdC ((zaj zcc zac ((zaj zfQ (zaf).r (zaf).r)).r)).r ((zaj zdH zac zac)).r)).r (zaf).r)).r ((zaj zdC (zaf).r ((zaj zdH (zaf).r zac)).r)).r)).r (zaf).r)) rfl h⟩
abbrev zcr:Stmt:=top 52
theorem sc_law_divisor:FnScope ["_law_one","_law_other"] ["_law_one","_law_other"] (zal zcr):=⟨rfl,rfl,rfl,by decide +kernel,rfl,by decide +kernel,by decide +kernel⟩
theorem zex {f:Addr} {fd:FuncData} (F:Fun K "_law_divisor" "_law_divisor" zcr f fd) (T:Txt K mg)  : FnOk P w K mg base CX0 1 f fd ["_law_one","_law_other"] (spM (KX K) XO0 zaH):=by
  refine F.ok sc_law_divisor (fun vs H Q E h=>za0 h) (fun cdv A outer s H vs Q E hr h=>?_)
  have hu:=zbF hr
  exact ⟨_,(zae (zgM PassesOwn.never (zaM zfh (pv 1) zag (zaI _))
      (zak (zj6 (i:=0) (j:=1) rfl sc_law_divisor.nd rfl rfl (by decide) rfl rfl (zaa (pv 1) (zaa (zaP zcf (pv 0) (pv 1)) zah)) rfl)))
      (zak (zaC (pv 0)))),zbT (K:=(KX K)) (XO:=XO0) (E:=E) (np:=2) (nv:=0) (m:=zc9)
      (zaq (zgR (zaJ (zaj zfL zac (zaf).r))
      (zjX (zad zam (zad (zaj zcc zac zac) zau))))
      (zaG zam)) rfl h⟩
abbrev zc0:Stmt:=top 53
theorem sc_law_parts:FnScope ["_law_cell","_law_k","_law_number_here","_law_bottom","_law_top","_law_by"] ["_law_cell","_law_k"] (zal zc0):=⟨rfl,rfl,rfl,by decide +kernel,rfl,by decide +kernel,by decide +kernel⟩
theorem zf9 {f:Addr} {fd:FuncData} (F:Fun K "_law_parts" "_law_parts" zc0 f fd) (T:Txt K mg) (G_law_number:Has P w K mg base CX0 1 "_law_number" ["_law_cell","_law_k"] (spM (KX K) XO0 zba)) (G_law_divisor:Has P w K mg base CX0 1 "_law_divisor" ["_law_one","_law_other"] (spM (KX K) XO0 zaH)):FnOk P w K mg base CX0 2 f fd ["_law_cell","_law_k"] (spM (KX K) XO0 zbs):=by
  refine F.ok sc_law_parts (fun vs H Q E h=>za0 h) (fun cdv A outer s H vs Q E hr h=>?_)
  have hu:=zbF hr
  exact ⟨_,(zae (zaZ (i:=2) sc_law_parts.nd rfl (by first | exact Or.inl rfl | exact Or.inr rfl) (zaF G_law_number (hr.mono (by decide)) (by rfl) za4 (zaa (pv 0) (zaa (zaP zdE (pv 1) zag) zah))))
      (@zae _ _ _ _ _ (by refine zaZ (i:=3) ?_ ?_ ?_ ?_ ?_ ?_; (exact sc_law_parts.nd); (rfl); (first | exact Or.inl rfl | exact Or.inr rfl); (exact (@zbb _ _ _ _ _ _ _ zcw (@zeK _ _ _ _ (@zaa _ _ _ _ _ zag (@zaa _ _ _ _ _ zag (@zaa _ _ _ _ _ zag (@zaa _ _ _ _ _ zag (@zaa _ _ _ _ _ zag (@zaa _ _ _ _ _ zag (@zaa _ _ _ _ _ zag (@zaa _ _ _ _ _ zag (@zaa _ _ _ _ _ (zaP zdE zag (zaP zcf (zaP zbp (pv 2) zag) zag)) zah rfl) rfl) rfl) rfl) rfl) rfl) rfl) rfl) rfl)) (zaP zcf (zaP zbp (pv 2) zag) zag) (fun _ _=>rfl))); (rfl); (first | exact .inl rfl | exact .inr rfl))
      (zae (zaZ (i:=4) sc_law_parts.nd rfl (by first | exact Or.inl rfl | exact Or.inr rfl) (zaP zcf (zaP zbp (pv 2) zag) zag))
      (zae (zbG (zaM zcl (zaP zcf (pv 2) zag) zag (zaI _))
      (zak (zaZ (i:=4) sc_law_parts.nd rfl (by first | exact Or.inl rfl | exact Or.inr rfl) (zaP zcf (zaP zdE (zaP zcK (zaP zcf (pv 0) (zaP zga zag zag)) zag) (pv 2)) (zaP zga zag zag))))
      zaV)
      (zae (zaZ (i:=5) sc_law_parts.nd rfl (by first | exact Or.inl rfl | exact Or.inr rfl) (zaF G_law_divisor (hr.mono (by decide)) (by rfl) za4 (zaa (pv 3) (zaa (pv 4) zah))))
      (zak (zaC (zc2 (zaa (zaP zbp (pv 4) (pv 5)) (zaa (zaP zbp (pv 3) (pv 5)) zah)))))))))),zbT (K:=(KX K)) (XO:=XO0) (E:=E) (np:=2) (nv:=4) (m:=zd8)
      (zaq (zaQ (zap (zad zam (zad (zaj zdC zac (zaf).r) zau))) zaw)
      (zaq (zaQ (zaj zdj ((zdq (zad zaf (zad zaf (zad zaf (zad zaf (zad zaf (zad zaf (zad zaf (zad zaf (zad (zaj zdC (zaf).r ((zaj zcc ((zaj zcG zac (zaf).r)).r (zaf).r)).r) zau))))))))))).e.r ((zaj zcc ((zaj zcG zac (zaf).r)).r (zaf).r)).r) zaw)
      (zaq (zaQ (zaj zcc ((zaj zcG zac (zaf).r)).r (zaf).r) zaw)
      (zaq (zbH (zaJ (zaj zci ((zaj zcc zac (zaf).r)).r (zaf).r))
      (zaQ (zaj zcc ((zaj zdC ((zaj zdH ((zaj zcc zac ((zaj zfQ (zaf).r (zaf).r)).r)).r (zaf).r)).r zac)).r ((zaj zfQ (zaf).r (zaf).r)).r) zaw)
      zaW)
      (zaq (zaQ (zap (zad zam (zad zam zau))) zaw)
      (zaG (zc8 (zad (zaj zcG zac zac) (zad (zaj zcG zac zac) zau))))))))) rfl h⟩
abbrev zdn:Stmt:=top 55
theorem sc_law_unit:FnScope ["_law_amounts","_law_unit_here","_law_top","_law_bottom"] ["_law_amounts"] (zal zdn):=⟨rfl,rfl,rfl,by decide +kernel,rfl,by decide +kernel,by decide +kernel⟩
theorem zgg {f:Addr} {fd:FuncData} (F:Fun K "_law_unit" "_law_unit" zdn f fd) (T:Txt K mg) (G_law_divisor:Has P w K mg base CX0 1 "_law_divisor" ["_law_one","_law_other"] (spM (KX K) XO0 zaH)):FnOk P w K mg base CX0 2 f fd ["_law_amounts"] (spM (KX K) XO0 zbL):=by
  refine F.ok sc_law_unit (fun vs H Q E h=>za0 h) (fun cdv A outer s H vs Q E hr h=>?_)
  have hu:=zbF hr
  exact ⟨_,(zae (zaZ (i:=1) sc_law_unit.nd rfl (by first | exact Or.inl rfl | exact Or.inr rfl) zag)
      (zae (zfG PassesOwn.never rfl (zck (pv 0)) (zgO rfl (zbY (zbc (i:=2) sc_law_unit.nd rfl (by first | exact Or.inl rfl | exact Or.inr rfl)) (zbY (zbc (i:=3) sc_law_unit.nd rfl (by first | exact Or.inl rfl | exact Or.inr rfl)) ze7)))
      (zak (zaZ (i:=1) sc_law_unit.nd rfl (by first | exact Or.inl rfl | exact Or.inr rfl) (zaP zbp (zaP zcK (pv 1) (pv 3)) (zaF G_law_divisor (hr.mono (by decide)) (by rfl) za4 (zaa (pv 1) (zaa (pv 3) zah)))))))
      (zak (zaC (pv 1))))),zbT (K:=(KX K)) (XO:=XO0) (E:=E) (np:=1) (nv:=3) (m:=zeJ)
      (zaq (zaQ zaf zaw)
      (zaq (zfz (zgs zam) (zgI (zb2 zaw (zb2 zaw zeX)))
      (zaQ (zaj zcG ((zaj zdH zac zac)).r ((zap (zad zam (zad zam zau)))).r) zaw))
      (zaG zam))) rfl h⟩
abbrev zcq:Stmt:=top 54
theorem zep:FnScope ["_law_one"] ["_law_one"] (zal zcq):=⟨rfl,rfl,rfl,by decide +kernel,rfl,by decide +kernel,by decide +kernel⟩
theorem zet {f:Addr} {fd:FuncData} (F:Fun K "_law_written" "_law_written" zcq f fd) (T:Txt K mg)  : FnOk P w K mg base CX0 1 f fd ["_law_one"] (spM (KX K) XO0 zaO):=by
  refine F.ok zep (fun vs H Q E h=>za0 h) (fun cdv A outer s H vs Q E hr h=>?_)
  have hu:=zbF hr
  exact ⟨_,(zae (zbG (zaM zcl (zbb za7 (pv 0) zag (fun _ _=>rfl)) zag (zaI _))
      (zak (zaC (zce zda (by rfl) T.str boot_str (zaa (zbb za7 (pv 0) zag (fun _ _=>rfl)) zah))))
      zaV)
      (zak (zaC (zaP zeE (zaP zeE (zce zda (by rfl) T.str boot_str (zaa (zbb za7 (pv 0) zag (fun _ _=>rfl)) zah)) zbm) (zce zda (by rfl) T.str boot_str (zaa (zbb za7 (pv 0) zag (fun _ _=>rfl)) zah)))))),zbT (K:=(KX K)) (XO:=XO0) (E:=E) (np:=1) (nv:=0) (m:=zdb)
      (zaq (zbH (zaJ (zaj zci ((zaj za6 zac (zaf).r)).r (zaf).r))
      (zaG (zbW zeP (zaE ((zaj za6 zac (zaf).r)).r zaX)))
      zaW)
      (zaG (zaj zh1 ((zaj zh1 ((zbW zeP (zaE ((zaj za6 zac (zaf).r)).r zaX))).r (zbD).r)).r ((zbW zeP (zaE ((zaj za6 zac (zaf).r)).r zaX))).r))) rfl h⟩
abbrev zb9:Stmt:=top 23
theorem zd2:FnScope ["wrong","line"] ["wrong","line"] (zal zb9):=⟨rfl,rfl,rfl,by decide +kernel,rfl,by decide +kernel,by decide +kernel⟩
theorem zdU {f:Addr} {fd:FuncData} (F:Fun K "refuse_where" "refuse_where" zb9 f fd) (T:Txt K mg)  : FnOk P w K mg base CX0 1 f fd ["wrong","line"] (spM (KX K) XO0 zao):=by
  refine F.ok zd2 (fun vs H Q E h=>za0 h) (fun cdv A outer s H vs Q E hr h=>?_)
  have hu:=zbF hr
  exact ⟨_,(zak (zbG (zcz (pv 0))
      (zak zgJ)
      zaV)),zbT (K:=(KX K)) (XO:=XO0) (E:=E) (np:=2) (nv:=0) (m:=zb7)
      (zbH (st_b zam)
      zgQ
      zaW) rfl h⟩
abbrev zbi:Stmt:=top 31
theorem zcN:FnScope ["words","least","most","line"] ["words","least","most","line"] (zal zbi):=⟨rfl,rfl,rfl,by decide +kernel,rfl,by decide +kernel,by decide +kernel⟩
theorem zcO {f:Addr} {fd:FuncData} (F:Fun K "refuse_word_count" "refuse_word_count" zbi f fd) (T:Txt K mg) (G_refuse_where:Has P w K mg base CX0 1 "refuse_where" ["wrong","line"] (spM (KX K) XO0 zao)):FnOk P w K mg base CX0 2 f fd ["words","least","most","line"] (spM (KX K) XO0 zaB):=by
  refine F.ok zcN (fun vs H Q E h=>za0 h) (fun cdv A outer s H vs Q E hr h=>?_)
  have hu:=zbF hr
  exact ⟨_,(zak (zbE (zaF G_refuse_where (hr.mono (by decide)) (by rfl) za4 (zaa (zjh (zbI zjc (zay zaR (by rfl) T.len PySem.boot_len (zaa (pv 0) zah)) (pv 1) (zaI _)) (zeF (zbI zfh (zay zaR (by rfl) T.len PySem.boot_len (zaa (pv 0) zah)) (pv 2) (zaI _)))) (zaa (pv 3) zah))))),zbT (K:=(KX K)) (XO:=XO0) (E:=E) (np:=4) (nv:=0) (m:=zbl)
      (zbN (zap (zad (zji (zaj ziV ((zbW zcS (zaE zac zaX))).r zac) (zaj zfL ((zbW zcS (zaE zac zaX))).r zac)) (zad zam zau)))) rfl h⟩
abbrev zct:Stmt:=top 24
theorem zf4:FnScope ["word"] ["word"] (zal zct):=⟨rfl,rfl,rfl,by decide +kernel,rfl,by decide +kernel,by decide +kernel⟩
theorem zfY {f:Addr} {fd:FuncData} (F:Fun K "is_number" "is_number" zct f fd) (T:Txt K mg)  : FnOk P w K mg base CX0 1 f fd ["word"] (spM (KX K) XO0 zbj):=by
  refine F.ok zf4 (fun vs H Q E h=>za0 h) (fun cdv A outer s H vs Q E hr h=>?_)
  have hu:=zbF hr
  exact ⟨_,(zae (zbG ((zd9 (zaM zcl (zay zdD (by rfl) T.len PySem.boot_len (zaa (pv 0) zah)) zag (zaI _)) (zea (zaM zfh (zay zdD (by rfl) T.len PySem.boot_len (zaa (pv 0) zah)) (zdR (by rfl) T.g_MOST_FIGURES) (zaI _))))).pt
      (zak (zaC zev))
      zaV)
      (zae (zbG (zcz (zay (zhn rfl) (by rfl) T.any boot_any (zaa (zeb rfl (zjq (pv 0)) (zdA (zal zct) ["word"] ["sign"] [] 1 rfl rfl rfl (by decide +kernel) (by decide +kernel) (by decide +kernel) rfl (by decide +kernel) (fun cl C s H fp pins=>(zbc (i:=0) (show List.Nodup (["sign"]:List Str) by decide +kernel) rfl (Or.inl rfl))) (fun cl C s H fp pins=>(zbI zhC (pv 0) (zii (by rfl) (by exact T.g_FIGURES)) (by with_unfolding_all rfl))) (Or.inl ⟨rfl,rfl⟩))) zah)))
      (zak (zaC zev))
      zaV)
      (zak (zaC (zjh (zbI zhb (zbb zjZ (pv 0) zag (fun _ _=>rfl)) zbm (zaI _)) (zeF (zbI zcl (pv 0) zbm (zaI _)))))))),zbT (K:=(KX K)) (XO:=XO0) (E:=E) (np:=1) (nv:=0) (m:=zdV)
      (zaq (zbH (zd5 (zaJ (zaj zci ((zbW zhY (zaE zac zaX))).r (zaf).r)) (zaJ (zaj zfL ((zbW zhY (zaE zac zaX))).r (zaf).r)))
      (zaG zeo)
      zaW)
      (zaq (zbH (st_b (zbW zjR (zaE ((zbX (zjx zam).c (by decide) zbz zb6 (Or.inl ⟨rfl,rfl⟩) (zaj zjF zac (zbD).r))).e.r zaX)))
      (zaG zeo)
      zaW)
      (zaG (zji (zaj zg5 ((zaj zjM zac (zaf).r)).r (zbD).r) (zaj zci zac (zbD).r))))) rfl h⟩
abbrev zbS:Stmt:=top 7
theorem sc_common_factor:FnScope ["one","other","great","small","rest"] ["one","other"] (zal zbS):=⟨rfl,rfl,rfl,by decide +kernel,rfl,by decide +kernel,by decide +kernel⟩
theorem zdL {f:Addr} {fd:FuncData} (F:Fun K "common_factor" "common_factor" zbS f fd) (T:Txt K mg)  : FnOk P w K mg base CX0 1 f fd ["one","other"] (spM (KX K) XO0 zaL):=by
  refine F.ok sc_common_factor (fun vs H Q E h=>za0 h) (fun cdv A outer s H vs Q E hr h=>?_)
  have hu:=zbF hr
  exact ⟨_,(zae (zaZ (i:=2) sc_common_factor.nd rfl (by first | exact Or.inl rfl | exact Or.inr rfl) (zay zgP (by rfl) T.abs boot_abs (zaa (pv 0) zah)))
      (zae (zaZ (i:=3) sc_common_factor.nd rfl (by first | exact Or.inl rfl | exact Or.inr rfl) (zay zgP (by rfl) T.abs boot_abs (zaa (pv 1) zah)))
      (zae (zgM PassesOwn.never (zaM zfh (pv 3) zag (zaI _))
      (zae (zaZ (i:=4) sc_common_factor.nd rfl (by first | exact Or.inl rfl | exact Or.inr rfl) (zaP zcf (pv 2) (pv 3)))
      (zae (zaZ (i:=2) sc_common_factor.nd rfl (by first | exact Or.inl rfl | exact Or.inr rfl) (pv 3))
      (zak (zaZ (i:=3) sc_common_factor.nd rfl (by first | exact Or.inl rfl | exact Or.inr rfl) (pv 4))))))
      (zak (zaC (pv 2)))))),zbT (K:=(KX K)) (XO:=XO0) (E:=E) (np:=2) (nv:=3) (m:=zbU)
      (zaq (zaQ (zbW ziy (zaE zac zaX)) zaw)
      (zaq (zaQ (zbW ziy (zaE zac zaX)) zaw)
      (zaq (zgR (zaJ (zaj zfL zac (zaf).r))
      (zaq (zaQ (zaj zcc zac zac) zaw)
      (zaq (zaQ zam zaw)
      (zaQ zam zaw))))
      (zaG zam)))) rfl h⟩
abbrev zcu:Stmt:=top 26
theorem sc_amount_in:FnScope ["word","line","parts","top","bottom"] ["word","line"] (zal zcu):=⟨rfl,rfl,rfl,by decide +kernel,rfl,by decide +kernel,by decide +kernel⟩
theorem zfI {f:Addr} {fd:FuncData} (F:Fun K "amount_in" "amount_in" zcu f fd) (T:Txt K mg) (G_refuse_where:Has P w K mg base CX0 1 "refuse_where" ["wrong","line"] (spM (KX K) XO0 zao)) (G_is_number:Has P w K mg base CX0 1 "is_number" ["word"] (spM (KX K) XO0 zbj)) (G_common_factor:Has P w K mg base CX0 1 "common_factor" ["one","other"] (spM (KX K) XO0 zaL)):FnOk P w K mg base CX0 2 f fd ["word","line"] (spM (KX K) XO0 zbV):=by
  refine F.ok sc_amount_in (fun vs H Q E h=>za0 h) (fun cdv A outer s H vs Q E hr h=>?_)
  have hu:=zbF hr
  exact ⟨_,(zae (zaZ (i:=2) sc_amount_in.nd rfl (by first | exact Or.inl rfl | exact Or.inr rfl) (zhX PySem.F.plainAttrs_str PySem.F.slot_str_split PySem.F.type_str_split zfb (pv 0) (zaa zbm zah)))
      (zae (zbE (zaF G_refuse_where (hr.mono (by decide)) (by rfl) za4 (zaa (zbI zfh (zay zaR (by rfl) T.len PySem.boot_len (zaa (pv 2) zah)) zag (zaI _)) (zaa (pv 1) zah))))
      (zae (zbE (zaF G_refuse_where (hr.mono (by decide)) (by rfl) za4 (zaa (zjI (zay (zhr rfl) (by rfl) T.all boot_all (zaa (zeb rfl (zck (pv 2)) (zdA (zal zcu) ["word","line","parts","top","bottom"] ["part"] [] 1 rfl rfl rfl (by decide +kernel) (by decide +kernel) (by decide +kernel) rfl (by decide +kernel) (fun cl C s H fp pins=>(zbc (i:=0) (show List.Nodup (["part"]:List Str) by decide +kernel) rfl (Or.inl rfl))) (fun cl C s H fp pins=>(zaF G_is_number (hr.mono (by decide)) (by rfl) za4 (zaa (pv 0) zah))) (Or.inl ⟨rfl,rfl⟩))) zah))) (zaa (pv 1) zah))))
      (zae (zaZ (i:=3) sc_amount_in.nd rfl (by first | exact Or.inl rfl | exact Or.inr rfl) (zce zfq (by rfl) T.int boot_int (zaa (zbb zcw (pv 2) zag (fun _ _=>rfl)) zah)))
      (zae (zbG (zaM zcl (zay zaR (by rfl) T.len PySem.boot_len (zaa (pv 2) zah)) zag (zaI _))
      (zak (zaC (zc2 (zaa (pv 3) (zaa zag zah)))))
      zaV)
      (zae (zaZ (i:=4) sc_amount_in.nd rfl (by first | exact Or.inl rfl | exact Or.inr rfl) (zce zfq (by rfl) T.int boot_int (zaa (zbb zcw (pv 2) zag (fun _ _=>rfl)) zah)))
      (zae (zbE (zaF G_refuse_where (hr.mono (by decide)) (by rfl) za4 (zaa (zjh (zbI zjc (pv 4) zag (zaI _)) (zeF (zbI zfh (pv 4) (zdR (by rfl) T.g_MOST_BOTTOM) (zaI _)))) (zaa (pv 1) zah))))
      (zae (zbE (zaF G_refuse_where (hr.mono (by decide)) (by rfl) za4 (zaa (zbI zfh (zaF G_common_factor (hr.mono (by decide)) (by rfl) za4 (zaa (pv 3) (zaa (pv 4) zah))) zag (zaI _)) (zaa (pv 1) zah))))
      (zak (zaC (zc2 (zaa (pv 3) (zaa (pv 4) zah))))))))))))),zbT (K:=(KX K)) (XO:=XO0) (E:=E) (np:=2) (nv:=3) (m:=zd6)
      (zaq (zaQ ((zee zam)).e zaw)
      (zaq (zbN (zap (zad (zaj zfL ((zbW zcS (zaE zac zaX))).r (zaf).r) (zad zam zau))))
      (zaq (zbN (zap (zad (zju (zbW zjv (zaE ((zbX (zcL zac) (by decide) zbz zb6 (Or.inl ⟨rfl,rfl⟩) (zap (zad zam zau)))).e.r zaX))) (zad zam zau))))
      (zaq (zaQ (zbW zhD (zaE ((zaj zdj zac (zaf).r)).r zaX)) zaw)
      (zaq (zbH (zaJ (zaj zci ((zbW zcS (zaE zac zaX))).r (zaf).r))
      (zaG (zc8 (zad zam (zad zaf zau))))
      zaW)
      (zaq (zaQ (zbW zhD (zaE ((zaj zdj zac (zaf).r)).r zaX)) zaw)
      (zaq (zbN (zap (zad (zji (zaj ziV zac (zaf).r) (zaj zfL zac (zaf).r)) (zad zam zau))))
      (zaq (zbN (zap (zad (zaj zfL ((zap (zad zam (zad zam zau)))).r (zaf).r) (zad zam zau))))
      (zaG (zc8 (zad zam (zad zam zau)))))))))))) rfl h⟩
abbrev zbx:Stmt:=top 8
theorem zdd:FnScope ["one","other"] ["one","other"] (zal zbx):=⟨rfl,rfl,rfl,by decide +kernel,rfl,by decide +kernel,by decide +kernel⟩
theorem zc7 {f:Addr} {fd:FuncData} (F:Fun K "common_multiple" "common_multiple" zbx f fd) (T:Txt K mg) (G_common_factor:Has P w K mg base CX0 1 "common_factor" ["one","other"] (spM (KX K) XO0 zaL)):FnOk P w K mg base CX0 2 f fd ["one","other"] (spM (KX K) XO0 zaT):=by
  refine F.ok zdd (fun vs H Q E h=>za0 h) (fun cdv A outer s H vs Q E hr h=>?_)
  have hu:=zbF hr
  exact ⟨_,(zak (zaC (zaP zcK (pv 0) (zaP zbp (pv 1) (zaF G_common_factor (hr.mono (by decide)) (by rfl) za4 (zaa (pv 0) (zaa (pv 1) zah))))))),zbT (K:=(KX K)) (XO:=XO0) (E:=E) (np:=2) (nv:=0) (m:=zbv)
      (zaG (zaj zdH zac ((zaj zcG zac ((zap (zad zam (zad zam zau)))).r)).r)) rfl h⟩
abbrev zeh:Stmt:=top 28
theorem sc_unit_of:FnScope ["amounts","unit","amount"] ["amounts"] (zal zeh):=⟨rfl,rfl,rfl,by decide +kernel,rfl,by decide +kernel,by decide +kernel⟩
theorem zhc {f:Addr} {fd:FuncData} (F:Fun K "unit_of" "unit_of" zeh f fd) (T:Txt K mg) (G_common_multiple:Has P w K mg base CX0 2 "common_multiple" ["one","other"] (spM (KX K) XO0 zaT)):FnOk P w K mg base CX0 3 f fd ["amounts"] (spM (KX K) XO0 zcd):=by
  refine F.ok sc_unit_of (fun vs H Q E h=>za0 h) (fun cdv A outer s H vs Q E hr h=>?_)
  have hu:=zbF hr
  exact ⟨_,(zae (zaZ (i:=1) sc_unit_of.nd rfl (by first | exact Or.inl rfl | exact Or.inr rfl) zag)
      (zae (zfG PassesOwn.never rfl (zck (pv 0)) (zbc (i:=2) sc_unit_of.nd rfl (by first | exact Or.inl rfl | exact Or.inr rfl))
      (zak (zaZ (i:=1) sc_unit_of.nd rfl (by first | exact Or.inl rfl | exact Or.inr rfl) (zaF G_common_multiple (hr.mono (by decide)) (by rfl) za4 (zaa (pv 1) (zaa (zbb za7 (pv 2) zag (fun _ _=>rfl)) zah))))))
      (zak (zaC (pv 1))))),zbT (K:=(KX K)) (XO:=XO0) (E:=E) (np:=1) (nv:=2) (m:=zfr)
      (zaq (zaQ zaf zaw)
      (zaq (zfz (zgs zam) zaw
      (zaQ (zap (zad zam (zad (zaj za6 zac (zaf).r) zau))) zaw))
      (zaG zam))) rfl h⟩
abbrev zcx:Stmt:=top 29
theorem zew:FnScope ["amount","unit"] ["amount","unit"] (zal zcx):=⟨rfl,rfl,rfl,by decide +kernel,rfl,by decide +kernel,by decide +kernel⟩
theorem zeC {f:Addr} {fd:FuncData} (F:Fun K "by_the_unit" "by_the_unit" zcx f fd) (T:Txt K mg)  : FnOk P w K mg base CX0 1 f fd ["amount","unit"] (spM (KX K) XO0 zbf):=by
  refine F.ok zew (fun vs H Q E h=>za0 h) (fun cdv A outer s H vs Q E hr h=>?_)
  have hu:=zbF hr
  exact ⟨_,(zak (zaC (zaP zcK (zbb za7 (pv 0) zag (fun _ _=>rfl)) (zaP zbp (pv 1) (zbb za7 (pv 0) zag (fun _ _=>rfl)))))),zbT (K:=(KX K)) (XO:=XO0) (E:=E) (np:=2) (nv:=0) (m:=zcj)
      (zaG (zaj zdH ((zaj za6 zac (zaf).r)).r ((zaj zcG zac ((zaj za6 zac (zaf).r)).r)).r)) rfl h⟩
abbrev zbe:Stmt:=top 30
theorem zdl:FnScope ["amounts","unit"] ["amounts","unit"] (zal zbe):=⟨rfl,rfl,rfl,by decide +kernel,rfl,by decide +kernel,by decide +kernel⟩
theorem zdk {f:Addr} {fd:FuncData} (F:Fun K "all_by_the_unit" "all_by_the_unit" zbe f fd) (T:Txt K mg) (G_by_the_unit:Has P w K mg base CX0 1 "by_the_unit" ["amount","unit"] (spM (KX K) XO0 zbf)):FnOk P w K mg base CX0 2 f fd ["amounts","unit"] (spO (KX K) XO0 za2):=by
  refine F.ok zdl (fun vs H Q E h=>zhU h) (fun cdv A outer s H vs Q E hr h=>?_)
  have hu:=zbF hr
  exact ⟨_,(zak (zaC (zeb rfl (zck (pv 0)) (zdA (zal zbe) ["amounts","unit"] ["unit","amount"] [1] 1 rfl rfl rfl (by decide +kernel) (by decide +kernel) (by decide +kernel) rfl (by decide +kernel) (fun cl C s H fp pins=>(zbc (i:=1) (show List.Nodup (["unit","amount"]:List Str) by decide +kernel) rfl (Or.inl rfl))) (fun cl C s H fp pins=>(zaF G_by_the_unit (hr.mono (by decide)) (by rfl) za4 (zaa (pv 1) (zaa (pv 0) zah)))) (Or.inl ⟨rfl,rfl⟩))))),ziP (K:=(KX K)) (XO:=XO0) (E:=E) (np:=2) (nv:=0) (m:=zch)
      (zh0 (zbX (zcL zac) (by decide) zbz zb6 (Or.inl ⟨rfl,rfl⟩) (zap (zad zam (zad zam zau))))) rfl h⟩
abbrev zb1:Stmt:=top 35
theorem sc_read_touch:FnScope ["rows","prices","lines","line","unit"] ["rows"] (zal zb1):=⟨rfl,rfl,rfl,by decide +kernel,rfl,by decide +kernel,by decide +kernel⟩
theorem zeR {f:Addr} {fd:FuncData} (F:Fun K "read_touch" "read_touch" zb1 f fd) (T:Txt K mg) (G_refuse_where:Has P w K mg base CX0 1 "refuse_where" ["wrong","line"] (spM (KX K) XO0 zao)) (G_refuse_word_count:Has P w K mg base CX0 2 "refuse_word_count" ["words","least","most","line"] (spM (KX K) XO0 zaB)) (G_amount_in:Has P w K mg base CX0 2 "amount_in" ["word","line"] (spM (KX K) XO0 zbV)) (G_unit_of:Has P w K mg base CX0 3 "unit_of" ["amounts"] (spM (KX K) XO0 zcd)) (G_all_by_the_unit:Has P w K mg base CX0 2 "all_by_the_unit" ["amounts","unit"] (spO (KX K) XO0 za2)):FnOk P w K mg base CX0 4 f fd ["rows"] (spM (KX K) XO0 zbB):=by
  refine F.ok sc_read_touch (fun vs H Q E h=>za0 h) (fun cdv A outer s H vs Q E hr h=>?_)
  have hu:=zbF hr
  exact ⟨_,(zae (zbE (zaF G_refuse_word_count (hr.mono (by decide)) (by rfl) za4 (zaa (zbb zcw (pv 0) zag (fun _ _=>rfl)) (zaa zag (zaa (zaP zdE zag (zdR (by rfl) T.g_MOST_THINGS)) (zaa zag zah))))))
      (zae (zgm (i:=1) sc_read_touch.nd rfl (by first | exact Or.inl rfl | exact Or.inr rfl) rfl (zck (zgH zhe (zbb zcw (pv 0) zag (fun _ _=>rfl)) (zgn zag) zi8)) (zdA (zal zb1) ["rows","prices","lines","line","unit"] ["word"] [] 1 rfl rfl rfl (by decide +kernel) (by decide +kernel) (by decide +kernel) rfl (by decide +kernel) (fun cl C s H fp pins=>(zbc (i:=0) (show List.Nodup (["word"]:List Str) by decide +kernel) rfl (Or.inl rfl))) (fun cl C s H fp pins=>(zaF G_amount_in (hr.mono (by decide)) (by rfl) za4 (zaa (pv 0) (zaa zag zah)))) (Or.inl ⟨rfl,rfl⟩)) rfl)
      (zae (zaZ (i:=2) sc_read_touch.nd rfl (by first | exact Or.inl rfl | exact Or.inr rfl) (zeK zah))
      (zae (zfG PassesOwn.never rfl (zh5 rfl T.range (zaa zag (zaa (zay zaR (by rfl) T.len PySem.boot_len (zaa (pv 0) zah)) zah))) (zbc (i:=3) sc_read_touch.nd rfl (by first | exact Or.inl rfl | exact Or.inr rfl))
      (zae (zbE (zaF G_refuse_where (hr.mono (by decide)) (by rfl) za4 (zaa (zbI zfh (pv 3) (zdR (by rfl) T.g_MOST_LINES) (zaI _)) (zaa (pv 3) zah))))
      (zak (zbE (zhX PySem.F.plainAttrs_list PySem.F.slot_list_append PySem.F.type_list_append zfx (pv 2) (zaa zby zah))))))
      (zae (zaZ (i:=4) sc_read_touch.nd rfl (by first | exact Or.inl rfl | exact Or.inr rfl) (zaF G_unit_of (hr.mono (by decide)) (by rfl) za4 (zaa (pv 1) zah)))
      (zak (zaC (zc2 (zaa (pv 4) (zaa (zc2 (zaa (zaF G_all_by_the_unit (hr.mono (by decide)) (by rfl) za4 (zaa (pv 1) (zaa (pv 4) zah))) (zaa (pv 2) zah))) zah)))))))))),zbT (K:=(KX K)) (XO:=XO0) (E:=E) (np:=1) (nv:=4) (m:=zdz)
      (zaq (zbN (zap (zad (zaj zdj zac (zaf).r) (zad zaf (zad (zaj zdC (zaf).r (zaf).r) (zad zaf zau))))))
      (zaq (zaQ ((zbX (zcL ((zfu ((zaj zdj zac (zaf).r)).r (zgx zaf) zku)).e.r) (by decide) zbz zb6 (Or.inl ⟨rfl,rfl⟩) (zap (zad zam (zad zaf zau))))).e zaw)
      (zaq (zkh (zdq zau))
      (zaq (zfz (zhx len2 (zad zaf (zad (zbW zcS (zaE zac zaX)) zau))) zaw
      (zaq (zbN (zap (zad (zaj zfL zac (zaf).r) (zad zam zau))))
      (zhK zbA)))
      (zaq (zaQ (zap (zad zam zau)) zaw)
      (zjT (i:=2) (zaG (zc8 (zad zam (zad (zc8 (zad ((zfZ (zad zam (zad zam zau)))).e (zad zam zau))) zau)))))))))) rfl h⟩
abbrev zcW:Stmt:=top 44
theorem zfw:FnScope ["kind","rows"] ["kind","rows"] (zal zcW):=⟨rfl,rfl,rfl,by decide +kernel,rfl,by decide +kernel,by decide +kernel⟩
theorem zfX {f:Addr} {fd:FuncData} (F:Fun K "read_rows" "read_rows" zcW f fd) (T:Txt K mg) (G_read_touch:Has P w K mg base CX0 4 "read_touch" ["rows"] (spM (KX K) XO0 zbB)):FnOk P w K mg base CX0 5 f fd ["kind","rows"] (spM (KX K) XO0 zbk):=by
  refine F.ok zfw (fun vs H Q E h=>za0 h) (fun cdv A outer s H vs Q E hr h=>?_)
  have hu:=zbF hr
  exact ⟨_,(zae (zbG (zaM zcl (pv 0) zbm (zaI _))
      (zak (zaC zby))
      zaV)
      (zae (zbG (zaM zcl (pv 0) zbm (zaI _))
      (zak (zaC (zaF G_read_touch (hr.mono (by decide)) (by rfl) za4 (zaa (pv 1) zah))))
      zaV)
      (zae (zbG (zaM zcl (pv 0) zbm (zaI _))
      (zak (zaC zby))
      zaV)
      (zae (zbG (zaM zcl (pv 0) zbm (zaI _))
      (zak (zaC zby))
      zaV)
      (zae (zbG (zaM zcl (pv 0) zbm (zaI _))
      (zak (zaC zby))
      zaV)
      (zae (zbG (zaM zcl (pv 0) zbm (zaI _))
      (zak (zaC zby))
      zaV)
      (zae (zbG (zaM zcl (pv 0) zbm (zaI _))
      (zak (zaC zby))
      zaV)
      (zak zgJ)))))))),zbT (K:=(KX K)) (XO:=XO0) (E:=E) (np:=2) (nv:=0) (m:=zcZ)
      (zaq (zbH (zaJ (zaj zci zac (zbD).r))
      (zaG zbA)
      zaW)
      (zaq (zbH (zaJ (zaj zci zac (zbD).r))
      (zaG (zap (zad zam zau)))
      zaW)
      (zaq (zbH (zaJ (zaj zci zac (zbD).r))
      (zaG zbA)
      zaW)
      (zaq (zbH (zaJ (zaj zci zac (zbD).r))
      (zaG zbA)
      zaW)
      (zaq (zbH (zaJ (zaj zci zac (zbD).r))
      (zaG zbA)
      zaW)
      (zaq (zbH (zaJ (zaj zci zac (zbD).r))
      (zaG zbA)
      zaW)
      (zaq (zbH (zaJ (zaj zci zac (zbD).r))
      (zaG zbA)
      zaW)
      zgQ))))))) rfl h⟩
abbrev zb8:Stmt:=top 45
theorem zdY:FnScope ["kind","given"] ["kind","given"] (zal zb8):=⟨rfl,rfl,rfl,by decide +kernel,rfl,by decide +kernel,by decide +kernel⟩
theorem zeg {f:Addr} {fd:FuncData} (F:Fun K "refuse_given" "refuse_given" zb8 f fd) (T:Txt K mg)  : FnOk P w K mg base CX0 1 f fd ["kind","given"] (spM (KX K) XO0 za1):=by
  refine F.ok zdY (fun vs H Q E h=>za0 h) (fun cdv A outer s H vs Q E hr h=>?_)
  have hu:=zbF hr
  exact ⟨_,(zak (zbG (zaM zcl (pv 0) zbm (zaI _))
      (zak (zbE zby))
      (zak (zbG ((zd9 (zaM zcl (pv 0) zbm (zaI _)) (zea (zaM zcl (pv 0) zbm (zaI _))))).pt
      (zak (zbE zby))
      (zak (zbG (zaM zcl (pv 0) zbm (zaI _))
      (zak (zbE zby))
      zaV)))))),zbT (K:=(KX K)) (XO:=XO0) (E:=E) (np:=2) (nv:=0) (m:=zcb)
      (zbH (zaJ (zaj zci zac (zbD).r))
      (zbN zbA)
      (zbH (zd5 (zaJ (zaj zci zac (zbD).r)) (zaJ (zaj zci zac (zbD).r)))
      (zbN zbA)
      (zbH (zaJ (zaj zci zac (zbD).r))
      (zbN zbA)
      zaW))) rfl h⟩
abbrev zgF:Stmt:=top 46
theorem sc_read:FnScope ["text","rows","kind","told"] ["text"] (zal zgF):=⟨rfl,rfl,rfl,by decide +kernel,rfl,by decide +kernel,by decide +kernel⟩
theorem ziX {f:Addr} {fd:FuncData} (F:Fun K "read" "read" zgF f fd) (T:Txt K mg) (G_read_rows:Has P w K mg base CX0 5 "read_rows" ["kind","rows"] (spM (KX K) XO0 zbk)) (G_refuse_given:Has P w K mg base CX0 1 "refuse_given" ["kind","given"] (spM (KX K) XO0 za1)):FnOk P w K mg base CX0 6 f fd ["text"] (spM (KX K) XO0 zeG):=by
  refine F.ok sc_read (fun vs H Q E h=>za0 h) (fun cdv A outer s H vs Q E hr h=>?_)
  have hu:=zbF hr
  exact ⟨_,(zae (zgm (i:=1) sc_read.nd rfl (by first | exact Or.inl rfl | exact Or.inr rfl) rfl (zck (zhX PySem.F.plainAttrs_str PySem.F.slot_str_split PySem.F.type_str_split zfb (pv 0) (zaa zbm zah))) (zdA (zal zgF) ["text","rows","kind","told"] ["line"] [] 1 rfl rfl rfl (by decide +kernel) (by decide +kernel) (by decide +kernel) rfl (by decide +kernel) (fun cl C s H fp pins=>(zbc (i:=0) (show List.Nodup (["line"]:List Str) by decide +kernel) rfl (Or.inl rfl))) (fun cl C s H fp pins=>(zhX PySem.F.plainAttrs_str PySem.F.slot_str_split PySem.F.type_str_split zfb (pv 0) (zaa zbm zah))) (Or.inl ⟨rfl,rfl⟩)) rfl)
      (zae (zaZ (i:=2) sc_read.nd rfl (by first | exact Or.inl rfl | exact Or.inr rfl) (zbb zcw (zbb zcw (pv 1) zag (fun _ _=>rfl)) zag (fun _ _=>rfl)))
      (zae (zaZ (i:=3) sc_read.nd rfl (by first | exact Or.inl rfl | exact Or.inr rfl) (zaF G_read_rows (hr.mono (by decide)) (by rfl) za4 (zaa (pv 2) (zaa (pv 1) zah))))
      (zae (zbE (zaF G_refuse_given (hr.mono (by decide)) (by rfl) za4 (zaa (pv 2) (zaa (zbb za7 (pv 3) zag (fun _ _=>rfl)) zah))))
      (zak (zaC (zc2 (zaa (pv 2) (zaa (zbb za7 (pv 3) zag (fun _ _=>rfl)) (zaa (zbb za7 (pv 3) zag (fun _ _=>rfl)) zah)))))))))),zbT (K:=(KX K)) (XO:=XO0) (E:=E) (np:=1) (nv:=3) (m:=ziK)
      (zaq (zaQ ((zbX (zcL ((zee zam)).e.r) (by decide) zbz zb6 (Or.inl ⟨rfl,rfl⟩) ((zee zam)).e)).e zaw)
      (zaq (zaQ (zaj zdj ((zaj zdj zac (zaf).r)).r (zaf).r) zaw)
      (zaq (zaQ (zap (zad zam (zad zam zau))) zaw)
      (zaq (zbN (zap (zad zam (zad (zaj za6 zac (zaf).r) zau))))
      (zaG (zc8 (zad zam (zad (zaj za6 zac (zaf).r) (zad (zaj za6 zac (zaf).r) zau))))))))) rfl h⟩
abbrev zb3:Stmt:=top 56
theorem zeU:FnScope ["_law_amounts","_law_unit_here"] ["_law_amounts","_law_unit_here"] (zal zb3):=⟨rfl,rfl,rfl,by decide +kernel,rfl,by decide +kernel,by decide +kernel⟩
theorem zeY {f:Addr} {fd:FuncData} (F:Fun K "_law_wholes" "_law_wholes" zb3 f fd) (T:Txt K mg)  : FnOk P w K mg base CX0 1 f fd ["_law_amounts","_law_unit_here"] (spO (KX K) XO0 zbn):=by
  refine F.ok zeU (fun vs H Q E h=>zhU h) (fun cdv A outer s H vs Q E hr h=>?_)
  have hu:=zbF hr
  exact ⟨_,(zak (zaC (zeb rfl (zck (pv 0)) (zdA (zal zb3) ["_law_amounts","_law_unit_here"] ["_law_unit_here","_law_top","_law_bottom"] [1] 2 rfl rfl rfl (by decide +kernel) (by decide +kernel) (by decide +kernel) rfl (by decide +kernel) (fun cl C s H fp pins=>(zgO rfl (zbY (zbc (i:=1) (show List.Nodup (["_law_unit_here","_law_top","_law_bottom"]:List Str) by decide +kernel) rfl (Or.inl rfl)) (zbY (zbc (i:=2) (show List.Nodup (["_law_unit_here","_law_top","_law_bottom"]:List Str) by decide +kernel) rfl (Or.inl rfl)) ze7)))) (fun cl C s H fp pins=>(zaP zbp (zaP zcK (pv 1) (pv 0)) (pv 2))) (Or.inl ⟨rfl,rfl⟩))))),ziP (K:=(KX K)) (XO:=XO0) (E:=E) (np:=2) (nv:=0) (m:=zdB)
      (zh0 (zbX (zcL zac) (by decide) (zgI (zb2 zbz (zb2 zbz zeX))) (ziT (zdN zb6 (zdN zb6 zhp))) (Or.inl ⟨rfl,rfl⟩) (zaj zcG ((zaj zdH zac zac)).r zac))) rfl h⟩
abbrev zbM:Stmt:=top 57
theorem sc_law_is_wholes:FnScope ["_law_found","_law_due","_law_one","_law_other"] ["_law_found","_law_due"] (zal zbM):=⟨rfl,rfl,rfl,by decide +kernel,rfl,by decide +kernel,by decide +kernel⟩
theorem zdI {f:Addr} {fd:FuncData} (F:Fun K "_law_is_wholes" "_law_is_wholes" zbM f fd) (T:Txt K mg)  : FnOk P w K mg base CX0 1 f fd ["_law_found","_law_due"] (spM (KX K) XO0 za9):=by
  refine F.ok sc_law_is_wholes (fun vs H Q E h=>za0 h) (fun cdv A outer s H vs Q E hr h=>?_)
  have hu:=zbF hr
  exact ⟨_,(zae (zbG ((zd9 (zdy (zcz (zay zaz (by rfl) T.isinstance boot_isinstance (zaa (pv 0) (zaa (zb5 (v:=.ty "list") (by rfl) T.list boot_list rfl) zah))))) (zea (zaM zhb (zay zaR (by rfl) T.len PySem.boot_len (zaa (pv 0) zah)) (zay zaR (by rfl) T.len PySem.boot_len (zaa (pv 1) zah)) (zaI _))))).pt
      (zak (zaC zev))
      zaV)
      (zae (zfG PassesOwn.never rfl (zjV rfl T.zip (zaa (pv 0) (zaa (pv 1) zah))) (zgO rfl (zbY (zbc (i:=2) sc_law_is_wholes.nd rfl (by first | exact Or.inl rfl | exact Or.inr rfl)) (zbY (zbc (i:=3) sc_law_is_wholes.nd rfl (by first | exact Or.inl rfl | exact Or.inr rfl)) ze7)))
      (zak (zbG ((zd9 (zdy (zcz (zay zaz (by rfl) T.isinstance boot_isinstance (zaa (pv 2) (zaa (zb5 (v:=.ty "int") (by rfl) T.int boot_int rfl) zah))))) (zd9 (zcz (zay zaz (by rfl) T.isinstance boot_isinstance (zaa (pv 2) (zaa (zb5 (v:=.ty "bool") (by rfl) T.bool boot_bool rfl) zah)))) (zea (zaM zhb (pv 2) (pv 3) (zaI _)))))).pt
      (zak (zaC zev))
      zaV)))
      (zak (zaC zev)))),zbT (K:=(KX K)) (XO:=XO0) (E:=E) (np:=2) (nv:=2) (m:=zcE)
      (zaq (zbH (zd5 (zdx (st_b (zcR zf3 zac))) (zaJ (zaj zg5 ((zbW zcS (zaE zac zaX))).r ((zbW zcS (zaE zac zaX))).r)))
      (zaG zeo)
      zaW)
      (zaq (zfz (zj9 (zad zam (zad zam zau))) (zgI (zb2 zaw (zb2 zaw zeX)))
      (zbH (zd5 (zdx (st_b (zcR zgZ zac))) (zd5 (st_b (zcR zfM zac)) (zaJ (zaj zg5 zac zac))))
      (zaG zeo)
      zaW))
      (zaG zeo))) rfl h⟩
abbrev zcm:Stmt:=top 59
theorem zes:FnScope ["_law_found","_law_unit_here","_law_wholes_here"] ["_law_found","_law_unit_here","_law_wholes_here"] (zal zcm):=⟨rfl,rfl,rfl,by decide +kernel,rfl,by decide +kernel,by decide +kernel⟩
theorem zen {f:Addr} {fd:FuncData} (F:Fun K "_law_is_read" "_law_is_read" zcm f fd) (T:Txt K mg) (G_law_is_wholes:Has P w K mg base CX0 1 "_law_is_wholes" ["_law_found","_law_due"] (spM (KX K) XO0 za9)):FnOk P w K mg base CX0 2 f fd ["_law_found","_law_unit_here","_law_wholes_here"] (spM (KX K) XO0 zbd):=by
  refine F.ok zes (fun vs H Q E h=>za0 h) (fun cdv A outer s H vs Q E hr h=>?_)
  have hu:=zbF hr
  exact ⟨_,(zae (zbG ((zd9 (zdy (zcz (zay zaz (by rfl) T.isinstance boot_isinstance (zaa (pv 0) (zaa (zb5 (v:=.ty "tuple") (by rfl) T.tuple boot_tuple rfl) zah))))) (zd9 (zaM zhb (zay zaR (by rfl) T.len PySem.boot_len (zaa (pv 0) zah)) zag (zaI _)) (zea (zdy (zcz (zay zaz (by rfl) T.isinstance boot_isinstance (zaa (zbb za7 (pv 0) zag (fun _ _=>rfl)) (zaa (zb5 (v:=.ty "str") (by rfl) T.str boot_str rfl) zah))))))))).pt
      (zak (zaC zev))
      zaV)
      (zae (zbG ((zd9 (zdy (zcz (zay zaz (by rfl) T.isinstance boot_isinstance (zaa (zbb za7 (pv 0) zag (fun _ _=>rfl)) (zaa (zb5 (v:=.ty "int") (by rfl) T.int boot_int rfl) zah))))) (zd9 (zcz (zay zaz (by rfl) T.isinstance boot_isinstance (zaa (zbb za7 (pv 0) zag (fun _ _=>rfl)) (zaa (zb5 (v:=.ty "bool") (by rfl) T.bool boot_bool rfl) zah)))) (zea (zaM zhb (zbb za7 (pv 0) zag (fun _ _=>rfl)) (pv 1) (zaI _)))))).pt
      (zak (zaC zev))
      zaV)
      (zae (zbG ((zd9 (zdy (zcz (zay zaz (by rfl) T.isinstance boot_isinstance (zaa (zbb za7 (pv 0) zag (fun _ _=>rfl)) (zaa (zb5 (v:=.ty "tuple") (by rfl) T.tuple boot_tuple rfl) zah))))) (zd9 (zaM zhb (zay zaR (by rfl) T.len PySem.boot_len (zaa (zbb za7 (pv 0) zag (fun _ _=>rfl)) zah)) zag (zaI _)) (zea (zaM (zkf hr.units) (zbb za7 (zbb za7 (pv 0) zag (fun _ _=>rfl)) zag (fun _ _=>rfl)) (zeK zah) (zaI _)))))).pt
      (zak (zaC zev))
      zaV)
      (zak (zaC (zfP (zbI zcl (zbb za7 (pv 0) zag (fun _ _=>rfl)) zbm (zaI _)) (zfP (zay zaz (by rfl) T.isinstance boot_isinstance (zaa (zbb za7 (zbb za7 (pv 0) zag (fun _ _=>rfl)) zag (fun _ _=>rfl)) (zaa (zb5 (v:=.ty "list") (by rfl) T.list boot_list rfl) zah))) (zeF (zaF G_law_is_wholes (hr.mono (by decide)) (by rfl) za4 (zaa (zbb za7 (zbb za7 (pv 0) zag (fun _ _=>rfl)) zag (fun _ _=>rfl)) (zaa (pv 2) zah))))))))))),zbT (K:=(KX K)) (XO:=XO0) (E:=E) (np:=3) (nv:=0) (m:=zdg)
      (zaq (zbH (zd5 (zdx (st_b (zcR zeM zac))) (zd5 (zaJ (zaj zg5 ((zbW zcS (zaE zac zaX))).r (zaf).r)) (zdx (st_b (zcR zgY ((zaj za6 zac (zaf).r)).r)))))
      (zaG zeo)
      zaW)
      (zaq (zbH (zd5 (zdx (st_b (zcR zgZ ((zaj za6 zac (zaf).r)).r))) (zd5 (st_b (zcR zfM ((zaj za6 zac (zaf).r)).r)) (zaJ (zaj zg5 ((zaj za6 zac (zaf).r)).r zac))))
      (zaG zeo)
      zaW)
      (zaq (zbH (zd5 (zdx (st_b (zcR zeM ((zaj za6 zac (zaf).r)).r))) (zd5 (zaJ (zaj zg5 ((zbW zcS (zaE ((zaj za6 zac (zaf).r)).r zaX))).r (zaf).r)) (zaJ (zaj zjW ((zaj za6 ((zaj za6 zac (zaf).r)).r (zaf).r)).r ((zdq zau)).e.r))))
      (zaG zeo)
      zaW)
      (zaG (zfK (zaj zci ((zaj za6 zac (zaf).r)).r (zbD).r) (zfK (zcR zf3 ((zaj za6 ((zaj za6 zac (zaf).r)).r (zaf).r)).r) (zap (zad (zaj za6 ((zaj za6 zac (zaf).r)).r (zaf).r) (zad zam zau))))))))) rfl h⟩
abbrev zca:Stmt:=top 47
theorem sc_shown_amount:FnScope ["one","top","bottom"] ["one"] (zal zca):=⟨rfl,rfl,rfl,by decide +kernel,rfl,by decide +kernel,by decide +kernel⟩
theorem zef {f:Addr} {fd:FuncData} (F:Fun K "shown_amount" "shown_amount" zca f fd) (T:Txt K mg)  : FnOk P w K mg base CX0 1 f fd ["one"] (spM (KX K) XO0 za8):=by
  refine F.ok sc_shown_amount (fun vs H Q E h=>za0 h) (fun cdv A outer s H vs Q E hr h=>?_)
  have hu:=zbF hr
  exact ⟨_,(zae (zaZ (i:=1) sc_shown_amount.nd rfl (by first | exact Or.inl rfl | exact Or.inr rfl) (zbb za7 (pv 0) zag (fun _ _=>rfl)))
      (zae (zaZ (i:=2) sc_shown_amount.nd rfl (by first | exact Or.inl rfl | exact Or.inr rfl) (zbb za7 (pv 0) zag (fun _ _=>rfl)))
      (zae (zbG (zaM zcl (pv 2) zag (zaI _))
      (zak (zaC (zce zda (by rfl) T.str boot_str (zaa (pv 1) zah))))
      zaV)
      (zak (zaC (zjz (pv 1) (pv 2))))))),zbT (K:=(KX K)) (XO:=XO0) (E:=E) (np:=1) (nv:=2) (m:=zcQ)
      (zaq (zaQ (zaj za6 zac (zaf).r) zaw)
      (zaq (zaQ (zaj za6 zac (zaf).r) zaw)
      (zaq (zbH (zaJ (zaj zci zac (zaf).r))
      (zaG (zbW zeP (zaE zac zaX)))
      zaW)
      (zaG zj1)))) rfl h⟩
abbrev zcX:Stmt:=top 58
theorem sc_law_shown:FnScope ["_law_one","_law_found"] ["_law_one"] (zal zcX):=⟨rfl,rfl,rfl,by decide +kernel,rfl,by decide +kernel,by decide +kernel⟩
theorem zfT {f:Addr} {fd:FuncData} (F:Fun K "_law_shown" "_law_shown" zcX f fd) (T:Txt K mg) (G_law_written:Has P w K mg base CX0 1 "_law_written" ["_law_one"] (spM (KX K) XO0 zaO)) (G_shown_amount:Has P w K mg base CX0 1 "shown_amount" ["one"] (spM (KX K) XO0 za8)):FnOk P w K mg base CX0 2 f fd ["_law_one"] (spM (KX K) XO0 zaN):=by
  refine F.ok sc_law_shown (fun vs H Q E h=>za0 h) (fun cdv A outer s H vs Q E hr h=>?_)
  have hu:=zbF hr
  exact ⟨_,(zae (zaZ (i:=1) sc_law_shown.nd rfl (by first | exact Or.inl rfl | exact Or.inr rfl) (zaF G_shown_amount (hr.mono (by decide)) (by rfl) za4 (zaa (pv 0) zah)))
      (zak (zaC (zfP (zay zaz (by rfl) T.isinstance boot_isinstance (zaa (pv 1) (zaa (zb5 (v:=.ty "str") (by rfl) T.str boot_str rfl) zah))) (zeF (zbI zcl (pv 1) (zaF G_law_written (hr.mono (by decide)) (by rfl) za4 (zaa (pv 0) zah)) (zaI _))))))),zbT (K:=(KX K)) (XO:=XO0) (E:=E) (np:=1) (nv:=1) (m:=zdT)
      (zaq (zaQ (zap (zad zam zau)) zaw)
      (zaG (zfK (zcR zgY zac) (zaj zci zac ((zap (zad zam zau))).r)))) rfl h⟩
abbrev zdX:Stmt:=top 60
theorem sc_law:FnScope ["_law_script","_law_cells","_law_amounts","_law_unit_here","_law_text","_law_one","_law_top","_law_bottom","_law_by"] ["_law_script"] (zal zdX):=⟨rfl,rfl,rfl,by decide +kernel,rfl,by decide +kernel,by decide +kernel⟩
theorem zkb {f:Addr} {fd:FuncData} (F:Fun K "law" "law" zdX f fd) (T:Txt K mg) (G_law_cell_at:Has P w K mg base CX0 1 "_law_cell_at" ["_law_script","_law_k"] (spM (KX K) XO0 zat)) (G_law_divisor:Has P w K mg base CX0 1 "_law_divisor" ["_law_one","_law_other"] (spM (KX K) XO0 zaH)) (G_law_parts:Has P w K mg base CX0 2 "_law_parts" ["_law_cell","_law_k"] (spM (KX K) XO0 zbs)) (G_law_unit:Has P w K mg base CX0 2 "_law_unit" ["_law_amounts"] (spM (KX K) XO0 zbL)) (G_law_written:Has P w K mg base CX0 1 "_law_written" ["_law_one"] (spM (KX K) XO0 zaO)) (G_read:Has P w K mg base CX0 6 "read" ["text"] (spM (KX K) XO0 zeG)) (G_law_wholes:Has P w K mg base CX0 1 "_law_wholes" ["_law_amounts","_law_unit_here"] (spO (KX K) XO0 zbn)) (G_law_is_read:Has P w K mg base CX0 2 "_law_is_read" ["_law_found","_law_unit_here","_law_wholes_here"] (spM (KX K) XO0 zbd)) (G_law_shown:Has P w K mg base CX0 2 "_law_shown" ["_law_one"] (spM (KX K) XO0 zaN)):FnOk P w K mg base CX0 7 f fd ["_law_script"] (zgD K):=by
  refine F.ok sc_law (fun vs H Q E h=>?_) (fun cdv A outer s H vs Q E hr h=>?_)
  · obtain ⟨a,ns,rfl,_⟩:=h
    rfl
  · obtain ⟨a,ns,rfl,hS,hlen,hq⟩:=h
    have hu:=zbF hr
    exact ⟨_,(zae (zaZ (i:=1) sc_law.nd rfl (by first | exact Or.inl rfl | exact Or.inr rfl) (zaP zhJ (zeK (zaa (zaF G_law_cell_at (hr.mono (by decide)) (by rfl) za4 (zaa (pv 0) (zaa zag zah))) zah)) (zgH zhe (pv 0) (zgn zag) (zgn zag))))
      (zae (zgm (i:=2) sc_law.nd rfl (by first | exact Or.inl rfl | exact Or.inr rfl) rfl (zi1 rfl T.enumerate (zaa (pv 1) zah)) (zdA (zal zdX) ["_law_script","_law_cells","_law_amounts","_law_unit_here","_law_text","_law_one","_law_top","_law_bottom","_law_by"] ["_law_k","_law_cell"] [] 2 rfl rfl rfl (by decide +kernel) (by decide +kernel) (by decide +kernel) rfl (by decide +kernel) (fun cl C s H fp pins=>(zgO rfl (zbY (zbc (i:=0) (show List.Nodup (["_law_k","_law_cell"]:List Str) by decide +kernel) rfl (Or.inl rfl)) (zbY (zbc (i:=1) (show List.Nodup (["_law_k","_law_cell"]:List Str) by decide +kernel) rfl (Or.inl rfl)) ze7)))) (fun cl C s H fp pins=>(zaF G_law_parts (hr.mono (by decide)) (by rfl) za4 (zaa (pv 1) (zaa (pv 0) zah)))) (Or.inl ⟨rfl,rfl⟩)) rfl)
      (zae (zaZ (i:=3) sc_law.nd rfl (by first | exact Or.inl rfl | exact Or.inr rfl) (zaF G_law_unit (hr.mono (by decide)) (by rfl) za4 (zaa (pv 2) zah)))
      (zae (zaZ (i:=4) sc_law.nd rfl (by first | exact Or.inl rfl | exact Or.inr rfl) (zhX PySem.F.plainAttrs_str PySem.F.slot_str_join PySem.F.type_str_join zja zbm (zaa (zaP zhJ (zeK (zaa zbm zah)) (zeb rfl (zck (pv 2)) (zdA (zal zdX) ["_law_script","_law_cells","_law_amounts","_law_unit_here","_law_text","_law_one","_law_top","_law_bottom","_law_by"] ["_law_one"] [] 1 rfl rfl rfl (by decide +kernel) (by decide +kernel) (by decide +kernel) rfl (by decide +kernel) (fun cl C s H fp pins=>(zbc (i:=0) (show List.Nodup (["_law_one"]:List Str) by decide +kernel) rfl (Or.inl rfl))) (fun cl C s H fp pins=>(zaF G_law_written (hr.mono (by decide)) (by rfl) za4 (zaa (pv 0) zah))) (Or.inl ⟨rfl,rfl⟩)))) zah)))
      (zae (zbG (zdy (zcz (zaF G_law_is_read (hr.mono (by decide)) (by rfl) za4 (zaa (zaF G_read (hr.mono (by decide)) (by rfl) za4 (zaa (pv 4) zah)) (zaa (pv 3) (zaa (zaF G_law_wholes (hr.mono (by decide)) (by rfl) za4 (zaa (pv 2) (zaa (pv 3) zah))) zah))))))
      (zak (zaC zev))
      zaV)
      (zae (zfG PassesOwn.never rfl (zck (pv 2)) (zbc (i:=5) sc_law.nd rfl (by first | exact Or.inl rfl | exact Or.inr rfl))
      (zak (zbG (zdy (zcz (zaF G_law_shown (hr.mono (by decide)) (by rfl) za4 (zaa (pv 5) zah))))
      (zak (zaC zev))
      zaV)))
      (zae (zaZ (i:=6) sc_law.nd rfl (by first | exact Or.inl rfl | exact Or.inr rfl) (zaP zcf (zaF G_law_cell_at (hr.mono (by decide)) (by rfl) za4 (zaa (pv 0) (zaa zag zah))) (zaP zga zag zag)))
      (zae (zaZ (i:=7) sc_law.nd rfl (by first | exact Or.inl rfl | exact Or.inr rfl) (zaP zdE zag (zaP zcf (zaF G_law_cell_at (hr.mono (by decide)) (by rfl) za4 (zaa (pv 0) (zaa zag zah))) (zbb zcw (zeK (zaa (zaP zga zag zag) (zaa zag zah))) (zaP zcf (zaF G_law_cell_at (hr.mono (by decide)) (by rfl) za4 (zaa (pv 0) (zaa zag zah))) zag) (fun _ _=>rfl)))))
      (zae (zaZ (i:=8) sc_law.nd rfl (by first | exact Or.inl rfl | exact Or.inr rfl) (zaF G_law_divisor (hr.mono (by decide)) (by rfl) za4 (zaa (pv 7) (zaa (pv 6) zah))))
      (zak (zaC (zfP (zaF G_law_shown (hr.mono (by decide)) (by rfl) za4 (zaa (zc2 (zaa (zaP zbp (pv 6) (pv 8)) (zaa (zaP zbp (pv 7) (pv 8)) zah))) zah)) (zfP (zaF G_law_shown (hr.mono (by decide)) (by rfl) za4 (zaa (zc2 (zaa (pv 6) (zaa zag zah))) zah)) (zeF (zaF G_law_shown (hr.mono (by decide)) (by rfl) za4 (zaa (zc2 (zaa zag (zaa zag zah))) zah)))))))))))))))),zbT (K:=(KX K)) (XO:=XO0) (E:=E) (np:=1) (nv:=8) (m:=zjC)
      (zaq (zaQ ((ziF ziO ((zdq (zad (zap (zad zam (zad zaf zau))) zau))).e.r ((zfu zac (zgx zaf) (zgx zaf))).e.r)).e zaw)
      (zaq (zaQ ((zbX (zh8 (zaE zac zaX)) (by decide) (zgI (zb2 zbz (zb2 zbz zeX))) (ziT (zdN zb6 (zdN zb6 zhp))) (Or.inl ⟨rfl,rfl⟩) (zap (zad zam (zad zam zau))))).e zaw)
      (zaq (zaQ (zap (zad zam zau)) zaw)
      (zaq (zaQ (zjj ((ziF ziO ((zdq (zad zbD zau))).e.r ((zbX (zcL zac) (by decide) zbz zb6 (Or.inl ⟨rfl,rfl⟩) (zap (zad zam zau)))).e.r)).e) zaw)
      (zaq (zbH (zdx (st_b (zap (zad (zap (zad zam zau)) (zad zam (zad ((zfZ (zad zam (zad zam zau)))).e zau))))))
      (zaG zeo)
      zaW)
      (zaq (zfz (zgs zam) zaw
      (zbH (zdx (st_b (zap (zad zam zau))))
      (zaG zeo)
      zaW))
      (zaq (zaQ (zaj zcc ((zap (zad zam (zad zaf zau)))).r ((zaj zfQ (zaf).r (zaf).r)).r) zaw)
      (zaq (zaQ (zaj zdC (zaf).r ((zaj zcc ((zap (zad zam (zad zaf zau)))).r ((zaj zdj ((zdq (zad (zaj zfQ (zaf).r (zaf).r) (zad zaf zau)))).e.r ((zaj zcc ((zap (zad zam (zad zaf zau)))).r (zaf).r)).r)).r)).r) zaw)
      (zaq (zaQ (zap (zad zam (zad zam zau))) zaw)
      (zaG (zfK (zap (zad (zc8 (zad (zaj zcG zac zac) (zad (zaj zcG zac zac) zau))) zau)) (zfK (zap (zad (zc8 (zad zam (zad zaf zau))) zau)) (zap (zad (zc8 (zad zaf (zad zaf zau))) zau)))))))))))))) rfl (zjG (f:=zkd) (law_true ns hlen) hS hq)⟩
end
theorem all_mk {l:PySem.W.OpenLaw} {w:World} {K:PySem.W.Frag} {h:Heap} {mg:Str→Option Value} {fa:Addr} (X:K.In h) (G:h.Ns mainGlobals mg) (hfa:mg "law"=some (.ref fa))
    (d0:∃ f fd,DefAt K "_law_cell_at" zcv f fd)
    (d1:∃ f fd,DefAt K "_law_number" zcI f fd)
    (d2:∃ f fd,DefAt K "_law_divisor" zcr f fd)
    (d3:∃ f fd,DefAt K "_law_parts" zc0 f fd)
    (d4:∃ f fd,DefAt K "_law_unit" zdn f fd)
    (d5:∃ f fd,DefAt K "_law_written" zcq f fd)
    (d6:∃ f fd,DefAt K "refuse_where" zb9 f fd)
    (d7:∃ f fd,DefAt K "refuse_word_count" zbi f fd)
    (d8:∃ f fd,DefAt K "is_number" zct f fd)
    (d9:∃ f fd,DefAt K "common_factor" zbS f fd)
    (d10:∃ f fd,DefAt K "amount_in" zcu f fd)
    (d11:∃ f fd,DefAt K "common_multiple" zbx f fd)
    (d12:∃ f fd,DefAt K "unit_of" zeh f fd)
    (d13:∃ f fd,DefAt K "by_the_unit" zcx f fd)
    (d14:∃ f fd,DefAt K "all_by_the_unit" zbe f fd)
    (d15:∃ f fd,DefAt K "read_touch" zb1 f fd)
    (d16:∃ f fd,DefAt K "read_rows" zcW f fd)
    (d17:∃ f fd,DefAt K "refuse_given" zb8 f fd)
    (d18:∃ f fd,DefAt K "read" zgF f fd)
    (d19:∃ f fd,DefAt K "_law_wholes" zb3 f fd)
    (d20:∃ f fd,DefAt K "_law_is_wholes" zbM f fd)
    (d21:∃ f fd,DefAt K "_law_is_read" zcm f fd)
    (d22:∃ f fd,DefAt K "shown_amount" zca f fd)
    (d23:∃ f fd,DefAt K "_law_shown" zcX f fd)
    {fL:Addr} {oc:Value} {od an:Option Addr} {osl:Array (Option Value)} {kV doc pm cdv ct:Value} (aL:PySem.W.nsIn K mainGlobals "law"=some (some (.ref fL)))
    (lL:K.lookup fL=some ⟨oc,od,.func (PySem.W.fnOf "law" "law" (zcY zdX) (zcD zdX) (zal zdX) .none kV doc pm an cdv ct),osl⟩) (cL:PySem.W.codeIn K cdv "law"=true) (kL:PySem.W.keepIn K (.ref fL)=true)
    (z0:PySem.W.nsIn K mainGlobals "len"=some none)
    (z1:PySem.W.nsIn K mainGlobals "abs"=some none)
    (z2:PySem.W.nsIn K mainGlobals "isinstance"=some none)
    (z3:PySem.W.nsIn K mainGlobals "list"=some none)
    (z4:PySem.W.nsIn K mainGlobals "int"=some none)
    (z5:PySem.W.nsIn K mainGlobals "bool"=some none)
    (z6:PySem.W.nsIn K mainGlobals "tuple"=some none)
    (z7:PySem.W.nsIn K mainGlobals "str"=some none)
    (z8:PySem.W.nsIn K mainGlobals "range"=some none)
    (z9:PySem.W.nsIn K mainGlobals "enumerate"=some none)
    (z10:PySem.W.nsIn K mainGlobals "zip"=some none)
    (z11:PySem.W.nsIn K mainGlobals "all"=some none)
    (z12:PySem.W.nsIn K mainGlobals "any"=some none)
    {tkFIGURES tkMOST_FIGURES tkMOST_BOTTOM tkMOST_THINGS tkMOST_LINES:Tok}
    (gv_FIGURES:PySem.W.nsIn K mainGlobals "FIGURES"=some (some (.str "0123456789" tkFIGURES)))
    (gv_MOST_FIGURES:PySem.W.nsIn K mainGlobals "MOST_FIGURES"=some (some (.int 12 tkMOST_FIGURES)))
    (gv_MOST_BOTTOM:PySem.W.nsIn K mainGlobals "MOST_BOTTOM"=some (some (.int 12 tkMOST_BOTTOM)))
    (gv_MOST_THINGS:PySem.W.nsIn K mainGlobals "MOST_THINGS"=some (some (.int 40 tkMOST_THINGS)))
    (gv_MOST_LINES:PySem.W.nsIn K mainGlobals "MOST_LINES"=some (some (.int 80 tkMOST_LINES)))
    : ∃ fd:FuncData,(∀ (s:Shared) (v:Value),BindsTo s fd ⟨[v],[]⟩ [("_law_script",v)])∧∀ base:Heap,K.In base→base.Ns mainGlobals mg→FnOk l.prog w K mg base CX0 7 fa fd ["_law_script"] (zgD K):=by
  have e:=hfa.symm.trans (PySem.W.mg_of X G aL)
  cases e
  have T:Txt K mg:=⟨PySem.W.mg_none_of X G z0,PySem.W.mg_none_of X G z1,PySem.W.mg_none_of X G z2,PySem.W.mg_none_of X G z3,PySem.W.mg_none_of X G z4,PySem.W.mg_none_of X G z5,PySem.W.mg_none_of X G z6,PySem.W.mg_none_of X G z7,PySem.W.mg_none_of X G z8,PySem.W.mg_none_of X G z9,PySem.W.mg_none_of X G z10,PySem.W.mg_none_of X G z11,PySem.W.mg_none_of X G z12,⟨_,PySem.W.mg_of X G gv_FIGURES⟩,⟨_,PySem.W.mg_of X G gv_MOST_FIGURES⟩,⟨_,PySem.W.mg_of X G gv_MOST_BOTTOM⟩,⟨_,PySem.W.mg_of X G gv_MOST_THINGS⟩,⟨_,PySem.W.mg_of X G gv_MOST_LINES⟩⟩
  obtain ⟨f0,g0,D0⟩:=d0
  obtain ⟨f1,g1,D1⟩:=d1
  obtain ⟨f2,g2,D2⟩:=d2
  obtain ⟨f3,g3,D3⟩:=d3
  obtain ⟨f4,g4,D4⟩:=d4
  obtain ⟨f5,g5,D5⟩:=d5
  obtain ⟨f6,g6,D6⟩:=d6
  obtain ⟨f7,g7,D7⟩:=d7
  obtain ⟨f8,g8,D8⟩:=d8
  obtain ⟨f9,g9,D9⟩:=d9
  obtain ⟨f10,g10,D10⟩:=d10
  obtain ⟨f11,g11,D11⟩:=d11
  obtain ⟨f12,g12,D12⟩:=d12
  obtain ⟨f13,g13,D13⟩:=d13
  obtain ⟨f14,g14,D14⟩:=d14
  obtain ⟨f15,g15,D15⟩:=d15
  obtain ⟨f16,g16,D16⟩:=d16
  obtain ⟨f17,g17,D17⟩:=d17
  obtain ⟨f18,g18,D18⟩:=d18
  obtain ⟨f19,g19,D19⟩:=d19
  obtain ⟨f20,g20,D20⟩:=d20
  obtain ⟨f21,g21,D21⟩:=d21
  obtain ⟨f22,g22,D22⟩:=d22
  obtain ⟨f23,g23,D23⟩:=d23
  have FL:=ziQ (st:=zdX) lL cL kL
  refine ⟨PySem.W.fnOf "law" "law" (zcY zdX) (zcD zdX) (zal zdX) .none kV doc pm an cdv ct,fun s v=>.of_eq rfl,fun base _ _=>?_⟩
  have G_law_cell_at:Has l.prog w K mg base CX0 1 "_law_cell_at" ["_law_script","_law_k"] (spM (KX K) XO0 zat):=D0.has X G (zek D0.fn T  ) (D0.fn.binds fun _ _ _ _ _ _ us hl=>match us,hl with | [_,_],_=>rfl)
  have G_law_number:Has l.prog w K mg base CX0 1 "_law_number" ["_law_cell","_law_k"] (spM (KX K) XO0 zba):=D1.has X G (zeZ D1.fn T  ) (D1.fn.binds fun _ _ _ _ _ _ us hl=>match us,hl with | [_,_],_=>rfl)
  have G_law_divisor:Has l.prog w K mg base CX0 1 "_law_divisor" ["_law_one","_law_other"] (spM (KX K) XO0 zaH):=D2.has X G (zex D2.fn T  ) (D2.fn.binds fun _ _ _ _ _ _ us hl=>match us,hl with | [_,_],_=>rfl)
  have G_law_parts:Has l.prog w K mg base CX0 2 "_law_parts" ["_law_cell","_law_k"] (spM (KX K) XO0 zbs):=D3.has X G (zf9 D3.fn T  G_law_number G_law_divisor) (D3.fn.binds fun _ _ _ _ _ _ us hl=>match us,hl with | [_,_],_=>rfl)
  have G_law_unit:Has l.prog w K mg base CX0 2 "_law_unit" ["_law_amounts"] (spM (KX K) XO0 zbL):=D4.has X G (zgg D4.fn T  G_law_divisor) (D4.fn.binds fun _ _ _ _ _ _ us hl=>match us,hl with | [_],_=>rfl)
  have G_law_written:Has l.prog w K mg base CX0 1 "_law_written" ["_law_one"] (spM (KX K) XO0 zaO):=D5.has X G (zet D5.fn T  ) (D5.fn.binds fun _ _ _ _ _ _ us hl=>match us,hl with | [_],_=>rfl)
  have G_refuse_where:Has l.prog w K mg base CX0 1 "refuse_where" ["wrong","line"] (spM (KX K) XO0 zao):=D6.has X G (zdU D6.fn T  ) (D6.fn.binds fun _ _ _ _ _ _ us hl=>match us,hl with | [_,_],_=>rfl)
  have G_refuse_word_count:Has l.prog w K mg base CX0 2 "refuse_word_count" ["words","least","most","line"] (spM (KX K) XO0 zaB):=D7.has X G (zcO D7.fn T  G_refuse_where) (D7.fn.binds fun _ _ _ _ _ _ us hl=>match us,hl with | [_,_,_,_],_=>rfl)
  have G_is_number:Has l.prog w K mg base CX0 1 "is_number" ["word"] (spM (KX K) XO0 zbj):=D8.has X G (zfY D8.fn T  ) (D8.fn.binds fun _ _ _ _ _ _ us hl=>match us,hl with | [_],_=>rfl)
  have G_common_factor:Has l.prog w K mg base CX0 1 "common_factor" ["one","other"] (spM (KX K) XO0 zaL):=D9.has X G (zdL D9.fn T  ) (D9.fn.binds fun _ _ _ _ _ _ us hl=>match us,hl with | [_,_],_=>rfl)
  have G_amount_in:Has l.prog w K mg base CX0 2 "amount_in" ["word","line"] (spM (KX K) XO0 zbV):=D10.has X G (zfI D10.fn T  G_refuse_where G_is_number G_common_factor) (D10.fn.binds fun _ _ _ _ _ _ us hl=>match us,hl with | [_,_],_=>rfl)
  have G_common_multiple:Has l.prog w K mg base CX0 2 "common_multiple" ["one","other"] (spM (KX K) XO0 zaT):=D11.has X G (zc7 D11.fn T  G_common_factor) (D11.fn.binds fun _ _ _ _ _ _ us hl=>match us,hl with | [_,_],_=>rfl)
  have G_unit_of:Has l.prog w K mg base CX0 3 "unit_of" ["amounts"] (spM (KX K) XO0 zcd):=D12.has X G (zhc D12.fn T  G_common_multiple) (D12.fn.binds fun _ _ _ _ _ _ us hl=>match us,hl with | [_],_=>rfl)
  have G_by_the_unit:Has l.prog w K mg base CX0 1 "by_the_unit" ["amount","unit"] (spM (KX K) XO0 zbf):=D13.has X G (zeC D13.fn T  ) (D13.fn.binds fun _ _ _ _ _ _ us hl=>match us,hl with | [_,_],_=>rfl)
  have G_all_by_the_unit:Has l.prog w K mg base CX0 2 "all_by_the_unit" ["amounts","unit"] (spO (KX K) XO0 za2):=D14.has X G (zdk D14.fn T  G_by_the_unit) (D14.fn.binds fun _ _ _ _ _ _ us hl=>match us,hl with | [_,_],_=>rfl)
  have G_read_touch:Has l.prog w K mg base CX0 4 "read_touch" ["rows"] (spM (KX K) XO0 zbB):=D15.has X G (zeR D15.fn T  G_refuse_where G_refuse_word_count G_amount_in G_unit_of G_all_by_the_unit) (D15.fn.binds fun _ _ _ _ _ _ us hl=>match us,hl with | [_],_=>rfl)
  have G_read_rows:Has l.prog w K mg base CX0 5 "read_rows" ["kind","rows"] (spM (KX K) XO0 zbk):=D16.has X G (zfX D16.fn T  G_read_touch) (D16.fn.binds fun _ _ _ _ _ _ us hl=>match us,hl with | [_,_],_=>rfl)
  have G_refuse_given:Has l.prog w K mg base CX0 1 "refuse_given" ["kind","given"] (spM (KX K) XO0 za1):=D17.has X G (zeg D17.fn T  ) (D17.fn.binds fun _ _ _ _ _ _ us hl=>match us,hl with | [_,_],_=>rfl)
  have G_read:Has l.prog w K mg base CX0 6 "read" ["text"] (spM (KX K) XO0 zeG):=D18.has X G (ziX D18.fn T  G_read_rows G_refuse_given) (D18.fn.binds fun _ _ _ _ _ _ us hl=>match us,hl with | [_],_=>rfl)
  have G_law_wholes:Has l.prog w K mg base CX0 1 "_law_wholes" ["_law_amounts","_law_unit_here"] (spO (KX K) XO0 zbn):=D19.has X G (zeY D19.fn T  ) (D19.fn.binds fun _ _ _ _ _ _ us hl=>match us,hl with | [_,_],_=>rfl)
  have G_law_is_wholes:Has l.prog w K mg base CX0 1 "_law_is_wholes" ["_law_found","_law_due"] (spM (KX K) XO0 za9):=D20.has X G (zdI D20.fn T  ) (D20.fn.binds fun _ _ _ _ _ _ us hl=>match us,hl with | [_,_],_=>rfl)
  have G_law_is_read:Has l.prog w K mg base CX0 2 "_law_is_read" ["_law_found","_law_unit_here","_law_wholes_here"] (spM (KX K) XO0 zbd):=D21.has X G (zen D21.fn T  G_law_is_wholes) (D21.fn.binds fun _ _ _ _ _ _ us hl=>match us,hl with | [_,_,_],_=>rfl)
  have G_shown_amount:Has l.prog w K mg base CX0 1 "shown_amount" ["one"] (spM (KX K) XO0 za8):=D22.has X G (zef D22.fn T  ) (D22.fn.binds fun _ _ _ _ _ _ us hl=>match us,hl with | [_],_=>rfl)
  have G_law_shown:Has l.prog w K mg base CX0 2 "_law_shown" ["_law_one"] (spM (KX K) XO0 zaN):=D23.has X G (zfT D23.fn T  G_law_written G_shown_amount) (D23.fn.binds fun _ _ _ _ _ _ us hl=>match us,hl with | [_],_=>rfl)
  exact zkb FL T G_law_cell_at G_law_divisor G_law_parts G_law_unit G_law_written G_read G_law_wholes G_law_is_read G_law_shown
theorem walk {l:PySem.W.OpenLaw} {q:Program} {loose:List Str} {XP:(Str→Option Value)→Heap→Prop} {YP:World→Heap→Prop} {d:DefRec} {K:Params→PySem.W.Frag} (hn:l.most=some 63) (hdf:d.params.defaults = [])
    (hY:∀ (w:World) (h:Heap),YP w h→(K w.params).In h) (hT:∀ w:World,zhT (K w.params)=none)
    (F:∀ (w:World) (mg:Str→Option Value) (fa:Addr) (h:Heap),(K w.params).In h→h.Ns mainGlobals mg→mg d.name=some (.ref fa) →
      ∃ fd:FuncData,(∀ (s:Shared) (u:Value),BindsTo s fd ⟨[u],[]⟩ [("_law_script",u)])∧∀ base:Heap,(K w.params).In base→base.Ns mainGlobals mg→FnOk l.prog w (K w.params) mg base CX0 7 fa fd ["_law_script"] (zgD (K w.params))) :
    PySem.W.WalkO q loose XP YP l.row.toRowW d [] (fun f vs=>PySem.call f vs) :=
  L2.walk_of (n:=63) (k:=7) (x:="_law_script") (CX:=fun _=>CX0) (sp:=fun w=>zgD (K w.params)) hn (by decide) hdf ⟨rfl,by decide,by decide⟩ hY hT F (fun _ _ a ns hl _ hS=>⟨a,ns,rfl,hS,hl,fun _=>rfl⟩) fun _ _ _ _ _ z=>z
end My
def PySem.W.Fast.tw12833969675131222618:Nat:=0
def PySem.W.Fast.tw13266809108067233586:Nat:=0
def PySem.W.Fast.tw18065519842950674441:Nat:=0
def PySem.W.Fast.tw1835377516572785601:Nat:=0
def PySem.W.Fast.tw2462195781311569635:Nat:=0
def PySem.W.Fast.tw796196363251533943:Nat:=0
def PySem.W.Fast.tw6087733768458191666:Nat:=0
def PySem.W.Fast.tw15153213954759478889:Nat:=0
def PySem.W.Fast.tw3084769866250946440:Nat:=0
def PySem.W.Fast.tw3533804258767172541:Nat:=0
def PySem.W.Fast.tw5267455895073049279:Nat:=0
def PySem.W.Fast.tw4345069395869529276:Nat:=0
def PySem.W.Fast.tw3793163618747505490:Nat:=0
def PySem.W.Fast.tw17226259660902582098:Nat:=0
def PySem.W.Fast.tw1909952422143043815:Nat:=0
def PySem.W.Fast.tw422440028120739666:Nat:=0
def PySem.W.Fast.tw1060960316783531711:Nat:=0
def PySem.W.Fast.tw3500471698441901518:Nat:=0
open PySem PySem.W PyProof.Rows
set_option maxRecDepth 100000 in
set_option maxHeartbeats 0 in
theorem PySem.Challenge.cw_goodenough_k51_amounts_and_units_holds : PySem.Challenge.rw_goodenough_k51_amounts_and_units.Holds := by
  w_on; o_law; k_head; (case hw=>w_witness2)
  k_fill
  refine My.walk (l:=PySem.Challenge.rw_goodenough_k51_amounts_and_units) rfl rfl (fun w h Y=>by first | exact PySem.W.kIn_of Y | exact PySem.W.km_in_of Y) ?tab ?F
  (case tab=>intro w; kernel_rfl)
  case F =>
    intro w mg fa h KX G hmg
    refine' My.all_mk KX G hmg (L2.defAt_mk ?a0 ?l0 ?c0 ?k0) (L2.defAt_mk ?a1 ?l1 ?c1 ?k1) (L2.defAt_mk ?a2 ?l2 ?c2 ?k2) (L2.defAt_mk ?a3 ?l3 ?c3 ?k3) (L2.defAt_mk ?a4 ?l4 ?c4 ?k4) (L2.defAt_mk ?a5 ?l5 ?c5 ?k5) (L2.defAt_mk ?a6 ?l6 ?c6 ?k6) (L2.defAt_mk ?a7 ?l7 ?c7 ?k7) (L2.defAt_mk ?a8 ?l8 ?c8 ?k8) (L2.defAt_mk ?a9 ?l9 ?c9 ?k9) (L2.defAt_mk ?a10 ?l10 ?c10 ?k10) (L2.defAt_mk ?a11 ?l11 ?c11 ?k11) (L2.defAt_mk ?a12 ?l12 ?c12 ?k12) (L2.defAt_mk ?a13 ?l13 ?c13 ?k13) (L2.defAt_mk ?a14 ?l14 ?c14 ?k14) (L2.defAt_mk ?a15 ?l15 ?c15 ?k15) (L2.defAt_mk ?a16 ?l16 ?c16 ?k16) (L2.defAt_mk ?a17 ?l17 ?c17 ?k17) (L2.defAt_mk ?a18 ?l18 ?c18 ?k18) (L2.defAt_mk ?a19 ?l19 ?c19 ?k19) (L2.defAt_mk ?a20 ?l20 ?c20 ?k20) (L2.defAt_mk ?a21 ?l21 ?c21 ?k21) (L2.defAt_mk ?a22 ?l22 ?c22 ?k22) (L2.defAt_mk ?a23 ?l23 ?c23 ?k23) ?aL ?lL ?cL ?kL ?z0 ?z1 ?z2 ?z3 ?z4 ?z5 ?z6 ?z7 ?z8 ?z9 ?z10 ?z11 ?z12 ?gv_FIGURES ?gv_MOST_FIGURES ?gv_MOST_BOTTOM ?gv_MOST_THINGS ?gv_MOST_LINES
    (case a0=>k_is); (case l0=>k_is); (case c0=>k_is); (case k0=>k_is)
    (case a1=>k_is); (case l1=>k_is); (case c1=>k_is); (case k1=>k_is)
    (case a2=>k_is); (case l2=>k_is); (case c2=>k_is); (case k2=>k_is)
    (case a3=>k_is); (case l3=>k_is); (case c3=>k_is); (case k3=>k_is)
    (case a4=>k_is); (case l4=>k_is); (case c4=>k_is); (case k4=>k_is)
    (case a5=>k_is); (case l5=>k_is); (case c5=>k_is); (case k5=>k_is)
    (case a6=>k_is); (case l6=>k_is); (case c6=>k_is); (case k6=>k_is)
    (case a7=>k_is); (case l7=>k_is); (case c7=>k_is); (case k7=>k_is)
    (case a8=>k_is); (case l8=>k_is); (case c8=>k_is); (case k8=>k_is)
    (case a9=>k_is); (case l9=>k_is); (case c9=>k_is); (case k9=>k_is)
    (case a10=>k_is); (case l10=>k_is); (case c10=>k_is); (case k10=>k_is)
    (case a11=>k_is); (case l11=>k_is); (case c11=>k_is); (case k11=>k_is)
    (case a12=>k_is); (case l12=>k_is); (case c12=>k_is); (case k12=>k_is)
    (case a13=>k_is); (case l13=>k_is); (case c13=>k_is); (case k13=>k_is)
    (case a14=>k_is); (case l14=>k_is); (case c14=>k_is); (case k14=>k_is)
    (case a15=>k_is); (case l15=>k_is); (case c15=>k_is); (case k15=>k_is)
    (case a16=>k_is); (case l16=>k_is); (case c16=>k_is); (case k16=>k_is)
    (case a17=>k_is); (case l17=>k_is); (case c17=>k_is); (case k17=>k_is)
    (case a18=>k_is); (case l18=>k_is); (case c18=>k_is); (case k18=>k_is)
    (case a19=>k_is); (case l19=>k_is); (case c19=>k_is); (case k19=>k_is)
    (case a20=>k_is); (case l20=>k_is); (case c20=>k_is); (case k20=>k_is)
    (case a21=>k_is); (case l21=>k_is); (case c21=>k_is); (case k21=>k_is)
    (case a22=>k_is); (case l22=>k_is); (case c22=>k_is); (case k22=>k_is)
    (case a23=>k_is); (case l23=>k_is); (case c23=>k_is); (case k23=>k_is)
    (case aL=>k_is); (case lL=>k_is); (case cL=>k_is); (case kL=>k_is)
    (case z0=>k_is)
    (case z1=>k_is)
    (case z2=>k_is)
    (case z3=>k_is)
    (case z4=>k_is)
    (case z5=>k_is)
    (case z6=>k_is)
    (case z7=>k_is)
    (case z8=>k_is)
    (case z9=>k_is)
    (case z10=>k_is)
    (case z11=>k_is)
    (case z12=>k_is)
    (case gv_FIGURES=>k_is)
    (case gv_MOST_FIGURES=>k_is)
    (case gv_MOST_BOTTOM=>k_is)
    (case gv_MOST_THINGS=>k_is)
    (case gv_MOST_LINES=>k_is)
#print axioms PySem.Challenge.cw_goodenough_k51_amounts_and_units_holds
