import PyProof.Rows.All
import Wide.All
import OpenK.AllK
import Wide.FinOn
import Lean
import PyProof.EqAt
import PyProof.EqKinds
import PyProof.TupleCall
import PySem.Challenge.RW_goodenough_k36_bench_and_bin_cases
set_option Elab.async false
set_option linter.all false
set_option maxRecDepth 100000
set_option maxHeartbeats 4000000
noncomputable section
namespace L2
open PySem PySem.Spec PyProof.Rows
abbrev Key:=Sum Int Str
def zqL:Key→Value→Bool
  | .inl k,v=>Value.isInt k v
  | .inr x,v=>Value.isStrOf x v
def keyH (w:World):Key→Int
  | .inl k=>hashInt k
  | .inr x=>hashStr w x
theorem zbr:∀ {k:Key} {v:Value},zqL k v=true→(∃ i t,k=Sum.inl i∧v=Value.int i t)∨(∃ x t,k=Sum.inr x∧v=Value.str x t)
  | .inl i,v,h=>by
    obtain ⟨t,e⟩:=Value.isInt_shape (k:=i) (v:=v) h
    exact .inl ⟨i,t,rfl,e⟩
  | .inr x,v,h=>by
    obtain ⟨t,e⟩:=Value.isStrOf_shape (x:=x) (v:=v) h
    exact .inr ⟨x,t,rfl,e⟩
theorem zpN (a b:Int):decide ((Sum.inl a:Key)=Sum.inl b)=(a == b):=by
  by_cases e:a=b
  · subst e; simp
  · have h:¬ (Sum.inl a:Key)=Sum.inl b:=fun q=>e (Sum.inl.inj q)
    rw [decide_eq_false h]
    exact (beq_eq_false_iff_ne.mpr e).symm
theorem zqH (a b:Str):decide ((Sum.inr a:Key)=Sum.inr b)=decide (a=b):=by
  by_cases e:a=b
  · subst e; simp
  · have h:¬ (Sum.inr a:Key)=Sum.inr b:=fun q=>e (Sum.inr.inj q)
    rw [decide_eq_false h,decide_eq_false e]
theorem zqj (a:Int) (b:Str):decide ((Sum.inl a:Key)=Sum.inr b)=false:=decide_eq_false (fun q=>nomatch q)
theorem zqx (a:Str) (b:Int):decide ((Sum.inr a:Key)=Sum.inl b)=false:=decide_eq_false (fun q=>nomatch q)
def zlp (prog:Program) (w:World):PySem.KeyKind prog w Key where
  is:=zqL
  hash:=keyH w
  inj:=fun v a b ha hb=>by
    rcases zbr ha with ⟨i,t,rfl,rfl⟩ | ⟨x,t,rfl,rfl⟩
    · rcases zbr hb with ⟨j,u,rfl,e⟩ | ⟨y,u,rfl,e⟩
      · injection e with e1 _; rw [e1]
      · exact nomatch e
    · rcases zbr hb with ⟨j,u,rfl,e⟩ | ⟨y,u,rfl,e⟩
      · exact nomatch e
      · injection e with e1 _; rw [e1]
  byValue:=fun k v h=>by
    rcases zbr h with ⟨i,t,rfl,rfl⟩ | ⟨x,t,rfl,rfl⟩ <;> rfl
  pyHash:=fun hv h=>by
    rcases zbr hv with ⟨i,t,rfl,rfl⟩ | ⟨x,t,rfl,rfl⟩
    · exact wpAny_pyHash_int h
    · exact wpAny_pyHash_str h
  eqBool:=fun hu hv h=>by
    rcases zbr hu with ⟨i,t,rfl,rfl⟩ | ⟨x,t,rfl,rfl⟩
    · rcases zbr hv with ⟨j,u,rfl,rfl⟩ | ⟨y,u,rfl,rfl⟩
      · rw [zpN] at h; exact wpAny_eqBool_int h
      · rw [zqj] at h; exact SeqAt.EqAt.int_str i t y u _ _ _ _ h
    · rcases zbr hv with ⟨j,u,rfl,rfl⟩ | ⟨y,u,rfl,rfl⟩
      · rw [zqx] at h; exact SeqAt.EqAt.str_int x t j u _ _ _ _ h
      · rw [zqH] at h; exact wpAny_eqBool_str h
  «strs»:=fun k x t v h=>by
    rcases zbr h with ⟨i,u,rfl,e⟩ | ⟨y,u,rfl,e⟩
    · exact nomatch e
    · injection e with e1 _
      subst e1
      cases v <;> rfl
end L2
namespace L2
open PySem PySem.Spec PyProof.Rows
inductive V where
  | non | bl (b:Bool) | int (i:Int) | str (x:Str) | byt (b:Array UInt8) | flt (b:UInt64) | ref (a:Addr) | ty (n:String)
  deriving DecidableEq
def RelV:V→Value→Prop
  | .non,u=>u=Value.none
  | .bl b,u=>u=Value.bool b
  | .int i,u=>∃ t,u=Value.int i t
  | .str x,u=>∃ t,u=Value.str x t
  | .byt b,u=>∃ t,u=Value.bytes b t
  | .flt b,u=>∃ t,u=Value.float b t
  | .ref a,u=>u=Value.ref a
  | .ty n,u=>u=Value.type n
abbrev Vals:List V→List Value→Prop:=Paired RelV
theorem Vals.length {xs:List V} {us:List Value} (r:Vals xs us):xs.length=us.length:=Paired.length r
theorem Vals.get:∀ {xs:List V} {us:List Value} {i:Nat} {x:V},Vals xs us→xs[i]?=some x→∃ u,us[i]?=some u∧RelV x u
  | _,_,_,_,.nil,e=>by simp at e
  | _,_,0,_,.cons r _,e=>by simp at e; subst e; exact ⟨_,rfl,r⟩
  | _,_,i + 1,x,.cons _ t,e=>by
    obtain ⟨u,h1,h2⟩:=Vals.get (i:=i) (x:=x) t (by simpa using e)
    exact ⟨u,by simpa using h1,h2⟩
theorem Vals.set {x:V} {u:Value} (r:RelV x u):∀ {xs:List V} {us:List Value} (i:Nat),Vals xs us→Vals (xs.set i x) (us.set i u)
  | _,_,_,.nil=>.nil
  | _,_,0,.cons _ t=>.cons r t
  | _,_,i + 1,.cons q t=>.cons q (Vals.set r i t)
theorem Vals.append:∀ {xs ys:List V} {us ws:List Value},Vals xs us→Vals ys ws→Vals (xs ++ ys) (us ++ ws)
  | _,_,_,_,.nil,s=>s
  | _,_,_,_,.cons r t,s=>.cons r (Vals.append t s)
theorem Vals.take:∀ {xs:List V} {us:List Value} (n:Nat),Vals xs us→Vals (xs.take n) (us.take n)
  | _,_,0,_=>.nil
  | _,_,_ + 1,.nil=>.nil
  | _,_,n + 1,.cons r t=>.cons r (Vals.take n t)
theorem Vals.drop:∀ {xs:List V} {us:List Value} (n:Nat),Vals xs us→Vals (xs.drop n) (us.drop n)
  | _,_,0,r=>r
  | _,_,_ + 1,.nil=>.nil
  | _,_,n + 1,.cons _ t=>Vals.drop n t
def RelO:Option V→Option Value→Prop
  | some v,some u=>RelV v u
  | none,none=>True
  | _,_=>False
def KV {κ:Type}:List (κ × V)→List (κ × Value)→Prop:=Paired fun (p:κ × V) (q:κ × Value)=>p.1=q.1∧RelV p.2 q.2
def kV:Key→V
  | .inl i=>.int i
  | .inr x=>.str x
inductive HO where
  | lst (xs:List V)
  | tup (xs:List V)
  | dK (kvs:List (Key × V)) | dT (kvs:List (List Key × V))
  | set (S:Int→Bool) (n:Nat)
  | ins (C dx:Addr) (fs:List (Str × V))
  | own (x:Addr)
  | xd (fs:List (Str × V))
  | met (f x:Addr)
  | rng (lo hi:Int)
  | frz (o:Obj) (u:HO)
  | tbl (ps:Array Value)
  | ext (φ:Heap→Prop)
abbrev Hp:=Addr→Option HO
def upd (H:Hp) (a:Addr) (o:HO):Hp:=fun b=>if b=a then some o else H b
theorem zal {H:Hp} {a:Addr} {o:HO}:upd H a o a=some o:=by unfold upd; rw [if_pos rfl]
theorem zai {H:Hp} {a b:Addr} {o:HO} (h:b ≠ a):upd H a o b=H b:=by unfold upd; rw [if_neg h]
theorem zah {H:Hp} {a b:Addr} {o:HO} (h:H a=some o) (h':H b=none):a ≠ b:=by
  intro e; subst e; rw [h] at h'; cases h'
def zp6 (fd:FuncData):Option Pos :=
  match fd.body with
  | .stmts [.Return (some (.Call _ _ [⟨_,.Lambda _ _ _ pos,_⟩] _)) _]=>some pos
  | _=>none
def zq8 (K:PySem.W.Frag) (v:Value):Option Addr :=
  match v with
  | .ref c=>match K.lookup c with
    | some o=>match o.data with
      | .fields vs=>match (vs[11]?:Option Value) with
        | some (.ref P)=>some P
        | _=>none
      | _=>none
    | _=>none
  | _=>none
def zhq (K:PySem.W.Frag):Option (Addr × Array Value) :=
  K.findSome? fun p=>match p.2.data with
    | .func fd=>match zp6 fd with
      | some pos=>(zq8 K fd.code).map fun P=>(P,#[.str (fd.qualname ++ ".<locals>." ++ "<lambda>") 0,rawInt pos.line,rawInt pos.col])
      | none=>none
    | _=>none
def TblOk (H:Hp) (h:Heap) (a:Addr) (ps:Array Value):Prop :=
  ∃ (q:Str) (t:Tok) (ln cl:Int) (more:List Value) (real:Array Value),ps.toList = .str q t :: rawInt ln :: rawInt cl :: more∧h.get? a=some { cls:=.none,data:=.fields real } ∧
    (real = #[]∨∃ (c:Addr) (o:Obj) (vs:Array Value) (u:Tok),real = #[rawInt ln,rawInt cl,.ref c]∧H c=some (.own a)∧h.get? c=some o∧o.data = .fields vs∧vs[1]?=some (.str q u))
theorem TblOk.lt {H:Hp} {h:Heap} {a:Addr} {ps:Array Value} (x:TblOk H h a ps):a < h.objs.size:=by
  obtain ⟨_,_,_,_,_,_,_,e,_⟩:=x
  exact Heap.lt_size e
theorem TblOk.stay {H H':Hp} {h h':Heap} {a:Addr} {ps:Array Value} (x:TblOk H h a ps) (k:∀ b u,(b=a∨H b=some (.own a))→h.get? b=some u→h'.get? b=some u)
    (ho:∀ b,H b=some (.own a)→H' b=some (.own a)):TblOk H' h' a ps:=by
  obtain ⟨q,t,ln,cl,more,real,e1,e2,e3⟩:=x
  refine ⟨q,t,ln,cl,more,real,e1,k _ _ (.inl rfl) e2,?_⟩
  rcases e3 with e3 | ⟨c,o,vs,u,r1,r2,r3,r4⟩
  · exact .inl e3
  · exact .inr ⟨c,o,vs,u,r1,ho _ r2,k _ _ (.inr r2) r3,r4⟩
def TbAt (K:PySem.W.Frag) (H:Hp):Prop:=∀ t,zhq K=some t→∃ more,H t.1=some (.tbl (t.2 ++ more))
theorem TbAt.grown {K:PySem.W.Frag} {H H':Hp} (x:TbAt K H) (g:∀ b ps,H b=some (.tbl ps)→∃ more,H' b=some (.tbl (ps ++ more))):TbAt K H':=fun t e=>by
  obtain ⟨m1,e1⟩:=x t e
  obtain ⟨m2,e2⟩:=g _ _ e1
  exact ⟨m1 ++ m2,by rw [e2,Array.append_assoc]⟩
section
variable (P:Program) (w:World)
def ObjOk (H:Hp) (h:Heap) (a:Addr):HO→Prop
  | .lst xs=>xs.length ≤ sizeLine∧∃ (its:List Value) (n:Nat),Vals xs its∧h.get? a=some { cls:=.type "list",data:=.seq its.toArray n }
  | .tup xs=>xs.length ≤ sizeLine∧∃ its:List Value,Vals xs its∧IsTup h a its.toArray
  | .dK kvs=>kvs.length ≤ sizeLine∧(a == sysModules)=false∧∃ vs,KV kvs vs∧h.DictOf (zlp P w) a vs
  | .dT kvs=>kvs.length ≤ sizeLine∧(a == sysModules)=false∧∃ xs:List (List Key × Addr × Value),
      Paired (fun (p:List Key × V) (q:List Key × Addr × Value)=>p.1=q.1∧H q.2.1=some (.tup (p.1.map kV))∧RelV p.2 q.2.2) kvs xs ∧
      ∃ o es ep,h.get? a=some o∧o.ExactDict∧o.data = .dict es ep∧es.toList=xs.map (entryOfKey (tupleKind (zlp P w)))∧(xs.map (·.1)).Nodup
  | .set S n=>h.SetOf (intKind P w) a S n
  | .ins C dx fs=>H dx=some (.own a)∧fs.length ≤ 1000∧dx ≠ a∧h.get? a=some (PySem.W.instObj C dx) ∧
      ∃ mA,h.Ns1 dx mA∧(∀ f,RelO (fs.lookup f) (mA f))∧PySem.Within mA (fs.map (·.1))
  | .own _=>∃ o,h.get? a=some o
  | .xd fs=>∃ mA,h.Ns1 a mA∧∀ f,RelO (fs.lookup f) (mA f)
  | .rng lo hi=>∃ t u v,h.get? a=some { cls:=.type "range",data:=.fields #[.int lo t,.int hi u,.int 1 v] }
  | .frz o u=>h.get? a=some o∧ObjOk H h a u
  | .tbl ps=>TblOk H h a ps
  | .met f x=>h.get? a=some (PySem.W.methodObj (.ref f) (.ref x))
  | .ext φ=>φ h∧(∃ o,h.get? a=some o)∧∀ h1 h2:Heap,φ h1→(∀ o,h1.get? a=some o→h2.get? a=some o)→φ h2
def HOk (H:Hp) (h:Heap):Prop:=∀ a o,H a=some o→ObjOk P w H h a o
end
section
variable {P:Program} {w:World} {H H':Hp} {h h':Heap} {a:Addr} {o:HO}
theorem ObjOk.lt (x:ObjOk P w H h a o):a < h.objs.size:=by
  cases o with
  | lst xs=>obtain ⟨_,_,_,_,e⟩:=x; exact Heap.lt_size e
  | tup xs=>obtain ⟨_,_,_,p⟩:=x; exact p.lt
  | dK kvs=>obtain ⟨_,_,_,_,o,_,_,e,_⟩:=x; exact Heap.lt_size e
  | dT kvs=>obtain ⟨_,_,_,_,o,_,_,e,_⟩:=x; exact Heap.lt_size e
  | set S n=>obtain ⟨o,_,_,_,e,_⟩:=x; exact Heap.lt_size e
  | ins C dx fs=>obtain ⟨_,_,_,e,_⟩:=x; exact Heap.lt_size e
  | own y=>obtain ⟨_,e⟩:=x; exact Heap.lt_size e
  | xd fs=>obtain ⟨_,⟨_,_,_,e,_⟩,_⟩:=x; exact Heap.lt_size e
  | rng lo hi=>obtain ⟨_,_,_,e⟩:=x; exact Heap.lt_size e
  | frz ob u=>obtain ⟨e,_⟩:=x; exact Heap.lt_size e
  | tbl ps=>exact TblOk.lt x
  | met f y=>exact Heap.lt_size (show h.get? a=some _ from x)
  | ext φ=>obtain ⟨_,⟨_,e⟩,_⟩:=x; exact Heap.lt_size e
theorem Paired.mapP {α β:Type} {F G:α→β→Prop}:∀ {l₁:List α} {l₂:List β},Paired F l₁ l₂→(∀ a b,F a b→G a b)→Paired G l₁ l₂
  | _,_,.nil,_=>.nil
  | _,_,.cons r t,f=>.cons (f _ _ r) (Paired.mapP t f)
theorem ObjOk.stay (x:ObjOk P w H h a o) (k:∀ b u,(b=a∨H b=some (.own a))→h.get? b=some u→h'.get? b=some u)
    (ho:∀ b,H b=some (.own a)→H' b=some (.own a)) (ht:∀ b xs,H b=some (.tup xs)→H' b=some (.tup xs)):ObjOk P w H' h' a o:=by
  induction o with
  | lst xs=>obtain ⟨z,its,n,r,e⟩:=x; exact ⟨z,its,n,r,k _ _ (.inl rfl) e⟩
  | tup xs=>obtain ⟨z,its,r,ob,e,c⟩:=x; exact ⟨z,its,r,ob,k _ _ (.inl rfl) e,c⟩
  | dK kvs=>obtain ⟨z,y,vs,r,ob,es,ep,e,c⟩:=x; exact ⟨z,y,vs,r,ob,es,ep,k _ _ (.inl rfl) e,c⟩
  | dT kvs =>
    obtain ⟨z,y,xs,r,ob,es,ep,e,c⟩:=x
    exact ⟨z,y,xs,Paired.mapP r fun p q z=>⟨z.1,ht _ _ z.2.1,z.2.2⟩,ob,es,ep,k _ _ (.inl rfl) e,c⟩
  | set S n=>obtain ⟨ob,es,ep,t,e,c⟩:=x; exact ⟨ob,es,ep,t,k _ _ (.inl rfl) e,c⟩
  | ins C dx fs =>
    obtain ⟨d,z,ne,e,mA,⟨od,es,ep,e2,c⟩,r⟩:=x
    exact ⟨ho _ d,z,ne,k _ _ (.inl rfl) e,mA,⟨od,es,ep,k _ _ (.inr d) e2,c⟩,r⟩
  | own y=>obtain ⟨ob,e⟩:=x; exact ⟨ob,k _ _ (.inl rfl) e⟩
  | xd fs=>obtain ⟨mA,⟨od,es,ep,e,c⟩,r⟩:=x; exact ⟨mA,⟨od,es,ep,k _ _ (.inl rfl) e,c⟩,r⟩
  | rng lo hi=>obtain ⟨t,u,v,e⟩:=x; exact ⟨t,u,v,k _ _ (.inl rfl) e⟩
  | frz ob u ih=>obtain ⟨e,q⟩:=x; exact ⟨k _ _ (.inl rfl) e,ih q⟩
  | tbl ps=>exact TblOk.stay x k ho
  | met f y =>
    have e:h.get? a=some (PySem.W.methodObj (.ref f) (.ref y)):=x
    show h'.get? a=some (PySem.W.methodObj (.ref f) (.ref y))
    exact k a _ (.inl rfl) e
  | ext φ=>obtain ⟨p,⟨o,e⟩,st⟩:=x; exact ⟨st _ _ p fun o q=>k _ _ (.inl rfl) q,⟨o,k _ _ (.inl rfl) e⟩,st⟩
theorem HOk.lt (x:HOk P w H h) (e:H a=some o):a < h.objs.size:=(x a o e).lt
theorem HOk.fresh (x:HOk P w H h) (e:h.objs.size ≤ a):H a=none:=by
  cases q:H a with
  | none=>rfl
  | some u=>exact absurd (Nat.lt_of_lt_of_le (x.lt q) e) (Nat.lt_irrefl _)
theorem HOk.kept (x:HOk P w H h) (k:∀ b u,h.get? b=some u→h'.get? b=some u):HOk P w H h':=fun a o e =>
  (x a o e).stay (fun b u _ q=>k b u q) (fun _ q=>q) fun _ _ q=>q
theorem HOk.laid (x:HOk P w H h) (k:∀ b u,h.get? b=some u→h'.get? b=some u) (hp:h.objs.size ≤ a) (new:ObjOk P w (upd H a o) h' a o):HOk P w (upd H a o) h':=fun b u e=>by
  have hn:=x.fresh hp
  by_cases hb:b=a
  · subst hb; rw [zal] at e; cases e; exact new
  · rw [zai hb] at e
    exact (x b u e).stay (fun c v _ q=>k c v q) (fun c q=>by rw [zai (zah q hn)]; exact q) fun c xs q=>by rw [zai (zah q hn)]; exact q
end
def Rd (H:Hp) (a:Addr) (u:HO):Prop:=H a=some u∨∃ o,H a=some (.frz o u)
theorem Rd.ok {P:Program} {w:World} {H:Hp} {h:Heap} {a:Addr} {u:HO} (r:Rd H a u) (x:HOk P w H h):ObjOk P w H h a u:=by
  rcases r with r | ⟨o,r⟩
  · exact x a u r
  · obtain ⟨_,q⟩:=x a _ r
    exact q
def Mut:Option HO→Prop
  | some (.lst _)=>True
  | some (.dK _)=>True
  | some (.dT _)=>True
  | some (.set _ _)=>True
  | some (.ins _ _ _)=>True
  | some (.ext _)=>True
  | _=>False
section
variable {P:Program} {w:World} {H:Hp} {h h':Heap} {x e:Addr} {o':HO}
theorem HOk.write (ok:HOk P w H h) (mu:Mut (H x)) (he:e=x∨H e=some (.own x)) (k:∀ b u,b ≠ e→h.get? b=some u→h'.get? b=some u) (heo:∃ u,h'.get? e=some u)
    (new:ObjOk P w (upd H x o') h' x o'):HOk P w (upd H x o') h':=fun b u q=>by
  have nown:∀ c y,H c=some (.own y)→c ≠ x:=fun c y r z=>by subst z; rw [r] at mu; exact mu
  have ntup:∀ c xs,H c=some (.tup xs)→c ≠ x:=fun c xs r z=>by subst z; rw [r] at mu; exact mu
  by_cases hb:b=x
  · subst hb; rw [zal] at q; cases q; exact new
  · rw [zai hb] at q
    by_cases hbe:b=e
    · have q':H b=some (.own x):=by
        rcases he with z | z
        · exact absurd (hbe.trans z) hb
        · rw [hbe]; exact z
      rw [q] at q'; cases q'
      obtain ⟨v,hv⟩:=heo
      exact ⟨v,by rw [hbe]; exact hv⟩
    · refine (ok b u q).stay (fun c v hc r=>k c v ?_ r) (fun c r=>by rw [zai (nown c b r)]; exact r) fun c xs r=>by rw [zai (ntup c xs r)]; exact r
      rcases hc with rfl | hc
      · exact hbe
      · rintro rfl
        rcases he with z | z
        · exact nown c b hc z
        · rw [hc] at z; cases z; exact hb rfl
end
structure Un (fs ex:List Addr) (H H':Hp) (h h':Heap):Prop where
  keep:∀ b o,h.get? b=some o→H b=none→b ∉ fs→b ∉ ex→h'.get? b=some o
  slot:∀ b o,h.get? b=some o→H b=none→b ∈ fs→b ∉ ex→∃ sl,h'.get? b=some { o with slots:=sl }
  free:∀ b o,h.get? b=some o→H b=none→b ∉ ex→H' b=none
  there:∀ b o,h.get? b=some o→b ∉ ex→∃ o',h'.get? b=some o'
  tups:∀ b xs,H b=some (.tup xs)→H' b=some (.tup xs)
  frzs:∀ b o u,H b=some (.frz o u)→H' b=some (.frz o u)
  tbls:∀ b ps,H b=some (.tbl ps)→∃ more,H' b=some (.tbl (ps ++ more))
section
variable {fs fs' ex ex':List Addr} {H H1 H2:Hp} {h h1 h2 h':Heap} {a x e:Addr} {o:HO}
theorem Un.any (u:Un fs ex H H1 h h1) {b:Addr} {ob:Obj} (q:h.get? b=some ob) (n:H b=none) (hx:b ∉ ex):∃ sl,h1.get? b=some { ob with slots:=sl }:=by
  by_cases hb:b ∈ fs
  · exact u.slot b ob q n hb hx
  · exact ⟨ob.slots,u.keep b ob q n hb hx⟩
theorem Un.kept (k:∀ b u,h.get? b=some u→h'.get? b=some u):Un fs ex H H h h' :=
  ⟨fun b ob q _ _ _=>k b ob q,fun b ob q _ _ _=>⟨ob.slots,k b ob q⟩,fun _ _ _ n _=>n,fun b ob q _=>⟨ob,k b ob q⟩,fun _ _ q=>q,fun _ _ _ q=>q,fun _ ps q=>⟨#[],by rw [q]; simp⟩⟩
theorem Un.refl:Un fs ex H H h h:=Un.kept fun _ _ q=>q
theorem Un.laid (k:∀ b u,h.get? b=some u→h'.get? b=some u) (hp:h.objs.size ≤ a) (hn:H a=none):Un fs ex H (upd H a o) h h' where
  keep:=fun b u q _ _ _=>k b u q
  slot:=fun b u q _ _ _=>⟨u.slots,k b u q⟩
  free:=fun b u q n _=>by rw [zai (Nat.ne_of_lt (Nat.lt_of_lt_of_le (Heap.lt_size q) hp))]; exact n
  there:=fun b u q _=>⟨u,k b u q⟩
  tups:=fun b xs q=>by rw [zai (zah q hn)]; exact q
  frzs:=fun b u xs q=>by rw [zai (zah q hn)]; exact q
  tbls:=fun b ps q=>⟨#[],by rw [zai (zah q hn),q]; simp⟩
theorem Un.write (mu:Mut (H x)) (he:e=x∨H e=some (.own x)) (k:∀ b u,b ≠ e→h.get? b=some u→h'.get? b=some u) (heo:∃ u,h'.get? e=some u):Un fs ex H (upd H x o) h h':=by
  have hx:∀ b,H b=none→b ≠ x:=fun b n z=>by subst z; rw [n] at mu; exact mu
  have hb:∀ b,H b=none→b ≠ e:=fun b n z=>by
    subst z
    rcases he with r | r
    · exact hx b n r
    · rw [n] at r; cases r
  have hm:∀ b u,H b=some u→¬ Mut (some u)→b ≠ x:=fun b u q nm z=>by subst z; rw [q] at mu; exact nm mu
  refine ⟨fun b u q n _ _=>k b u (hb b n) q,fun b u q n _ _=>⟨u.slots,k b u (hb b n) q⟩,fun b u q n _=>by rw [zai (hx b n)]; exact n,fun b u q _=>?_,
    fun b xs q=>by rw [zai (hm b _ q fun z=>z)]; exact q,fun b u xs q=>by rw [zai (hm b _ q fun z=>z)]; exact q,fun b ps q=>⟨#[],by rw [zai (hm b _ q fun z=>z),q]; simp⟩⟩
  by_cases hbe:b=e
  · subst hbe; exact heo
  · exact ⟨u,k b u hbe q⟩
theorem Un.mono (u:Un fs ex H H1 h h1) (hs:∀ b ∈ fs,b ∈ fs') (hx:∀ b ∈ ex,b ∈ ex'):Un fs' ex' H H1 h h1 :=
  ⟨fun b ob q n hb he=>u.keep b ob q n (fun z=>hb (hs b z)) fun z=>he (hx b z),fun _ _ q n _ he=>u.any q n fun z=>he (hx _ z),fun b ob q n he=>u.free b ob q n fun z=>he (hx b z),fun b ob q he=>u.there b ob q fun z=>he (hx b z),u.tups,u.frzs,u.tbls⟩
end
def trk (h:Heap) (H:Hp):List Addr:=(List.range h.objs.size).filter fun a=>(H a).isSome
def hidT (h:Heap) (H:Hp):Heap:=PySem.W.hideAll h (trk h H)
theorem zlR (h:Heap) (H:Hp):(hidT h H).objs.size=h.objs.size:=PySem.W.hideAll_size _ _
theorem zhC {h:Heap} {H:Hp} {b:Addr} {o:Obj} (e:h.get? b=some o) (n:H b=none):(hidT h H).get? b=some o :=
  PySem.W.hideAll_get _ e fun hm=>by
    have q:(H b).isSome=true:=(List.mem_filter.mp hm).2
    rw [n] at q; simp at q
theorem zo0 {h:Heap} {H:Hp} {b:Addr} {o:Obj} (e:(hidT h H).get? b=some o):h.get? b=some o∧H b=none:=by
  have e':h.get? b=some o:=PySem.W.of_hideAll (trk h H) e
  refine ⟨e',?_⟩
  cases q:H b with
  | none=>rfl
  | some x =>
    have hm:b ∈ trk h H:=List.mem_filter.mpr ⟨List.mem_range.mpr (Heap.lt_size e'),by simp [q]⟩
    have z:(hidT h H).get? b=none:=PySem.W.hideAll_none (trk h H) hm
    rw [z] at e; cases e
def zo1 (g h:Heap) (L:Addr):List (Addr × Obj):=(List.range h.objs.size).filterMap fun a=>if a=L∨(g.get? a).isSome=true then none else (h.get? a).map fun o=>(a,o)
def rest (g h:Heap) (L d:Addr):List (Addr × Obj):=(zo1 g h L).filter fun p=>decide (p.1 ≠ d)
end L2
namespace L2
open PySem PySem.Spec PyProof.Rows
structure Mod (K:PySem.W.Frag) (mg:Str→Option Value) (base:Heap):Prop where
  kin:K.In base
  glob:base.Ns mainGlobals mg
  blt:∃ mb,base.Ns builtinsNs mb∧∀ x:Str,x ≠ "__name__"→mb x=bootBuiltins x
  nolimit:base.NoLimit
structure Cx where
  prog:Program
  w:World
  K:PySem.W.Frag
  mg:Str→Option Value
  base:Heap
  A:Around
  N:List Str
  s₀:Shared
  H₀:Hp
  env:Env
  outer:List Env
  stack:List Env
  ex:List Addr
  fn:Str→Bool
  calm:Bool
  pn:List (Addr × Obj)
  xe:Value→Shared→Prop
def frs (l:List Env):List Addr:=l.filterMap (·.frame)
abbrev Cx.fs (X:Cx):List Addr:=frs X.outer
def Vis (sc:Scope) (x:Str):Prop:=sc.names.lookup x=some .local∨sc.names.lookup x=some .cell∨sc.names.lookup x=some .free
def Loc (sc:Scope) (x:Str):Prop:=sc.names.lookup x=some .local∨sc.names.lookup x=some .cell
def Look (env:Env) (h:Heap) (m:Str→Option Value) (x:Str) (u:Value):Prop :=
  (env.kindOf x=some .local∧m x=some u)∨((env.kindOf x=some .cell∨env.kindOf x=some .free)∧∃ c,env.cells.lookup x=some c∧h.IsCell c (some u))
structure Cx.Ok (X:Cx):Prop where
  mod:Mod X.K X.mg X.base
  kind:X.env.scope.kind = .function
  glob:X.env.globals=mainGlobals
  blt:X.env.builtins=builtinsNs
  above:X.s₀.heap.objs.size ≤ X.env.locals
  inj:∀ x y c,X.env.cells.lookup x=some c→X.env.cells.lookup y=some c→x=y
  has:∀ x,(X.env.kindOf x=some .cell∨X.env.kindOf x=some .free)→∃ c,X.env.cells.lookup x=some c
  cab:∀ x c,X.fn x=true→X.env.cells.lookup x=some c→X.s₀.heap.objs.size ≤ c
  hd:X.calm=true→X.A.handled=none
  frames:X.A.frames=some X.stack
  stk:X.stack=X.outer∨(X.stack=X.env :: X.outer∧X.env.frame=some X.env.locals)
  exf:∀ b ∈ X.ex,b ≠ X.env.locals∧∀ x c,X.env.cells.lookup x=some c→c ≠ b
  bs:∀ b o,X.base.get? b=some o→X.s₀.heap.get? b=some o∧X.H₀ b=none
  bsz:X.base.objs.size ≤ X.s₀.heap.objs.size
  noex:∀ b o,X.base.get? b=some o→b ∉ X.ex
  exfs:∀ b ∈ X.ex,b ∉ X.fs
  funs:X.s₀.heap.FunFrames X.base X.outer
  frf:∀ b ∈ X.fs,X.H₀ b=none
  tb:TbAt X.K X.H₀
structure Inv (X:Cx) (pins:List (Addr × Obj)) (σ:List (Option V)) (H:Hp) (s:Shared):Prop where
  ok:X.Ok
  os:s.os=X.s₀.os
  bare:AllBare s.gens
  base:Un X.fs X.ex X.H₀ H X.s₀.heap s.heap
  loc:∃ m,s.heap.Ns X.env.locals m∧∀ (i:Nat) (x:Str) (v:V),X.N[i]?=some x→σ[i]?=some (some v)→Vis X.env.scope x→∃ u,RelV v u∧Look X.env s.heap m x u
  cell:∀ x c,X.env.cells.lookup x=some c→∃ v,s.heap.IsCell c v
  free:H X.env.locals=none
  freeC:∀ x c,X.env.cells.lookup x=some c→H c=none
  pin:∀ p ∈ X.pn ++ pins,s.heap.get? p.1=some p.2∧H p.1=none∧p.1 ≠ X.env.locals∧p.1 ∉ X.fs∧∀ v,p.2.data ≠ .cell v
  hok:HOk X.prog X.w H s.heap
  len:σ.length=X.N.length
section
variable {X:Cx} {pins:List (Addr × Obj)} {σ:List (Option V)} {H H':Hp} {s:Shared} {h':Heap}
theorem Cx.Ok.nofr (ok:X.Ok) {b:Addr} {o:Obj} (e:X.base.get? b=some o):b ∉ X.fs:=fun hb=>by
  have:=(ok.funs.mem hb).1
  rw [e] at this; cases this
theorem Inv.bs (I:Inv X pins σ H s):∀ b o,X.base.get? b=some o→s.heap.get? b=some o∧H b=none:=fun b o e =>
  ⟨I.base.keep b o (I.ok.bs b o e).1 (I.ok.bs b o e).2 (I.ok.nofr e) (I.ok.noex b o e),I.base.free b o (I.ok.bs b o e).1 (I.ok.bs b o e).2 (I.ok.noex b o e)⟩
theorem Inv.bk (I:Inv X pins σ H s):∀ b o,X.base.get? b=some o→s.heap.get? b=some o:=fun b o e=>(I.bs b o e).1
theorem Inv.mod (I:Inv X pins σ H s):Mod X.K X.mg X.base:=I.ok.mod
theorem Inv.kIn (I:Inv X pins σ H s):X.K.In s.heap:=I.ok.mod.kin.keeps I.bk
theorem Inv.nolimit (I:Inv X pins σ H s):s.heap.NoLimit:=I.ok.mod.nolimit.keeps I.bk
theorem Inv.fr (I:Inv X pins σ H s):∃ m,Fr X.base X.env.locals s.heap m :=
  let ⟨m,hn,_⟩:=I.loc
  ⟨m,hn,I.bk,Nat.le_trans I.ok.bsz I.ok.above⟩
theorem Inv.lt (I:Inv X pins σ H s):X.env.locals < s.heap.objs.size:=let ⟨_,hn,_⟩:=I.loc; hn.lt
theorem Inv.sz (I:Inv X pins σ H s):X.s₀.heap.objs.size ≤ s.heap.objs.size:=Nat.le_trans I.ok.above (Nat.le_of_lt I.lt)
theorem Inv.nofs (I:Inv X pins σ H s) {a:Addr} (h:s.heap.objs.size ≤ a):a ∉ X.fs:=fun hb=>by
  obtain ⟨_,o,ho,_⟩:=I.ok.funs.mem hb
  exact absurd (Nat.lt_of_lt_of_le (Heap.lt_size ho) (Nat.le_trans I.sz h)) (Nat.lt_irrefl _)
theorem Inv.cne (I:Inv X pins σ H s):∀ x c,X.env.cells.lookup x=some c→c ≠ X.env.locals:=fun x c e z=>by
  obtain ⟨v,o,ho,hd⟩:=I.cell x c e
  obtain ⟨m,⟨o',es,ep,ho',hd',_⟩,_⟩:=I.loc
  rw [z,ho'] at ho; cases ho; rw [hd'] at hd; cases hd
theorem Inv.funs (I:Inv X pins σ H s):s.heap.FunFrames X.base X.outer:=by
  have all:∀ (l:List Env),(∀ b ∈ frs l,b ∈ X.fs)→X.s₀.heap.FunFrames X.base l→s.heap.FunFrames X.base l:=by
    intro l
    induction l with
    | nil=>intro _ _; trivial
    | cons env r ih =>
      intro hs hl
      obtain ⟨hk,⟨L,o,hf,hn,ho,hd⟩,hr⟩:=hl
      have hL:L ∈ X.fs:=hs L (by unfold frs; rw [List.filterMap_cons,hf]; exact List.mem_cons_self)
      obtain ⟨sl,e⟩:=I.base.slot L o ho (I.ok.frf L hL) hL fun z=>I.ok.exfs L z hL
      exact ⟨hk,⟨L,_,hf,hn,e,hd⟩,ih (fun b hb=>hs b (by unfold frs; rw [List.filterMap_cons,hf]; exact List.mem_cons_of_mem _ hb)) hr⟩
  exact all X.outer (fun _ hb=>hb) I.ok.funs
theorem Inv.stack (I:Inv X pins σ H s):s.heap.FunFrames X.base X.stack:=by
  rcases I.ok.stk with e | ⟨e,hf⟩
  · rw [e]; exact I.funs
  · rw [e]
    obtain ⟨m,hn,_⟩:=I.loc
    refine .cons (by rw [I.ok.kind]; decide) hf hn ?_ I.funs
    exact Heap.get?_none_of_le (Nat.le_trans I.ok.bsz I.ok.above)
theorem Inv.stkSub (I:Inv X pins σ H s):∀ b ∈ frs X.stack,b ∈ X.env.locals :: X.fs:=fun b hb=>by
  rcases I.ok.stk with e | ⟨e,hf⟩
  · rw [e] at hb; exact List.mem_cons_of_mem _ hb
  · rw [e] at hb
    unfold frs at hb
    rw [List.filterMap_cons,hf] at hb
    exact hb
theorem Inv.stkFree (I:Inv X pins σ H s):∀ b ∈ frs X.stack,H b=none:=fun b hb=>by
  rcases List.mem_cons.mp (I.stkSub b hb) with e | hb
  · rw [e]; exact I.free
  · obtain ⟨_,o,ho,_⟩:=I.ok.funs.mem hb
    exact I.base.free b o ho (I.ok.frf b hb) fun z=>I.ok.exfs b z hb
theorem Inv.step {g':Array GenState} {t':Nat} {d':Drawn} {ch:List Addr} (I:Inv X pins σ H s)
    (hch:∀ b ∈ ch,(b ∈ X.ex∨X.s₀.heap.objs.size ≤ b)∧b ≠ X.env.locals∧(∀ x c,X.env.cells.lookup x=some c→c ≠ b)∧∀ p ∈ X.pn ++ pins,p.1 ≠ b)
    (keep:∀ b o,b ≠ X.env.locals→b ∉ X.fs→b ∉ ch→s.heap.get? b=some o→H b=none→h'.get? b=some o)
    (slot:∀ b o,b ≠ X.env.locals→b ∈ X.fs→b ∉ ch→s.heap.get? b=some o→H b=none→∃ sl,h'.get? b=some { o with slots:=sl }) (free:∀ b o,b ∉ ch→s.heap.get? b=some o→H b=none→H' b=none)
    (there:∀ b o,b ∉ ch→s.heap.get? b=some o→∃ o',h'.get? b=some o')
    (tups:∀ b xs,H b=some (.tup xs)→H' b=some (.tup xs)) (frzs:∀ b o u,H b=some (.frz o u)→H' b=some (.frz o u)) (tbls:∀ b ps,H b=some (.tbl ps)→∃ more,H' b=some (.tbl (ps ++ more)))
    (ns:∀ m,s.heap.Ns X.env.locals m→h'.Ns X.env.locals m) (hok:HOk X.prog X.w H' h') (hg:AllBare g') :
    Inv X pins σ H' { s with heap:=h',gens:=g',drawn:=d',toks:=t' }:=by
  have neL:∀ b o,X.s₀.heap.get? b=some o→b ≠ X.env.locals:=fun b o e=>Nat.ne_of_lt (Nat.lt_of_lt_of_le (Heap.lt_size e) I.ok.above)
  have neC:∀ b o,X.s₀.heap.get? b=some o→b ∉ X.ex→b ∉ ch:=fun b o e hx hb=>by
    rcases (hch b hb).1 with z | z
    · exact hx z
    · exact absurd (Nat.lt_of_lt_of_le (Heap.lt_size e) z) (Nat.lt_irrefl _)
  have cellK:∀ x c,X.env.cells.lookup x=some c→∀ v,s.heap.IsCell c v→h'.IsCell c v:=fun x c e v ⟨o,ho,hd⟩=>by
    have nch:c ∉ ch:=fun z=>(hch c z).2.2.1 x c e rfl
    by_cases hc:c ∈ X.fs
    · obtain ⟨sl,q⟩:=slot c o (I.cne x c e) hc nch ho (I.freeC x c e)
      exact ⟨_,q,hd⟩
    · exact ⟨o,keep c o (I.cne x c e) hc nch ho (I.freeC x c e),hd⟩
  refine ⟨I.ok,I.os,hg,⟨fun b o e n hb hx=>?_,fun b o e n hb hx=>?_,fun b o e n hx=>?_,fun b o e hx=>?_,fun b xs e=>tups b xs (I.base.tups b xs e),fun b o xs e=>frzs b o xs (I.base.frzs b o xs e),fun b ps e=>?_⟩,?_,fun x c e=>?_,?_,fun x c e=>?_,fun p hp=>?_,hok,I.len⟩
  · exact keep b o (neL b o e) hb (neC b o e hx) (I.base.keep b o e n hb hx) (I.base.free b o e n hx)
  · obtain ⟨sl,e1⟩:=I.base.slot b o e n hb hx
    obtain ⟨sl',e2⟩:=slot b _ (neL b o e) hb (neC b o e hx) e1 (I.base.free b o e n hx)
    exact ⟨sl',e2⟩
  · obtain ⟨o',e1⟩:=I.base.there b o e hx
    exact free b o' (neC b o e hx) e1 (I.base.free b o e n hx)
  · obtain ⟨o',e1⟩:=I.base.there b o e hx
    exact there b o' (neC b o e hx) e1
  · obtain ⟨m1,e1⟩:=I.base.tbls b ps e
    obtain ⟨m2,e2⟩:=tbls b _ e1
    exact ⟨m1 ++ m2,by rw [e2,Array.append_assoc]⟩
  · obtain ⟨m,hn,hl⟩:=I.loc
    refine ⟨m,ns m hn,fun i x v e1 e2 e3=>?_⟩
    obtain ⟨u,r,l⟩:=hl i x v e1 e2 e3
    refine ⟨u,r,?_⟩
    rcases l with l | ⟨k,c,e,z⟩
    · exact .inl l
    · exact .inr ⟨k,c,e,cellK x c e _ z⟩
  · obtain ⟨v,z⟩:=I.cell x c e
    exact ⟨v,cellK x c e v z⟩
  · obtain ⟨m,⟨o,_,_,ho,_⟩,_⟩:=I.loc
    exact free _ o (fun z=>(hch _ z).2.1 rfl) ho I.free
  · obtain ⟨v,o,ho,hd⟩:=I.cell x c e
    exact free c o (fun z=>(hch c z).2.2.1 x c e rfl) ho (I.freeC x c e)
  · obtain ⟨e,n,ne,nf,d⟩:=I.pin p hp
    have nch:p.1 ∉ ch:=fun z=>(hch p.1 z).2.2.2 p hp rfl
    exact ⟨keep p.1 p.2 ne nf nch e n,free p.1 p.2 nch e n,ne,nf,d⟩
theorem Inv.un {t':Nat} (I:Inv X pins σ H s) (u:Un X.fs [] H H' s.heap h') (hok:HOk X.prog X.w H' h'):Inv X pins σ H' { s with heap:=h',toks:=t' }:=by
  obtain ⟨m,⟨o,es,ep,ho,r⟩,_⟩:=id I.loc
  obtain ⟨sl,hL⟩:=u.any ho I.free (by simp)
  exact I.step (g':=s.gens) (d':=s.drawn) (ch:=[]) (fun _ z=>nomatch z) (fun b o _ hb _ e n=>u.keep b o e n hb (by simp)) (fun b o _ hb _ e n=>u.slot b o e n hb (by simp)) (fun b o _ e n=>u.free b o e n (by simp)) (fun b o _ e=>u.there b o e (by simp)) u.tups u.frzs u.tbls (fun m' hm=>by
    obtain ⟨o',es',ep',ho',r'⟩:=hm
    rw [ho] at ho'; cases ho'
    exact ⟨_,es',ep',hL,r'⟩) hok I.bare
theorem Inv.call {g':Array GenState} {t':Nat} {d':Drawn} {ch:List Addr} (I:Inv X pins σ H s) (u:Un (frs X.stack) ch H H' s.heap h') (hok:HOk X.prog X.w H' h') (hg:AllBare g')
    (hch:∀ b ∈ ch,(b ∈ X.ex∨X.s₀.heap.objs.size ≤ b)∧b ≠ X.env.locals∧(∀ x c,X.env.cells.lookup x=some c→c ≠ b)∧∀ p ∈ X.pn ++ pins,p.1 ≠ b) :
    Inv X pins σ H' { s with heap:=h',gens:=g',drawn:=d',toks:=t' }:=by
  obtain ⟨m,⟨o,es,ep,ho,r⟩,_⟩:=id I.loc
  obtain ⟨sl,hL⟩:=u.any ho I.free fun z=>(hch _ z).2.1 rfl
  exact I.step (ch:=ch) hch (fun b o hL hb hc e n=>u.keep b o e n (fun z=>(List.mem_cons.mp (I.stkSub b z)).elim hL hb) hc) (fun b o _ _ hc e n=>u.any e n hc) (fun b o hc e n=>u.free b o e n hc) (fun b o hc e=>u.there b o e hc) u.tups u.frzs u.tbls (fun m' hm=>by
    obtain ⟨o',es',ep',ho',r'⟩:=hm
    rw [ho] at ho'; cases ho'
    exact ⟨_,es',ep',hL,r'⟩) hok hg
theorem Inv.turned {t':Nat} {it:Addr} (I:Inv X pins σ H s) (k:∀ b o,b ≠ it→s.heap.get? b=some o→h'.get? b=some o) (hn:H it=none) (hL:it ≠ X.env.locals)
    (h1:it ∈ X.ex∨X.s₀.heap.objs.size ≤ it) (h2:∀ x c,X.env.cells.lookup x=some c→c ≠ it) (h3:∀ p ∈ X.pn ++ pins,p.1 ≠ it):Inv X pins σ H { s with heap:=h',toks:=t' }:=by
  have nit:∀ b u,H b=some u→b ≠ it:=fun b u e z=>by rw [z,hn] at e; cases e
  refine I.step (g':=s.gens) (d':=s.drawn) (ch:=[it]) (fun b hb=>?_) (fun b o _ _ hc e _=>k b o (fun z=>hc (by simp [z])) e) (fun b o _ _ hc e _=>⟨o.slots,k b o (fun z=>hc (by simp [z])) e⟩) (fun _ _ _ _ n=>n)
    (fun b o hc e=>⟨o,k b o (fun z=>hc (by simp [z])) e⟩) (fun _ _ e=>e) (fun _ _ _ e=>e) (fun b ps e=>⟨#[],by rw [e]; simp⟩) (fun m hm=>?_) (fun b u e=>?_) I.bare
  · have e:b=it:=by simpa using hb
    subst e
    exact ⟨h1,hL,h2,h3⟩
  · obtain ⟨o,es,ep,ho,r⟩:=hm
    exact ⟨o,es,ep,k _ o (Ne.symm hL) ho,r⟩
  · refine (I.hok b u e).stay (fun c v hc q=>k c v ?_ q) (fun _ q=>q) fun _ _ q=>q
    rcases hc with z | z
    · rw [z]; exact nit b u e
    · exact nit c _ z
theorem Inv.tok (I:Inv X pins σ H s) (t:Nat):Inv X pins σ H { s with toks:=t }:=I.un (h':=s.heap) (t':=t) Un.refl I.hok
theorem Inv.kept {t':Nat} (I:Inv X pins σ H s) (k:∀ b u,s.heap.get? b=some u→h'.get? b=some u):Inv X pins σ H { s with heap:=h',toks:=t' }:=I.un (Un.kept k) (I.hok.kept k)
theorem Inv.laid {a:Addr} {o:HO} {t':Nat} (I:Inv X pins σ H s) (k:∀ b u,s.heap.get? b=some u→h'.get? b=some u) (hp:s.heap.objs.size ≤ a) (new:ObjOk X.prog X.w (upd H a o) h' a o) :
    Inv X pins σ (upd H a o) { s with heap:=h',toks:=t' }:=I.un (Un.laid k hp (I.hok.fresh hp)) (I.hok.laid k hp new)
theorem Inv.write {x e:Addr} {o:HO} {t':Nat} (I:Inv X pins σ H s) (mu:Mut (H x)) (he:e=x∨H e=some (.own x)) (k:∀ b u,b ≠ e→s.heap.get? b=some u→h'.get? b=some u) (heo:∃ u,h'.get? e=some u)
    (new:ObjOk X.prog X.w (upd H x o) h' x o):Inv X pins σ (upd H x o) { s with heap:=h',toks:=t' }:=I.un (Un.write mu he k heo) (I.hok.write mu he k heo new)
theorem Inv.weak {σ':List (Option V)} (I:Inv X pins σ H s) (hl:σ'.length=σ.length) (w:∀ (i:Nat) v,σ'[i]?=some (some v)→σ[i]?=some (some v)):Inv X pins σ' H s :=
  ⟨I.ok,I.os,I.bare,I.base,let ⟨m,hn,hl'⟩:=I.loc; ⟨m,hn,fun i x v e1 e2 e3=>hl' i x v e1 (w i v e2) e3⟩,I.cell,I.free,I.freeC,I.pin,I.hok,hl.trans I.len⟩
theorem Inv.pins_of {pins':List (Addr × Obj)} (I:Inv X pins σ H s) (h:∀ p ∈ pins',s.heap.get? p.1=some p.2∧H p.1=none∧p.1 ≠ X.env.locals∧p.1 ∉ X.fs∧∀ v,p.2.data ≠ .cell v):Inv X pins' σ H s :=
  ⟨I.ok,I.os,I.bare,I.base,I.loc,I.cell,I.free,I.freeC,fun p hp=>(List.mem_append.mp hp).elim (fun z=>I.pin p (List.mem_append_left _ z)) (h p),I.hok,I.len⟩
theorem zhe {N:List Str} (hN:N.Nodup) {i j:Nat} {x:Str} (a:N[i]?=some x) (b:N[j]?=some x):i=j:=by
  obtain ⟨h1,e1⟩:=List.getElem?_eq_some_iff.mp a
  obtain ⟨h2,e2⟩:=List.getElem?_eq_some_iff.mp b
  exact (List.getElem_inj hN).mp (e1.trans e2.symm)
theorem zmD {M:Model} {A:Around} {E:Value→Shared→Prop} {i:Nat} {x:Str} {v:V} {u:Value} {Q:Unit→Shared→Prop} (I:Inv X pins σ H s) (hN:X.N.Nodup) (hi:X.N[i]?=some x) (hx:Loc X.env.scope x) (r:RelV v u)
    (h:∀ s',Inv X pins (σ.set i (some v)) H s'→(∃ a,Heap.SameBut a s.heap s'.heap∧(a=X.env.locals∨X.env.cells.lookup x=some a))→Q () s') (hf:X.fn x=true∨X.env.scope.names.lookup x=some .local:=by first | exact .inl rfl | exact .inr rfl | assumption):wpAny M A (storeName X.env x u) Q E s:=by
  obtain ⟨m,hn,hl⟩:=id I.loc
  have hcls:(X.env.scope.kind == .class || (X.env.scope.kind == .module && X.env.locals != X.env.globals))=false:=by rw [I.ok.kind]; rfl
  have hiσ:i < σ.length:=by rw [I.len]; exact (List.getElem?_eq_some_iff.mp hi).1
  have cne:=I.cne
  have tracked:∀ {a:Addr} {h':Heap},(∃ o,s.heap.get? a=some o∧H a=none)→Heap.SameBut a s.heap h'→HOk X.prog X.w H h':=fun {a h'} ha hs b ob e=>by
    obtain ⟨_,_,hfree⟩:=ha
    refine (I.hok b ob e).stay (fun c w' hc q=>(hs.2 c ?_).trans q) (fun _ q=>q) fun _ _ q=>q
    rintro rfl
    rcases hc with rfl | hc
    · rw [hfree] at e; cases e
    · rw [hfree] at hc; cases hc
  rcases hx with hk | hk
  · refine wpAny_storeName_local hk hn (fun h' hn' hs=>?_) hcls
    obtain ⟨oL,_,_,hoL,_⟩:=id hn
    refine h _ ⟨I.ok,I.os,I.bare,⟨fun b o e n hb hx=>?_,fun b o e n hb hx=>?_,I.base.free,fun b o e hx=>?_,I.base.tups,I.base.frzs,I.base.tbls⟩,⟨_,hn',fun j y v' e1 e2 e3=>?_⟩,fun y c e=>?_,I.free,I.freeC,fun p hp=>?_,tracked ⟨oL,hoL,I.free⟩ hs,by simpa using I.len⟩ ⟨_,hs,.inl rfl⟩
    · exact (hs.2 b (Nat.ne_of_lt (Nat.lt_of_lt_of_le (Heap.lt_size e) I.ok.above))).trans (I.base.keep b o e n hb hx)
    · obtain ⟨sl,e1⟩:=I.base.slot b o e n hb hx
      exact ⟨sl,(hs.2 b (Nat.ne_of_lt (Nat.lt_of_lt_of_le (Heap.lt_size e) I.ok.above))).trans e1⟩
    · obtain ⟨o',e1⟩:=I.base.there b o e hx
      exact ⟨o',(hs.2 b (Nat.ne_of_lt (Nat.lt_of_lt_of_le (Heap.lt_size e) I.ok.above))).trans e1⟩
    · by_cases hj:j=i
      · subst hj
        rw [hi] at e1; cases e1
        rw [List.getElem?_set_self hiσ] at e2
        cases e2
        exact ⟨u,r,.inl ⟨hk,by simp⟩⟩
      · rw [List.getElem?_set_ne (Ne.symm hj)] at e2
        obtain ⟨u',r',q⟩:=hl j y v' e1 e2 e3
        refine ⟨u',r',?_⟩
        rcases q with ⟨k,e⟩ | ⟨k,c,e,z⟩
        · refine .inl ⟨k,?_⟩
          have:y ≠ x:=fun e=>hj (zhe hN e1 (e ▸ hi))
          simp [this,e]
        · exact .inr ⟨k,c,e,z.sameBut hs (cne y c e)⟩
    · obtain ⟨w',z⟩:=I.cell y c e
      exact ⟨w',z.sameBut hs (cne y c e)⟩
    · obtain ⟨e,n,ne,nf,d⟩:=I.pin p hp
      exact ⟨(hs.2 p.1 ne).trans e,n,ne,nf,d⟩
  · have hfn:X.fn x=true:=by
      rcases hf with z | z
      · exact z
      · rw [z] at hk; cases hk
    obtain ⟨c,hc⟩:=I.ok.has x (.inl hk)
    obtain ⟨w',z⟩:=I.cell x c hc
    refine wpAny_storeName_cell I.ok.kind hk hc z (fun h' hc' hs=>?_)
    obtain ⟨oc,hoc,hocd⟩:=id z
    refine h { s with heap:=h' } ⟨I.ok,I.os,I.bare,⟨fun b o e n hb hx=>?_,fun b o e n hb hx=>?_,I.base.free,fun b o e hx=>?_,I.base.tups,I.base.frzs,I.base.tbls⟩,⟨m,hn.sameBut hs (Ne.symm (cne x c hc)),fun j y v' e1 e2 e3=>?_⟩,fun y c' e=>?_,I.free,I.freeC,fun p hp=>?_,tracked ⟨oc,hoc,I.freeC x c hc⟩ hs,by simpa using I.len⟩ ⟨c,hs,.inr hc⟩
    · exact (hs.2 b (Nat.ne_of_lt (Nat.lt_of_lt_of_le (Heap.lt_size e) (I.ok.cab x c hfn hc)))).trans (I.base.keep b o e n hb hx)
    · obtain ⟨sl,e1⟩:=I.base.slot b o e n hb hx
      exact ⟨sl,(hs.2 b (Nat.ne_of_lt (Nat.lt_of_lt_of_le (Heap.lt_size e) (I.ok.cab x c hfn hc)))).trans e1⟩
    · obtain ⟨o',e1⟩:=I.base.there b o e hx
      exact ⟨o',(hs.2 b (Nat.ne_of_lt (Nat.lt_of_lt_of_le (Heap.lt_size e) (I.ok.cab x c hfn hc)))).trans e1⟩
    · by_cases hj:j=i
      · subst hj
        rw [hi] at e1; cases e1
        rw [List.getElem?_set_self hiσ] at e2
        cases e2
        exact ⟨u,r,.inr ⟨.inl hk,c,hc,hc'⟩⟩
      · rw [List.getElem?_set_ne (Ne.symm hj)] at e2
        obtain ⟨u',r',q⟩:=hl j y v' e1 e2 e3
        refine ⟨u',r',?_⟩
        rcases q with q | ⟨k,c',e,z'⟩
        · exact .inl q
        · refine .inr ⟨k,c',e,z'.sameBut hs ?_⟩
          rintro rfl
          exact hj (zhe hN e1 (I.ok.inj _ _ _ e hc ▸ hi))
    · by_cases hcc:c'=c
      · subst hcc; exact ⟨_,hc'⟩
      · obtain ⟨w2,z2⟩:=I.cell y c' e
        exact ⟨w2,z2.sameBut hs hcc⟩
    · obtain ⟨e,n,ne,nf,d⟩:=I.pin p hp
      refine ⟨(hs.2 p.1 ?_).trans e,n,ne,nf,d⟩
      intro q
      rw [q,hoc] at e
      have q':oc=p.2:=Option.some.inj e
      exact d w' (by rw [← q']; exact hocd)
theorem zeY {M:Model} {A:Around} {E:Value→Shared→Prop} {i:Nat} {x:Str} {v:V} {u:Value} {Q:Unit→Shared→Prop} (I:Inv X pins σ H s) (hN:X.N.Nodup) (hi:X.N[i]?=some x) (hx:Loc X.env.scope x) (r:RelV v u)
    (h:∀ s',Inv X pins (σ.set i (some v)) H s'→Q () s') (hf:X.fn x=true∨X.env.scope.names.lookup x=some .local:=by first | exact .inl rfl | exact .inr rfl | assumption):wpAny M A (storeName X.env x u) Q E s :=
  zmD I hN hi hx r (fun s' I' _=>h s' I') hf
end
abbrev XK:=Value→Option Addr→Hp→Prop
abbrev St:=List (Option V)
abbrev VK:=V→Hp→Prop
abbrev TE:=St→Hp→VK→Prop
abbrev TT:=St→Hp→(Bool→Hp→Prop)→Prop
abbrev TA:=St→Hp→(List V→Hp→Prop)→Prop
structure Ends where
  nx:St→Hp→Prop
  rt:VK
  bk:St→Hp→Prop:=fun _ _=>False
  ct:St→Hp→Prop:=fun _ _=>False
abbrev TS:=Ends→St→Hp→Prop
def EP (X:Cx) (pins:List (Addr × Obj)) (σ:St) (Q:VK) (u:Value) (s':Shared):Prop:=∃ v H',Inv X pins σ H' s'∧RelV v u∧Q v H'
def TP (X:Cx) (pins:List (Addr × Obj)) (σ:St) (Q:Bool→Hp→Prop) (b:Bool) (s':Shared):Prop:=∃ H',Inv X pins σ H' s'∧Q b H'
def AP (X:Cx) (pins:List (Addr × Obj)) (σ:St) (Q:List V→Hp→Prop) (us:List Value) (s':Shared):Prop:=∃ vs H',Inv X pins σ H' s'∧Vals vs us∧Q vs H'
def SP (X:Cx) (pins:List (Addr × Obj)) (D:Ends) (f:Flow) (s':Shared):Prop :=
  match f with
  | .next=>∃ σ' H',Inv X pins σ' H' s'∧D.nx σ' H'
  | .brk=>∃ σ' H',Inv X pins σ' H' s'∧D.bk σ' H'
  | .cont=>∃ σ' H',Inv X pins σ' H' s'∧D.ct σ' H'
  | .ret u=>∃ v σ' H',Inv X pins σ' H' s'∧RelV v u∧D.rt v H'
def PE (X:Cx) (e:Expr) (t:TE):Prop :=
  ∀ (pins:List (Addr × Obj)) (s:Shared) (σ:St) (H:Hp) (Q:VK),Inv X pins σ H s→t σ H Q→wpAny (model X.prog X.w) X.A (eval e X.env) (EP X pins σ Q) X.xe s
def PT (X:Cx) (e:Expr) (t:TT):Prop :=
  ∀ (pins:List (Addr × Obj)) (s:Shared) (σ:St) (H:Hp) (Q:Bool→Hp→Prop),Inv X pins σ H s→t σ H Q→wpAny (model X.prog X.w) X.A (isTrue e X.env (eval e X.env)) (TP X pins σ Q) X.xe s
def PW (X:Cx) (e:Expr) (t:TT):Prop :=
  ∀ (whole:Sem Value) (pins:List (Addr × Obj)) (s:Shared) (σ:St) (H:Hp) (Q:Bool→Hp→Prop),Inv X pins σ H s→t σ H Q→wpAny (model X.prog X.w) X.A (isTrue e X.env whole) (TP X pins σ Q) X.xe s
theorem PW.pt {X:Cx} {e:Expr} {t:TT} (h:PW X e t):PT X e t:=h _
def PA (X:Cx) (es:List Expr) (t:TA):Prop :=
  ∀ (pos:Pos) (pins:List (Addr × Obj)) (s:Shared) (σ:St) (H:Hp) (Q:List V→Hp→Prop),Inv X pins σ H s→t σ H Q→wpAny (model X.prog X.w) X.A (spliced (backTo pos (starEach es X.env))) (AP X pins σ Q) X.xe s
def PS (X:Cx) (st:Stmt) (t:TS):Prop :=
  ∀ (pins:List (Addr × Obj)) (s:Shared) (σ:St) (H:Hp) (D:Ends),Inv X pins σ H s→t D σ H→wpAny (model X.prog X.w) X.A (exec st X.env) (SP X pins D) X.xe s
def PSs (X:Cx) (st:List Stmt) (t:TS):Prop :=
  ∀ (pins:List (Addr × Obj)) (s:Shared) (σ:St) (H:Hp) (D:Ends),Inv X pins σ H s→t D σ H→wpAny (model X.prog X.w) X.A (execs st X.env) (SP X pins D) X.xe s
theorem thn {α:Type} {t:Sem α} {Q Q':α→Shared→Prop} {M:Model} {A:Around} {E:Value→Shared→Prop} {s:Shared} (h:wpAny M A t Q E s) (hQ:∀ a s,Q a s→Q' a s):wpAny M A t Q' E s:=wpAny_mono h hQ fun _ _ x=>x
end L2
namespace L2
open PySem PySem.Spec PyProof.Rows
section
variable {X:Cx}
def tVar (i:Nat):TE:=fun σ H Q=>∃ v,σ[i]?=some (some v)∧Q v H
def tC (v:V):TE:=fun _ H Q=>Q v H
theorem zpV {i:Nat} {x:Str} {pos:Pos} (hN:X.N[i]?=some x) (hv:Vis X.env.scope x) (hd:(x == ("__debug__" : Str))=false:=by decide) (hcd:(x == ("__classdict__" : Str))=false:=by decide):PE X (.Name x pos) (tVar i):=by
  intro pins s σ H Q I h
  obtain ⟨v,e,h⟩:=h
  obtain ⟨m,hn,hl⟩:=I.loc
  obtain ⟨u,r,l⟩:=hl i x v hN e hv
  have fin:EP X pins σ Q u s:=⟨v,H,I,r,h⟩
  rcases l with ⟨hk,hm⟩ | ⟨hk,c,hc,hcell⟩
  · exact wpAny_Name (wpAny_loadName_local I.ok.kind hk hn hm fin) hd
  · rcases hk with hk | hk
    · exact wpAny_Name (wpAny_loadName_cell I.ok.kind hk hc hcell fin) hd
    · exact wpAny_Name (wpAny_loadName_free I.ok.kind hk hc hcell fin hcd) hd
theorem zaw {i j pos}:PE X (.Constant (.int i) j pos) (tC (.int i)):=fun _ _ _ H _ I h=>wpAny_Constant_int ⟨.int i,H,I.tok _,⟨_,rfl⟩,h⟩
theorem zfR {b j pos}:PE X (.Constant (.bool b) j pos) (tC (.bl b)):=fun _ _ _ H _ I h=>Constant_bool ⟨.bl b,H,I,rfl,h⟩
theorem zoo {j pos}:PE X (.Constant .none j pos) (tC .non):=fun _ _ _ H _ I h=>Constant_none ⟨.non,H,I,rfl,h⟩
theorem zqe {x j pos}:PE X (.Constant (.str x) j pos) (tC (.str x)):=fun _ _ _ H _ I h=>Calls.Constant_str ⟨.str x,H,I.tok _,⟨_,rfl⟩,h⟩
def Gl (X:Cx) (x:Str):Prop:=X.env.kindOf x=some .globalImplicit
theorem zek {E:Value→Shared→Prop} {pins:List (Addr × Obj)} {s:Shared} {σ:St} {H:Hp} {x:Str} {u:Value} {pos:Pos} {Q:Value→Shared→Prop} (I:Inv X pins σ H s) (hg:Gl X x) (hm:X.mg x=some u) (h:Q u s)
    (hd:(x == ("__debug__" : Str))=false:=by decide):wpAny (model X.prog X.w) X.A (eval (.Name x pos) X.env) Q E s :=
  Calls.Name_function_global I.ok.kind hg (Calls.loadGlobal_global (by rw [I.ok.glob]; exact I.mod.glob.keeps I.bk) hm h) hd
theorem zeG {E:Value→Shared→Prop} {pins:List (Addr × Obj)} {s:Shared} {σ:St} {H:Hp} {x:Str} {u:Value} {pos:Pos} {Q:Value→Shared→Prop} (I:Inv X pins σ H s) (hg:Gl X x) (hm:X.mg x=none) (hv:bootBuiltins x=some u) (h:Q u s)
    (hn:x ≠ "__name__":=by decide) (hd:(x == ("__debug__" : Str))=false:=by decide):wpAny (model X.prog X.w) X.A (eval (.Name x pos) X.env) Q E s:=by
  obtain ⟨mb,h1,h2⟩:=I.mod.blt
  exact Calls.Name_function_global I.ok.kind hg (Calls.loadGlobal_builtin (by rw [I.ok.glob]; exact I.mod.glob.keeps I.bk) hm (by rw [I.ok.blt]; exact h1.keeps I.bk) ((h2 x hn).trans hv) h) hd
theorem zjq {x:Str} {v:V} {u:Value} {pos:Pos} (hg:Gl X x) (hm:X.mg x=some u) (r:RelV v u) (hd:(x == ("__debug__" : Str))=false:=by decide):PE X (.Name x pos) (tC v) :=
  fun _ _ _ H _ I h=>zek I hg hm ⟨v,H,I,r,h⟩ hd
theorem zi9 {x:Str} {v:V} {u:Value} {pos:Pos} (hg:Gl X x) (hm:X.mg x=none) (hv:bootBuiltins x=some u) (r:RelV v u) (hn:x ≠ "__name__":=by decide) (hd:(x == ("__debug__" : Str))=false:=by decide):PE X (.Name x pos) (tC v) :=
  fun _ _ _ H _ I h=>zeG I hg hm hv ⟨v,H,I,r,h⟩ hn hd
variable {a b:Expr} {ta tb:TE} {pos:Pos}
def tB (t:TE):TT:=fun σ H Q=>t σ H fun x H1=>∃ c,x = .bl c∧Q c H1
theorem zc9 {e:Expr} {t:TE} (h:PE X e t) (he:∀ whole,isTrue e X.env whole=(do let v ← whole; standAt e.pos; holding [v] (truthy v)):=by intro _; rfl):PT X e (tB t):=by
  intro pins s σ H Q I hw
  refine isTrue_plain (thn (h pins s σ H _ I hw) fun v s1 ⟨x,H1,I1,r1,q1⟩=>?_) (he _)
  obtain ⟨d,rfl,q⟩:=q1
  cases r1
  exact wpAny_truthy_bool ⟨H1,I1,q⟩
variable {tA tB':TT} {rest:List Expr}
def tAnd (t u:TT):TT:=fun σ H Q=>t σ H fun c H1=>if c=true then u σ H1 Q else Q false H1
def tOr (t u:TT):TT:=fun σ H Q=>t σ H fun c H1=>if c=true then Q true H1 else u σ H1 Q
def tNot (t:TT):TT:=fun σ H Q=>t σ H fun c H1=>Q (!c) H1
theorem zpJ (ha:PT X a tA):PW X (.BoolOp .And [a] pos) tA:=by
  intro wh pins s σ H Q I h
  refine isTrue_and (thn (ha pins s σ H Q I h) fun c s1 e=>?_)
  cases c with
  | true=>exact isTrue_and_nil e
  | false=>exact e
theorem zfC (ha:PT X a tA):PW X (.BoolOp .Or [a] pos) tA:=by
  intro wh pins s σ H Q I h
  refine isTrue_or (thn (ha pins s σ H Q I h) fun c s1 e=>?_)
  cases c with
  | false=>exact isTrue_or_nil e
  | true=>exact e
theorem zqM (ha:PT X a tA) (hb:PW X (.BoolOp .And (b :: rest) pos) tB'):PW X (.BoolOp .And (a :: b :: rest) pos) (tAnd tA tB'):=by
  intro wh pins s σ H Q I h
  refine isTrue_and (thn (ha pins s σ H _ I h) fun c s1 ⟨H1,I1,q1⟩=>?_)
  cases c with
  | true=>exact hb wh pins s1 σ H1 Q I1 q1
  | false=>exact ⟨H1,I1,q1⟩
theorem zhR (ha:PT X a tA) (hb:PW X (.BoolOp .Or (b :: rest) pos) tB'):PW X (.BoolOp .Or (a :: b :: rest) pos) (tOr tA tB'):=by
  intro wh pins s σ H Q I h
  refine isTrue_or (thn (ha pins s σ H _ I h) fun c s1 ⟨H1,I1,q1⟩=>?_)
  cases c with
  | true=>exact ⟨H1,I1,q1⟩
  | false=>exact hb wh pins s1 σ H1 Q I1 q1
theorem zc4 (ha:PT X a tA):PT X (.UnaryOp .Not a pos) (tNot tA):=by
  intro pins s σ H Q I h
  exact isTrue_not (ha pins s σ H (fun c H1=>Q (!c) H1) I h)
def zqm (ta tb:TE):TE:=fun σ H Q=>ta σ H fun x H1=>∃ c,x = .bl c∧if c=true then tb σ H1 Q else Q (.bl false) H1
def tOrV (ta tb:TE):TE:=fun σ H Q=>ta σ H fun x H1=>∃ c,x = .bl c∧if c=true then Q (.bl true) H1 else tb σ H1 Q
def zql (ta:TE):TE:=fun σ H Q=>ta σ H fun x H1=>∃ c,x = .bl c∧Q (.bl (!c)) H1
theorem zmE {op} {t:TE} (h:PE X a t):PE X (.BoolOp op [a] pos) t:=fun pins s σ H Q I hw=>BoolOp_one (h pins s σ H Q I hw)
theorem zjM (ha:PE X a ta) (hb:PE X (.BoolOp .And (b :: rest) pos) tb):PE X (.BoolOp .And (a :: b :: rest) pos) (zqm ta tb):=by
  intro pins s σ H Q I h
  refine BoolOp_and (thn (ha pins s σ H _ I h) fun v s1 ⟨x,H1,I1,r1,q1⟩=>?_)
  obtain ⟨c,rfl,q1⟩:=q1
  cases r1
  refine wpAny_truthy_bool ?_
  cases c with
  | true=>exact hb pins s1 σ H1 Q I1 q1
  | false=>exact ⟨.bl false,H1,I1,rfl,q1⟩
theorem zq2 (ha:PE X a ta) (hb:PE X (.BoolOp .Or (b :: rest) pos) tb):PE X (.BoolOp .Or (a :: b :: rest) pos) (tOrV ta tb):=by
  intro pins s σ H Q I h
  refine BoolOp_or (thn (ha pins s σ H _ I h) fun v s1 ⟨x,H1,I1,r1,q1⟩=>?_)
  obtain ⟨c,rfl,q1⟩:=q1
  cases r1
  refine wpAny_truthy_bool ?_
  cases c with
  | false=>exact hb pins s1 σ H1 Q I1 q1
  | true=>exact ⟨.bl true,H1,I1,rfl,q1⟩
theorem zqF (ha:PE X a ta):PE X (.UnaryOp .Not a pos) (zql ta):=by
  intro pins s σ H Q I h
  refine UnaryOp_ (thn (ha pins s σ H _ I h) fun v s1 ⟨x,H1,I1,r1,q1⟩=>?_)
  obtain ⟨c,rfl,q1⟩:=q1
  cases r1
  exact not_of (wpAny_truthy_bool ⟨.bl (!c),H1,I1,rfl,q1⟩)
end
end L2
namespace L2
open PySem PySem.Spec PyProof.Rows
def SqL (K:PySem.W.Frag) (H:Hp) (a:Addr) (xs:List V):Prop :=
  Rd H a (.lst xs) ∨
    ∃ (o:Obj) (its:Array Value) (n:Nat),K.lookup a=some o∧o.cls = .type "list"∧o.dict=none∧o.data = .seq its n∧its.size ≤ sizeLine∧Vals xs its.toList
def SqT (K:PySem.W.Frag) (H:Hp) (a:Addr) (xs:List V):Prop :=
  Rd H a (.tup xs) ∨
    ∃ (o:Obj) (its:Array Value) (n:Nat),K.lookup a=some o∧o.cls = .type "tuple"∧o.data = .seq its n∧its.size ≤ sizeLine∧Vals xs its.toList
def absV:Value→Option V
  | .none=>some .non
  | .bool b=>some (.bl b)
  | .int i _=>some (.int i)
  | .str x _=>some (.str x)
  | .bytes b _=>some (.byt b)
  | .float b _=>some (.flt b)
  | .ref a=>some (.ref a)
  | .type n=>some (.ty n)
  | _=>none
theorem RelV.abs {x:V} {u:Value} (r:RelV x u):absV u=some x:=by
  cases x with
  | non=>cases r; rfl
  | bl _=>cases r; rfl
  | int _=>obtain ⟨t,rfl⟩:=r; rfl
  | str _=>obtain ⟨t,rfl⟩:=r; rfl
  | byt _=>obtain ⟨t,rfl⟩:=r; rfl
  | flt _=>obtain ⟨t,rfl⟩:=r; rfl
  | ref _=>cases r; rfl
  | ty _=>cases r; rfl
theorem RelV.inj {x y:V} {u:Value} (r:RelV x u) (q:RelV y u):x=y:=Option.some.inj (r.abs.symm.trans q.abs)
theorem Vals.inj:∀ {xs ys:List V} {us:List Value},Vals xs us→Vals ys us→xs=ys
  | _,_,_,.nil,.nil=>rfl
  | _,_,_,.cons r t,.cons r' t'=>by rw [r.inj r',Vals.inj t t']
section
variable {X:Cx} {pins:List (Addr × Obj)} {σ:St} {H:Hp} {s:Shared} {a:Addr} {xs ys:List V}
theorem SqL.of {K:PySem.W.Frag} (h:H a=some (.lst xs)):SqL K H a xs:=.inl (.inl h)
theorem SqT.of {K:PySem.W.Frag} (h:H a=some (.tup xs)):SqT K H a xs:=.inl (.inl h)
theorem Inv.list (I:Inv X pins σ H s) (h:SqL X.K H a xs):∃ its:List Value,Vals xs its∧PlainL s.heap a its.toArray∧xs.length ≤ sizeLine:=by
  rcases h with h | ⟨o,its,n,hk,hc,hd,hs,hz,r⟩
  · obtain ⟨z,its,n,r,e⟩:=h.ok I.hok
    exact ⟨its,r,⟨_,n,e,rfl,rfl,rfl⟩,z⟩
  · refine ⟨its.toList,r,⟨o,n,I.kIn a o hk,hc,hd,by simpa using hs⟩,?_⟩
    have e:=r.length
    simp only [Array.length_toList] at e
    omega
theorem Inv.tuple (I:Inv X pins σ H s) (h:SqT X.K H a xs):∃ its:List Value,Vals xs its∧IsTup s.heap a its.toArray∧xs.length ≤ sizeLine:=by
  rcases h with h | ⟨o,its,n,hk,hc,hs,hz,r⟩
  · obtain ⟨z,its,r,p⟩:=h.ok I.hok
    exact ⟨its,r,p,z⟩
  · refine ⟨its.toList,r,⟨o,I.kIn a o hk,hc,n,by simpa using hs⟩,?_⟩
    have e:=r.length
    simp only [Array.length_toList] at e
    omega
theorem Inv.list_inj (I:Inv X pins σ H s) (h:SqL X.K H a xs) (h':SqL X.K H a ys):xs=ys:=by
  obtain ⟨its,r,⟨o,n,e,_,_,d⟩,_⟩:=I.list h
  obtain ⟨its',r',⟨o',n',e',_,_,d'⟩,_⟩:=I.list h'
  rw [e] at e'; cases e'
  rw [d] at d'
  injection d' with d1 _
  have:its=its':=by simpa using congrArg Array.toList d1
  subst this
  exact r.inj r'
end
abbrev Cx.wish (X:Cx) (E:Value→Shared→Prop):Cx:={ X with xe:=E }
abbrev Cx.nox (X:Cx):Cx:=X.wish fun _ _=>False
theorem Cx.Ok.wish {X:Cx} (ok:X.Ok) (E:Value→Shared→Prop):(X.wish E).Ok :=
  ⟨ok.mod,ok.kind,ok.glob,ok.blt,ok.above,ok.inj,ok.has,ok.cab,ok.hd,ok.frames,ok.stk,ok.exf,ok.bs,ok.bsz,ok.noex,ok.exfs,ok.funs,ok.frf,ok.tb⟩
theorem Cx.Ok.unwish {X:Cx} {E:Value→Shared→Prop} (ok:(X.wish E).Ok):X.Ok :=
  ⟨ok.mod,ok.kind,ok.glob,ok.blt,ok.above,ok.inj,ok.has,ok.cab,ok.hd,ok.frames,ok.stk,ok.exf,ok.bs,ok.bsz,ok.noex,ok.exfs,ok.funs,ok.frf,ok.tb⟩
section
variable {X:Cx} {pins:List (Addr × Obj)} {σ:St} {H:Hp} {s:Shared} {E:Value→Shared→Prop}
theorem Inv.wish (I:Inv X pins σ H s) (E:Value→Shared→Prop):Inv (X.wish E) pins σ H s:=⟨I.ok.wish E,I.os,I.bare,I.base,I.loc,I.cell,I.free,I.freeC,I.pin,I.hok,I.len⟩
theorem Inv.unwish (I:Inv (X.wish E) pins σ H s):Inv X pins σ H s:=⟨I.ok.unwish,I.os,I.bare,I.base,I.loc,I.cell,I.free,I.freeC,I.pin,I.hok,I.len⟩
theorem SP.unwish {D:Ends} {f:Flow} {s':Shared} (h:SP (X.wish E) pins D f s'):SP X pins D f s':=by
  cases f with
  | next=>obtain ⟨σ',H',I,q⟩:=h; exact ⟨σ',H',I.unwish,q⟩
  | brk=>obtain ⟨σ',H',I,q⟩:=h; exact ⟨σ',H',I.unwish,q⟩
  | cont=>obtain ⟨σ',H',I,q⟩:=h; exact ⟨σ',H',I.unwish,q⟩
  | ret u=>obtain ⟨v,σ',H',I,r,q⟩:=h; exact ⟨v,σ',H',I.unwish,r,q⟩
theorem PSs.nox {st:List Stmt} {t:TS} (h:PSs X.nox st t):PSs X st t:=fun pins s σ H D I hw =>
  wpAny_mono (h pins s σ H D (I.wish _) hw) (fun _ _ q=>q.unwish) fun _ _ z=>False.elim z
end
section
variable {X:Cx} {st:Stmt} {rest:List Stmt} {t u:TS} {e:Expr} {te:TE} {pos:Pos}
def zqq:TS:=fun D σ H=>D.nx σ H
def tSeq (t u:TS):TS:=fun D σ H=>t { D with nx:=u D } σ H
theorem zbE:PSs X [] zqq:=fun _ _ σ H _ I h=>wpAny_execs_nil ⟨σ,H,I,h⟩
theorem zag (h1:PS X st t) (h2:PSs X rest u):PSs X (st :: rest) (tSeq t u):=by
  intro pins s σ H D I h
  refine wpAny_execs_cons (thn (h1 pins s σ H { D with nx:=u D } I h) fun f s1 q=>?_)
  cases f with
  | next =>
    obtain ⟨σ',H',I',q⟩:=q
    exact h2 pins s1 σ' H' D I' q
  | ret v=>exact q
  | brk=>exact q
  | cont=>exact q
theorem zao (h1:PS X st t):PSs X [st] t:=by
  intro pins s σ H D I h
  refine wpAny_execs_cons (thn (h1 pins s σ H D I h) fun f s1 q=>?_)
  cases f with
  | next=>exact wpAny_execs_nil q
  | ret v=>exact q
  | brk=>exact q
  | cont=>exact q
theorem Inv.quiet {pins:List (Addr × Obj)} {σ:St} {H:Hp} {s:Shared} (I:Inv X pins σ H s):interactive X.env=false:=by simp [interactive,I.ok.kind]
def zmk (te:TE):TS:=fun D σ H=>te σ H fun _ H1=>D.nx σ H1
theorem zeQ (he:PE X e te) (hs:swapsWith e none pos.line X.env=pure false:=by rfl):PS X (.Expr e pos) (zmk te):=by
  intro pins s σ H D I h
  exact wpAny_Expr_any (thn (he pins s σ H _ I h) fun v s1 ⟨x,H1,I1,r1,q1⟩=>⟨σ,H1,I1,q1⟩) I.quiet hs
def tRet (te:TE):TS:=fun D σ H=>te σ H D.rt
theorem zaV (he:PE X e te):PS X (.Return (some e) pos) (tRet te):=by
  intro pins s σ H D I h
  exact wpAny_Return_some (thn (he pins s σ H _ I h) fun v s1 ⟨x,H1,I1,r1,q1⟩=>⟨x,σ,H1,I1,r1,q1⟩)
def tIfS (c:TT) (t u:TS):TS:=fun D σ H=>c σ H fun b H1=>if b=true then t D σ H1 else u D σ H1
theorem zdZ {c:Expr} {a b:List Stmt} {tc:TT} (hc:PT X c tc) (ha:PSs X a t) (hb:PSs X b u):PS X (.If c a b pos) (tIfS tc t u):=by
  intro pins s σ H D I h
  refine wpAny_If (thn (hc pins s σ H _ I h) fun d s1 ⟨H1,I1,q1⟩=>?_)
  cases d with
  | true=>exact ha pins s1 σ H1 D I1 q1
  | false=>exact hb pins s1 σ H1 D I1 q1
end
abbrev TG:=V→St→Hp→(St→Hp→Prop)→Prop
abbrev TGs:=List V→St→Hp→(St→Hp→Prop)→Prop
def PG (X:Cx) (target:Expr) (t:TG):Prop :=
  ∀ (pins:List (Addr × Obj)) (s:Shared) (σ:St) (H:Hp) (v:V) (u:Value) (Q:St→Hp→Prop),Inv X pins σ H s→RelV v u→t v σ H Q →
    wpAny (model X.prog X.w) X.A (assign target X.env u) (fun _ s'=>∃ σ' H',Inv X pins σ' H' s'∧Q σ' H') X.xe s
def PGs (X:Cx) (ts:List Expr) (t:TGs):Prop :=
  ∀ (pins:List (Addr × Obj)) (s:Shared) (σ:St) (H:Hp) (vs:List V) (us:List Value) (Q:St→Hp→Prop),Inv X pins σ H s→Vals vs us→t vs σ H Q →
    wpAny (model X.prog X.w) X.A (assignInOrder ((assignEach ts X.env).map (·.2)) us) (fun _ s'=>∃ σ' H',Inv X pins σ' H' s'∧Q σ' H') X.xe s
abbrev TSet:=V→V→V→Hp→(Hp→Prop)→Prop
def PSet (X:Cx) (t:TSet):Prop :=
  ∀ (pins:List (Addr × Obj)) (s:Shared) (σ:St) (H:Hp) (o i v:V) (ov iv u:Value) (Q:Hp→Prop),Inv X pins σ H s→RelV o ov→RelV i iv→RelV v u→t o i v H Q →
    wpAny (model X.prog X.w) X.A (setItem ov iv u) (fun _ s'=>∃ H',Inv X pins σ H' s'∧Q H') X.xe s
abbrev TIp:=V→V→Hp→VK→Prop
def PIp (X:Cx) (op:Operator) (t:TIp):Prop :=
  ∀ (pins:List (Addr × Obj)) (s:Shared) (σ:St) (H:Hp) (x y:V) (v u:Value) (Q:VK),Inv X pins σ H s→RelV x v→RelV y u→t x y H Q →
    wpAny (model X.prog X.w) X.A (inplaceOp op v u) (EP X pins σ Q) X.xe s
section
variable {X:Cx} {pos:Pos}
def zhi (i:Nat):TG:=fun v σ H Q=>Q (σ.set i (some v)) H
theorem zaO {i:Nat} {x:Str} (hN:X.N.Nodup) (hi:X.N[i]?=some x) (hx:Loc X.env.scope x) (hf:X.fn x=true∨X.env.scope.names.lookup x=some .local:=by first | exact .inl rfl | exact .inr rfl | assumption):PG X (.Name x pos) (zhi i):=by
  intro pins s σ H v u Q I r h
  exact wpAny_assign_Name (zeY I hN hi hx r (fun s' I'=>⟨_,H,I',h⟩) hf)
def gNil:TGs:=fun vs σ H Q=>vs = []∧Q σ H
def zqO (t:TG) (u:TGs):TGs:=fun vs σ H Q=>∃ v r,vs=v :: r∧t v σ H fun σ' H'=>u r σ' H' Q
theorem zcx:PGs X [] gNil:=by
  intro pins s σ H vs us Q I r h
  obtain ⟨e,h⟩:=h
  subst e
  cases r
  exact assignInOrder_nil ⟨σ,H,I,h⟩
theorem zaY {e:Expr} {es:List Expr} {t:TG} {u:TGs} (h1:PG X e t) (h2:PGs X es u)
    (hs:(assignEach (e :: es) X.env).map (·.2)=assign e X.env :: (assignEach es X.env).map (·.2):=by rfl):PGs X (e :: es) (zqO t u):=by
  intro pins s σ H vs us Q I r h
  obtain ⟨v,vr,e1,h⟩:=h
  subst e1
  cases r with
  | cons r rr =>
    rw [hs]
    refine assignInOrder_cons (thn (h1 pins s σ H _ _ _ I r h) fun _ s1 ⟨σ1,H1,I1,q1⟩=>?_)
    exact h2 pins s1 σ1 H1 _ _ Q I1 rr q1
def gTup (K:PySem.W.Frag) (n:Nat) (t:TGs):TG:=fun v σ H Q=>∃ a xs,v = .ref a∧SqT K H a xs∧xs.length=n∧t xs σ H Q
theorem zdQ {es:List Expr} {k:Nat} {t:TGs} {n:Nat} (hc:X.calm=true) (h:PGs X es t)
    (hn:(assignEach es X.env).length=n:=by rfl) (hst:(assignEach es X.env).findIdx? (·.1)=none:=by rfl):PG X (.Tuple es k pos) (gTup X.K n t):=by
  intro pins s σ H v u Q I r hw
  obtain ⟨a,xs,e1,hq,hl,hw⟩:=hw
  subst e1
  cases r
  obtain ⟨its,rv,ht,hz⟩:=I.tuple hq
  refine assign_Tuple_tuple (I.ok.hd hc) ht (by simp [hn,← hl,rv.length]) hst fun h' hx=>?_
  have I1:Inv X pins σ H { s with heap:=h' }:=I.kept (t':=s.toks) fun b o e=>hx b o (Nat.ne_of_lt (Heap.lt_size e)) e
  exact h pins _ σ H xs _ Q I1 (by simpa using rv) hw
def gSub (to ti:TE) (t:TSet):TG:=fun v σ H Q=>to σ H fun o H1=>ti σ H1 fun i H2=>t o i v H2 fun H3=>Q σ H3
theorem zid {o i:Expr} {to ti:TE} {t:TSet} (ho:PE X o to) (hi:PE X i ti) (hs:PSet X t)
    (ha:∀ v,assign (.Subscript o i pos) X.env v=(do
      let ov ← holding [v] (eval o X.env)
      let iv ← holding [v,ov] (eval i X.env)
      standAt pos
      holding [v,ov,iv] (setItem ov iv v)
      release [v,ov,iv] []):=by intro _; rfl):PG X (.Subscript o i pos) (gSub to ti t):=by
  intro pins s σ H v u Q I r h
  rw [ha]
  refine wpAny_bind (wpAny_holding (thn (ho pins s σ H _ I h) fun ov s1 ⟨x,H1,I1,r1,q1⟩=>?_))
  refine wpAny_bind (wpAny_holding (thn (hi pins s1 σ H1 _ I1 q1) fun iv s2 ⟨y,H2,I2,r2,q2⟩=>?_))
  refine wpAny_bind (wpAny_standAt (wpAny_bind (wpAny_holding (thn (hs pins s2 σ H2 x y v ov iv u _ I2 r1 r2 r q2) fun _ s3 ⟨H3,I3,q3⟩=>?_))))
  exact wpAny_release ⟨σ,H3,I3,q3⟩
def tAsg (te:TE) (g:TG):TS:=fun D σ H=>te σ H fun x H1=>g x σ H1 D.nx
theorem ziV {tg e:Expr} {te:TE} {g:TG} (he:PE X e te) (hg:PG X tg g) (hs:swapsWithSole [tg] e pos.line X.env=pure false:=by rfl) (hw:swappedStores [tg] e X.env=pure none:=by rfl)
    (h1:(assignEach [tg] X.env).map (·.2) = [assign tg X.env]:=by rfl):PS X (.Assign [tg] e pos) (tAsg te g):=by
  intro pins s σ H D I h
  refine wpAny_Assign_stores (thn (he pins s σ H _ I h) fun v s1 ⟨x,H1,I1,r1,q1⟩=>?_) hs hw
  rw [h1]
  exact thn (hg pins s1 σ H1 x v _ I1 r1 q1) fun _ s2 q=>q
theorem za4 {i:Nat} {x:Str} {e:Expr} {te:TE} {pos':Pos} (hN:X.N.Nodup) (hi:X.N[i]?=some x) (hx:Loc X.env.scope x) (he:PE X e te) (hs:swapsWith e (some (.Name x pos')) pos.line X.env=pure false:=by rfl) (hf:X.fn x=true∨X.env.scope.names.lookup x=some .local:=by first | exact .inl rfl | exact .inr rfl | assumption) :
    PS X (.Assign [.Name x pos'] e pos) (tAsg te (zhi i)):=by
  intro pins s σ H D I h
  refine wpAny_Assign_Name (thn (he pins s σ H _ I h) fun v s1 ⟨y,H1,I1,r1,q1⟩=>?_) hs
  exact zeY I1 hN hi hx r1 (fun s2 I2=>⟨_,H1,I2,q1⟩) hf
def zpS (to ti te:TE) (tget:V→V→Hp→VK→Prop) (tip:TIp) (tset:TSet):TS:=fun D σ H=>to σ H fun o H1=>ti σ H1 fun i H2=>tget o i H2 fun x H3=>te σ H3 fun y H4=>tip x y H4 fun z H5=>tset o i z H5 fun H6=>D.nx σ H6
def PGet (X:Cx) (t:V→V→Hp→VK→Prop):Prop :=
  ∀ (pins:List (Addr × Obj)) (s:Shared) (σ:St) (H:Hp) (o i:V) (ov iv:Value) (Q:VK),Inv X pins σ H s→RelV o ov→RelV i iv→t o i H Q →
    wpAny (model X.prog X.w) X.A (getItem ov iv) (EP X pins σ Q) X.xe s
theorem zlK {o i e:Expr} {to ti te:TE} {tget:V→V→Hp→VK→Prop} {tip:TIp} {tset:TSet} {op:Operator} {tpos:Pos} (ho:PE X o to) (hi:PE X i ti) (hg:PGet X tget) (he:PE X e te) (hp:PIp X op tip) (hs:PSet X tset)
    (ha:∀ ov iv new,augStore i ov iv new=(do holding [new,ov,iv] (setItem ov iv new); release [new,ov,iv] []; pure .next):=by intros; rfl):PS X (.AugAssign (.Subscript o i tpos) op e pos) (zpS to ti te tget tip tset):=by
  intro pins s σ H D I h
  refine wpAny_AugAssign_SubscriptAny (thn (ho pins s σ H _ I h) fun ov s1 ⟨x1,H1,I1,r1,q1⟩=>?_) ha
  refine thn (hi pins s1 σ H1 _ I1 q1) fun iv s2 ⟨x2,H2,I2,r2,q2⟩=>?_
  refine thn (hg pins s2 σ H2 x1 x2 ov iv _ I2 r1 r2 q2) fun old s3 ⟨x3,H3,I3,r3,q3⟩=>?_
  refine thn (he pins s3 σ H3 _ I3 q3) fun v s4 ⟨x4,H4,I4,r4,q4⟩=>?_
  refine thn (hp pins s4 σ H4 x3 x4 old v _ I4 r3 r4 q4) fun new s5 ⟨x5,H5,I5,r5,q5⟩=>?_
  exact thn (hs pins s5 σ H5 x1 x2 x5 ov iv new _ I5 r1 r2 r5 q5) fun _ s6 ⟨H6,I6,q6⟩=>⟨σ,H6,I6,q6⟩
def ipI (f:Int→Int→Int):TIp:=fun x y H Q=>∃ i j,x = .int i∧y = .int j∧Q (.int (f i j)) H
theorem zpX:PIp X .Add (ipI fun i j=>i + j):=by
  intro pins s σ H x y v u Q I r1 r2 h
  obtain ⟨i,j,e1,e2,q⟩:=h
  subst e1; subst e2
  obtain ⟨t,rfl⟩:=r1
  obtain ⟨t',rfl⟩:=r2
  exact iadd_int ⟨.int _,H,I.tok _,⟨_,rfl⟩,q⟩
theorem zqN:PIp X .Sub (ipI fun i j=>i - j):=by
  intro pins s σ H x y v u Q I r1 r2 h
  obtain ⟨i,j,e1,e2,q⟩:=h
  subst e1; subst e2
  obtain ⟨t,rfl⟩:=r1
  obtain ⟨t',rfl⟩:=r2
  exact isub_int ⟨.int _,H,I.tok _,⟨_,rfl⟩,q⟩
end
section
variable {X:Cx} {pos:Pos}
def zot (c:TT) (tb:TS):TS:=fun D σ H=>∃ W:Nat→St→Hp→Prop,(∃ m,W m σ H)∧∀ m σ H,W m σ H →
  c σ H fun b H1=>if b=true then ∃ N:St→Hp→Prop,(∀ σ' H',N σ' H'→∃ m',m' < m∧W m' σ' H')∧tb { D with nx:=N,ct:=N,bk:=D.nx } σ H1 else D.nx σ H1
theorem znr {c:Expr} {body:List Stmt} {tc:TT} {tb:TS} (hp:PassesOwn (model X.prog X.w) X.A X.env X.xe) (hc:PT X c tc) (hb:PSs X body tb):PS X (.While c body [] pos) (zot tc tb):=by
  intro pins s σ H D I h
  obtain ⟨W,⟨m0,w0⟩,turn⟩:=h
  refine wpAny_While (codeAny_whileLoop (fun n s'=>∃ σ' H',Inv X pins σ' H' s'∧W n σ' H') ?_ m0 ⟨σ,H,I,w0⟩)
  rintro n s1 ⟨σ1,H1,I1,w1⟩
  refine wpAny_passesOwn hp (thn (hc pins s1 σ1 H1 _ I1 (turn n σ1 H1 w1)) fun b s2 ⟨H2,I2,q2⟩=>?_)
  cases b with
  | true =>
    obtain ⟨N,hN,q2⟩:=q2
    rw [if_pos rfl]
    refine wpAny_passesOwn hp (thn (hb pins s2 σ1 H2 _ I2 q2) fun f s3 q3=>?_)
    cases f with
    | next =>
      obtain ⟨σ3,H3,I3,n3⟩:=q3
      obtain ⟨m',hm,w3⟩:=hN σ3 H3 n3
      exact ⟨m',hm,σ3,H3,I3,w3⟩
    | cont =>
      obtain ⟨σ3,H3,I3,n3⟩:=q3
      obtain ⟨m',hm,w3⟩:=hN σ3 H3 n3
      exact ⟨m',hm,σ3,H3,I3,w3⟩
    | brk=>exact q3
    | ret v=>exact q3
  | false =>
    rw [if_neg Bool.false_ne_true]
    exact wpAny_execs_nil ⟨σ1,H2,I2,q2⟩
end
structure It where
  go:Nat→Hp→Prop
  yld:Nat→Hp→V→Hp→Prop
  stop:Nat→Hp→Prop
def FpOk (X:Cx) (pins:List (Addr × Obj)) (H:Hp) (b:Addr):Prop :=
  H b=none∧b ≠ X.env.locals∧b ∉ X.fs∧(b ∈ X.ex∨X.s₀.heap.objs.size ≤ b)∧(∀ x c,X.env.cells.lookup x=some c→c ≠ b)∧∀ p ∈ X.pn ++ pins,p.1 ≠ b
theorem Inv.fpOk {X:Cx} {pins:List (Addr × Obj)} {σ:St} {H H':Hp} {s:Shared} {b:Addr} (I:Inv X pins σ H s) (hb:s.heap.objs.size ≤ b) (hn:H' b=none):FpOk X pins H' b:=by
  refine ⟨hn,Nat.ne_of_gt (Nat.lt_of_lt_of_le I.lt hb),I.nofs hb,.inr (Nat.le_trans I.sz hb),fun x c e z=>?_,fun p hp z=>?_⟩
  · obtain ⟨v,q⟩:=I.cell x c e
    exact absurd (Nat.lt_of_lt_of_le q.lt (by rw [z]; exact hb)) (Nat.lt_irrefl _)
  · exact absurd (Nat.lt_of_lt_of_le (Heap.lt_size (I.pin p hp).1) (by rw [z]; exact hb)) (Nat.lt_irrefl _)
structure Turn (P:Program) (w:World) (K:PySem.W.Frag) (tg:Expr) (J:It) (fp:List Addr) (it:Addr) (tn:Nat→Heap→Prop):Prop where
  mem:it ∈ fp
  obj:∀ i h,tn i h→∀ b ∈ fp,∃ o,h.get? b=some o∧∀ v,o.data ≠ .cell v
  keep:∀ i h h',tn i h→(∀ b ∈ fp,∀ o,h.get? b=some o→h'.get? b=some o)→tn i h'
  item:∀ (X:Cx),X.prog=P→X.w=w→X.K=K→X.calm=true→∀ (i:Nat) (pins:List (Addr × Obj)) (s:Shared) (σ:St) (H:Hp) (E:Value→Shared→Prop),Inv X pins σ H s→(∀ b ∈ fp,FpOk X pins H b)→tn i s.heap→J.go i H →
    wpAny (model P w) X.A (pyNext (.ref it)) (fun r s1=>∃ u,r=some u ∧
      wpAny (model P w) X.A (letOwnedTupleGo tg (.ref it) u) (fun _ s2=>∃ x H',Inv X pins σ H' s2∧RelV x u∧J.yld i H x H'∧tn (i + 1) s2.heap∧∀ b ∈ fp,H' b=none) E s1) E s
  done:∀ (X:Cx),X.prog=P→X.w=w→X.K=K→X.calm=true→∀ (i:Nat) (pins:List (Addr × Obj)) (s:Shared) (σ:St) (H:Hp) (E:Value→Shared→Prop),Inv X pins σ H s→(∀ b ∈ fp,FpOk X pins H b)→tn i s.heap→J.stop i H →
    wpAny (model P w) X.A (pyNext (.ref it)) (fun r s1=>r=none∧Inv X pins σ H s1) E s
  self:∀ (A:Around) (i:Nat) (s:Shared) (Q:Value→Shared→Prop) (E:Value→Shared→Prop),tn i s.heap→Q (.ref it) s→wpAny (model P w) A (pyIter (.ref it)) Q E s
abbrev TI:=St→Hp→(It→Hp→Prop)→Prop
def PIE (X:Cx) (pins:List (Addr × Obj)) (σ:St) (tg:Expr) (R:It→Hp→Prop) (itv:Value) (s2:Shared):Prop :=
  ∃ (it:Addr) (fp:List Addr) (tn:Nat→Heap→Prop) (J:It) (H':Hp),itv = .ref it∧Inv X pins σ H' s2∧Turn X.prog X.w X.K tg J fp it tn∧tn 0 s2.heap∧(∀ b ∈ fp,FpOk X pins H' b)∧R J H'
def PI (X:Cx) (tg iter:Expr) (wi:TI):Prop :=
  ∀ (pins:List (Addr × Obj)) (s:Shared) (σ:St) (H:Hp) (R:It→Hp→Prop),Inv X pins σ H s→wi σ H R →
    wpAny (model X.prog X.w) X.A (eval iter X.env) (fun v s1=>wpAny (model X.prog X.w) X.A (pyIter v) (PIE X pins σ tg R) X.xe s1) X.xe s
theorem zqr {M:Model} {A:Around} {E:Value→Shared→Prop} {s:Shared} {tg:Expr} {it:Addr} {u:Value} {o:Obj} {n:String} {vs:Array Value} {Q:Unit→Shared→Prop} (ho:s.heap.get? it=some o) (hc:o.cls = .type n) (hd:o.data = .fields vs)
    (hn : ["enumerate","zip","dict_itemiterator","dict_reverseitemiterator","odict_iterator","itertools.zip_longest","itertools.pairwise"].contains n=false) (hQ:Q () s):wpAny M A (letOwnedTupleGo tg (.ref it) u) Q E s:=by
  unfold letOwnedTupleGo
  cases tg <;> first
    | exact wpAny_pure hQ
    | (cases u <;> first
        | exact wpAny_pure hQ
        | (refine wpAny_bind (wpAny_load ho ?_)
           rw [hc,hd]
           show wpAny M A (if (["enumerate","zip","dict_itemiterator","dict_reverseitemiterator","odict_iterator","itertools.zip_longest","itertools.pairwise"].contains n && vs[0]? == some (rawInt _))=true then _ else _) Q E s
           rw [if_neg (by intro h; rw [hn,Bool.false_and] at h; cases h)]
           exact wpAny_pure hQ))
def Itl (K:PySem.W.Frag) (a:Addr):It :=
  ⟨fun i H=>∃ xs x,SqL K H a xs∧xs[i]?=some x,fun i H x H'=>H'=H∧∀ xs,SqL K H a xs→xs[i]?=some x,fun i H=>∃ xs,SqL K H a xs∧xs.length ≤ i⟩
def Itr (lo:Int) (n:Nat):It:=⟨fun i _=>i < n,fun i H x H'=>H'=H∧x = .int (lo + i),fun i _=>n ≤ i⟩
theorem zlA {P:Program} {w:World} {K:PySem.W.Frag} {tg:Expr} (a it:Addr):Turn P w K tg (Itl K a) [it] it (fun i h=>h.IsListIter it a i) where
  mem:=by simp
  obj:=fun i h st b hb=>by
    have e:b=it:=by simpa using hb
    subst e
    obtain ⟨o,e,c,d⟩:=st
    exact ⟨o,e,fun v z=>by rw [d] at z; cases z⟩
  keep:=fun i h h' st k=>st.at fun o e=>k it (by simp) o e
  item:=by
    intro X hP hw hK hc i pins s σ H E I hf st hg
    subst hP hw hK
    obtain ⟨xs,x,hq,hx⟩:=hg
    obtain ⟨its,rv,p,hz⟩:=I.list hq
    obtain ⟨u,hu,ru⟩:=rv.get hx
    obtain ⟨f0,f1,f2,f3,f4,f5⟩:=hf it (by simp)
    refine wpAny_pyNext_list_item st p.isList (x:=u) (by simpa using hu) fun h' st' sb=>?_
    have I1:Inv X pins σ H { s with heap:=h' }:=I.turned (t':=s.toks) (fun b o hb e=>(sb.2 b hb).trans e) f0 f1 f3 f4 f5
    obtain ⟨o,e,c,d⟩:=id st'
    exact ⟨u,rfl,zqr (s:={ s with heap:=h' }) e c d (by decide) ⟨x,H,I1,ru,⟨rfl,fun ys hy=>by rw [I.list_inj hy hq]; exact hx⟩,st',fun b hb=>(hf b hb).1⟩⟩
  done:=by
    intro X hP hw hK hc i pins s σ H E I hf st hg
    subst hP hw hK
    obtain ⟨xs,hq,hx⟩:=hg
    obtain ⟨its,rv,p,hz⟩:=I.list hq
    obtain ⟨f0,f1,f2,f3,f4,f5⟩:=hf it (by simp)
    have hl:=rv.length
    exact wpAny_pyNext_list_end (I.ok.hd hc) st p.isList (by simp; omega) fun h' eb=>⟨rfl,I.turned (t':=s.toks) (fun b o hb e=>eb b o hb e) f0 f1 f3 f4 f5⟩
  self:=fun _ _ _ _ _ st h=>wpAny_pyIter_listiter st h
theorem zkh {P:Program} {w:World} {K:PySem.W.Frag} {tg:Expr} (it:Addr) (lo:Int) (n:Nat):Turn P w K tg (Itr lo n) [it] it (fun i h=>IsRangeIter h it (lo + (i:Nat) * 1) ((n:Int) - (i:Nat)) 1) where
  mem:=by simp
  obj:=fun i h st b hb=>by
    have e:b=it:=by simpa using hb
    subst e
    exact ⟨_,st,fun v z=>by
      have z':Data.fields _=Data.cell v:=z
      cases z'⟩
  keep:=fun i h h' st k=>k it (by simp) _ st
  item:=by
    intro X hP hw hK hc i pins s σ H E I hf st hg
    subst hP hw hK
    obtain ⟨f0,f1,f2,f3,f4,f5⟩:=hf it (by simp)
    have W:=Walks.range (prog:=X.prog) (w:=X.w) (I.ok.hd hc) it lo 1 n
    refine W.item i s _ _ hg st fun v h' tk hv st' kk=>?_
    obtain ⟨t,rfl⟩:=hv
    have I1:Inv X pins σ H { s with heap:=h',toks:=tk }:=I.turned (fun b o hb e=>kk b o (by simpa using hb) e) f0 f1 f3 f4 f5
    refine ⟨_,rfl,zqr (s:={ s with heap:=h',toks:=tk }) (n:="range_iterator") st' rfl rfl (by decide) ⟨.int (lo + i),H,I1,⟨t,?_⟩,⟨rfl,rfl⟩,st',fun b hb=>(hf b hb).1⟩⟩
    rw [Int.mul_one]
  done:=by
    intro X hP hw hK hc i pins s σ H E I hf st hg
    subst hP hw hK
    obtain ⟨f0,f1,f2,f3,f4,f5⟩:=hf it (by simp)
    exact wpAny_pyNext_range_end (I.ok.hd hc) st (by have:n ≤ i:=hg; omega) fun h' eb=>⟨rfl,I.turned (t':=s.toks) (fun b o hb e=>eb b o hb e) f0 f1 f3 f4 f5⟩
  self:=fun _ _ _ _ _ st h=>wpAny_pyIter_rangeiter st h
end L2
namespace L2
open PySem PySem.Spec PyProof.Rows
section
variable {X:Cx} {tg:Expr}
def zpv (K:PySem.W.Frag) (tl:TE):TI:=fun σ H R=>tl σ H fun x H1=>∃ a,x = .ref a∧(∃ xs,SqL K H1 a xs)∧R (Itl K a) H1
theorem zea {l:Expr} {tl:TE} (hl:PE X l tl):PI X tg l (zpv X.K tl):=by
  intro pins s σ H R I h
  refine thn (hl pins s σ H _ I h) fun v s1 ⟨x,H1,I1,r1,q1⟩=>?_
  obtain ⟨a,e,⟨xs,hq⟩,q⟩:=q1
  subst e
  cases r1
  obtain ⟨its,rv,p,hz⟩:=I1.list hq
  refine wpAny_pyIter_list p.isList ?_
  refine ⟨s1.heap.objs.size,[s1.heap.objs.size],_,_,H1,rfl,I1.kept (t':=s1.toks) fun b o e=>Heap.get?_push_of_some _ e,zlA a _,⟨_,Heap.get?_push_size _ rfl,rfl,rfl⟩,fun b hb=>?_,q⟩
  have e:b=s1.heap.objs.size:=by simpa using hb
  subst e
  exact I1.fpOk (Nat.le_refl _) (I1.hok.fresh (Nat.le_refl _))
theorem znJ {pins:List (Addr × Obj)} {σ:St} {H:Hp} {s:Shared} {R:It→Hp→Prop} {E:Value→Shared→Prop} {lo hi:Int} {t u v:Tok} {tk:Nat} (I:Inv X pins σ H s) (h1 : -(2 ^ 62) ≤ lo) (h2:lo < 2 ^ 62) (h3 : -(2 ^ 62) ≤ hi) (h4:hi < 2 ^ 62)
    (q:R (Itr lo (hi - lo).toNat) H):wpAny (model X.prog X.w) X.A (pyIter (.ref s.heap.objs.size)) (PIE X pins σ tg R) E { s with heap:=s.heap.push { cls:=.type "range",data:=.fields #[.int lo t,.int hi u,.int 1 v] },toks:=tk }:=by
  refine wpAny_pyIter_range (IsRange.new ..) (small_one h1 h2 h3 h4) ?_
  have I1:Inv X pins σ H { s with heap:=s.heap.push { cls:=.type "range",data:=.fields #[.int lo t,.int hi u,.int 1 v] },toks:=tk }:=I.kept fun b o e=>Heap.get?_push_of_some _ e
  refine ⟨(s.heap.push { cls:=.type "range",data:=.fields #[.int lo t,.int hi u,.int 1 v] }).objs.size,[(s.heap.push { cls:=.type "range",data:=.fields #[.int lo t,.int hi u,.int 1 v] }).objs.size],_,_,H,rfl,
    I1.kept (t':=tk) fun b o e=>Heap.get?_push_of_some _ e,zkh _ lo (hi - lo).toNat,?_,fun b hb=>?_,q⟩
  · have e1:lo + ((0:Nat):Int) * 1=lo:=by simp
    have e2:(((hi - lo).toNat:Nat):Int) - ((0:Nat):Int)=Builtin.Range.rangeSize lo hi 1:=by rw [rangeSize_one]; split <;> omega
    show IsRangeIter _ _ (lo + ((0:Nat):Int) * 1) ((((hi - lo).toNat:Nat):Int) - ((0:Nat):Int)) 1
    rw [e1,e2]
    exact Heap.get?_push_size _ rfl
  · have e:b=(s.heap.push { cls:=.type "range",data:=.fields #[.int lo t,.int hi u,.int 1 v] }).objs.size:=by simpa using hb
    subst e
    exact I1.fpOk (Nat.le_refl _) (I1.hok.fresh (Nat.le_refl _))
def zp9 (ta:TA):TI:=fun σ H R=>ta σ H fun vs H1=>∃ j:Int,vs = [.int j]∧-(2 ^ 62) ≤ j∧j < 2 ^ 62∧R (Itr 0 j.toNat) H1
theorem zdr {a:Expr} {ta:TA} {p pos:Pos} (hg:Gl X "range") (hm:X.mg "range"=none) (ha:PA X [a] ta) (hs:starEach [a] X.env = [(false,eval a X.env)]:=by rfl):PI X tg (.Call (.Name "range" p) [a] [] pos) (zp9 ta):=by
  intro pins s σ H R I h
  refine Call_ (zeG I hg hm boot_range (PyProof.Rows.callWith_type1 (thn (ha pos pins s σ H _ I h) fun us s1 ⟨vs,H1,I1,r1,q1⟩=>?_) hs rfl))
  obtain ⟨j,e,q1,q2,q⟩:=q1
  subst e
  cases r1 with
  | cons r rr =>
    cases rr
    obtain ⟨t,rfl⟩:=r
    exact call_range_1 (znJ I1 (by omega) (by omega) q1 q2 (by simpa using q))
def tFor (wi:TI) (g:TG) (tb:TS):TS:=fun D σ H=>wi σ H fun J H1=>∃ W:Nat→Nat→St→Hp→Prop,(∃ m,W 0 m σ H1)∧∀ i m σ H,W i m σ H →
  (J.stop i H∧D.nx σ H)∨(J.go i H∧∃ N:St→Hp→Prop,(∀ σ' H',N σ' H'→∃ m',m' < m∧W (i + 1) m' σ' H')∧∀ x H',J.yld i H x H'→g x σ H' fun σ2 H2=>tb { D with nx:=N,ct:=N,bk:=D.nx } σ2 H2)
def zg4 (fp:List Addr) (h:Heap):List (Addr × Obj):=fp.filterMap fun b=>(h.get? b).map fun o=>(b,o)
theorem zdw {fp:List Addr} {h:Heap} {b:Addr} {o:Obj} (hb:b ∈ fp) (e:h.get? b=some o):(b,o) ∈ zg4 fp h:=List.mem_filterMap.mpr ⟨b,hb,by rw [e]; rfl⟩
theorem zlM {fp:List Addr} {h:Heap} {p:Addr × Obj} (hp:p ∈ zg4 fp h):p.1 ∈ fp∧h.get? p.1=some p.2:=by
  obtain ⟨b,hb,e⟩:=List.mem_filterMap.mp hp
  cases q:h.get? b with
  | none=>rw [q] at e; cases e
  | some o =>
    rw [q] at e
    have e':(b,o)=p:=Option.some.inj e
    subst e'
    exact ⟨hb,q⟩
theorem Inv.pinned {pins:List (Addr × Obj)} {σ:St} {H:Hp} {s:Shared} {fp:List Addr} (I:Inv X pins σ H s) (hf:∀ b ∈ fp,FpOk X pins H b) (ho:∀ b ∈ fp,∃ o,s.heap.get? b=some o∧∀ v,o.data ≠ .cell v):Inv X (pins ++ zg4 fp s.heap) σ H s :=
  I.pins_of fun p hp=>(List.mem_append.mp hp).elim (fun z=>I.pin p (List.mem_append_right _ z)) fun z=>by
    obtain ⟨hb,e⟩:=zlM z
    obtain ⟨f0,f1,f2,_⟩:=hf p.1 hb
    obtain ⟨o,e',d⟩:=ho p.1 hb
    rw [e] at e'; cases e'
    exact ⟨e,f0,f1,f2,d⟩
theorem Inv.unpinned {pins pl:List (Addr × Obj)} {σ:St} {H:Hp} {s:Shared} (I:Inv X (pins ++ pl) σ H s):Inv X pins σ H s:=I.pins_of fun p hp=>I.pin p (List.mem_append_right _ (List.mem_append_left _ hp))
theorem zd9 {iter:Expr} {body:List Stmt} {wi:TI} {g:TG} {tb:TS} {pos:Pos} (hp:PassesOwn (model X.prog X.w) X.A X.env X.xe) (hc:X.calm=true) (hi:PI X tg iter wi) (hg:PG X tg g) (hb:PSs X body tb)
    (hs:∀ x,foldedSetIterable iter X.env x=pure x:=by intro _; rfl):PS X (.For tg iter body [] pos) (tFor wi g tb):=by
  intro pins s σ H D I h
  refine wpAny_For (thn (hi pins s σ H _ I h) fun v s1 h1=>thn h1 fun itv s2 h2=>?_) hs
  obtain ⟨it,fp,tn,J,H2,e,I2,T,st2,f2,W,⟨m0,w0⟩,turn⟩:=h2
  subst e
  -- what stays true of the iterator's objects through the loop
  have stat:∀ {H':Hp},(∀ b ∈ fp,H' b=none)→∀ b ∈ fp,FpOk X pins H' b:=fun hn b hb=>⟨hn b hb,(f2 b hb).2⟩
  refine codeAny_forLoop_any (fun n s'=>∃ i σ' H',Inv X pins σ' H' s'∧tn i s'.heap∧(∀ b ∈ fp,H' b=none)∧W i n σ' H') ?_ m0 ⟨0,σ,H2,I2,st2,fun b hb=>(f2 b hb).1,w0⟩
  rintro n s3 ⟨i,σ3,H3,I3,st3,fr3,w3⟩
  rcases turn i n σ3 H3 w3 with ⟨stop,qn⟩ | ⟨go,N,hN,step⟩
  · refine wpAny_passesOwn hp (thn (T.done X rfl rfl rfl hc i pins s3 σ3 H3 X.xe I3 (stat fr3) st3 stop) fun r s4 ⟨hr,I4⟩=>?_)
    subst hr
    exact wpAny_execs_nil ⟨σ3,H3,I4,qn⟩
  · refine wpAny_passesOwn hp (thn (T.item X rfl rfl rfl hc i pins s3 σ3 H3 X.xe I3 (stat fr3) st3 go) fun r s4 ⟨u,hr,h4⟩=>?_)
    subst hr
    refine wpAny_passesOwn hp (thn h4 fun _ s5 ⟨x,H5,I5,r5,y5,st5,fr5⟩=>?_)
    have I5':=I5.pinned (stat fr5) (T.obj _ _ st5)
    refine wpAny_passesOwn hp (thn (hg _ s5 σ3 H5 x u _ I5' r5 (step x H5 y5)) fun _ s6 ⟨σ6,H6,I6,q6⟩=>?_)
    refine wpAny_passesOwn hp (thn (hb _ s6 σ6 H6 _ I6 q6) fun f s7 q7=>?_)
    have again:∀ {σ7:St} {H7:Hp},Inv X (pins ++ zg4 fp s5.heap) σ7 H7 s7→N σ7 H7→∃ m,m < n∧∃ i σ' H',Inv X pins σ' H' s7∧tn i s7.heap∧(∀ b ∈ fp,H' b=none)∧W i m σ' H':=fun {σ7 H7} I7 n7=>by
      obtain ⟨m',hm,w7⟩:=hN σ7 H7 n7
      refine ⟨m',hm,i + 1,σ7,H7,I7.unpinned,T.keep _ _ _ st5 fun b hb o e=>(I7.pin (b,o) (List.mem_append_right _ (List.mem_append_right _ (zdw hb e)))).1,fun b hb=>?_,w7⟩
      obtain ⟨o,e,d⟩:=T.obj _ _ st5 b hb
      exact (I7.pin (b,o) (List.mem_append_right _ (List.mem_append_right _ (zdw hb e)))).2.1
    cases f with
    | next=>obtain ⟨σ7,H7,I7,n7⟩:=q7; exact again I7 n7
    | cont=>obtain ⟨σ7,H7,I7,n7⟩:=q7; exact again I7 n7
    | brk=>obtain ⟨σ7,H7,I7,q7⟩:=q7; exact ⟨σ7,H7,I7.unpinned,q7⟩
    | ret v=>obtain ⟨x7,σ7,H7,I7,r7,q7⟩:=q7; exact ⟨x7,σ7,H7,I7.unpinned,r7,q7⟩
end
end L2
namespace L2
open PySem PySem.Spec PyProof.Rows
abbrev R2:=V→V→Hp→VK→Prop
def OpR (X:Cx) (f:Value→Value→Sem Value) (r:R2):Prop :=
  ∀ (pins:List (Addr × Obj)) (s:Shared) (σ:St) (H:Hp) (x y:V) (v u:Value) (Q:VK),Inv X pins σ H s→RelV x v→RelV y u→r x y H Q →
    wpAny (model X.prog X.w) X.A (f v u) (EP X pins σ Q) X.xe s
def UnR (X:Cx) (f:Value→Sem Value) (r:V→Hp→VK→Prop):Prop :=
  ∀ (pins:List (Addr × Obj)) (s:Shared) (σ:St) (H:Hp) (x:V) (v:Value) (Q:VK),Inv X pins σ H s→RelV x v→r x H Q →
    wpAny (model X.prog X.w) X.A (f v) (EP X pins σ Q) X.xe s
def ze3 (X:Cx) (f:Value) (r:List V→Hp→VK→Prop):Prop :=
  ∀ (pins:List (Addr × Obj)) (s:Shared) (σ:St) (H:Hp) (xs:List V) (us:List Value) (Q:VK),Inv X pins σ H s→Vals xs us→r xs H Q →
    wpAny (model X.prog X.w) X.A (call f us) (EP X pins σ Q) X.xe s
def tOp (r:R2) (ta tb:TE):TE:=fun σ H Q=>ta σ H fun x H1=>tb σ H1 fun y H2=>r x y H2 Q
def tUn (r:V→Hp→VK→Prop) (ta:TE):TE:=fun σ H Q=>ta σ H fun x H1=>r x H1 Q
def rI (C:Int→Int→Prop) (g:Int→Int→V):R2:=fun x y H Q=>∃ i j,x = .int i∧y = .int j∧C i j∧Q (g i j) H
def rI0 (g:Int→Int→V):R2:=fun x y H Q=>∃ i j,x = .int i∧y = .int j∧Q (g i j) H
def rU (g:Int→V):V→Hp→VK→Prop:=fun x H Q=>∃ i,x = .int i∧Q (g i) H
section
variable {X:Cx} {a b c:Expr} {ta tb tc:TE} {pos:Pos}
theorem binT (ha:PE X a ta) (hb:PE X b tb) {pins:List (Addr × Obj)} {s:Shared} {σ:St} {H:Hp} {R:V→V→Hp→Prop} (I:Inv X pins σ H s)
    (h:ta σ H fun x H1=>tb σ H1 fun y H2=>R x y H2) {Q:Value→Shared→Prop} {f:Value→Value→Sem Value}
    (hf:∀ v u s2 x y H2,Inv X pins σ H2 s2→RelV x v→RelV y u→R x y H2→wpAny (model X.prog X.w) X.A (f v u) Q X.xe s2) :
    wpAny (model X.prog X.w) X.A (eval a X.env) (fun v s₁=>wpAny (model X.prog X.w) X.A (eval b X.env) (fun u s₂=>wpAny (model X.prog X.w) X.A (f v u) Q X.xe s₂) X.xe s₁) X.xe s:=by
  refine thn (ha pins s σ H _ I h) fun v s1 ⟨x,H1,I1,r1,q1⟩=>?_
  refine thn (hb pins s1 σ H1 _ I1 q1) fun u s2 ⟨y,H2,I2,r2,q2⟩=>?_
  exact hf v u s2 x y H2 I2 r1 r2 q2
theorem za3 {op:Operator} {r:R2} (ho:OpR X (binaryOp op) r) (ha:PE X a ta) (hb:PE X b tb):PE X (.BinOp a op b pos) (tOp r ta tb):=by
  intro pins s σ H Q I h
  exact wpAny_BinOp (binT ha hb I h fun v u s2 x y H2 I2 rx ry q=>ho pins s2 σ H2 x y v u Q I2 rx ry q)
theorem zoS {op:UnaryOp} {r:V→Hp→VK→Prop} (ho:UnR X (unaryOp op) r) (ha:PE X a ta):PE X (.UnaryOp op a pos) (tUn r ta):=by
  intro pins s σ H Q I h
  exact UnaryOp_ (thn (ha pins s σ H _ I h) fun v s1 ⟨x,H1,I1,r1,q1⟩=>ho pins s1 σ H1 x v Q I1 r1 q1)
theorem opI {f:Value→Value→Sem Value} {C:Int→Int→Prop} {g:Int→Int→Int}
    (rule:∀ (i j:Int) (t u:Tok) (s:Shared) (Q:Value→Shared→Prop) (E:Value→Shared→Prop),C i j→Q (.int (g i j) s.toks) { s with toks:=s.toks + 1 }→wpAny (model X.prog X.w) X.A (f (.int i t) (.int j u)) Q E s) :
    OpR X f (rI C fun i j=>.int (g i j)):=by
  intro pins s σ H x y v u Q I rx ry h
  obtain ⟨i,j,rfl,rfl,hc,q⟩:=h
  obtain ⟨t,rfl⟩:=rx
  obtain ⟨t',rfl⟩:=ry
  exact rule i j t t' s _ _ hc ⟨.int (g i j),H,I.tok _,⟨_,rfl⟩,q⟩
theorem opI0 {f:Value→Value→Sem Value} {g:Int→Int→Int}
    (rule:∀ (i j:Int) (t u:Tok) (s:Shared) (Q:Value→Shared→Prop) (E:Value→Shared→Prop),Q (.int (g i j) s.toks) { s with toks:=s.toks + 1 }→wpAny (model X.prog X.w) X.A (f (.int i t) (.int j u)) Q E s) :
    OpR X f (rI0 fun i j=>.int (g i j)):=by
  intro pins s σ H x y v u Q I rx ry h
  obtain ⟨i,j,rfl,rfl,q⟩:=h
  obtain ⟨t,rfl⟩:=rx
  obtain ⟨t',rfl⟩:=ry
  exact rule i j t t' s _ _ ⟨.int (g i j),H,I.tok _,⟨_,rfl⟩,q⟩
theorem opB0 {f:Value→Value→Sem Value} {g:Int→Int→Bool}
    (rule:∀ (i j:Int) (t u:Tok) (s:Shared) (Q:Value→Shared→Prop) (E:Value→Shared→Prop),Q (.bool (g i j)) s→wpAny (model X.prog X.w) X.A (f (.int i t) (.int j u)) Q E s) :
    OpR X f (rI0 fun i j=>.bl (g i j)):=by
  intro pins s σ H x y v u Q I rx ry h
  obtain ⟨i,j,rfl,rfl,q⟩:=h
  obtain ⟨t,rfl⟩:=rx
  obtain ⟨t',rfl⟩:=ry
  exact rule i j t t' s _ _ ⟨.bl (g i j),H,I,rfl,q⟩
def CPow (i j:Int):Prop:=0 ≤ j∧j ≤ 1000000∧i.natAbs < 2 ^ 64
theorem zcp:OpR X (binaryOp .Add) (rI0 fun i j=>.int (i + j)):=opI0 fun _ _ _ _ _ _ _ q=>add_int q
theorem zj3:OpR X (binaryOp .Sub) (rI0 fun i j=>.int (i - j)):=opI0 fun _ _ _ _ _ _ _ q=>sub_int q
theorem zda:OpR X (binaryOp .Mod) (rI (fun _ j=>0 < j) fun i j=>.int (i % j)):=opI fun i j _ _ _ _ _ hc q=>by
  have h1:(0:Int) < j:=hc
  exact mod_int' (by omega) (by rw [Int.fmod_eq_emod_of_nonneg i (by omega)]; exact q)
theorem zic:OpR X (binaryOp .Pow) (rI CPow fun i j=>.int (i ^ j.toNat)):=opI fun _ _ _ _ _ _ _ hc q=>pow_int_small hc.1 hc.2.1 hc.2.2 q
theorem unI {f:Value→Sem Value} {g:Int→Int}
    (rule:∀ (i:Int) (t:Tok) (s:Shared) (Q:Value→Shared→Prop) (E:Value→Shared→Prop),Q (.int (g i) s.toks) { s with toks:=s.toks + 1 }→wpAny (model X.prog X.w) X.A (f (.int i t)) Q E s) :
    UnR X f (rU fun i=>.int (g i)):=by
  intro pins s σ H x v Q I rx h
  obtain ⟨i,rfl,q⟩:=h
  obtain ⟨t,rfl⟩:=rx
  exact rule i t s _ _ ⟨.int (g i),H,I.tok _,⟨_,rfl⟩,q⟩
theorem zlW:UnR X (unaryOp .USub) (rU fun i=>.int (-i)):=unI fun _ _ _ _ _ q=>neg_int q
end
def scal:V→V→Bool
  | .non,.non=>true | .non,.int _=>true | .int _,.non=>true | .non,.bl _=>true | .bl _,.non=>true | .non,.str _=>true | .str _,.non=>true
  | .int _,.int _=>true | .bl _,.bl _=>true | .str _,.str _=>true | .byt _,.byt _=>true
  | .int _,.str _=>true | .str _,.int _=>true | .bl _,.str _=>true | .str _,.bl _=>true
  | _,_=>false
def rEq:R2:=fun x y H Q=>scal x y=true∧Q (.bl (decide (x=y))) H
def rNe:R2:=fun x y H Q=>scal x y=true∧Q (.bl (!decide (x=y))) H
theorem zlY {i j:Int}:decide (V.int i=V.int j)=(i == j):=by
  rw [Bool.eq_iff_iff]
  simp
theorem zn8 {i j:Bool}:decide (V.bl i=V.bl j)=(i == j):=by
  rw [Bool.eq_iff_iff]
  simp
theorem zlo {i j:Str}:decide (V.str i=V.str j)=(i == j):=by
  rw [Bool.eq_iff_iff]
  simp
theorem zlZ {i j:Array UInt8}:decide (V.byt i=V.byt j)=(i.toList == j.toList):=by
  rw [Bool.eq_iff_iff]
  cases i
  cases j
  simp
section
variable {X:Cx} {a b c:Expr} {ta tb tc:TE} {pos:Pos}
theorem zbf {pins:List (Addr × Obj)} {σ:St} {H:Hp} {s:Shared} {Q:VK} {k k':Bool} (I:Inv X pins σ H s) (q:Q (.bl k) H) (e:k=k'):EP X pins σ Q (.bool k') s:=by
  subst e
  exact ⟨.bl k,H,I,rfl,q⟩
theorem zkv:OpR X (compareOp .Eq) rEq:=by
  intro pins s σ H x y v u Q I rx ry h
  obtain ⟨hs,q⟩:=h
  cases x with
  | non =>
    cases rx
    cases y with
    | non=>cases ry; exact PySem.EqNone.eq_none_none (zbf I q (by simp))
    | bl j=>cases ry; exact PySem.EqNone.eq_none_bool (zbf I q (by simp))
    | int j=>obtain ⟨t',rfl⟩:=ry; exact PySem.EqNone.eq_none_int (zbf I q (by simp))
    | str j=>obtain ⟨t',rfl⟩:=ry; exact PySem.EqNone.eq_none_str (zbf I q (by simp))
    | _=>exact absurd (show false=true from hs) Bool.false_ne_true
  | bl i =>
    cases rx
    cases y with
    | non=>cases ry; exact PySem.EqNone.eq_bool_none (zbf I q (by simp))
    | bl j=>cases ry; exact eq_bool (zbf I q zn8)
    | str j=>obtain ⟨t',rfl⟩:=ry; exact PySem.EqMixed.eq_bool_str (zbf I q (by simp))
    | _=>exact absurd (show false=true from hs) Bool.false_ne_true
  | int i =>
    obtain ⟨t,rfl⟩:=rx
    cases y with
    | non=>cases ry; exact PySem.EqNone.eq_int_none (zbf I q (by simp))
    | int j=>obtain ⟨t',rfl⟩:=ry; exact eq_int (zbf I q zlY)
    | str j=>obtain ⟨t',rfl⟩:=ry; exact PySem.EqMixed.eq_int_str (zbf I q (by simp))
    | _=>exact absurd (show false=true from hs) Bool.false_ne_true
  | str i =>
    obtain ⟨t,rfl⟩:=rx
    cases y with
    | non=>cases ry; exact PySem.EqNone.eq_str_none (zbf I q (by simp))
    | bl j=>cases ry; exact PySem.EqMixed.eq_str_bool (zbf I q (by simp))
    | int j=>obtain ⟨t',rfl⟩:=ry; exact PySem.EqMixed.eq_str_int (zbf I q (by simp))
    | str j=>obtain ⟨t',rfl⟩:=ry; exact eq_str (zbf I q zlo)
    | _=>exact absurd (show false=true from hs) Bool.false_ne_true
  | byt i =>
    obtain ⟨t,rfl⟩:=rx
    cases y with
    | byt j=>obtain ⟨t',rfl⟩:=ry; exact PySem.W.eq_bytes (zbf I q zlZ)
    | _=>exact absurd (show false=true from hs) Bool.false_ne_true
  | _=>cases y <;> exact absurd (show false=true from hs) Bool.false_ne_true
theorem zra:OpR X (compareOp .NotEq) rNe:=by
  intro pins s σ H x y v u Q I rx ry h
  obtain ⟨hs,q⟩:=h
  cases x with
  | non =>
    cases rx
    cases y with
    | non=>cases ry; exact PySem.EqNone.ne_none_none (zbf I q (by simp))
    | bl j=>cases ry; exact PySem.EqNone.ne_none_bool (zbf I q (by simp))
    | int j=>obtain ⟨t',rfl⟩:=ry; exact PySem.EqNone.ne_none_int (zbf I q (by simp))
    | str j=>obtain ⟨t',rfl⟩:=ry; exact PySem.EqNone.ne_none_str (zbf I q (by simp))
    | _=>exact absurd (show false=true from hs) Bool.false_ne_true
  | bl i =>
    cases rx
    cases y with
    | non=>cases ry; exact PySem.EqNone.ne_bool_none (zbf I q (by simp))
    | bl j=>cases ry; exact ne_bool (zbf I q (congrArg not zn8))
    | str j=>obtain ⟨t',rfl⟩:=ry; exact PySem.EqMixed.ne_bool_str (zbf I q (by simp))
    | _=>exact absurd (show false=true from hs) Bool.false_ne_true
  | int i =>
    obtain ⟨t,rfl⟩:=rx
    cases y with
    | non=>cases ry; exact PySem.EqNone.ne_int_none (zbf I q (by simp))
    | int j=>obtain ⟨t',rfl⟩:=ry; exact ne_int (zbf I q (congrArg not zlY))
    | str j=>obtain ⟨t',rfl⟩:=ry; exact PySem.EqMixed.ne_int_str (zbf I q (by simp))
    | _=>exact absurd (show false=true from hs) Bool.false_ne_true
  | str i =>
    obtain ⟨t,rfl⟩:=rx
    cases y with
    | non=>cases ry; exact PySem.EqNone.ne_str_none (zbf I q (by simp))
    | bl j=>cases ry; exact PySem.EqMixed.ne_str_bool (zbf I q (by simp))
    | int j=>obtain ⟨t',rfl⟩:=ry; exact PySem.EqMixed.ne_str_int (zbf I q (by simp))
    | str j=>obtain ⟨t',rfl⟩:=ry; exact ne_str (zbf I q (congrArg not zlo))
    | _=>exact absurd (show false=true from hs) Bool.false_ne_true
  | byt i =>
    obtain ⟨t,rfl⟩:=rx
    cases y with
    | byt j=>obtain ⟨t',rfl⟩:=ry; exact PySem.W.ne_bytes (zbf I q (congrArg not zlZ))
    | _=>exact absurd (show false=true from hs) Bool.false_ne_true
  | _=>cases y <;> exact absurd (show false=true from hs) Bool.false_ne_true
theorem zle:OpR X (compareOp .Lt) (rI0 fun i j=>.bl (decide (i < j))):=opB0 fun _ _ _ _ _ _ _ q=>lt_int q
theorem zny:OpR X (compareOp .LtE) (rI0 fun i j=>.bl (decide (i ≤ j))):=opB0 fun _ _ _ _ _ _ _ q=>le_int q
theorem zn4:OpR X (compareOp .Gt) (rI0 fun i j=>.bl (decide (j < i))):=opB0 fun _ _ _ _ _ _ _ q=>gt_int q
theorem zq9:OpR X (compareOp .GtE) (rI0 fun i j=>.bl (decide (j ≤ i))):=opB0 fun _ _ _ _ _ _ _ q=>ge_int q
theorem zpp:OpR X (compareOp .IsNot) (fun x y H Q=>y = .non∧Q (.bl (!decide (x = .non))) H):=by
  intro pins s σ H x y v u Q I rx ry h
  obtain ⟨rfl,q⟩:=h
  cases ry
  refine isnot_none_gen (zbf I q ?_)
  cases x <;> first
    | (cases rx; rfl)
    | (obtain ⟨t,rfl⟩:=rx; rfl)
def isObj:HO→Bool
  | .lst _=>true
  | .ins _ _ _=>true
  | _=>false
theorem zbN (b:Expr) {op:CmpOp} (h:op ≠ .In:=by decide) (h2:op ≠ .NotIn:=by decide):behindInMarks op b=false:=by
  have e1:(op == CmpOp.In)=false:=by cases op <;> first | rfl | exact absurd rfl h
  have e2:(op == CmpOp.NotIn)=false:=by cases op <;> first | rfl | exact absurd rfl h2
  cases b <;> simp [behindInMarks,e1,e2]
theorem zjr {op:CmpOp} {r:R2} (ho:OpR X (compareOp op) r) (ha:PE X a ta) (hb:PE X b tb) (hm:behindInMarks op b=false):PE X (.Compare a [op] [b] pos) (tOp r ta tb):=by
  intro pins s σ H Q I h
  exact wpAny_Compare1 (binT ha hb I h fun v u s2 x y H2 I2 rx ry q=>ho pins s2 σ H2 x y v u Q I2 rx ry q) hm
def zpM (t:TE):TT:=fun σ H Q=>t σ H fun x H'=>∃ k,x = .bl k∧Q k H'
theorem zbn {op:CmpOp} {r:R2} (ho:OpR X (compareOp op) r) (ha:PE X a ta) (hb:PE X b tb) (hm:behindInMarks op b=false):PT X (.Compare a [op] [b] pos) (zpM (tOp r ta tb)):=by
  intro pins s σ H Q I h
  refine wpAny_isTrue_Compare1 (thn (ha pins s σ H _ I h) fun v s1 ⟨x,H1,I1,r1,q1⟩=>thn (hb pins s1 σ H1 _ I1 q1) fun u s2 ⟨y,H2,I2,r2,q2⟩ =>
    thn (ho pins s2 σ H2 x y v u _ I2 r1 r2 q2) fun c s3 ⟨z,H3,I3,r3,k,e,q3⟩=>?_) hm
  subst e
  cases r3
  exact wpAny_truthy_bool ⟨H3,I3,q3⟩
theorem ziE:(sizeLine:Nat) < 2 ^ 63:=by rw [sizeLine_eq]; decide
theorem zff {x:V} {us:List Value} (r:Vals [x] us):∃ u,us = [u]∧RelV x u:=by
  cases r with
  | cons r1 r2=>cases r2; exact ⟨_,rfl,r1⟩
theorem zkS {x y:V} {us:List Value} (r:Vals [x,y] us):∃ u w',us = [u,w']∧RelV x u∧RelV y w':=by
  cases r with
  | cons r1 r2 =>
    cases r2 with
    | cons r3 r4=>cases r4; exact ⟨_,_,rfl,r1,r3⟩
theorem zjC:ze3 X (.builtin "abs") (fun xs H Q=>∃ i,xs = [.int i]∧Q (.int (if i < 0 then -i else i)) H):=by
  intro pins s σ H xs us Q I r h
  obtain ⟨i,rfl,q⟩:=h
  obtain ⟨u,rfl,t,rfl⟩:=zff r
  exact call_abs_int fun u tk=>⟨.int (if i < 0 then -i else i),H,I.tok _,⟨_,rfl⟩,q⟩
theorem zgm (hc:X.calm=true):ze3 X (.builtin "max") (fun xs H Q=>∃ i j,xs = [.int i,.int j]∧Q (.int (if j > i then j else i)) H):=by
  intro pins s σ H xs us Q I r h
  obtain ⟨i,j,rfl,q⟩:=h
  obtain ⟨u,w',rfl,⟨t,rfl⟩,⟨t',rfl⟩⟩:=zkS r
  refine max_two_ints (I.ok.hd hc) fun h' tk k=>⟨_,H,I.kept k,?_,q⟩
  by_cases hj:j > i
  · rw [if_pos hj,if_pos hj]; exact ⟨_,rfl⟩
  · rw [if_neg hj,if_neg hj]; exact ⟨_,rfl⟩
theorem zir (hc:X.calm=true):ze3 X (.builtin "min") (fun xs H Q=>∃ i j,xs = [.int i,.int j]∧Q (.int (if j < i then j else i)) H):=by
  intro pins s σ H xs us Q I r h
  obtain ⟨i,j,rfl,q⟩:=h
  obtain ⟨u,w',rfl,⟨t,rfl⟩,⟨t',rfl⟩⟩:=zkS r
  refine min_two_ints (I.ok.hd hc) fun h' tk k=>⟨_,H,I.kept k,?_,q⟩
  by_cases hj:j < i
  · rw [if_pos hj,if_pos hj]; exact ⟨_,rfl⟩
  · rw [if_neg hj,if_neg hj]; exact ⟨_,rfl⟩
end
end L2
namespace L2
open PySem PySem.Spec PyProof.Rows
structure ObjM (h:Heap) (x dx C:Addr) (mA:Str→Option Value):Prop where
  obj:h.get? x=some (PySem.W.instObj C dx)
  ns:h.Ns1 dx mA
  ne:dx ≠ x
theorem ziW {h:Heap} {dx:Addr} {mA:Str→Option Value} (n:h.Ns1 dx mA):∃ od,h.get? dx=some od∧∀ name,PySem.W.lookIn name od=some (mA name):=by
  obtain ⟨o,es,ep,ho,hd,hk,_,hm⟩:=n
  refine ⟨o,ho,fun name=>?_⟩
  have e:=hm name
  unfold nsFind findBy at e
  rw [← Array.find?_toList] at e
  unfold PySem.W.lookIn
  rw [hd]
  dsimp only
  split
  · rename_i y q
    rw [q] at e
    exact congrArg some e
  · rename_i q
    rw [q] at e
    have a:es.toList.any (·.refKey)=false:=by
      rw [List.any_eq_false]
      intro y hy
      obtain ⟨z,t,hkey⟩:=hk y (Array.mem_toList_iff.mp hy)
      simp [DictEntry.refKey,hkey]
    have a':¬ es.toList.any (·.refKey)=true:=by rw [a]; exact Bool.false_ne_true
    rw [if_neg a']
    exact congrArg some e
theorem ObjM.look {h:Heap} {x dx C:Addr} {mA:Str→Option Value} (I:ObjM h x dx C mA):∃ od,PySem.W.InstAt h x (PySem.W.instObj C dx) C (some od)∧∀ name,PySem.W.lookIn name od=some (mA name) :=
  let ⟨od,ho,hl⟩:=ziW I.ns
  ⟨od,⟨I.obj,rfl,rfl,ho⟩,hl⟩
section
variable {prog:Program} {w:World} {A:Around} {E:Value→Shared→Prop} {s:Shared} {K:PySem.W.Frag} {x dx C f:Addr} {mA:Str→Option Value} {name:Str} {v:Value}
theorem zpb {expr:Bool} {Q:Value→Shared→Prop} (X:K.In s.heap) (I:ObjM s.heap x dx C mA) (hg:PySem.W.plainGet K C name=true) (hh:PySem.W.hasDictIn K C=true)
    (ha:PySem.W.findIn K (.ref C) name=some none) (hv:mA name=some v) (hv':PySem.W.handedIn v=true) (h:Q v { s with toks:=s.toks + 1 }) :
    wpAny (model prog w) A (getAttr (.ref x) name expr) Q E s:=by
  obtain ⟨od,J,hl⟩:=I.look
  exact PySem.W.get_value X J (PySem.W.plainGet_of hg).1 (PySem.W.findObj_own hh ha rfl (by rw [hl,hv])) hv' h
theorem znd {pl:Sem Bool} {Q:Value × List Value→Shared→Prop} (X:K.In s.heap) (I:ObjM s.heap x dx C mA) (hg:PySem.W.plainGet K C name=true)
    (hf:PySem.W.findIn K (.ref C) name=some (some (.ref f))) (ht:PySem.W.isFn K (.ref f)=true) (hv:mA name=none) (h:Q (.ref f,[.ref x]) s) :
    wpAny (model prog w) A (getMethod (.ref x) name pl) Q E s:=by
  obtain ⟨od,J,hl⟩:=I.look
  exact PySem.W.method_fn X J (PySem.W.plainGet_of hg).1 (PySem.W.plainGet_of hg).2 hf (beq_iff_eq.mp ht) (by show (PySem.W.lookIn name od).map (·.isSome)=some false; rw [hl,hv]; rfl) h
theorem set_map {ns:List Str} {Q:Unit→Shared→Prop} (X:K.In s.heap) (I:ObjM s.heap x dx C mA)
    (hs:PySem.W.findIn K (.ref C) "__setattr__"=some (some (.builtin "object.__setattr__"))) (hp:PySem.W.plainOver K C=true) (ht:PySem.W.takerIn K C name=some none) (hh:PySem.W.hasDictIn K C=true)
    (hw:PySem.Within mA ns) (hsz:ns.length ≤ sizeLine)
    (h:∀ h',ObjM h' x dx C (fun y=>if y=name then some v else mA y)→Heap.SameBut dx s.heap h'→Q () { s with heap:=h',toks:=s.toks + 2 }) :
    wpAny (model prog w) A (setAttr (.ref x) name v) Q E s:=by
  obtain ⟨od,J,hl⟩:=I.look
  refine PySem.W.set_plain X J hs (PySem.W.osa_open (s:={ s with toks:=s.toks + 1 }) (r:=none) X J hp ht fun b=>?_)
  obtain ⟨cd,hc,hd'⟩:=PySem.W.any_some hh
  have hx:s.heap.get? x=some ⟨.ref C,some dx,.plain,#[]⟩:=I.obj
  refine wpAny_bind (wpAny_pure (wpAny_bind (wpAny_bind (wpAny_loadPart hx (wpAny_bind (PySem.W.Looks.here (s:={ s with toks:=s.toks + 1 }) (PySem.W.looks_clsIn X hc) ?_))))))
  rw [hd']
  refine wpAny_pure (a:=some dx) (wpAny_bind (wpAny_pure (wpAny_bind ?_)))
  refine wpAny_nsSet1 (s:={ s with toks:=s.toks + 1 }) I.ns fun h' hn2 hs2=>?_
  obtain ⟨oD,esD,epD,hoD,hdD,hcD⟩:=hn2.count (PySem.Within.cons name v hw)
  refine wpAny_bind (wpAny_lookBehind hoD (by rw [hdD]; exact pastItsLine_dict (Nat.le_trans hcD (by rw [List.length_cons]; omega))) ?_)
  exact wpAny_pure (h _ ⟨(hs2.2 _ (Ne.symm I.ne)).trans I.obj,hn2,I.ne⟩ hs2)
theorem zjR {R:Result→Shared→Prop} {vs:List Value} {kw:List (Str × Value)} (X:K.In s.heap) (hm:PySem.W.makesIn K C=true)
    (hi:PySem.W.findIn K (.ref C) "__init__"=some (some (.ref f))) (hf:PySem.W.typeIn K (.ref f)=some (.type "function"))
    (h:codeAny (model prog w) (A.under (.builtin "type.__call__" ⟨.ref C :: vs,kw⟩)) (.call (.ref f) ⟨.ref (s.heap.objs.size + 1) :: vs,kw⟩) (PySem.W.InitBack (s.heap.objs.size + 1) R)
      { s with heap:=(s.heap.push PySem.W.emptyDict).push (PySem.W.instObj C s.heap.objs.size) }) :
    codeAny (model prog w) A (.call (.ref C) ⟨vs,kw⟩) R s:=by
  obtain ⟨hh,g,d,t,os⟩:=s
  exact PySem.W.make_core (PySem.W.makes_of X hm) (PySem.W.looks_findIn X hi) (fun self=>PySem.W.bind_fn X self hf) (.inl rfl) h
end
def putF (f:Str) (v:V):List (Str × V)→List (Str × V)
  | []=>[(f,v)]
  | (g,x) :: r=>if g=f then (g,v) :: r else (g,x) :: putF f v r
theorem zgB (f g:Str) (v:V):∀ fs:List (Str × V),(putF f v fs).lookup g=if g=f then some v else fs.lookup g
  | []=>by
    show List.lookup g [(f,v)]=_
    by_cases h:g=f
    · have hb:(g == f)=true:=beq_iff_eq.mpr h
      simp only [List.lookup,hb,if_pos h]
    · have hb:(g == f)=false:=beq_eq_false_iff_ne.mpr h
      simp only [List.lookup,hb,if_neg h]
  | (k,x) :: r=>by
    have ih:=zgB f g v r
    rw [show putF f v ((k,x) :: r)=(if k=f then (k,v) :: r else (k,x) :: putF f v r) from rfl]
    by_cases hk:k=f
    · rw [if_pos hk]
      by_cases h:g=k
      · have hb:(g == k)=true:=beq_iff_eq.mpr h
        simp only [List.lookup,hb,if_pos (h.trans hk)]
      · have hb:(g == k)=false:=beq_eq_false_iff_ne.mpr h
        simp only [List.lookup,hb,if_neg (fun e:g=f=>h (e.trans hk.symm))]
    · rw [if_neg hk]
      by_cases h:g=k
      · have hb:(g == k)=true:=beq_iff_eq.mpr h
        simp only [List.lookup,hb,if_neg (fun e:g=f=>hk (h.symm.trans e))]
      · have hb:(g == k)=false:=beq_eq_false_iff_ne.mpr h
        simp only [List.lookup,hb]
        exact ih
theorem zgz (f:Str) (v:V):∀ fs:List (Str × V),f ∈ (putF f v fs).map (·.1)∧∀ g,g ∈ fs.map (·.1)→g ∈ (putF f v fs).map (·.1)
  | []=>⟨by simp [putF],fun g h=>by simp at h⟩
  | (k,x) :: r=>by
    obtain ⟨i1,i2⟩:=zgz f v r
    rw [show putF f v ((k,x) :: r)=(if k=f then (k,v) :: r else (k,x) :: putF f v r) from rfl]
    by_cases hk:k=f
    · rw [if_pos hk]
      subst hk
      exact ⟨by simp,fun g h=>by simpa using h⟩
    · rw [if_neg hk]
      refine ⟨?_,fun g h=>?_⟩
      · rw [List.map_cons]
        exact List.mem_cons_of_mem _ i1
      · rw [List.map_cons] at h ⊢
        rcases List.mem_cons.mp h with e | e
        · exact List.mem_cons.mpr (.inl e)
        · exact List.mem_cons_of_mem _ (i2 g e)
theorem zgx (f:Str) (v:V):∀ fs:List (Str × V),(putF f v fs).length ≤ fs.length + 1
  | []=>by simp [putF]
  | (k,x) :: r=>by
    have ih:=zgx f v r
    rw [show putF f v ((k,x) :: r)=(if k=f then (k,v) :: r else (k,x) :: putF f v r) from rfl]
    by_cases hk:k=f
    · rw [if_pos hk,List.length_cons,List.length_cons]; omega
    · rw [if_neg hk,List.length_cons,List.length_cons]; omega
theorem RelO.some_of {v:V} {o:Option Value} (r:RelO (some v) o):∃ u,o=some u∧RelV v u:=by
  cases o with
  | none=>exact (show False from r).elim
  | some u=>exact ⟨u,rfl,r⟩
theorem RelO.none_of {o:Option Value} (r:RelO none o):o=none:=by
  cases o with
  | none=>rfl
  | some u=>exact (show False from r).elim
theorem ziT {v:V} {u:Value} (r:RelV v u):PySem.W.handedIn u=true:=by
  cases v with
  | non=>cases (show u=Value.none from r); rfl
  | bl b=>cases (show u=Value.bool b from r); rfl
  | int i=>obtain ⟨t,e⟩:=(show ∃ t,u=Value.int i t from r); cases e; rfl
  | str x=>obtain ⟨t,e⟩:=(show ∃ t,u=Value.str x t from r); cases e; rfl
  | byt b=>obtain ⟨t,e⟩:=(show ∃ t,u=Value.bytes b t from r); cases e; rfl
  | flt b=>obtain ⟨t,e⟩:=(show ∃ t,u=Value.float b t from r); cases e; rfl
  | ref a=>cases (show u=Value.ref a from r); rfl
  | ty n=>cases (show u=Value.type n from r); rfl
section
variable {P:Program} {w:World} {H H':Hp} {h h':Heap} {a C dx:Addr} {fs fs':List (Str × V)}
theorem zhE (hok:HOk P w H h) (e:H a=some (.ins C dx fs)):∃ mA,ObjM h a dx C mA∧(∀ f,RelO (fs.lookup f) (mA f))∧PySem.Within mA (fs.map (·.1))∧fs.length ≤ 1000∧H dx=some (.own a):=by
  obtain ⟨d,z,ne,ob,mA,n,r,q⟩:=(show ObjOk P w H h a (.ins C dx fs) from hok a _ e)
  exact ⟨mA,⟨ob,n,ne⟩,r,q,z,d⟩
end
structure Cls (K:PySem.W.Frag) (C:Addr):Prop where
  pg:PySem.W.plainGet K C Str.empty=true
  hd:PySem.W.hasDictIn K C=true
  po:PySem.W.plainOver K C=true
  sa:PySem.W.findIn K (.ref C) "__setattr__"=some (some (.builtin "object.__setattr__"))
theorem Cls.get {K:PySem.W.Frag} {C:Addr} (c:Cls K C) (f:Str):PySem.W.plainGet K C f=true:=c.pg
def NoAttr (K:PySem.W.Frag) (C:Addr) (f:Str):Prop:=PySem.W.findIn K (.ref C) f=some none
theorem NoAttr.taker {K:PySem.W.Frag} {C:Addr} {f:Str} (n:NoAttr K C f):PySem.W.takerIn K C f=some none:=by
  unfold PySem.W.takerIn
  rw [show PySem.W.findIn K (.ref C) f=some none from n]
  rfl
structure Meth (K:PySem.W.Frag) (C:Addr) (m:Str) (f:Addr):Prop where
  at_:PySem.W.findIn K (.ref C) m=some (some (.ref f))
  fn:PySem.W.isFn K (.ref f)=true
  kp:PySem.W.keepIn K (.ref f)=true
section
variable {X:Cx} {pins:List (Addr × Obj)} {σ:St} {H:Hp} {s:Shared} {a C dx:Addr} {fs:List (Str × V)} {f:Str} {v:V} {A:Around} {E:Value→Shared→Prop}
theorem zkz {b:Bool} {Q:Value→Shared→Prop} (I:Inv X pins σ H s) (e:H a=some (.ins C dx fs)) (c:Cls X.K C) (n:NoAttr X.K C f) (l:fs.lookup f=some v)
    (h:∀ u s',Inv X pins σ H s'→RelV v u→Q u s'):wpAny (model X.prog X.w) A (getAttr (.ref a) f b) Q E s:=by
  obtain ⟨mA,O,r,_,_,_⟩:=zhE I.hok e
  obtain ⟨u,hu,ru⟩:=RelO.some_of (v:=v) (o:=mA f) (by rw [← l]; exact r f)
  exact zpb I.kIn O (c.get f) c.hd n hu (ziT ru) (h u _ (I.tok _) ru)
theorem zgT {m:Str} {g:Addr} {pl:Sem Bool} {Q:Value × List Value→Shared→Prop} (I:Inv X pins σ H s) (e:H a=some (.ins C dx fs)) (c:Cls X.K C) (k:Meth X.K C m g) (l:fs.lookup m=none)
    (h:Q (.ref g,[.ref a]) s):wpAny (model X.prog X.w) A (getMethod (.ref a) m pl) Q E s:=by
  obtain ⟨mA,O,r,_,_,_⟩:=zhE I.hok e
  have hn:mA m=none:=RelO.none_of (by rw [← l]; exact r m)
  exact znd I.kIn O (c.get m) k.at_ k.fn hn h
theorem zkN {y:V} {u:Value} {Q:Unit→Shared→Prop} (I:Inv X pins σ H s) (e:H a=some (.ins C dx fs)) (c:Cls X.K C) (n:NoAttr X.K C f) (hl:fs.length < 1000) (ry:RelV y u)
    (h:∀ s',Inv X pins σ (upd H a (.ins C dx (putF f y fs))) s'→Q () s'):wpAny (model X.prog X.w) A (setAttr (.ref a) f u) Q E s:=by
  obtain ⟨mA,O,r,wi,_,ho⟩:=zhE I.hok e
  have hz:(fs.map (·.1)).length ≤ sizeLine:=by rw [List.length_map,sizeLine_eq]; omega
  refine set_map I.kIn O c.sa c.po n.taker c.hd wi hz fun h' O' sb=>h _ ?_
  have hd:∃ o,h'.get? dx=some o:=let ⟨o,_,_,e',_⟩:=O'.ns; ⟨o,e'⟩
  refine I.write (x:=a) (e:=dx) (by rw [e]; exact True.intro) (.inr ho) (fun b q hb z=>(sb.2 b hb).trans z) hd ?_
  refine ⟨by rw [zai O.ne]; exact ho,?_,O.ne,O'.obj,_,O'.ns,fun g=>?_,fun g hg=>?_⟩
  · have:=zgx f y fs; omega
  · show RelO ((putF f y fs).lookup g) (if g=f then some u else mA g)
    rw [zgB]
    by_cases q:g=f
    · rw [if_pos q,if_pos q]; exact ry
    · rw [if_neg q,if_neg q]; exact r g
  · by_cases q:g=f
    · rw [q]; exact (zgz f y fs).1
    · refine (zgz f y fs).2 g (wi g fun z=>hg ?_)
      show (if g=f then some u else mA g)=none
      rw [if_neg q]; exact z
theorem Inv.made (I:Inv X pins σ H s):Inv X pins σ (upd (upd H s.heap.objs.size (.own (s.heap.objs.size + 1))) (s.heap.objs.size + 1) (.ins C s.heap.objs.size []))
    { s with heap:=(s.heap.push PySem.W.emptyDict).push (PySem.W.instObj C s.heap.objs.size) }:=by
  have e1:(s.heap.push PySem.W.emptyDict).get? s.heap.objs.size=some PySem.W.emptyDict:=Heap.get?_push_size s.heap rfl
  have e2:((s.heap.push PySem.W.emptyDict).push (PySem.W.instObj C s.heap.objs.size)).get? (s.heap.objs.size + 1)=some (PySem.W.instObj C s.heap.objs.size):=by
    have:=Heap.get?_push_size (s.heap.push PySem.W.emptyDict) (o:=PySem.W.instObj C s.heap.objs.size) rfl
    rwa [Heap.size_push] at this
  have e3:(s.heap.push PySem.W.emptyDict).Ns s.heap.objs.size (fun _=>none):=⟨PySem.W.emptyDict,#[],_,e1,rfl,(fun e he=>absurd he (by simp)),fun _=>rfl⟩
  have I1:=I.laid (a:=s.heap.objs.size) (o:=.own (s.heap.objs.size + 1)) (h':=s.heap.push PySem.W.emptyDict) (t':=s.toks) (fun b u q=>Heap.get?_push_of_some _ q) (Nat.le_refl _) ⟨_,e1⟩
  refine I1.laid (a:=s.heap.objs.size + 1) (o:=.ins C s.heap.objs.size []) (t':=s.toks) (fun b u q=>Heap.get?_push_of_some _ q) (Nat.le_of_eq (Heap.size_push _ _)) ?_
  have ne:s.heap.objs.size ≠ s.heap.objs.size + 1:=Nat.ne_of_lt (Nat.lt_succ_self _)
  refine ⟨by rw [zai ne,zal],Nat.zero_le _,ne,e2,fun _=>none,(Heap.Ns1.of_empty e3).at fun o q=>Heap.get?_push_of_some _ q,fun _=>True.intro,fun y hy=>absurd rfl hy⟩
theorem zl4 {prog:Program} {w:World} {env:Env} {e:Expr} {f:Str} {pos:Pos} {s:Shared} {Q:Value→Shared→Prop} (hb:attributeBase e f env (eval e env)=eval e env)
    (h:wpAny (model prog w) A (eval e env) (fun o s₁=>wpAny (model prog w) A (getAttr o f true) Q E s₁) E s):wpAny (model prog w) A (eval (.Attribute e f pos) env) Q E s :=
  Attribute_any_ h (by rw [arm_eval_Attribute,hb])
end
def tFld (K:PySem.W.Frag) (ta:TE) (f:Str):TE:=fun σ H Q=>ta σ H fun x H1=>∃ a C dx fs v,x = .ref a∧H1 a=some (.ins C dx fs)∧Cls K C∧NoAttr K C f∧fs.lookup f=some v∧Q v H1
def sFld (K:PySem.W.Frag) (ta tv:TE) (f:Str):TS:=fun D σ H=>tv σ H fun y H1=>ta σ H1 fun x H2=>∃ a C dx fs,x = .ref a∧H2 a=some (.ins C dx fs)∧Cls K C∧NoAttr K C f∧fs.length < 1000 ∧
  D.nx σ (upd H2 a (.ins C dx (putF f y fs)))
section
variable {X:Cx} {o e value:Expr} {f:Str} {pos pos' tpos:Pos} {ta tv:TE}
theorem zcU (he:PE X e ta) (hb:attributeBase e f X.env (eval e X.env)=eval e X.env):PE X (.Attribute e f pos) (tFld X.K ta f):=by
  intro pins s σ H Q I h
  refine zl4 hb (thn (he pins s σ H _ I h) fun u s1 ⟨x,H1,I1,rx,a,C,dx,fs,v,ex,ea,c,n,l,q⟩=>?_)
  subst ex
  obtain rfl:u=Value.ref a:=rx
  exact zkz I1 ea c n l fun u' s2 I2 ru=>⟨v,H1,I2,ru,q⟩
theorem zgj (ha:PE X o ta) (hv:PE X value tv) (hs:swapsWith value (some (.Attribute o f pos')) pos.line X.env=pure false):PS X (.Assign [.Attribute o f pos'] value pos) (sFld X.K ta tv f):=by
  intro pins s σ H D I h
  refine plainObj_wpAny_Assign_Attribute (thn (hv pins s σ H _ I h) fun u s1 ⟨y,H1,I1,ry,q⟩=>thn (ha pins s1 σ H1 _ I1 q) fun ov s2 ⟨x,H2,I2,rx,a,C,dx,fs,ex,ea,c,n,l,q2⟩=>?_) hs
  subst ex
  obtain rfl:ov=Value.ref a:=rx
  exact zkN I2 ea c n l ry fun s3 I3=>⟨σ,_,I3,q2⟩
end
section
variable {X:Cx} {pins:List (Addr × Obj)} {σ:St} {H:Hp} {s:Shared} {A:Around} {E:Value→Shared→Prop} {Q:Value→Shared→Prop} {c:Value} {b:Bool}
inductive TyOf (K:PySem.W.Frag) (H:Hp):V→Value→Prop where
  | non:TyOf K H .non (.type "NoneType")
  | bl (x:Bool):TyOf K H (.bl x) (.type "bool")
  | int (i:Int):TyOf K H (.int i) (.type "int")
  | str (x:Str):TyOf K H (.str x) (.type "str")
  | flt (x:UInt64):TyOf K H (.flt x) (.type "float")
  | lst {a:Addr} {xs:List V} (e:H a=some (.lst xs)):TyOf K H (.ref a) (.type "list")
  | frz {a:Addr} {o:Obj} {xs:List V} (e:H a=some (.frz o (.lst xs))):TyOf K H (.ref a) (.type "list")
  | tup {a:Addr} {xs:List V} (e:H a=some (.tup xs)):TyOf K H (.ref a) (.type "tuple")
  | dK {a:Addr} {kvs:List (Key × V)} (e:H a=some (.dK kvs)):TyOf K H (.ref a) (.type "dict")
  | dT {a:Addr} {kvs:List (List Key × V)} (e:H a=some (.dT kvs)):TyOf K H (.ref a) (.type "dict")
  | ins {a C dx:Addr} {fs:List (Str × V)} (e:H a=some (.ins C dx fs)) (cl:Cls K C) (ha:PySem.W.findIn K (.ref C) "__class__"=some (some (.builtin "object.__class__")))
      (hn:PySem.W.specialIn K (.builtin "object.__class__") "__get__"=some (some (.builtin "getset_descriptor.__get__"))) (htk:PySem.W.takesIn K (.builtin "object.__class__")=some true)
      (hm:PySem.W.mroIn K C (.type "object")=some true):TyOf K H (.ref a) (.ref C)
theorem zmr {x:V} {u t:Value} (I:Inv X pins σ H s) (rx:RelV x u) (ty:TyOf X.K H x t) (e:PySem.W.kitOne X.K t c=some b) (h:∀ tk,Q (.bool b) { s with toks:=tk }) :
    wpAny (model X.prog X.w) A (call (.builtin "isinstance") [u,c]) Q E s:=by
  cases ty with
  | non=>cases (show u=Value.none from rx); exact PySem.W.kia_one PySem.W.kitx_none I.kIn True.intro e (fun z=>nomatch z) h
  | bl y=>cases (show u=Value.bool y from rx); exact PySem.W.kia_one PySem.W.kitx_bool I.kIn True.intro e (fun z=>nomatch z) h
  | int i=>obtain ⟨t,q⟩:=(show ∃ t,u=Value.int i t from rx); cases q; exact PySem.W.kia_one PySem.W.kitx_int I.kIn True.intro e (fun z=>nomatch z) h
  | str y=>obtain ⟨t,q⟩:=(show ∃ t,u=Value.str y t from rx); cases q; exact PySem.W.kia_one PySem.W.kitx_str I.kIn True.intro e (fun z=>nomatch z) h
  | flt y=>obtain ⟨t,q⟩:=(show ∃ t,u=Value.float y t from rx); cases q; exact PySem.W.kia_one PySem.W.kitx_float I.kIn True.intro e (fun z=>nomatch z) h
  | @lst a xs ea =>
    cases (show u=Value.ref a from rx)
    obtain ⟨_,_,n,_,h1⟩:=(show ObjOk X.prog X.w H s.heap a (.lst xs) from I.hok a _ ea)
    exact PySem.W.kia_one PySem.W.kitx_list I.kIn ⟨_,h1,rfl⟩ e (fun z=>nomatch z) h
  | @frz a ob xs ea =>
    cases (show u=Value.ref a from rx)
    obtain ⟨_,_,_,n,_,h1⟩:=(show ObjOk X.prog X.w H s.heap a (.frz ob (.lst xs)) from I.hok a _ ea)
    exact PySem.W.kia_one PySem.W.kitx_list I.kIn ⟨_,h1,rfl⟩ e (fun z=>nomatch z) h
  | @tup a xs ea =>
    cases (show u=Value.ref a from rx)
    obtain ⟨_,_,_,p⟩:=(show ObjOk X.prog X.w H s.heap a (.tup xs) from I.hok a _ ea)
    obtain ⟨o,h1,h2,_⟩:=p
    exact PySem.W.kia_one PySem.W.kitx_tuple I.kIn ⟨o,h1,h2⟩ e (fun z=>nomatch z) h
  | @dK a kvs ea =>
    cases (show u=Value.ref a from rx)
    obtain ⟨_,_,vs,_,p⟩:=(show ObjOk X.prog X.w H s.heap a (.dK kvs) from I.hok a _ ea)
    obtain ⟨o,es,ep,h1,h2,_⟩:=p
    exact PySem.W.kia_one PySem.W.kitx_dict I.kIn ⟨o,h1,h2.1⟩ e (fun z=>nomatch z) h
  | @dT a kvs ea =>
    cases (show u=Value.ref a from rx)
    obtain ⟨_,_,xs,_,o,es,ep,h1,h2,_⟩:=(show ObjOk X.prog X.w H s.heap a (.dT kvs) from I.hok a _ ea)
    exact PySem.W.kia_one PySem.W.kitx_dict I.kIn ⟨o,h1,h2.1⟩ e (fun z=>nomatch z) h
  | @ins a C dx fs ea cl ha hn htk hm =>
    cases (show u=Value.ref a from rx)
    obtain ⟨mA,O,_⟩:=zhE I.hok ea
    obtain ⟨od,J,_⟩:=O.look
    exact PySem.W.kia_one (PySem.W.kitx_own (cl.get _) cl.hd ha hn htk hm) I.kIn J e (fun z=>nomatch z) h
end
end L2
namespace L2
open PySem PySem.Spec PyProof.Rows
structure Room (k:Nat) (A:Around):Prop where
  hd:A.handled=none
  dp:A.depth + 3 * k + 5 < recursionLimit
  un:A.units + 16 * k + 200 < cLine
theorem Room.mono {j k:Nat} {A:Around} (r:Room k A) (h:j ≤ k):Room j A:=⟨r.hd,by have:=r.dp; omega,by have:=r.un; omega⟩
theorem Room.deeper {k:Nat} {A:Around} (r:Room (k + 1) A) (env:Env):Room k (A.deeper env) :=
  ⟨r.hd,by have:=r.dp; show A.depth + 1 + 3 * k + 5 < _; omega,by have:=r.un; show A.units + 3 + 16 * k + 200 < _; omega⟩
theorem zko {A:Around} {C:Addr} {us:List Value} {kw:List (Str × Value)}:(A.under (.builtin "type.__call__" ⟨.ref C :: us,kw⟩)).depth=A.depth + 1:=by
  first | rfl | simp [Around.under,Code.weight,Code.isCreation,Code.isGuard,Code.isCaller,Code.frames,Code.isFrame,guardIds]
theorem zkG {A:Around} {C:Addr} {us:List Value} {kw:List (Str × Value)}:(A.under (.builtin "type.__call__" ⟨.ref C :: us,kw⟩)).units=A.units + 1:=by
  first | rfl | simp [Around.under,Code.cUnits,Code.frames,Code.isFrame]
theorem Room.make {k:Nat} {A:Around} (r:Room (k + 1) A) (C:Addr) (us:List Value) (kw:List (Str × Value)):Room k (A.under (.builtin "type.__call__" ⟨.ref C :: us,kw⟩)) :=
  ⟨r.hd,by have:=r.dp; rw [zko]; omega,by have:=r.un; rw [zkG]; omega⟩
theorem Room.depth {k:Nat} {A:Around} (r:Room k A):A.depth < recursionLimit:=by have:=r.dp; omega
theorem Room.units {k:Nat} {A:Around} (r:Room k A):A.units + 64 < cLine:=by have:=r.un; omega
def tNil:TA:=fun _ H Q=>Q [] H
def zcy (ta:TE) (tr:TA):TA:=fun σ H Q=>ta σ H fun x H1=>tr σ H1 fun xs H2=>Q (x :: xs) H2
section
variable {X:Cx} {e:Expr} {es:List Expr} {te:TE} {t:TA} {pos:Pos}
theorem zae:PA X [] tNil:=fun _ _ _ _ H Q I h=>Calls.spliced_nil ⟨[],H,I,.nil,h⟩
theorem zab (ha:PE X e te) (hr:PA X es t) (hs:starEach (e :: es) X.env=(false,eval e X.env) :: starEach es X.env:=by rfl):PA X (e :: es) (zcy te t):=by
  intro pos pins s σ H Q I h
  rw [hs]
  show wpAny _ _ (spliced ((false,eval e X.env) :: backTo pos (starEach es X.env))) _ _ s
  refine Calls.spliced_cons (thn (ha pins s σ H _ I h) fun u s1 ⟨x,H1,I1,r1,q1⟩=>?_)
  exact thn (hr pos pins s1 σ H1 _ I1 q1) fun us s2 ⟨xs,H2,I2,r2,q2⟩=>⟨x :: xs,H2,I2,.cons r1 r2,q2⟩
def tTup (t:TA):TE:=fun σ H Q=>t σ H fun xs H1=>xs.length ≤ sizeLine∧∀ p,H1 p=none→Q (.ref p) (upd H1 p (.tup xs))
def tLst (t:TA):TE:=fun σ H Q=>t σ H fun xs H1=>xs.length ≤ sizeLine∧∀ p,H1 p=none→Q (.ref p) (upd H1 p (.lst xs))
theorem zg2 {x1} (h:PA X es t):PE X (.Tuple es x1 pos) (tTup t):=by
  intro pins s σ H Q I hq
  refine wpAny_Tuple_spliced (thn (h pos pins s σ H _ I hq) fun us s1 ⟨xs,H1,I1,r,z,q⟩=>⟨by rw [← r.length]; exact z,?_⟩)
  have hf:H1 s1.heap.objs.size=none:=I1.hok.fresh (Nat.le_refl _)
  refine ⟨.ref s1.heap.objs.size,upd H1 s1.heap.objs.size (.tup xs),I1.laid (t':=s1.toks) (fun b u e=>Heap.get?_push_of_some _ e) (Nat.le_refl _) ?_,rfl,q _ hf⟩
  exact ⟨z,us,r,⟨_,Heap.get?_push_size _ rfl,rfl,_,rfl⟩⟩
theorem zc7 (h:PA X es t):PE X (.List es pos) (tLst t):=by
  intro pins s σ H Q I hq
  refine wpAny_List_spliced (thn (h pos pins s σ H _ I hq) fun us s1 ⟨xs,H1,I1,r,z,q⟩=>⟨by rw [← r.length]; exact z,?_⟩)
  have hf:H1 s1.heap.objs.size=none:=I1.hok.fresh (Nat.le_refl _)
  refine ⟨.ref s1.heap.objs.size,upd H1 s1.heap.objs.size (.lst xs),I1.laid (t':=s1.toks) (fun b u e=>Heap.get?_push_of_some _ e) (Nat.le_refl _) ?_,rfl,q _ hf⟩
  exact ⟨z,us,0,r,Heap.get?_push_size _ rfl⟩
end
abbrev Sp:=List V→Hp→VK→XK→Prop
abbrev CXT:=List Env→Hp→Shared→XK→Value→Shared→Prop
structure Env0 (P:Program) (w:World) (K:PySem.W.Frag) (mg:Str→Option Value) (base:Heap) (A:Around) (outer:List Env) (s:Shared) (H:Hp):Prop where
  frames:A.frames=some outer
  mod:Mod K mg base
  bs:∀ b o,base.get? b=some o→s.heap.get? b=some o∧H b=none
  bsz:base.objs.size ≤ s.heap.objs.size
  funs:s.heap.FunFrames base outer
  frf:∀ b ∈ frs outer,H b=none
  hok:HOk P w H s.heap
  bare:AllBare s.gens
  tb:TbAt K H
def CE (outer:List Env) (P:Program) (w:World) (H:Hp) (s:Shared) (Q:VK) (u:Value) (s':Shared):Prop :=
  ∃ v H',s'.os=s.os∧AllBare s'.gens∧Un (frs outer) [] H H' s.heap s'.heap∧HOk P w H' s'.heap∧RelV v u∧Q v H'
def CR (CX:CXT) (outer:List Env) (P:Program) (w:World) (H:Hp) (s:Shared) (Q:VK) (E:XK) (r:Result) (s':Shared):Prop :=
  match r with
  | .ok (.ret u)=>CE outer P w H s Q u s'
  | .ok _=>False
  | .error e=>CX outer H s E e s'
structure FnOk (P:Program) (w:World) (K:PySem.W.Frag) (mg:Str→Option Value) (base:Heap) (CX:CXT) (k:Nat) (f:Addr) (fd:FuncData) (ps:List Str) (sp:Sp):Prop where
  len:∀ vs H Q E,sp vs H Q E→vs.length=ps.length
  run:∀ (A:Around) (outer:List Env) (s:Shared) (H:Hp) (args:Args) (us:List Value) (vs:List V) (Q:VK) (E:XK),Room k A→Env0 P w K mg base A outer s H→BindsTo s fd args (ps.zip us)→Vals vs us→sp vs H Q E →
    codeAny (model P w) A (.call (.ref f) args) (CR CX outer P w H s Q E) s
theorem Env0.make {P:Program} {w:World} {K:PySem.W.Frag} {mg:Str→Option Value} {base:Heap} {A:Around} {outer:List Env} {s:Shared} {H:Hp} (e:Env0 P w K mg base A outer s H) (C:Addr) (us:List Value) (kw:List (Str × Value)) :
    Env0 P w K mg base (A.under (.builtin "type.__call__" ⟨.ref C :: us,kw⟩)) outer s H:=⟨by first | exact e.frames | (simpa [Around.under,Code.envs,Code.isFrame,pushEnvs] using e.frames),e.mod,e.bs,e.bsz,e.funs,e.frf,e.hok,e.bare,e.tb⟩
section
variable {X:Cx} {pins:List (Addr × Obj)} {σ:St} {H:Hp} {s s':Shared}
theorem Inv.env0 (I:Inv X pins σ H s):Env0 X.prog X.w X.K X.mg X.base X.A X.stack s H :=
  ⟨I.ok.frames,I.ok.mod,I.bs,Nat.le_trans I.ok.bsz I.sz,I.stack,I.stkFree,I.hok,I.bare,I.ok.tb.grown I.base.tbls⟩
theorem Inv.after {Q:VK} {u:Value} (I:Inv X pins σ H s) (h:CE X.stack X.prog X.w H s Q u s'):EP X pins σ Q u s':=by
  obtain ⟨v,H',os,bare,un,hok,r,q⟩:=h
  obtain ⟨hh,g,d,t,os'⟩:=s'
  obtain rfl:os'=s.os:=os
  exact ⟨v,H',I.call (h':=hh) (g':=g) (d':=d) (t':=t) (ch:=[]) un hok bare (fun b z=>absurd z (by simp)),r,q⟩
end
def zmW (sp:Sp) (dvs:List V) (E:XK) (t:TA):TE:=fun σ H Q=>t σ H fun vs H1=>sp (vs ++ dvs) H1 Q E
def zkD (C:Addr) (m:Str) (sp:Sp) (dvs:List V) (E:XK) (ta:TE) (t:TA):TE:=fun σ H Q=>ta σ H fun x H1=>∃ a dx fs,x = .ref a∧H1 a=some (.ins C dx fs)∧fs.lookup m=none ∧
  t σ H1 fun vs H2=>sp (x :: (vs ++ dvs)) H2 Q E
def zoR (C:Addr) (sp:Sp) (dvs:List V) (E:XK) (t:TA):TE:=fun σ H Q=>t σ H fun vs H1=>∀ x dx,H1 x=none→H1 dx=none→dx ≠ x →
  sp (.ref x :: (vs ++ dvs)) (upd (upd H1 dx (.own x)) x (.ins C dx [])) (fun v H2=>v = .non∧Q (.ref x) H2) E
def Binds (K:PySem.W.Frag) (fd:FuncData) (ps:List Str) (ds:List Value):Prop :=
  ∀ (s:Shared) (us:List Value),K.In s.heap→(us ++ ds).length=ps.length→BindsTo s fd ⟨us,[]⟩ (ps.zip (us ++ ds))
theorem Binds.all {K:PySem.W.Frag} {fd:FuncData} {ps:List Str} (h:∀ us:List Value,us.length=ps.length→bindArgs fd ⟨us,[]⟩=pure (ps.zip us)):Binds K fd ps []:=fun s us _ hl=>by
  rw [List.append_nil] at hl ⊢
  exact .of_eq (h us hl)
def zdt (CX:CXT) (X:Cx) (E:XK):Prop:=∀ (pins:List (Addr × Obj)) (σ:St) (H:Hp) (s:Shared) (e:Value) (s':Shared),Inv X pins σ H s→CX X.stack H s E e s'→X.xe e s'
section
variable {X:Cx} {CX:CXT} {k:Nat} {f C:Addr} {fd:FuncData} {ps:List Str} {sp:Sp} {dvs:List V} {ds:List Value} {E:XK} {x m:Str} {p pos apos:Pos} {e o:Expr} {es:List Expr} {ta:TE} {t:TA}
theorem zmJ {pins:List (Addr × Obj)} {σ:St} {H:Hp} {s:Shared} {Q:VK} {us:List Value} {vs:List V} (F:FnOk X.prog X.w X.K X.mg X.base CX k f fd ps sp) (hr:Room k X.A) (hb:Binds X.K fd ps ds) (hd:Vals dvs ds) (hx:zdt CX X E)
    (I:Inv X pins σ H s) (r:Vals vs us) (h:sp (vs ++ dvs) H Q E):wpAny (model X.prog X.w) X.A (call (.ref f) us) (EP X pins σ Q) X.xe s:=by
  have r2:Vals (vs ++ dvs) (us ++ ds):=r.append hd
  have hl:(us ++ ds).length=ps.length:=by rw [← r2.length]; exact F.len _ _ _ _ h
  refine wpAny_call (codeAny_mono (F.run X.A X.stack s H ⟨us,[]⟩ (us ++ ds) (vs ++ dvs) Q E hr I.env0 (hb s us I.kIn hl) r2 h) fun r s' hq=>?_)
  cases r with
  | error e=>exact hx pins σ H s e s' I hq
  | ok fl =>
    cases fl with
    | ret u=>exact I.after hq
    | next=>exact False.elim hq
    | brk=>exact False.elim hq
    | cont=>exact False.elim hq
theorem zpd (F:FnOk X.prog X.w X.K X.mg X.base CX k f fd ps sp) (hr:Room k X.A) (hg:Gl X x) (hm:X.mg x=some (.ref f)) (hk:PySem.W.keepIn X.K (.ref f)=true) (hb:Binds X.K fd ps ds) (hd:Vals dvs ds) (hx:zdt CX X E)
    (ha:PA X (e :: es) t) (hdb:(x == ("__debug__" : Str))=false:=by decide) (he:starEach (e :: es) X.env=(false,eval e X.env) :: starEach es X.env:=by rfl) (hpl:(backTo pos (starEach es X.env)).any (·.1)=false:=by rfl) :
    PE X (.Call (.Name x p) (e :: es) [] pos) (zmW sp dvs E t):=by
  intro pins s σ H Q I h
  refine wpAny_Call_Name_kw (zek I hg hm ?_ hdb)
  refine PySem.W.callWith_K (h₀:=X.base) I.ok.mod.kin hk (thn (ha pos pins s σ H _ I h) fun us s1 ⟨vs,H1,I1,r,q⟩=>⟨I1.kIn,?_⟩) he hpl
  exact zmJ F hr hb hd hx I1 r q
theorem zo9 {pl:Sem Bool} (he:PE X o ta) (c:Cls X.K C) (hm:Meth X.K C m f) (F:FnOk X.prog X.w X.K X.mg X.base CX k f fd ps sp) (hr:Room k X.A) (hb:Binds X.K fd ps ds) (hd:Vals dvs ds) (hx:zdt CX X E) (ha:PA X (e :: es) t)
    (hst:starEach (e :: es) X.env=(false,eval e X.env) :: starEach es X.env:=by rfl) (hpl:(backTo pos (starEach es X.env)).any (·.1)=false:=by rfl)
    (ht:eval (.Call (.Attribute o m apos) (e :: es) [] pos) X.env=(do
      let ov ← eval o X.env
      standAt apos.atName
      let (f,first) ← holding [ov] (getMethod ov m pl)
      callWith pos f first (backTo pos (starEach (e :: es) X.env)) (backToKw pos (keywordEach [] X.env))):=by rfl) :
    PE X (.Call (.Attribute o m apos) (e :: es) [] pos) (zkD C m sp dvs E ta t):=by
  intro pins s σ H Q I h
  refine PySem.W.methodCall_KW (pl:=pl) (thn (he pins s σ H _ I h) fun u s1 ⟨x,H1,I1,rx,a,dx,fs,ex,ea,l,q⟩=>?_) ht
  subst ex
  obtain rfl:u=Value.ref a:=rx
  refine zgT I1 ea c hm l ?_
  refine PySem.W.callWith_K (first:=[.ref a]) (h₀:=X.base) I.ok.mod.kin hm.kp (thn (ha pos pins s1 σ H1 _ I1 q) fun us s2 ⟨vs,H2,I2,r,q2⟩=>⟨I2.kIn,?_⟩) hst hpl
  exact zmJ (us:=.ref a :: us) (vs:=.ref a :: vs) F hr hb hd hx I2 (.cons rfl r) q2
theorem zna {pl:Sem Bool} (he:PE X o ta) (c:Cls X.K C) (hm:Meth X.K C m f) (F:FnOk X.prog X.w X.K X.mg X.base CX k f fd ps sp) (hr:Room k X.A) (hb:Binds X.K fd ps ds) (hd:Vals dvs ds) (hx:zdt CX X E)
    (ht:eval (.Call (.Attribute o m apos) [] [] pos) X.env=(do
      let ov ← eval o X.env
      standAt apos.atName
      let (f,first) ← holding [ov] (getMethod ov m pl)
      callWith pos f first (backTo pos (starEach [] X.env)) (backToKw pos (keywordEach [] X.env))):=by rfl) :
    PE X (.Call (.Attribute o m apos) [] [] pos) (zkD C m sp dvs E ta tNil):=by
  intro pins s σ H Q I h
  refine PySem.W.methodCall_KW (pl:=pl) (thn (he pins s σ H _ I h) fun u s1 ⟨x,H1,I1,rx,a,dx,fs,ex,ea,l,q⟩=>?_) ht
  subst ex
  obtain rfl:u=Value.ref a:=rx
  refine zgT I1 ea c hm l ?_
  exact PySem.W.callWith_K0 (first:=[.ref a]) I1.kIn hm.kp (zmJ (us:=[.ref a]) (vs:=[.ref a]) F hr hb hd hx I1 (.cons rfl .nil) q)
structure Mk (K:PySem.W.Frag) (C f:Addr):Prop where
  makes:PySem.W.makesIn K C=true
  init:PySem.W.findIn K (.ref C) "__init__"=some (some (.ref f))
  fn:PySem.W.isFn K (.ref f)=true
  kp:PySem.W.keepIn K (.ref C)=true
theorem zm3 {pins:List (Addr × Obj)} {σ:St} {H:Hp} {s:Shared} {Q:VK} {us:List Value} {vs:List V} (M:Mk X.K C f) (F:FnOk X.prog X.w X.K X.mg X.base CX k f fd ps sp) (hr:Room (k + 1) X.A) (hb:Binds X.K fd ps ds) (hd:Vals dvs ds)
    (hx:zdt CX X E) (I:Inv X pins σ H s) (r:Vals vs us)
    (h:∀ x dx,H x=none→H dx=none→dx ≠ x→sp (.ref x :: (vs ++ dvs)) (upd (upd H dx (.own x)) x (.ins C dx [])) (fun v H2=>v = .non∧Q (.ref x) H2) E) :
    wpAny (model X.prog X.w) X.A (call (.ref C) us) (EP X pins σ Q) X.xe s:=by
  have hq:=h (s.heap.objs.size + 1) s.heap.objs.size (I.hok.fresh (Nat.le_succ _)) (I.hok.fresh (Nat.le_refl _)) (Nat.ne_of_lt (Nat.lt_succ_self _))
  have I2:=Inv.made (C:=C) I
  have r2:Vals (V.ref (s.heap.objs.size + 1) :: (vs ++ dvs)) (Value.ref (s.heap.objs.size + 1) :: (us ++ ds)):=.cons rfl (r.append hd)
  have hl:(Value.ref (s.heap.objs.size + 1) :: us ++ ds).length=ps.length:=by
    have e:=r2.length
    rw [F.len _ _ _ _ hq] at e
    exact e.symm
  refine wpAny_call (zjR (f:=f) I.kIn M.makes M.init (beq_iff_eq.mp M.fn) (codeAny_mono (F.run _ X.stack _ _ ⟨Value.ref (s.heap.objs.size + 1) :: us,[]⟩ (Value.ref (s.heap.objs.size + 1) :: (us ++ ds)) _ _ E (hr.make C us [])
    (I2.env0.make C us []) (hb _ (Value.ref (s.heap.objs.size + 1) :: us) I2.kIn hl) r2 hq) fun r s' hq'=>?_))
  cases r with
  | error e=>exact hx pins σ _ _ e s' I2 hq'
  | ok fl =>
    cases fl with
    | ret u =>
      obtain ⟨v,H',I3,rv,ev,q3⟩:=I2.after hq'
      subst ev
      exact ⟨rv,⟨V.ref (s.heap.objs.size + 1),H',I3,rfl,q3⟩⟩
    | next=>exact False.elim hq'
    | brk=>exact False.elim hq'
    | cont=>exact False.elim hq'
theorem zoP (M:Mk X.K C f) (F:FnOk X.prog X.w X.K X.mg X.base CX k f fd ps sp) (hr:Room (k + 1) X.A) (hg:Gl X x) (hm:X.mg x=some (.ref C)) (hb:Binds X.K fd ps ds) (hd:Vals dvs ds) (hx:zdt CX X E)
    (ha:PA X (e :: es) t) (hdb:(x == ("__debug__" : Str))=false:=by decide) (he:starEach (e :: es) X.env=(false,eval e X.env) :: starEach es X.env:=by rfl) (hpl:(backTo pos (starEach es X.env)).any (·.1)=false:=by rfl) :
    PE X (.Call (.Name x p) (e :: es) [] pos) (zoR C sp dvs E t):=by
  intro pins s σ H Q I h
  refine wpAny_Call_Name_kw (zek I hg hm ?_ hdb)
  refine PySem.W.callWith_K (h₀:=X.base) I.ok.mod.kin M.kp (thn (ha pos pins s σ H _ I h) fun us s1 ⟨vs,H1,I1,r,q⟩=>⟨I1.kIn,?_⟩) he hpl
  exact zm3 M F hr hb hd hx I1 r q
end
def PK (X:Cx) (kws:List Keyword) (t:TA):Prop :=
  ∀ (pos:Pos) (pins:List (Addr × Obj)) (s:Shared) (σ:St) (H:Hp) (Q:List V→Hp→Prop),Inv X pins σ H s→t σ H Q→wpAny (model X.prog X.w) X.A (evalAll ((backToKw pos (keywordEach kws X.env)).map (·.2))) (AP X pins σ Q) X.xe s
section
variable {X:Cx} {CX:CXT} {k:Nat} {f C:Addr} {fd:FuncData} {ps ks:List Str} {sp:Sp} {E:XK} {x m:Str} {p pos apos kpos:Pos} {e o:Expr} {es:List Expr} {kws:List Keyword} {te ta:TE} {t tk:TA} {nm:Option Str}
theorem zpU:PK X [] tNil:=fun _ _ _ _ H Q I h=>wpAny_evalAll_nil ⟨[],H,I,.nil,h⟩
theorem zoA (ha:PE X e te) (hr:PK X kws t):PK X (⟨nm,e,kpos⟩ :: kws) (zcy te t):=by
  intro pos pins s σ H Q I h
  show wpAny _ _ (evalAll ((do let v ← eval e X.env; standAt pos; pure v) :: (backToKw pos (keywordEach kws X.env)).map (·.2))) _ _ s
  refine wpAny_evalAll_cons (wpAny_bind (thn (ha pins s σ H _ I h) fun u s1 ⟨x,H1,I1,r1,q1⟩=>wpAny_bind (wpAny_standAt (wpAny_pure ?_))))
  exact thn (hr pos pins s1 σ H1 _ I1 q1) fun us s2 ⟨xs,H2,I2,r2,q2⟩=>⟨x :: xs,H2,I2,.cons r1 r2,q2⟩
variable {g:List Value→List Value→List Value} {gV:List V→List V→List V}
end
structure FnScope (N P:List Str) (sc:Scope):Prop where
  kind:sc.kind = .function
  co:sc.isCoroutine=false
  gen:sc.isGenerator=false
  nd:N.Nodup
  pre:N.take P.length=P
  par:∀ x ∈ P,sc.names.lookup x=some .local∨sc.names.lookup x=some .cell
  nofree:∀ y ∈ sc.names,y.2 ≠ .free
theorem ziL {kindOf:Str→Option NameKind} {x:Str}:∀ {binds:List (Str × Value)} {m:Str→Option Value},(∀ v,(x,v) ∉ binds)→bindL kindOf binds m x=m x
  | [],_,_=>rfl
  | (n,v) :: r,m,h=>by
    unfold bindL
    rw [ziL fun w hw=>h w (List.mem_cons_of_mem _ hw)]
    split
    · have:x ≠ n:=by rintro rfl; exact h v List.mem_cons_self
      simp [this]
    · rfl
theorem zif {kindOf:Str→Option NameKind} {x:Str}:∀ {binds:List (Str × Value)} {m:Str→Option Value},(∀ v,(x,v) ∉ binds)→bindC kindOf binds m x=m x
  | [],_,_=>rfl
  | (n,v) :: r,m,h=>by
    unfold bindC
    rw [zif fun w hw=>h w (List.mem_cons_of_mem _ hw)]
    split
    · rfl
    · have:x ≠ n:=by rintro rfl; exact h v List.mem_cons_self
      simp [this]
theorem ziz {kindOf:Str→Option NameKind} {x:Str} {v:Value}:∀ {P:List Str} {vs:List Value} {i:Nat} {m:Str→Option Value},P.Nodup→P[i]?=some x→vs[i]?=some v→kindOf x=some .local →
    bindL kindOf (P.zip vs) m x=some v
  | [],_,_,_,_,h,_,_=>by simp at h
  | _ :: _,[],_,_,_,_,h,_=>by simp at h
  | p :: P,w :: vs,0,m,nd,h1,h2,hk=>by
    simp at h1 h2; subst h1; subst h2
    show bindL kindOf ((p,w) :: P.zip vs) m p=_
    unfold bindL
    rw [ziL fun v hv=>(List.nodup_cons.mp nd).1 (List.of_mem_zip hv).1,if_pos hk]
    simp
  | p :: P,w :: vs,i + 1,m,nd,h1,h2,hk=>by
    show bindL kindOf ((p,w) :: P.zip vs) m x=_
    unfold bindL
    exact ziz (i:=i) (List.nodup_cons.mp nd).2 (by simpa using h1) (by simpa using h2) hk
theorem ziK {kindOf:Str→Option NameKind} {x:Str} {v:Value}:∀ {P:List Str} {vs:List Value} {i:Nat} {m:Str→Option Value},P.Nodup→P[i]?=some x→vs[i]?=some v→kindOf x ≠ some .local →
    bindC kindOf (P.zip vs) m x=some v
  | [],_,_,_,_,h,_,_=>by simp at h
  | _ :: _,[],_,_,_,_,h,_=>by simp at h
  | p :: P,w :: vs,0,m,nd,h1,h2,hk=>by
    simp at h1 h2; subst h1; subst h2
    show bindC kindOf ((p,w) :: P.zip vs) m p=_
    unfold bindC
    rw [zif fun v hv=>(List.nodup_cons.mp nd).1 (List.of_mem_zip hv).1,if_neg hk]
    simp
  | p :: P,w :: vs,i + 1,m,nd,h1,h2,hk=>by
    show bindC kindOf ((p,w) :: P.zip vs) m x=_
    unfold bindC
    exact ziK (i:=i) (List.nodup_cons.mp nd).2 (by simpa using h1) (by simpa using h2) hk
def start (N:List Str) (vs:List V):St:=vs.map some ++ List.replicate (N.length - vs.length) none
def cxOf (CX:CXT) (P:Program) (w:World) (K:PySem.W.Frag) (mg:Str→Option Value) (base:Heap) (N:List Str) (qual:Str) (scope:Scope) (f:Addr) (cd:Value) (A:Around) (outer:List Env) (s:Shared) (H:Hp) (E:XK):Cx where
  prog:=P
  w:=w
  K:=K
  mg:=mg
  base:=base
  A:=A.deeper (envOfC qual scope s.heap.objs.size f cd)
  N:=N
  s₀:=s
  H₀:=H
  env:=envOfC qual scope s.heap.objs.size f cd
  outer:=outer
  stack:=envOfC qual scope s.heap.objs.size f cd :: outer
  ex:=[]
  calm:=true
  fn:=fun _=>true
  pn:=[]
  xe:=fun e s'=>wpAny (model P w) (A.deeper (envOfC qual scope s.heap.objs.size f cd)) (leaving (envOfC qual scope s.heap.objs.size f cd) e) (fun _ s''=>CX outer H s E e s'') (fun e' s''=>CX outer H s E e' s'') s'
theorem zjD {sc:Scope} {n:Nat} {x:Str} (h:sc.names.lookup x=some .cell):∃ c,(cellsFrom n sc.names []).lookup x=some c:=by
  have q:=PySem.W.cellsFrom_some sc.names n [] (.inl h)
  exact Option.isSome_iff_exists.mp q
theorem zmF {CX:CXT} {P:Program} {w:World} {K:PySem.W.Frag} {mg:Str→Option Value} {base:Heap} {N ps:List Str} {qual:Str} {scope:Scope} {f:Addr} {cd:Value} {A:Around} {outer:List Env} {s s1:Shared} {H:Hp} {E:XK} {us:List Value} {vs:List V}
    (S:FnScope N ps scope) (hd:A.handled=none) (e0:Env0 P w K mg base A outer s H) (hl:vs.length=ps.length) (r:Vals vs us)
    (x:InCallC s s.heap.objs.size (bindL (envOfC qual scope s.heap.objs.size f cd).kindOf (ps.zip us) fun _=>none) (cellsFrom (s.heap.objs.size + 1) scope.names []) (bindC (envOfC qual scope s.heap.objs.size f cd).kindOf (ps.zip us) fun _=>none) s1) :
    Inv (cxOf CX P w K mg base N qual scope f cd A outer s H E) [] (start N vs) H s1:=by
  have hpl:ps.length ≤ N.length:=by have:=congrArg List.length S.pre; rw [List.length_take] at this; omega
  obtain ⟨h1,tk,rfl,hk⟩:=x.done
  have noA:∀ b:Addr,b ∉ (cxOf CX P w K mg base N qual scope f cd A outer s H E).ex:=fun b z=>absurd (show b ∈ ([]:List Addr) from z) (by simp)
  refine ⟨⟨e0.mod,S.kind,rfl,rfl,Nat.le_refl _,fun y z c h1 h2=>?_,fun y hy=>?_,fun y c _ h=>?_,fun _=>hd,Around.frames_deeper e0.frames,.inr ⟨rfl,rfl⟩,fun b z=>absurd z (noA b),e0.bs,e0.bsz,fun b _ _=>noA b,fun b z=>absurd z (noA b),e0.funs,e0.frf,e0.tb⟩,
    rfl,e0.bare,Un.kept hk,⟨_,x.toInCall.ns,fun i y v h1 h2 h3=>?_⟩,fun y c h=>⟨_,x.cell y c h⟩,e0.hok.fresh (Nat.le_refl _),fun y c h=>?_,fun p hp=>absurd (show p ∈ ([]:List (Addr × Obj)) from hp) (by simp),e0.hok.kept hk,?_⟩
  · exact name_of_addr x.apart (PySem.mem_of_lookup h1) (PySem.mem_of_lookup h2)
  · have hy:scope.names.lookup y=some .cell∨scope.names.lookup y=some .free:=hy
    rcases hy with hy | hy
    · exact zjD hy
    · exact absurd rfl (S.nofree _ (PySem.mem_of_lookup hy))
  · exact Nat.le_of_lt (x.above y c (PySem.mem_of_lookup h))
  · have hi:i < vs.length:=by
      unfold start at h2
      by_cases hi:i < vs.length
      · exact hi
      · rw [List.getElem?_append_right (by simpa using hi)] at h2
        rw [List.getElem?_replicate] at h2
        split at h2 <;> cases h2
    have ha:vs[i]?=some v:=by
      unfold start at h2
      rw [List.getElem?_append_left (by simpa using hi),List.getElem?_map] at h2
      cases e:vs[i]? with
      | none=>rw [e] at h2; cases h2
      | some a=>rw [e] at h2; cases h2; rfl
    obtain ⟨u,hu,rv⟩:=r.get ha
    have hp:ps[i]?=some y:=by
      rw [← S.pre,List.getElem?_take_of_lt (by omega)]; exact h1
    have ndP:ps.Nodup:=by rw [← S.pre]; exact S.nd.sublist (List.take_sublist _ _)
    refine ⟨u,rv,?_⟩
    rcases S.par y (List.mem_of_getElem? hp) with k | k
    · exact .inl ⟨k,ziz ndP hp hu k⟩
    · obtain ⟨c,e⟩:=zjD (n:=s.heap.objs.size + 1) k
      refine .inr ⟨.inl k,c,e,?_⟩
      have q:=x.cell y c e
      rw [ziK ndP hp hu (by show scope.names.lookup y ≠ _; rw [k]; decide)] at q
      exact q
  · exact e0.hok.fresh (Nat.le_of_lt (x.above y c (PySem.mem_of_lookup h)))
  · unfold start
    show _=N.length
    rw [List.length_append,List.length_map,List.length_replicate]
    omega
theorem zpr {CX:CXT} {P:Program} {w:World} {K:PySem.W.Frag} {mg:Str→Option Value} {base:Heap} {k:Nat} {f:Addr} {name qual:Str} {params:Arguments} {body:List Stmt} {scope:Scope} {dV kV doc pm cdv ct oc:Value} {an od:Option Addr}
    {osl:Array (Option Value)} {N ps:List Str} {sp:Sp} (lk:K.lookup f=some ⟨oc,od,.func (PySem.W.fnOf name qual params body scope dV kV doc pm an cdv ct),osl⟩) (hcd:PySem.W.codeIn K cdv qual=true) (S:FnScope N ps scope)
    (len:∀ vs H Q E,sp vs H Q E→vs.length=ps.length)
    (hbody:∀ (A:Around) (outer:List Env) (s:Shared) (H:Hp) (vs:List V) (Q:VK) (E:XK),Room k (A.deeper (envOfC qual scope s.heap.objs.size f cdv))→sp vs H Q E →
      ∃ t,PSs (cxOf CX P w K mg base N qual scope f cdv A outer s H E) body t∧t { nx:=fun _ H'=>Q .non H',rt:=Q } (start N vs) H) :
    FnOk P w K mg base CX (k + 1) f (PySem.W.fnOf name qual params body scope dV kV doc pm an cdv ct) ps sp:=by
  refine ⟨len,fun A outer s H args us vs Q E hr e0 hb r hsp=>?_⟩
  have hl:=len _ _ _ _ hsp
  have KX:K.In s.heap:=e0.mod.kin.keeps fun b o e=>(e0.bs b o e).1
  have lim:s.heap.NoLimit:=e0.mod.nolimit.keeps fun b o e=>(e0.bs b o e).1
  have hkind:∀ y ∈ ps.zip us,scope.names.lookup y.1=some .local∨(scope.names.lookup y.1=some .cell∧((cellsFrom (s.heap.objs.size + 1) scope.names []).lookup y.1).isSome=true):=fun ⟨n,v⟩ hy=>by
    rcases S.par n (List.of_mem_zip hy).1 with q | q
    · exact .inl q
    · exact .inr ⟨q,PySem.W.cellsFrom_some _ _ _ (.inl q)⟩
  refine codeAny_call_function hr.depth (KX _ _ lk) rfl S.co S.gen rfl (PySem.W.codeRec_of KX hcd) (hb _ _ _ _ ?_)
  refine wpAny_newFunctionEnv_cells S.kind hkind fun env he s1 x=>?_
  subst he
  refine ⟨lim.keeps x.toInCall.keep,codeAny_func ?_⟩
  obtain ⟨t,ht,hq⟩:=hbody A outer s H vs Q E (hr.deeper _) hsp
  have I:Inv (cxOf CX P w K mg base N qual scope f cdv A outer s H E) [] (start N vs) H s1:=zmF S hr.hd e0 hl r x
  refine wpAny_mono (ht [] s1 (start N vs) H _ I hq) (fun fl s' hs=>?_) fun e s' hs=>hs
  have fin:∀ {σ':St} {H':Hp} {v:V} {u:Value},Inv (cxOf CX P w K mg base N qual scope f cdv A outer s H E) [] σ' H' s'→RelV v u→Q v H'→CE outer P w H s Q u s' :=
    fun {σ' H' v u} J rv q=>⟨v,H',J.os,J.bare,J.base,J.hok,rv,q⟩
  cases fl with
  | ret u =>
    obtain ⟨v,σ',H',J,rv,q⟩:=hs
    exact fin J rv q
  | next =>
    obtain ⟨σ',H',J,q⟩:=hs
    exact fin (v:=V.non) (u:=Value.none) J rfl q
  | brk =>
    obtain ⟨_,_,_,q⟩:=hs
    exact False.elim q
  | cont =>
    obtain ⟨_,_,_,q⟩:=hs
    exact False.elim q
end L2
namespace L2
open PySem PySem.Spec PyProof.Rows
section
variable {X:Cx} {x:Str} {p pos:Pos} {e:Expr} {es:List Expr} {t:TA} {id T:String} {r:List V→Hp→VK→Prop}
def tCB (r:List V→Hp→VK→Prop) (t:TA):TE:=fun σ H Q=>t σ H fun vs H1=>r vs H1 Q
theorem zar (hc:ze3 X (.builtin id) r) (hg:Gl X x) (hm:X.mg x=none) (hv:bootBuiltins x=some (.builtin id)) (ha:PA X (e :: es) t) (hn:x ≠ "__name__":=by decide) (hdb:(x == ("__debug__" : Str))=false:=by decide)
    (he:starEach (e :: es) X.env=(false,eval e X.env) :: starEach es X.env:=by rfl) (hpl:(backTo pos (starEach es X.env)).any (·.1)=false:=by rfl):PE X (.Call (.Name x p) (e :: es) [] pos) (tCB r t):=by
  intro pins s σ H Q I h
  refine wpAny_Call_Name_kw (zeG I hg hm hv ?_ hn hdb)
  exact PyProof.Rows.callWith_builtin1 (thn (ha pos pins s σ H _ I h) fun us s1 ⟨vs,H1,I1,r1,q1⟩=>hc pins s1 σ H1 vs us Q I1 r1 q1) he hpl
theorem zei (hc:ze3 X (.type T) r) (hg:Gl X x) (hm:X.mg x=none) (hv:bootBuiltins x=some (.type T)) (ha:PA X (e :: es) t) (hn:x ≠ "__name__":=by decide) (hdb:(x == ("__debug__" : Str))=false:=by decide)
    (he:starEach (e :: es) X.env=(false,eval e X.env) :: starEach es X.env:=by rfl) (hpl:(backTo pos (starEach es X.env)).any (·.1)=false:=by rfl):PE X (.Call (.Name x p) (e :: es) [] pos) (tCB r t):=by
  intro pins s σ H Q I h
  refine wpAny_Call_Name_kw (zeG I hg hm hv ?_ hn hdb)
  exact PyProof.Rows.callWith_type1 (thn (ha pos pins s σ H _ I h) fun us s1 ⟨vs,H1,I1,r1,q1⟩=>hc pins s1 σ H1 vs us Q I1 r1 q1) he hpl
end
end L2
namespace HT
open PySem PyProof.Rows
section
open PySem.SeqAt
open PySem.AutoSeq1 (wpAny_loadPart')
open PySem.MeetsSeq PySem.MeetsSeq2 PySem.MeetsSeq3
end
section
variable {prog:Program} {w:World} {A:Around} {E:Value→Shared→Prop} {s:Shared}
theorem cat_tup {t b:Addr} {vs ws:List Value} {Q:Value→Shared→Prop} (ht:IsTup s.heap t vs.toArray) (hb:IsTup s.heap b ws.toArray) (hv:vs ≠ [])
    (h1:ws = []→Q (.ref t) s) (h2:ws ≠ []→Q (.ref s.heap.objs.size) { s with heap:=s.heap.push { cls:=.type "tuple",data:=.seq (vs ++ ws).toArray } })
    (hsz:vs.length + ws.length ≤ sizeLine):wpAny (model prog w) A (binaryOp .Add (.ref t) (.ref b)) Q E s:=by
  obtain ⟨⟨cls,dd,data,sl⟩,ho,hc,n,hd⟩:=id ht
  obtain ⟨⟨cls2,dd2,data2,sl2⟩,ho2,hc2,n2,hd2⟩:=id hb
  simp only at hc hd hc2 hd2
  subst hc hd hc2 hd2
  have e:vs.toArray ++ ws.toArray=(vs ++ ws).toArray:=by simp
  by_cases hw:ws = []
  · exact concat_meets ⟨_,ho,rfl⟩ ⟨_,ho2,rfl⟩ noFill_tuple_add seq_tuple_add PySem.F.slot_tuple_add PySem.F.entry_tuple_add (PySem.F.args_tuple_add_2 _ _)
      (tuple_addW1 t b vs.toArray ws.toArray n n2 dd dd2 sl sl2 (by simpa using hv) (by simp [hw])) ⟨ho,ho2,h1 hw⟩
  · refine concat_meets ⟨_,ho,rfl⟩ ⟨_,ho2,rfl⟩ noFill_tuple_add seq_tuple_add PySem.F.slot_tuple_add PySem.F.entry_tuple_add (PySem.F.args_tuple_add_2 _ _)
      (tuple_addW2 t b vs.toArray ws.toArray n n2 dd dd2 sl sl2 (by simpa using hv) (by simpa using hw) (by rw [List.size_toArray,List.size_toArray]; exact hsz)) ⟨ho,ho2,?_⟩
    rw [e]
    exact h2 hw
def sIx (n d:Nat):Option Int→Nat
  | none=>d
  | some v=>if v < 0 then (v + (n:Int)).toNat else min v.toNat n
end
end HT
namespace L2
open PySem PySem.Spec PyProof.Rows
abbrev TO:=St→Hp→(Option Int→Hp→Prop)→Prop
def PO (X:Cx) (e:Option Expr) (t:TO):Prop :=
  ∀ (pins:List (Addr × Obj)) (s:Shared) (σ:St) (H:Hp) (Q:Option Int→Hp→Prop),Inv X pins σ H s→t σ H Q →
    wpAny (model X.prog X.w) X.A (evalPart e X.env) (fun u s'=>∃ o H',Inv X pins σ H' s'∧IsPart u o∧Q o H') X.xe s
def zlv:TO:=fun _ H Q=>Q none H
def zpQ (t:TE):TO:=fun σ H Q=>t σ H fun x H1=>∃ i,x = .int i∧Q (some i) H1
section
variable {X:Cx} {e:Expr} {te:TE} {lo hi:Option Expr} {tl th:TO} {pos p2:Pos}
theorem zi6:PO X none zlv:=by
  intro pins s σ H Q I h
  rw [evalPart_none]
  exact wpAny_pure ⟨none,H,I,.none,h⟩
theorem zga (h:PE X e te):PO X (some e) (zpQ te):=by
  intro pins s σ H Q I hw
  rw [evalPart_some]
  refine thn (h pins s σ H _ I hw) fun u s1 ⟨x,H1,I1,r1,q1⟩=>?_
  obtain ⟨i,rfl,q⟩:=q1
  obtain ⟨t,rfl⟩:=r1
  exact ⟨some i,H1,I1,.int i t,q⟩
def SlR (X:Cx) (r:V→Option Int→Option Int→Hp→VK→Prop):Prop :=
  ∀ (pins:List (Addr × Obj)) (s:Shared) (σ:St) (H:Hp) (x:V) (v vl vu:Value) (lo hi:Option Int) (sl:Addr) (Q:VK),Inv X pins σ H s→RelV x v→s.heap.IsSliceOf sl vl vu .none→IsPart vl lo→IsPart vu hi→r x lo hi H Q →
    ∃ T id,typeLookup (.type T) "__getitem__"=pure (some (.builtin id))∧s.TypeIs v T∧wpAny (model X.prog X.w) X.A (getItem v (.ref sl)) (EP X pins σ Q) X.xe s
def tSl (r:V→Option Int→Option Int→Hp→VK→Prop) (te:TE) (tl th:TO):TE:=fun σ H Q=>te σ H fun x H1=>tl σ H1 fun l H2=>th σ H2 fun u H3=>r x l u H3 Q
theorem zfY {r:V→Option Int→Option Int→Hp→VK→Prop} (hr:SlR X r) (he:PE X e te) (hl:PO X lo tl) (hu:PO X hi th):PE X (.Subscript e (.Slice lo hi none p2) pos) (tSl r te tl th):=by
  intro pins s σ H Q I h
  refine Subscript_ (thn (he pins s σ H _ I h) fun v s1 ⟨x,H1,I1,r1,q1⟩=>?_)
  refine wpAny_Slice (thn (hl pins s1 σ H1 _ I1 q1) fun vl s2 ⟨l,H2,I2,pl,q2⟩=>thn (hu pins s2 σ H2 _ I2 q2) fun vu s3 ⟨u,H3,I3,pu,q3⟩=>?_)
  rw [evalPart_none]
  refine wpAny_pure ?_
  have I4:Inv X pins σ H3 { s3 with heap:=s3.heap.push { cls:=.type "slice",data:=.fields #[vl,vu,.none] } }:=I3.kept (t':=s3.toks) fun b ob q=>Heap.get?_push_of_some _ q
  obtain ⟨T,id,hT,ht,hg⟩:=hr pins { s3 with heap:=s3.heap.push { cls:=.type "slice",data:=.fields #[vl,vu,.none] } } σ H3 x v vl vu l u s3.heap.objs.size Q I4 r1 (Heap.IsSliceOf.new ..) pl pu q3
  show wpAny (model X.prog X.w) X.A (subscriptTail e (.Slice lo hi none p2) v (.ref s3.heap.objs.size)) (EP X pins σ Q) X.xe { s3 with heap:=s3.heap.push { cls:=.type "slice",data:=.fields #[vl,vu,.none] } }
  exact tail_any (ops:=[.ref s3.heap.objs.size,v]) ht hT hg (by with_unfolding_all rfl)
def cutV (xs:List V) (lo hi:Option Int):List V:=(xs.drop (HT.sIx xs.length 0 lo)).take (HT.sIx xs.length xs.length hi - HT.sIx xs.length 0 lo)
theorem zjk (xs:List V) (lo hi:Option Int):(cutV xs lo hi).length ≤ xs.length:=by
  unfold cutV
  rw [List.length_take,List.length_drop]
  omega
def zqX (K:PySem.W.Frag):R2:=fun x y H Q=>∃ a b xs ys,x = .ref a∧y = .ref b∧SqT K H a xs∧SqT K H b ys∧xs ≠ []∧xs.length + ys.length ≤ sizeLine ∧
  (ys = []→Q (.ref a) H)∧(ys ≠ []→∀ p,H p=none→Q (.ref p) (upd H p (.tup (xs ++ ys))))
theorem Vals.nil_iff {xs:List V} {us:List Value} (r:Vals xs us):us = [] ↔ xs = []:=by
  cases r with
  | nil=>simp
  | cons _ _=>simp
theorem zpy:OpR X (binaryOp .Add) (zqX X.K):=by
  intro pins s σ H x y v u Q I rx ry h
  obtain ⟨a,b,xs,ys,rfl,rfl,ha,hb,hx,hz,q1,q2⟩:=h
  cases rx
  cases ry
  obtain ⟨its,r1,p1,_⟩:=I.tuple ha
  obtain ⟨its2,r2,p2,_⟩:=I.tuple hb
  refine HT.cat_tup p1 p2 (fun z=>hx (r1.nil_iff.mp z)) (fun z=>⟨.ref a,H,I,rfl,q1 (r2.nil_iff.mp z)⟩) (fun z=>?_) (by rw [← r1.length,← r2.length]; exact hz)
  refine ⟨.ref s.heap.objs.size,_,I.laid (t':=s.toks) (o:=.tup (xs ++ ys)) (fun b ob q=>Heap.get?_push_of_some _ q) (Nat.le_refl _) ?_,rfl,q2 (fun w=>z (r2.nil_iff.mpr w)) _ (I.hok.fresh (Nat.le_refl _))⟩
  exact ⟨by rw [List.length_append]; exact hz,_,r1.append r2,IsTup.new _ _⟩
end
end L2
namespace L2
open PySem PySem.Spec PyProof.Rows
def ixN (n:Nat) (i:Int):Option Nat:=if 0 ≤ i then (if i < n then some i.toNat else none) else if -(n:Int) ≤ i then some (i + n).toNat else none
def atI {α:Type} (xs:List α) (i:Int):Option α:=(ixN xs.length i).bind fun j=>xs[j]?
theorem zmz {n:Nat} {i:Int} {j:Nat} (h:ixN n i=some j):seqIndex? i n=some j∧j < n∧-(n:Int) ≤ i∧i < n:=by
  unfold ixN at h
  by_cases h0:0 ≤ i
  · rw [if_pos h0] at h
    by_cases h1:i < n
    · rw [if_pos h1] at h
      have e:i.toNat=j:=Option.some.inj h
      exact ⟨by rw [seqIndex_of h0 h1,e],by omega,by omega,h1⟩
    · rw [if_neg h1] at h; cases h
  · rw [if_neg h0] at h
    by_cases h1 : -(n:Int) ≤ i
    · rw [if_pos h1] at h
      have e:(i + n).toNat=j:=Option.some.inj h
      exact ⟨by rw [seqIndex_neg (by omega) h1,e],by omega,h1,by omega⟩
    · rw [if_neg h1] at h; cases h
theorem zjl {α:Type} {xs:List α} {i:Int} {v:α} (h:atI xs i=some v):∃ j,seqIndex? i xs.length=some j∧xs[j]?=some v∧j < xs.length∧-(xs.length:Int) ≤ i∧i < xs.length:=by
  unfold atI at h
  cases e:ixN xs.length i with
  | none=>rw [e] at h; cases h
  | some j =>
    rw [e] at h
    obtain ⟨h1,h2,h3,h4⟩:=zmz e
    exact ⟨j,h1,h,h2,h3,h4⟩
theorem atI_nat {α:Type} {xs:List α} {j:Nat} {v:α} (h:xs[j]?=some v):atI xs (j:Int)=some v:=by
  have hj:j < xs.length:=(List.getElem?_eq_some_iff.mp h).1
  have e:ixN xs.length (j:Int)=some j:=by
    unfold ixN
    rw [if_pos (by omega),if_pos (by omega)]; simp
  unfold atI; rw [e]; exact h
def zpw (b:Expr):Prop:=∀ o i,subscripted b false o i=operate [o,i] (getItem o i)
def IxR (X:Cx) (r:R2):Prop :=
  ∀ (value slice:Expr) (pins:List (Addr × Obj)) (s:Shared) (σ:St) (H:Hp) (x y:V) (v u:Value) (Q:VK),Inv X pins σ H s→RelV x v→RelV y u→r x y H Q →
    subscripted slice false v u=operate [v,u] (getItem v u)→wpAny (model X.prog X.w) X.A (subscriptTail value slice v u) (EP X pins σ Q) X.xe s
def MtR (X:Cx) (id:String) (r:V→List V→Hp→VK→Prop):Prop :=
  ∀ (pins:List (Addr × Obj)) (s:Shared) (σ:St) (H:Hp) (x:V) (xs:List V) (v:Value) (us:List Value) (Q:VK),Inv X pins σ H s→RelV x v→Vals xs us→r x xs H Q →
    wpAny (model X.prog X.w) X.A (call (.builtin id) (v :: us)) (EP X pins σ Q) X.xe s
section
variable {X:Cx} {a b:Expr} {ta tb:TE} {pos:Pos}
theorem zb5 {r:R2} (hr:IxR X r) (ha:PE X a ta) (hb:PE X b tb) (hs:zpw b):PE X (.Subscript a b pos) (tOp r ta tb):=by
  intro pins s σ H Q I h
  exact Subscript_ (binT ha hb I h fun v u s2 x y H2 I2 rx ry q=>hr a b pins s2 σ H2 x y v u Q I2 rx ry q (hs _ _))
def rIxL (K:PySem.W.Frag):R2:=fun x y H Q=>∃ p xs i v,x = .ref p∧y = .int i∧SqL K H p xs∧atI xs i=some v∧Q v H
def rIxT (K:PySem.W.Frag):R2:=fun x y H Q=>∃ p xs i v,x = .ref p∧y = .int i∧SqT K H p xs∧atI xs i=some v∧Q v H
theorem za6:IxR X (rIxL X.K):=by
  intro value slice pins s σ H x y v u Q I rx ry h hs
  obtain ⟨p,xs,i,z,rfl,rfl,hq,he,q⟩:=h
  cases rx
  obtain ⟨t,rfl⟩:=ry
  obtain ⟨its,r,pl,hz⟩:=I.list hq
  obtain ⟨j,h1,h2,h3,h4,h5⟩:=zjl he
  obtain ⟨w,ew,rw'⟩:=r.get h2
  have hl:=r.length
  have hn:=ziE
  have fin:EP X pins σ Q w s:=⟨z,H,I,rw',q⟩
  by_cases h0:0 ≤ i
  · have hj:i.toNat=j:=by
      rw [seqIndex_of h0 h5] at h1
      exact Option.some.inj h1
    exact item_listR pl.isList h0 (by omega) (by rw [hj]; simpa using ew) fin hs
  · have hj:(i + (its.toArray.size:Int)).toNat=j:=by
      rw [seqIndex_neg (by omega) h4] at h1
      rw [List.size_toArray,← hl]
      exact Option.some.inj h1
    exact subscriptTail_builtinR (x:=w) pl.isList.typeIs slot_list_getitem.lookup
      (wpAny_getItem_list_neg (Q:=fun r s'=>r=w∧EP X pins σ Q r s') pl.isList (by omega) (by rw [List.size_toArray] <;> omega) (by omega) (by rw [hj]; simpa using ew) ⟨rfl,fin⟩) hs
theorem zoi:IxR X (rIxT X.K):=by
  intro value slice pins s σ H x y v u Q I rx ry h hs
  obtain ⟨p,xs,i,z,rfl,rfl,hq,he,q⟩:=h
  cases rx
  obtain ⟨t,rfl⟩:=ry
  obtain ⟨its,r,pl,hz⟩:=I.tuple hq
  obtain ⟨j,h1,h2,h3,h4,h5⟩:=zjl he
  obtain ⟨w,ew,rw'⟩:=r.get h2
  have hl:=r.length
  have hn:=ziE
  have fin:EP X pins σ Q w s:=⟨z,H,I,rw',q⟩
  exact subscriptTail_builtinR (x:=w) pl.typeIs slot_tuple_getitem.lookup
    (getItem_tuple (j:=j) (Q:=fun r s'=>r=w∧EP X pins σ Q r s') pl (by omega) (by omega) (by rw [List.size_toArray,← hl]; exact h1) (by simpa using ew) ⟨rfl,fin⟩) hs
theorem zk1 (its:List Value) (n j:Nat) (u:Value):Obj.mapSeq (·.setIfInBounds j u) { cls:=.type "list",data:=.seq its.toArray n } = { cls:=.type "list",data:=.seq (its.set j u).toArray n }:=by
  simp [Obj.mapSeq]
theorem Inv.lst {pins:List (Addr × Obj)} {σ:St} {H:Hp} {s:Shared} {p:Addr} {xs:List V} (I:Inv X pins σ H s) (h:H p=some (.lst xs)) :
    ∃ (its:List Value) (n:Nat),Vals xs its∧s.heap.get? p=some { cls:=.type "list",data:=.seq its.toArray n }∧xs.length ≤ sizeLine:=by
  obtain ⟨z,its,n,r,e⟩:=I.hok p _ h
  exact ⟨its,n,r,e,z⟩
theorem Inv.lstUpd {pins:List (Addr × Obj)} {σ:St} {H:Hp} {s:Shared} {p:Addr} {xs ys:List V} {its its':List Value} {n n':Nat} {f:Obj→Obj} (I:Inv X pins σ H s) (h:H p=some (.lst xs))
    (ho:s.heap.get? p=some { cls:=.type "list",data:=.seq its.toArray n }) (hf:f { cls:=.type "list",data:=.seq its.toArray n } = { cls:=.type "list",data:=.seq its'.toArray n' }) (r:Vals ys its') (hz:ys.length ≤ sizeLine) (t:Nat) :
    Inv X pins σ (upd H p (.lst ys)) { s with heap:=s.heap.update p f,toks:=t }:=by
  have e:(s.heap.update p f).get? p=some { cls:=.type "list",data:=.seq its'.toArray n' }:=by
    rw [Heap.get?_update_self f ho (by rw [hf] <;> rfl),hf]
  refine I.write (x:=p) (e:=p) (by rw [h]; trivial) (.inl rfl) (fun b u hb q=>(Heap.get?_update_other _ _ (Ne.symm hb)).trans q) ⟨_,e⟩ ?_
  exact ⟨hz,its',n',r,e⟩
def zoT:V→V→V→Hp→(Hp→Prop)→Prop:=fun o i v H Q=>∃ p xs k j,o = .ref p∧i = .int k∧H p=some (.lst xs)∧ixN xs.length k=some j∧Q (upd H p (.lst (xs.set j v)))
theorem zdx:PSet X zoT:=by
  intro pins s σ H o i v ov iv u Q I ro ri rv h
  obtain ⟨p,xs,k,j,rfl,rfl,hp,hj,q⟩:=h
  cases ro
  obtain ⟨t,rfl⟩:=ri
  obtain ⟨its,n,r,ho,hz⟩:=I.lst hp
  obtain ⟨h1,h2,h3,h4⟩:=zmz hj
  have hl:=r.length
  have hn:=ziE
  have I':Inv X pins σ (upd H p (.lst (xs.set j v))) { s with heap:=s.heap.update p (Obj.mapSeq (·.setIfInBounds j u)) } :=
    I.lstUpd hp ho (zk1 its n j u) (r.set rv j) (by rw [List.length_set]; exact hz) s.toks
  by_cases h0:0 ≤ k
  · have hk:k.toNat=j:=by
      rw [seqIndex_of h0 h4] at h1
      exact Option.some.inj h1
    exact PySem.W.ki_setAt ho h0 (by omega) (by rw [List.size_toArray,← hl]; exact h4) (by rw [hk]; exact ⟨_,I',q⟩)
  · have hk:(k + (its.toArray.size:Int)).toNat=j:=by
      rw [seqIndex_neg (by omega) h3] at h1
      rw [List.size_toArray,← hl]
      exact Option.some.inj h1
    exact PySem.W.ki_setBack ho (by omega) (by rw [List.size_toArray,← hl]; exact h3) (by omega) (by rw [hk]; exact ⟨_,I',q⟩)
theorem ziU (lo hi:Option Int) (n:Nat):(sliceBounds lo hi none n).1=((HT.sIx n 0 lo:Nat):Int)∧(sliceBounds lo hi none n).2.1=((HT.sIx n n hi:Nat):Int)∧(sliceBounds lo hi none n).2.2=1:=by
  refine ⟨?_,?_,rfl⟩
  · cases lo with
    | none=>simp [sliceBounds,HT.sIx]
    | some i =>
      simp only [sliceBounds,HT.sIx,Option.getD_none,show (1:Int) > 0 by decide,if_true]
      by_cases h:i < 0
      · simp only [h,if_true] <;> omega
      · simp only [h,if_false] <;> omega
  · cases hi with
    | none=>simp [sliceBounds,HT.sIx]
    | some i =>
      simp only [sliceBounds,HT.sIx,Option.getD_none,show (1:Int) > 0 by decide,if_true]
      by_cases h:i < 0
      · simp only [h,if_true] <;> omega
      · simp only [h,if_false] <;> omega
theorem zhu (its:List Value) (lo hi:Option Int):slicePick its.toArray lo hi none=((its.drop (HT.sIx its.length 0 lo)).take (HT.sIx its.length its.length hi - HT.sIx its.length 0 lo)).toArray:=by
  obtain ⟨h1,h2,h3⟩:=ziU lo hi its.toArray.size
  unfold slicePick
  rw [h1,h2,h3]
  simp only [sliceRange_one,pick_run,List.size_toArray] <;> rfl
def rSlL (K:PySem.W.Frag):V→Option Int→Option Int→Hp→VK→Prop:=fun x lo hi H Q=>∃ a xs,x = .ref a∧SqL K H a xs∧∀ p,H p=none→Q (.ref p) (upd H p (.lst (cutV xs lo hi)))
theorem zhv:SlR X (rSlL X.K):=by
  intro pins s σ H x v vl vu lo hi sl Q I rx hs pl pu h
  obtain ⟨a,xs,rfl,hx,q⟩:=h
  cases rx
  obtain ⟨its,r,ht,hz⟩:=I.list hx
  have hlen:=r.length
  refine ⟨"list",_,slot_list_getitem.lookup,ht.isList.typeIs,?_⟩
  refine wpAny_getItem_list_slice ht.isList hs pl pu .none (by simp) ?_ (by rw [List.size_toArray] <;> omega)
  rw [zhu,← hlen]
  refine ⟨.ref s.heap.objs.size,_,I.laid (t':=s.toks) (o:=.lst (cutV xs lo hi)) (fun b ob q=>Heap.get?_push_of_some _ q) (Nat.le_refl _) ?_,rfl,q _ (I.hok.fresh (Nat.le_refl _))⟩
  exact ⟨Nat.le_trans (zjk xs lo hi) hz,_,0,(r.drop (HT.sIx xs.length 0 lo)).take (HT.sIx xs.length xs.length hi - HT.sIx xs.length 0 lo),Heap.get?_push_size _ rfl⟩
theorem zau:ze3 X (.builtin "len") (fun xs H Q=>∃ p ys,xs = [.ref p]∧(SqL X.K H p ys∨SqT X.K H p ys)∧Q (.int ys.length) H):=by
  intro pins s σ H xs us Q I r h
  obtain ⟨p,ys,rfl,hq,q⟩:=h
  obtain ⟨u,rfl,rx⟩:=zff r
  cases rx
  have hn:=ziE
  rcases hq with hq | hq
  · obtain ⟨its,r',pl,hz⟩:=I.list hq
    have hlen:=r'.length
    exact Calls.call_len_list pl.isList (by simp only [List.size_toArray] <;> omega) ⟨.int ys.length,H,I.tok _,⟨s.toks + 1,by rw [List.size_toArray,hlen]⟩,q⟩
  · obtain ⟨its,r',pl,hz⟩:=I.tuple hq
    have hlen:=r'.length
    exact len_tuple pl (by simp only [List.size_toArray] <;> omega) ⟨.int ys.length,H,I.tok _,⟨s.toks + 1,by rw [List.size_toArray,hlen]⟩,q⟩
theorem zfJ:ze3 X (.type "list") (fun xs H Q=>∃ p ys,xs = [.ref p]∧(SqL X.K H p ys∨SqT X.K H p ys)∧∀ l,H l=none→Q (.ref l) (upd H l (.lst ys))):=by
  intro pins s σ H xs us Q I r h
  obtain ⟨p,ys,rfl,hq,q⟩:=h
  obtain ⟨u,rfl,rx⟩:=zff r
  cases rx
  have fin:∀ (its:List Value),Vals ys its→ys.length ≤ sizeLine→∀ (h':Heap) (c':Nat),(∀ b o',s.heap.get? b=some o'→h'.get? b=some o') →
      h'.get? s.heap.objs.size=some { cls:=.type "list",dict:=none,data:=.seq its.toArray c',slots:=#[] }→EP X pins σ Q (.ref s.heap.objs.size) { s with heap:=h' }:=fun its r' hz h' c' kp e =>
    ⟨.ref s.heap.objs.size,_,I.laid (t':=s.toks) kp (Nat.le_refl _) (show ObjOk X.prog X.w _ h' _ (.lst ys) from ⟨hz,its,c',r',e⟩),rfl,q _ (I.hok.fresh (Nat.le_refl _))⟩
  rcases hq with hq | hq
  · obtain ⟨its,r',pl,hz⟩:=I.list hq
    have hlen:=r'.length
    obtain ⟨o,ho,hc,n,hd⟩:=pl.isList
    exact call_list_seq p (.inl rfl) ho hc hd (fun h' c' kp e=>fin its r' hz h' c' kp e) (by simp only [List.size_toArray] <;> omega)
  · obtain ⟨its,r',pl,hz⟩:=I.tuple hq
    have hlen:=r'.length
    obtain ⟨o,ho,hc,n,hd⟩:=pl
    exact call_list_seq p (.inr rfl) ho hc hd (fun h' c' kp e=>fin its r' hz h' c' kp e) (by simp only [List.size_toArray] <;> omega)
def tyV (K:PySem.W.Frag) (T:String) (x:V) (H:Hp):Prop:=match x with
  | .str _=>T = "str"
  | .int _=>T = "int"
  | .ref p=>(T = "list"∧∃ xs,SqL K H p xs)∨(T = "tuple"∧∃ o,K.lookup p=some o∧o.cls = .type "tuple"∧o.dict=none) ∨
      (T = "dict"∧((∃ kvs,H p=some (.dK kvs))∨∃ kvs,H p=some (.dT kvs)))∨(T = "set"∧∃ S n,H p=some (.set S n))
  | _=>False
theorem zoj {pins:List (Addr × Obj)} {σ:St} {H:Hp} {s:Shared} {T:String} {x:V} {v:Value} (I:Inv X pins σ H s) (r:RelV x v) (ty:tyV X.K T x H) :
    s.TypeIs v T∧∀ a,v = .ref a→∃ ob,s.heap.get? a=some ob∧ob.dict=none:=by
  cases x with
  | str z =>
    obtain ⟨t,rfl⟩:=r
    cases (show T = "str" from ty)
    exact ⟨typeIs_str s z t,fun _ e=>nomatch e⟩
  | int i =>
    obtain ⟨t,rfl⟩:=r
    cases (show T = "int" from ty)
    exact ⟨typeIs_int s i t,fun _ e=>nomatch e⟩
  | ref p =>
    cases r
    rcases ty with ⟨rfl,xs,hq⟩ | ⟨rfl,o,hk,hc,hd⟩ | ⟨rfl,hk⟩ | ⟨rfl,S,n,hk⟩
    · obtain ⟨its,_,pl,_⟩:=I.list hq
      refine ⟨pl.isList.typeIs,fun a e=>?_⟩
      cases e
      obtain ⟨o,n,e,c,hd,_⟩:=pl
      exact ⟨o,e,hd⟩
    · refine ⟨⟨o,I.kIn p o hk,hc⟩,fun a e=>?_⟩
      cases e
      exact ⟨o,I.kIn _ o hk,hd⟩
    · have z:∃ o,s.heap.get? p=some o∧o.ExactDict:=by
        rcases hk with ⟨kvs,hk⟩ | ⟨kvs,hk⟩
        · obtain ⟨_,_,_,_,o,_,_,e,ex,_⟩:=I.hok p _ hk
          exact ⟨o,e,ex⟩
        · obtain ⟨_,_,_,_,o,_,_,e,ex,_⟩:=I.hok p _ hk
          exact ⟨o,e,ex⟩
      obtain ⟨o,e,ex⟩:=z
      refine ⟨⟨o,e,ex.1⟩,fun a e2=>?_⟩
      cases e2
      exact ⟨o,e,ex.2.1⟩
    · obtain ⟨o,_,_,_,e,ex,_⟩:=I.hok p _ hk
      refine ⟨⟨o,e,ex.1⟩,fun a e2=>?_⟩
      cases e2
      exact ⟨o,e,ex.2.1⟩
  | _=>exact False.elim ty
def tBM0 (K:PySem.W.Frag) (T:String) (r:V→List V→Hp→VK→Prop) (to:TE):TE:=fun σ H Q=>to σ H fun x H1=>tyV K T x H1∧r x [] H1 Q
def tBM (K:PySem.W.Frag) (T:String) (r:V→List V→Hp→VK→Prop) (to:TE) (t:TA):TE:=fun σ H Q=>to σ H fun x H1=>tyV K T x H1∧t σ H1 fun xs H2=>r x xs H2 Q
variable {o e:Expr} {es:List Expr} {to:TE} {t:TA} {name:Str} {apos cpos:Pos} {T id:String} {r:V→List V→Hp→VK→Prop}
theorem zoc (pa:PlainAttrs T) (slot:Slot T name id) (hty:typeOf (.builtin id)=pure (.type "method_descriptor")) (hm:MtR X id r) (ho:PE X o to)
    (hbase:attributeBase o name X.env (eval o X.env)=eval o X.env:=by rfl) (hline:(apos.endLine == cpos.line)=true:=by rfl):PE X (.Call (.Attribute o name apos) [] [] cpos) (tBM0 X.K T r to):=by
  intro pins s σ H Q I h
  refine wpAny_Call_method0_late hbase hline (thn (ho pins s σ H _ I h) fun v s1 ⟨x,H1,I1,r1,ty,q1⟩=>?_)
  obtain ⟨h1,h2⟩:=zoj I1 r1 ty
  exact ⟨T,id,pa,slot,hty,h1,h2,Calls.callWith_builtin rfl (PySem.evalArgs_none (hm pins s1 σ H1 x [] v [] Q I1 r1 .nil q1))⟩
theorem zpt (pa:PlainAttrs T) (slot:Slot T name id) (hty:typeOf (.builtin id)=pure (.type "method_descriptor")) (hm:MtR X id r) (ho:PE X o to) (ha:PA X (e :: es) t)
    (hbase:attributeBase o name X.env (eval o X.env)=eval o X.env:=by rfl)
    (hfew:((backTo cpos (starEach (e :: es) X.env)).all (fun x=>!x.1) && (backToKw cpos (keywordEach [] X.env)).all (fun x=>x.1.isSome)
      && decide ((e :: es).length + ([]:List Keyword).length + (if ([]:List Keyword).isEmpty then 0 else 1) < 30))=true:=by rfl)
    (hline:(apos.endLine == cpos.line)=true:=by rfl) (hs:starEach (e :: es) X.env=(false,eval e X.env) :: starEach es X.env:=by rfl) (hplain:(backTo cpos (starEach es X.env)).any (·.1)=false:=by rfl) :
    PE X (.Call (.Attribute o name apos) (e :: es) [] cpos) (tBM X.K T r to t):=by
  intro pins s σ H Q I h
  refine wpAny_Call_method_late hbase hfew hline rfl (thn (ho pins s σ H _ I h) fun v s1 ⟨x,H1,I1,r1,ty,q1⟩=>?_)
  obtain ⟨h1,h2⟩:=zoj I1 r1 ty
  refine ⟨T,id,pa,slot,hty,h1,h2,?_⟩
  have hA:=ha cpos pins s1 σ H1 _ I1 q1
  rw [hs] at hA ⊢
  refine Calls.callWith_builtin (by show (false || (backTo cpos (starEach es X.env)).any (·.1))=false; rw [hplain] <;> rfl) (Calls.evalArgs_plain ?_)
  exact thn hA fun us s2 ⟨vs,H2,I2,r2,q2⟩=>hm pins s2 σ H2 x vs v us Q I2 r1 r2 q2
end
end L2
namespace L2
open PySem PySem.Spec PyProof.Rows
def MtM (X:Cx) (id:String) (r:V→List V→Hp→VK→Prop):Prop :=
  ∀ (pins:List (Addr × Obj)) (s:Shared) (σ:St) (H:Hp) (x:V) (xs:List V) (v:Value) (us:List Value) (Q:VK),Inv X pins σ H s→RelV x v→Vals xs us→r x xs H Q →
    wpAny (model X.prog X.w) X.A (call (.builtin id) (v :: us)) (EP X pins σ Q) X.xe s
theorem Vals.one:∀ {x:V} {us:List Value},Vals [x] us→∃ u,us = [u]∧RelV x u
  | _,_,.cons r .nil=>⟨_,rfl,r⟩
theorem Vals.zero:∀ {us:List Value},Vals [] us→us = []
  | _,.nil=>rfl
section
variable {X:Cx} {pins:List (Addr × Obj)} {σ:St} {H:Hp} {s:Shared} {l b:Addr} {xs ys zs:List V}
theorem Inv.lset {its its':List Value} {n:Nat} {f:Array Value→Array Value} {t':Nat} (I:Inv X pins σ H s) (hH:H l=some (.lst xs))
    (e:s.heap.get? l=some { cls:=.type "list",data:=.seq its.toArray n }) (hf:f its.toArray=its'.toArray) (hv:Vals ys its') (hz:ys.length ≤ sizeLine) :
    Inv X pins σ (upd H l (.lst ys)) { s with heap:=s.heap.update l (Obj.mapSeq f),toks:=t' }:=by
  have q:=PySem.IsL.update e f
  rw [hf] at q
  refine I.write (x:=l) (e:=l) (by rw [hH]; exact trivial) (.inl rfl) (fun b' u hb hu=>(Heap.get?_update_other s.heap (Obj.mapSeq f) (Ne.symm hb)).trans hu) ⟨_,q⟩ ?_
  exact ⟨hz,its',_,hv,q⟩
theorem Inv.lnew {its:List Value} {t':Nat} (I:Inv X pins σ H s) (hv:Vals ys its) (hz:ys.length ≤ sizeLine) :
    Inv X pins σ (upd H s.heap.objs.size (.lst ys)) { s with heap:=s.heap.push { cls:=.type "list",data:=.seq its.toArray },toks:=t' } :=
  I.laid (fun _ _ q=>Heap.get?_push_of_some _ q) (Nat.le_refl _) ⟨hz,its,0,hv,Heap.get?_push_size _ rfl⟩
theorem Inv.fresh (I:Inv X pins σ H s):H s.heap.objs.size=none:=I.hok.fresh (Nat.le_refl _)
theorem Inv.lstM (I:Inv X pins σ H s) (hH:H l=some (.lst xs)):xs.length ≤ sizeLine∧∃ (its:List Value) (n:Nat),Vals xs its∧xs.length=its.length∧s.heap.get? l=some { cls:=.type "list",data:=.seq its.toArray n }:=by
  obtain ⟨z,its,n,r,e⟩:=I.hok l _ hH
  exact ⟨z,its,n,r,r.length,e⟩
end
section
variable {X:Cx}
def zmL:V→List V→Hp→VK→Prop:=fun x vs H Q=>∃ l xs y,x = .ref l∧vs = [y]∧H l=some (.lst xs)∧xs.length < sizeLine∧Q .non (upd H l (.lst (xs ++ [y])))
theorem zeT:MtM X "list.append" zmL:=by
  intro pins s σ H x vs v us Q I rx rv h
  obtain ⟨l,xs,y,rfl,rfl,hH,hz,q⟩:=h
  cases rx
  obtain ⟨u,rfl,ru⟩:=rv.one
  obtain ⟨z,its,n,r,hl,e⟩:=I.lstM hH
  refine call_meets F.slot_list_append ⟨_,e,rfl⟩ F.entry_list_append (F.args_list_append_2 _ _) (PySem.list_append l its.toArray n u (by rw [List.size_toArray]; omega)) ⟨e,?_⟩
  refine ⟨.non,_,I.lset (its':=its ++ [u]) hH e (by simp) (r.append (.cons ru .nil)) ?_,rfl,q⟩
  rw [List.length_append,List.length_singleton]
  omega
def zog:V→List V→Hp→VK→Prop:=fun x vs H Q=>∃ l xs,x = .ref l∧vs = []∧H l=some (.lst xs)∧Q .non (upd H l (.lst []))
theorem zj9:MtM X "list.clear" zog:=by
  intro pins s σ H x vs v us Q I rx rv h
  obtain ⟨l,xs,rfl,rfl,hH,q⟩:=h
  cases rx
  have hus:=rv.zero
  subst hus
  obtain ⟨z,its,n,r,hl,e⟩:=I.lstM hH
  refine call_meets F.slot_list_clear ⟨_,e,rfl⟩ F.entry_list_clear (F.args_list_clear_1 _) (AutoSeq1.list_clear_list_0 l its.toArray n (by rw [List.size_toArray]; omega)) ⟨e,?_⟩
  exact ⟨.non,_,I.lset (its':=[]) (ys:=[]) hH e rfl .nil (Nat.zero_le _),rfl,q⟩
end
section
variable {prog:Program} {w:World} {A:Around} {E:Value→Shared→Prop} {s:Shared}
end
section
variable {X:Cx}
end
end L2
namespace L2
open PySem PySem.Spec PyProof.Rows
section
variable {κ:Type} [DecidableEq κ]
end
section
variable {P:Program} {w:World} {H:Hp} {h:Heap} {a:Addr}
end
section
variable {X:Cx} {pins:List (Addr × Obj)} {σ:St} {H:Hp} {s:Shared} {a:Addr} {y v:V} {u r:Value} {o:Option V} {A:Around} {E:Value→Shared→Prop}
end
section
variable {X:Cx} {pins:List (Addr × Obj)} {σ:St} {H:Hp} {s:Shared} {a:Addr} {kvs:List (Key × V)} {k:Key} {u:Value} {A:Around} {E:Value→Shared→Prop}
end
section
variable {X:Cx} {o i e value:Expr} {pos pos' tpos:Pos} {td ty tv:TE}
end
section
variable {X:Cx} {pos:Pos}
end
section
variable {X:Cx} {pins:List (Addr × Obj)} {σ:St} {H:Hp} {s:Shared} {a:Addr} {y d:V} {u r:Value} {o:Option V} {A:Around} {E:Value→Shared→Prop}
end
section
variable {X:Cx} {o e f:Expr} {apos cpos:Pos} {td ty tx:TE}
end
section
variable {X:Cx} {pins:List (Addr × Obj)} {σ:St} {H:Hp} {s:Shared} {a:Addr} {kvs:List (Key × V)} {A:Around} {E:Value→Shared→Prop}
end
section
variable {X:Cx} {pins:List (Addr × Obj)} {σ:St} {H:Hp} {s:Shared} {a:Addr} {y:V} {u:Value} {A:Around} {E:Value→Shared→Prop}
end
end L2
namespace Att
open PySem PySem.W PySem.Calls PyProof.Rows
theorem zgd {P:Params} {h:Heap}:∀ (ns:List Int) (vs:List Value),WellAll P h vs (ns.map WData.int)→IntsAre vs ns:=by
  intro ns
  induction ns with
  | nil =>
    intro vs w
    rw [List.map_nil] at w
    cases w
    exact .nil
  | cons n ns ih =>
    intro vs w
    rw [List.map_cons] at w
    cases w with
    | cons a b =>
      cases a
      exact .cons _ _ (ih _ b)
theorem zmb {l:OpenLaw} {n:Nat} (hn:l.most=some n) {P:Params} {h:Heap} {args:List WData} {vals:List Value}
    (hpre:l.row.toRowW.claim.pre args=true) (hwl:WellAll P h vals args) :
    ∃ a vs ns,vals = [Value.ref a]∧args = [WData.list (ns.map WData.int)]∧h.get? a=some { cls:=.type "list",data:=.seq vs.toArray }∧IntsAre vs ns∧ns.length ≤ n:=by
  have hsh:WShape.hasAll [] args [.list .int]=true:=(pre_splitW hpre).1
  have hc:l.pre.holds [] { args:=args }=true:=(pre_splitW hpre).2
  obtain ⟨d,r,rfl,h1,h2⟩:=hasAllW_cons hsh
  obtain rfl:=hasAllW_nil h2
  obtain ⟨xs,rfl,h3⟩:=hasW_list h1
  obtain ⟨ns,rfl⟩:=items_int h3
  have hlen:ns.length ≤ n:=by
    unfold OpenLaw.pre at hc
    have h4:(WTm.not (.lt (.lit (.int (n:Int))) (.len (.arg 0)))).holds [] { args:=[.list (ns.map .int)] }=true:=by
      have h4:=(holds_andW hc).1
      rw [hn] at h4
      exact h4
    have h5:=condW_of h4 (w_not (w_lt w_lit (w_len_list (w_arg rfl))))
    rw [List.length_map] at h5
    refine Nat.le_of_not_lt fun q=>?_
    have q':(n:Int) < ((ns.length:Nat):Int):=by omega
    first
      | (rw [decide_eq_true q'] at h5; exact absurd h5 (by decide))
      | (simp at h5; omega)
  cases hwl with
  | cons w1 w2 =>
    cases w2
    cases w1 with
    | list ho hall=>exact ⟨_,_,ns,rfl,rfl,ho,zgd ns _ hall,hlen⟩
theorem zmI (l:OpenLaw) (args:List WData):l.row.toRowW.claim.post args (.bool true) args=true :=
  postW_of (r:=l.row.toRowW) (X:=(true == true))
    (show WShape.has [] (.bool true) .bool=true by first | rfl | decide | simp [WShape.has,WShape.arms,WShape.armsAll])
    (show (WTm.eq .res (.lit (.bool true))).value [] { args:=args,res:=some (.bool true),after:=args }=some (.bool (true == true)) from w_eq_bool (w_res rfl) w_lit) rfl
theorem attach_call {l:OpenLaw} {n:Nat} {q:Program} {loose:List Str} {XP:(Str→Option Value)→Heap→Prop} {YP:World→Heap→Prop} {d:DefRec}
    (hn:l.most=some n) (hdf:d.params.defaults = [])
    (call:∀ (w:World) (s₀ s₁:Shared) (mg mb:Str→Option Value) (fa:Addr) (o:Obj) (pm cd doc:Value) (a:Addr) (vs:List Value) (ns:List Int),
      Ground q loose [] XP w s₀ mg mb s₁.heap→YP w s₁.heap →
      s₁.heap.get? fa=some o→o.data = .func (docDef d.name d.params d.body d.scope pm cd doc)→s₁.heap.CodeRec cd d.name→mg d.name=some (.ref fa) →
      s₁.heap.get? a=some { cls:=.type "list",data:=.seq vs.toArray }→IntsAre vs ns→ns.length ≤ n→s₁.gens = #[] →
      codeAny (model l.prog w) callerA (.call (.ref fa) ⟨[.ref a],[]⟩) (fun r s'=>r = .ok (.ret (.bool true))∧OldK s₁.heap s'.heap∧s'.os=s₁.os∧AllBare s'.gens) s₁) :
    WalkO q loose XP YP l.row.toRowW d [] (fun f vs=>PySem.call f vs):=by
  intro w s₀ s₁ mg mb G Y fa o pm cd doc dV kV ho hd hcd hD hmg hg args vals as hpre hlay hrd hwl hlo
  obtain rfl:dV = .none:=Dflts.none hD hdf
  obtain rfl:kV = .none:=Dflts.noKw hD
  obtain ⟨a,vs,ns,rfl,rfl,hobj,hints,hlen⟩:=zmb hn hpre hwl
  refine enter_call (codeAny_mono (call w s₀ s₁ mg mb fa o pm cd doc a vs ns G Y ho (fd_plain hd) hcd hmg hobj hints hlen hg) fun r s' hq=>?_)
  obtain ⟨rfl,h2,h3,h4⟩:=hq
  exact ⟨.inl ⟨.bool true,.bool true,[],rfl,fun _=>rfl,.bool true,zmI l _,fun _=>⟨List.Pairwise.nil,fun _ hm=>(nomatch hm)⟩⟩,h2,h3,h4⟩
section
variable {prog:Program} {w:World} {A:Around} {E:Value→Shared→Prop} {s:Shared} {K:Frag}
end
end Att
namespace L2
open PySem PySem.Spec PyProof.Rows
theorem ziQ:∀ {vs:List Value} {ns:List Int},IntsAre vs ns→Vals (ns.map V.int) vs
  | _,_,.nil=>.nil
  | _,_,.cons n t h=>.cons ⟨t,rfl⟩ (ziQ h)
end L2
namespace L2
open PySem PySem.Spec PyProof.Rows
end L2
namespace L2
open PySem PySem.Spec PyProof.Rows
def zcX (s:Stmt) (j:Nat):Stmt:=match s with
  | .ClassDef _ _ _ body _ _ _ _ _ _ _=>body.getD j (.Pass ⟨0,0,0,0⟩)
  | _=>.Pass ⟨0,0,0,0⟩
def zcz (s:Stmt):Arguments:=match s with
  | .FunctionDef _ a _ _ _ _ _ _ _ _=>a
  | _=>{ posonlyargs:=[],args:=[],vararg:=none,kwonlyargs:=[],kw_defaults:=[],kwarg:=none,defaults:=[] }
def zb6 (s:Stmt):List Stmt:=match s with
  | .FunctionDef _ _ b _ _ _ _ _ _ _=>b
  | _=>[]
def zaj (s:Stmt):Scope:=match s with
  | .FunctionDef _ _ _ _ _ _ sc _ _ _=>sc
  | _=>{ kind:=.function,names:=[],isGenerator:=false,isCoroutine:=false }
abbrev CX0:CXT:=fun _ _ _ _ _ _=>False
abbrev E0:XK:=fun _ _ _=>False
theorem za8 {X:Cx}:zdt CX0 X E0:=fun _ _ _ _ _ _ _ h=>h.elim
structure Fun (K:PySem.W.Frag) (x qual:Str) (st:Stmt) (f:Addr) (fd:FuncData):Prop where
  ex:∃ (oc:Value) (od:Option Addr) (kV doc pm:Value) (an:Option Addr) (cdv ct:Value) (osl:Array (Option Value)),
    fd=PySem.W.fnOf x qual (zcz st) (zb6 st) (zaj st) .none kV doc pm an cdv ct∧K.lookup f=some ⟨oc,od,.func fd,osl⟩∧PySem.W.codeIn K cdv qual=true
  kp:PySem.W.keepIn K (.ref f)=true
section
variable {P:Program} {w:World} {K:PySem.W.Frag} {mg:Str→Option Value} {base:Heap}
theorem Fun.ok {x qual:Str} {st:Stmt} {f:Addr} {fd:FuncData} {N ps:List Str} {k:Nat} {sp:Sp} (F:Fun K x qual st f fd) (S:FnScope N ps (zaj st)) (len:∀ vs H Q E,sp vs H Q E→vs.length=ps.length)
    (hbody:∀ (cdv:Value) (A:Around) (outer:List Env) (s:Shared) (H:Hp) (vs:List V) (Q:VK) (E:XK),Room k (A.deeper (envOfC qual (zaj st) s.heap.objs.size f cdv))→sp vs H Q E →
      ∃ t,PSs (cxOf CX0 P w K mg base N qual (zaj st) f cdv A outer s H E).nox (zb6 st) t∧t { nx:=fun _ H'=>Q .non H',rt:=Q } (start N vs) H):FnOk P w K mg base CX0 (k + 1) f fd ps sp:=by
  obtain ⟨oc,od,kV,doc,pm,an,cdv,ct,osl,rfl,lk,hcd⟩:=F.ex
  refine zpr lk hcd S len fun A outer s H vs Q E hr hsp=>?_
  obtain ⟨t,h,q⟩:=hbody cdv A outer s H vs Q E hr hsp
  exact ⟨t,h.nox,q⟩
theorem Fun.binds {x qual:Str} {st:Stmt} {f:Addr} {fd:FuncData} {ps:List Str} (F:Fun K x qual st f fd)
    (h:∀ (kV doc pm:Value) (an:Option Addr) (cdv ct:Value) (us:List Value),us.length=ps.length→bindArgs (PySem.W.fnOf x qual (zcz st) (zb6 st) (zaj st) .none kV doc pm an cdv ct) ⟨us,[]⟩=pure (ps.zip us)):Binds K fd ps []:=by
  obtain ⟨oc,od,kV,doc,pm,an,cdv,ct,osl,rfl,lk,hcd⟩:=F.ex
  exact .all (h kV doc pm an cdv ct)
theorem zih {x qual:Str} {st:Stmt} {f:Addr} {oc:Value} {od an:Option Addr} {osl:Array (Option Value)} {kV doc pm cdv ct:Value} (l:K.lookup f=some ⟨oc,od,.func (PySem.W.fnOf x qual (zcz st) (zb6 st) (zaj st) .none kV doc pm an cdv ct),osl⟩)
    (c:PySem.W.codeIn K cdv qual=true) (k:PySem.W.keepIn K (.ref f)=true):Fun K x qual st f (PySem.W.fnOf x qual (zcz st) (zb6 st) (zaj st) .none kV doc pm an cdv ct):=⟨⟨oc,od,kV,doc,pm,an,cdv,ct,osl,rfl,l,c⟩,k⟩
end
theorem zbW {A:Around} {k:Nat} (hr:Room k A):A.units + 1 < cLine:=Nat.lt_of_le_of_lt (Nat.add_le_add_left (by decide:1 ≤ 64) _) hr.units
section
variable {X:Cx}
theorem pv (i:Nat) {x:Str} {pos:Pos} (hN:X.N[i]?=some x:=by rfl) (hv:Vis X.env.scope x:=by first | exact Or.inl rfl | exact Or.inr (Or.inl rfl) | exact Or.inr (Or.inr rfl)) (hd:(x == ("__debug__" : Str))=false:=by decide)
    (hcd:(x == ("__classdict__" : Str))=false:=by decide):PE X (.Name x pos) (tVar i):=zpV hN hv hd hcd
end
def Same (H H':Hp):Prop:=∀ b o,H b=some o→H' b=some o
theorem Same.refl (H:Hp):Same H H:=fun _ _ h=>h
theorem Same.trans {H H1 H2:Hp} (a:Same H H1) (b:Same H1 H2):Same H H2:=fun c o h=>b c o (a c o h)
theorem Same.free {H H':Hp} (e:Same H H') {l:Addr} (h:H' l=Option.none):H l=Option.none:=by
  cases q:H l with
  | none=>rfl
  | some o =>
    rw [e l o q] at h
    cases h
theorem Same.seq {K:PySem.W.Frag} {H H':Hp} {a:Addr} {xs:List V} (e:Same H H') (h:SqL K H a xs):SqL K H' a xs:=by
  rcases h with (h | ⟨o,h⟩) | h
  · exact .inl (.inl (e _ _ h))
  · exact .inl (.inr ⟨o,e _ _ h⟩)
  · exact .inr h
section
variable {κ:Type} [DecidableEq κ]
end
end L2
namespace L2
open PySem PySem.Spec PyProof.Rows
def Fit (i:Int):Prop:=i.natAbs < 2 ^ 8000
theorem log2_lt {n k:Nat} (hk:0 < k) (h:n < 2 ^ k):n.log2 < k:=by
  by_cases h0:n=0
  · subst h0; simpa using hk
  · exact (Nat.log2_lt h0).mpr h
theorem Fit.log {i:Int} (h:Fit i):i.natAbs.log2 < 8000:=log2_lt (by decide) h
theorem Fit.bits {i:Int} (h:Fit i):Builtin.Int.intBits i ≤ 2 ^ 20:=by
  have h1:=h.log
  have h2:(8000:Nat) ≤ 2 ^ 20:=by decide
  unfold Builtin.Int.intBits
  split <;> omega
section
variable {X:Cx}
theorem zhm:OpR X (binaryOp .Mult) (rI (fun i j=>Fit i∧Fit j) fun i j=>.int (i * j)):=opI fun _ _ _ _ _ _ _ hc q=>mul_int q (.of_bits hc.1.bits hc.2.bits)
theorem zcn:OpR X (binaryOp .FloorDiv) (rI (fun _ j=>j ≠ 0∧Fit j) fun i j=>.int (i.fdiv j)):=opI fun _ _ _ _ _ _ _ hc q =>
  floordiv_int hc.1 q (.inl (PyProof.noPylong_of_log2 (Nat.lt_trans hc.2.log (by decide))))
end
def clsV:V→Option Value
  | .ty n=>some (.type n)
  | .ref a=>some (.ref a)
  | _=>none
section
variable {X:Cx}
theorem zj1 {c:V} {cv u:Value} (h:clsV c=some cv) (r:RelV c u):u=cv:=by
  cases c with
  | ty n=>cases h; exact r
  | ref a=>cases h; exact r
  | _=>cases h
def rIs (K:PySem.W.Frag):List V→Hp→VK→Prop:=fun xs H Q=>∃ x c cv t b,xs = [x,c]∧clsV c=some cv∧TyOf K H x t∧PySem.W.kitOne K t cv=some b∧Q (.bl b) H
theorem zbP:ze3 X (.builtin "isinstance") (rIs X.K):=by
  intro pins s σ H xs us Q I r h
  obtain ⟨x,c,cv,t,b,rfl,hc,ty,hk,q⟩:=h
  obtain ⟨u,v,rfl,rx,ry⟩:=zkS r
  cases zj1 hc ry
  exact zmr I rx ty hk fun tk=>⟨.bl b,H,I.tok _,rfl,q⟩
end
def Ite (K:PySem.W.Frag) (a:Addr):It :=
  ⟨fun i H=>∃ xs x,SqL K H a xs∧xs[i]?=some x,fun i H x H'=>∃ p y,x = .ref p∧H p=none∧H'=upd H p (.tup [.int i,y])∧∀ xs,SqL K H a xs→xs[i]?=some y,fun i H=>∃ xs,SqL K H a xs∧xs.length ≤ i⟩
theorem zlh {P:Program} {w:World} {K:PySem.W.Frag} {es:List Expr} {k} {pos:Pos} (a e it:Addr) (hne:e ≠ it) :
    Turn P w K (.Tuple es k pos) (Ite K a) [e,it] e (fun i h=>(∃ old,IsEnum h e it i old)∧h.IsListIter it a i) where
  mem:=by simp
  obj:=fun i h st b hb=>by
    obtain ⟨⟨old,h1⟩,o,h2,c,d⟩:=st
    rcases List.mem_cons.mp hb with rfl | hb
    · exact ⟨_,h1,fun v z=>by cases (show Data.fields _=Data.cell v from z)⟩
    · have e':b=it:=by simpa using hb
      subst e'
      exact ⟨o,h2,fun v z=>by rw [d] at z; cases z⟩
  keep:=fun i h h' st k=>by
    obtain ⟨⟨old,h1⟩,h2⟩:=st
    exact ⟨⟨old,k e (by simp) _ h1⟩,h2.at fun o q=>k it (by simp) o q⟩
  item:=by
    intro X hP hw hK hc i pins s σ H E I hf st hg
    subst hP hw hK
    obtain ⟨xs,x,hq,hx⟩:=hg
    obtain ⟨its,rv,p,hz⟩:=I.list hq
    obtain ⟨u,hu,ru⟩:=rv.get hx
    obtain ⟨⟨old,he⟩,hit⟩:=st
    obtain ⟨f0,f1,f2,f3,f4,f5⟩:=hf e (by simp)
    obtain ⟨g0,g1,g2,g3,g4,g5⟩:=hf it (by simp)
    have hT:H s.heap.objs.size=none:=I.hok.fresh (Nat.le_refl _)
    have eT:e ≠ s.heap.objs.size:=Nat.ne_of_lt (Heap.lt_size he)
    have iT:it ≠ s.heap.objs.size:=by obtain ⟨_,z,_⟩:=hit; exact Nat.ne_of_lt (Heap.lt_size z)
    refine wpAny_pyNext_enum_item he hit p.isList (x:=u) (by simpa using hu) hne fun h' ho hit' ht hsz hk=>⟨_,rfl,?_⟩
    refine wpAny_letOwnedTupleGo_enum ho fun h'' he'' hs''=>?_
    have hs2:Heap.SameBut e h' h'':=hs''
    have ht2:h''.get? s.heap.objs.size=some { cls:=.type "tuple",data:=.seq #[.int i s.toks,u] }:=(hs2.2 _ eT.symm).trans ht
    have hk2:∀ b o,b ≠ e→b ≠ it→s.heap.get? b=some o→h''.get? b=some o:=fun b o z1 z2 q=>(hs2.2 b z1).trans (hk b o z1 z2 q)
    have nH:∀ b o,H b=some o→b ≠ e∧b ≠ it:=fun b o q=>⟨(fun z=>by rw [z,f0] at q; cases q),(fun z=>by rw [z,g0] at q; cases q)⟩
    refine ⟨.ref s.heap.objs.size,upd H s.heap.objs.size (.tup [.int i,x]),?_,rfl,⟨_,x,rfl,hT,rfl,fun ys hy=>by rw [I.list_inj hy hq]; exact hx⟩,⟨⟨_,by simpa using he''⟩,hit'.at fun o q=>(hs2.2 it hne.symm).trans q⟩,fun b hb=>?_⟩
    · show Inv X pins σ (upd H s.heap.objs.size (.tup [.int i,x])) { s with heap:=h'',toks:=s.toks + 1 }
      refine I.step (h':=h'') (g':=s.gens) (d':=s.drawn) (t':=s.toks + 1) (ch:=[e,it]) (fun b hb=>?_) (fun b o _ _ hb q _=>?_) (fun b o _ _ hb q _=>⟨o.slots,?_⟩) (fun b o hb q n=>?_) (fun b o hb q=>⟨o,?_⟩) (fun b ys q=>?_) (fun b o ys q=>?_) (fun b ps q=>⟨#[],?_⟩) (fun m hm=>?_) ?_ I.bare
      · rcases List.mem_cons.mp hb with rfl | hb
        · exact ⟨f3,f1,f4,f5⟩
        · have z:b=it:=by simpa using hb
          subst z
          exact ⟨g3,g1,g4,g5⟩
      · exact hk2 b o (fun z=>hb (by simp [z])) (fun z=>hb (by simp [z])) q
      · exact hk2 b o (fun z=>hb (by simp [z])) (fun z=>hb (by simp [z])) q
      · rw [zai (Nat.ne_of_lt (Heap.lt_size q))]; exact n
      · exact hk2 b o (fun z=>hb (by simp [z])) (fun z=>hb (by simp [z])) q
      · rw [zai (zah q hT)]; exact q
      · rw [zai (zah q hT)]; exact q
      · rw [zai (zah q hT),q]; simp
      · obtain ⟨o,es',ep,ho',r⟩:=hm
        exact ⟨o,es',ep,hk2 _ o (Ne.symm f1) (Ne.symm g1) ho',r⟩
      · intro b o q
        by_cases hb:b=s.heap.objs.size
        · subst hb
          rw [zal] at q; cases q
          exact ⟨by show 2 ≤ sizeLine; decide,[.int i s.toks,u],.cons ⟨_,rfl⟩ (.cons ru .nil),⟨_,ht2,rfl,_,rfl⟩⟩
        · rw [zai hb] at q
          refine (I.hok b o q).stay (fun c v hc' q'=>?_) (fun c q'=>by rw [zai (zah q' hT)]; exact q') fun c ys q'=>by rw [zai (zah q' hT)]; exact q'
          rcases hc' with rfl | hc'
          · exact hk2 _ v (nH _ _ q).1 (nH _ _ q).2 q'
          · exact hk2 _ v (nH _ _ hc').1 (nH _ _ hc').2 q'
    · rcases List.mem_cons.mp hb with rfl | hb
      · rw [zai eT]; exact f0
      · have z:b=it:=by simpa using hb
        subst z
        rw [zai iT]; exact g0
  done:=by
    intro X hP hw hK hc i pins s σ H E I hf st hg
    subst hP hw hK
    obtain ⟨xs,hq,hx⟩:=hg
    obtain ⟨its,rv,p,hz⟩:=I.list hq
    obtain ⟨⟨old,he⟩,hit⟩:=st
    obtain ⟨g0,g1,g2,g3,g4,g5⟩:=hf it (by simp)
    have hl:=rv.length
    exact wpAny_pyNext_enum_end (I.ok.hd hc) he hit p.isList (by simp; omega) fun h' eb=>⟨rfl,I.turned (t':=s.toks) (fun b o hb q=>eb b o hb q) g0 g1 g3 g4 g5⟩
  self:=fun _ _ _ _ _ st h=>by
    obtain ⟨⟨old,he⟩,_⟩:=st
    exact wpAny_pyIter_enum he h
section
variable {X:Cx}
def zpH (K:PySem.W.Frag) (ta:TA):TI:=fun σ H R=>ta σ H fun vs H1=>∃ a,vs = [.ref a]∧(∃ xs,SqL K H1 a xs)∧R (Ite K a) H1
theorem zgA {es:List Expr} {k} {tp:Pos} {l:Expr} {ta:TA} {p pos:Pos} (hg:Gl X "enumerate") (hm:X.mg "enumerate"=none) (ha:PA X [l] ta) (hs:starEach [l] X.env = [(false,eval l X.env)]:=by rfl) :
    PI X (.Tuple es k tp) (.Call (.Name "enumerate" p) [l] [] pos) (zpH X.K ta):=by
  intro pins s σ H R I h
  refine Call_ (zeG I hg hm boot_enumerate (PyProof.Rows.callWith_type1 (thn (ha pos pins s σ H _ I h) fun us s1 ⟨vs,H1,I1,r1,q1⟩=>?_) hs rfl))
  obtain ⟨a,e,⟨xs,hq⟩,q⟩:=q1
  subst e
  obtain ⟨u,rfl,rx⟩:=zff r1
  cases rx
  obtain ⟨its,rv,pl,hz⟩:=I1.list hq
  refine call_enumerate_list pl.isList fun h' he hit hsz hk=>?_
  have I2:Inv X pins σ H1 { s1 with heap:=h' }:=I1.kept (t':=s1.toks) hk
  have hne:s1.heap.objs.size + 1 ≠ s1.heap.objs.size:=by omega
  refine wpAny_pyIter_enum he ⟨s1.heap.objs.size + 1,[s1.heap.objs.size + 1,s1.heap.objs.size],_,_,H1,rfl,I2,zlh a _ _ hne,⟨⟨_,he⟩,hit⟩,fun b hb=>?_,q⟩
  have hb':s1.heap.objs.size ≤ b:=by
    rcases List.mem_cons.mp hb with rfl | hb
    · omega
    · have z:b=s1.heap.objs.size:=by simpa using hb
      exact Nat.le_of_eq z.symm
  exact I1.fpOk hb' (I1.hok.fresh hb')
end
end L2
namespace L2
open PySem PySem.Spec PyProof.Rows
theorem zfs {env:Env}:∀ (names:List (Str × NameKind)) (acc:List (Str × Addr)),(∀ y ∈ names,y.2 = .free→∃ c,env.cells.lookup y.1=some c) →
    ∃ cl,(forIn (m:=Sem) names acc fun (x:Str × NameKind) (cs:List (Str × Addr))=>if (x.2 == NameKind.free)=true then do let c ← cellOf env x.1; pure (ForInStep.yield ((x.1,c) :: cs)) else pure (ForInStep.yield cs))=pure cl ∧
      (∀ p ∈ cl,p ∈ acc∨env.cells.lookup p.1=some p.2)∧(∀ p ∈ acc,p ∈ cl)∧∀ y ∈ names,y.2 = .free→∃ c,(y.1,c) ∈ cl
  | [],acc,_=>⟨acc,by simp,fun p hp=>.inl hp,fun p hp=>hp,fun y hy=>by cases hy⟩
  | (n,k) :: r,acc,h=>by
    by_cases hk:k = .free
    · subst hk
      obtain ⟨c,hc⟩:=h (n,.free) List.mem_cons_self rfl
      obtain ⟨cl,e,h1,h2,h3⟩:=zfs r ((n,c) :: acc) fun y hy=>h y (List.mem_cons_of_mem _ hy)
      refine ⟨cl,?_,fun p hp=>?_,fun p hp=>h2 p (List.mem_cons_of_mem _ hp),fun y hy hf=>?_⟩
      · have hco:cellOf env n=pure c:=by unfold cellOf; rw [hc]
        rw [List.forIn_cons]
        simp only [beq_self_eq_true,if_true,hco,pure_bind]
        exact e
      · rcases h1 p hp with z | z
        · rcases List.mem_cons.mp z with rfl | z
          · exact .inr hc
          · exact .inl z
        · exact .inr z
      · rcases List.mem_cons.mp hy with rfl | hy
        · exact ⟨c,h2 _ List.mem_cons_self⟩
        · exact h3 y hy hf
    · obtain ⟨cl,e,h1,h2,h3⟩:=zfs r acc fun y hy=>h y (List.mem_cons_of_mem _ hy)
      refine ⟨cl,?_,h1,h2,fun y hy hf=>?_⟩
      · have hb:(k == NameKind.free)=false:=by simpa using hk
        rw [List.forIn_cons]
        simp only [hb,Bool.false_eq_true,if_false,pure_bind]
        exact e
      · rcases List.mem_cons.mp hy with rfl | hy
        · exact absurd hf hk
        · exact h3 y hy hf
theorem ze6 {f:Str→Option Addr}:∀ {cl:List (Str × Addr)} {x:Str} {c:Addr},(∀ p ∈ cl,f p.1=some p.2)→(x,c) ∈ cl→cl.lookup x=some c
  | [],_,_,_,h=>by cases h
  | (n,d) :: r,x,c,h,hm=>by
    rw [List.lookup_cons]
    cases e:x == n with
    | true =>
      have e':x=n:=by simpa using e
      subst e'
      have z1:=h (x,d) List.mem_cons_self
      have z2:=h (x,c) hm
      rw [z1] at z2
      simpa using z2
    | false =>
      rcases List.mem_cons.mp hm with z | z
      · cases z; simp at e
      · exact ze6 (fun p hp=>h p (List.mem_cons_of_mem _ hp)) z
theorem ze2 {scope:Scope} {env:Env} (h:∀ y ∈ scope.names,y.2 = .free→∃ c,env.cells.lookup y.1=some c) :
    ∃ cl,closureFor scope env=pure cl∧(∀ x c,cl.lookup x=some c→env.cells.lookup x=some c)∧∀ y ∈ scope.names,y.2 = .free→cl.lookup y.1=env.cells.lookup y.1:=by
  obtain ⟨cl,e,h1,_,h3⟩:=zfs scope.names [] h
  have all:∀ p ∈ cl,env.cells.lookup p.1=some p.2:=fun p hp=>(h1 p hp).elim (fun z=>by cases z) id
  refine ⟨cl,?_,fun x c z=>all (x,c) (PySem.mem_of_lookup z),fun y hy hf=>?_⟩
  · simp only [closureFor]
    rw [e]
    rfl
  · obtain ⟨c,hc⟩:=h3 y hy hf
    rw [all _ hc]
    exact ze6 (f:=fun x=>env.cells.lookup x) all hc
end L2
namespace L2
open PySem PySem.Spec PyProof.Rows
section
variable {prog:Program} {w:World} {A:Around} {R:Result→Shared→Prop} {s:Shared}
theorem ziB {elt target iter:Expr} {ifs:List Expr} {scope:Scope} {pos:Pos} {it acc:Value} {env:Env} (I:Nat→Shared→Prop)
    (turn:∀ n s,I n s→wpAny (model prog w) A (pyNext it) (fun r s₁=>match r with
      | none=>R (.ok .next) s₁
      | some v=>wpAny (model prog w) A (letOwnedTupleGo target it v) (fun _ s₁'=>wpAny (model prog w) A (assign target env v) (fun _ s₂ =>
          wpAny (model prog w) A (forIn ifs true fun c r=>if r=true then do let ok ← isTrue c env (eval c env); pure (ForInStep.yield ok) else pure (ForInStep.yield r)) (fun ok s₃ =>
            if ok=true then wpAny (model prog w) A (eval elt env) (fun x s₄ =>
              wpAny (model prog w) A (call (.builtin "list.append") [acc,x]) (fun _ s₅=>∃ m,m < n∧I m s₅) (fun _ _=>False) s₄) (fun _ _=>False) s₃
            else ∃ m,m < n∧I m s₃) (fun _ _=>False) s₂) (fun _ _=>False) s₁') (fun _ _=>False) s₁) (fun _ _=>False) s)
    (n:Nat) (h:I n s) :
    codeAny (model prog w) A (.compLoop (.ListComp elt [⟨target,iter,ifs,0⟩] scope pos) 0 it acc env) R s:=by
  refine codeAny_loop rfl I (fun n s hI=>?_) n h
  show wpAny _ A ((compTurn (.ListComp elt [⟨target,iter,ifs,0⟩] scope pos) 0 it acc env).onRaise (fun x=>do noteFrame x env; theTreesLotGoes x)) _ _ s
  refine wpAny_noted ?_
  rw [compTurn_list]
  refine wpAny_bind (wpAny_standAt (wpAny_bind (wpAny_mono (turn n s hI) (fun r s₁ h₁=>?_) fun _ _ h'=>h'.elim)))
  cases r with
  | none=>exact wpAny_pure h₁
  | some v =>
    refine wpAny_bind (wpAny_mono h₁ (fun _ s₁' h₁'=>?_) fun _ _ h'=>h'.elim)
    refine wpAny_bind (wpAny_mono h₁' (fun _ s₂ h₂=>wpAny_bind (wpAny_mono h₂ (fun ok s₃ h₃=>?_) fun _ _ h'=>h'.elim)) fun _ _ h'=>h'.elim)
    cases ok with
    | false=>exact wpAny_pure ⟨rfl,h₃⟩
    | true =>
      exact wpAny_bind (wpAny_bind (wpAny_mono h₃ (fun x s₄ h₄=>wpAny_bind (wpAny_mono h₄ (fun _ s₅ h₅=>wpAny_pure (wpAny_pure ⟨rfl,h₅⟩)) fun _ _ h'=>h'.elim)) fun _ _ h'=>h'.elim))
end
def Cx.comp (X:Cx) (scope:Scope) (cl:List (Str × Addr)) (C:Addr) (N':List Str) (s:Shared) (H:Hp) (fp:List Addr) (pins:List (Addr × Obj)):Cx :=
  { X with N:=N',s₀:=s,H₀:=H,env:=compEnvC scope cl C X.env,outer:=X.stack,stack:=X.stack,ex:=fp,fn:=fun x=>scope.names.lookup x == some .cell,pn:=X.pn ++ pins,xe:=fun _ _=>False }
def zcQ (σ:St) (ix:List Nat) (n:Nat):St:=ix.map (fun i=>(σ[i]?).getD none) ++ List.replicate n none
def zox:Option TT→TT
  | none=>fun _ H Q=>Q true H
  | some t=>t
def zpP (D:Addr) (J:It) (g:TG) (tc:Option TT) (te:TE) (Q:VK) (σ0:St) (H0:Hp):Prop :=
  ∃ W:Nat→Nat→List V→St→Hp→Prop,(∃ m,W 0 m [] σ0 H0)∧∀ i m ys σ2 H2,W i m ys σ2 H2→H2 D=some (.lst ys) ∧
    ((J.stop i H2∧Q (.ref D) H2)∨(J.go i H2∧∃ N:List V→St→Hp→Prop,(∀ ys' σ' H',N ys' σ' H'→∃ m',m' < m∧W (i + 1) m' ys' σ' H') ∧
      ∀ x H',J.yld i H2 x H'→g x σ2 H' fun σ3 H3=>zox tc σ3 H3 fun b H4=>if b=true then te σ3 H4 fun y H5=>H5 D=some (.lst ys)∧ys.length < sizeLine∧N (ys ++ [y]) σ3 (upd H5 D (.lst (ys ++ [y]))) else N ys σ3 H4))
def zpq (wi:TI) (ix:List Nat) (n:Nat) (g:TG) (tc:Option TT) (te:TE):TE:=fun σ H Q=>wi σ H fun J H1=>∀ D,H1 D=none→zpP D J g tc te Q (zcQ σ ix n) (upd H1 D (.lst []))
structure CompOk (X:Cx) (scope:Scope) (N':List Str) (ix:List Nat) (n:Nat) (tg elt:Expr) (ifs:List Expr) (g:TG) (tc:Option TT) (te:TE):Prop where
  kind:scope.kind = .function
  nocell:∀ y ∈ scope.names,y.2 = .free→(y.1,NameKind.cell) ∉ scope.names
  names:∀ y ∈ scope.names,y.2 = .local→scope.names.lookup y.1=some .local
  free:∀ y ∈ scope.names,y.2 = .free→X.env.kindOf y.1=some .cell∨X.env.kindOf y.1=some .free
  len:ix.length + n=N'.length
  take:∀ (j i:Nat),ix[j]?=some i→∃ x,N'[j]?=some x∧X.N[i]?=some x∧scope.names.lookup x=some .free
  tgt:∀ (cl:List (Str × Addr)) (C:Addr) (s:Shared) (H:Hp) (fp:List Addr) (pins:List (Addr × Obj)),PG (X.comp scope cl C N' s H fp pins) tg g
  elt:∀ (cl:List (Str × Addr)) (C:Addr) (s:Shared) (H:Hp) (fp:List Addr) (pins:List (Addr × Obj)),PE (X.comp scope cl C N' s H fp pins) elt te
  test:(ifs = []∧tc=none)∨∃ c t,ifs = [c]∧tc=some t∧∀ (cl:List (Str × Addr)) (C:Addr) (s:Shared) (H:Hp) (fp:List Addr) (pins:List (Addr × Obj)),PT (X.comp scope cl C N' s H fp pins) c t
theorem zc0 {env:Env}:∀ {names:List (Str × NameKind)} {x:Str},names.lookup x=some .free →
    (names.map fun (n,k)=>if (k == NameKind.free && env.scope.kind == .function && env.kindOf n == some .cell) then (n,NameKind.cell) else (n,k)).lookup x=some .cell ∨
    (names.map fun (n,k)=>if (k == NameKind.free && env.scope.kind == .function && env.kindOf n == some .cell) then (n,NameKind.cell) else (n,k)).lookup x=some .free
  | [],_,h=>by simp at h
  | (n,k) :: r,x,h=>by
    have ih:=@zc0 env r x
    show List.lookup x ((if (k == NameKind.free && env.scope.kind == .function && env.kindOf n == some .cell)=true then (n,NameKind.cell) else (n,k)) :: _)=_∨List.lookup x ((if (k == NameKind.free && env.scope.kind == .function && env.kindOf n == some .cell)=true then (n,NameKind.cell) else (n,k)) :: _)=_
    cases hx:x == n with
    | true =>
      simp only [List.lookup_cons,hx] at h
      cases h
      by_cases hc:(NameKind.free == NameKind.free && env.scope.kind == .function && env.kindOf n == some .cell)=true
      · rw [if_pos hc]; left; simp only [List.lookup_cons,hx]
      · rw [if_neg hc]; right; simp only [List.lookup_cons,hx]
    | false =>
      simp only [List.lookup_cons,hx] at h
      by_cases hc:(k == NameKind.free && env.scope.kind == .function && env.kindOf n == some .cell)=true
      · rw [if_pos hc]; simp only [List.lookup_cons,hx]; exact ih h
      · rw [if_neg hc]; simp only [List.lookup_cons,hx]; exact ih h
theorem zfN {env:Env}:∀ {names:List (Str × NameKind)} {x:Str},
    ((names.map fun (n,k)=>if (k == NameKind.free && env.scope.kind == .function && env.kindOf n == some .cell) then (n,NameKind.cell) else (n,k)).lookup x=some .cell ∨
    (names.map fun (n,k)=>if (k == NameKind.free && env.scope.kind == .function && env.kindOf n == some .cell) then (n,NameKind.cell) else (n,k)).lookup x=some .free)→(x,NameKind.free) ∈ names∨(names.lookup x=some .cell∧(x,NameKind.cell) ∈ names)
  | [],_,h=>by simp at h
  | (n,k) :: r,x,h=>by
    have ih:=@zfN env r x
    cases hx:x == n with
    | true =>
      have e:x=n:=by simpa using hx
      subst e
      by_cases hc:(k == NameKind.free && env.scope.kind == .function && env.kindOf x == some .cell)=true
      · have hk:k = .free:=by
          have:(k == NameKind.free)=true:=by
            simp only [Bool.and_eq_true] at hc
            exact hc.1.1
          simpa using this
        subst hk
        exact .inl List.mem_cons_self
      · rw [List.map_cons] at h
        have e2:(match (x,k) with | (n,k)=>if (k == NameKind.free && env.scope.kind == .function && env.kindOf n == some .cell)=true then (n,NameKind.cell) else (n,k))=(x,k):=if_neg hc
        rw [e2] at h
        simp only [List.lookup_cons,beq_self_eq_true] at h
        rcases h with h | h
        · cases h; exact .inr ⟨by simp only [List.lookup_cons,beq_self_eq_true],List.mem_cons_self⟩
        · cases h; exact .inl List.mem_cons_self
    | false =>
      refine (ih ?_).imp (List.mem_cons_of_mem _) fun z=>⟨by simp only [List.lookup_cons,hx]; exact z.1,List.mem_cons_of_mem _ z.2⟩
      rw [List.map_cons] at h
      by_cases hc:(k == NameKind.free && env.scope.kind == .function && env.kindOf n == some .cell)=true
      · have e2:(match (n,k) with | (n,k)=>if (k == NameKind.free && env.scope.kind == .function && env.kindOf n == some .cell)=true then (n,NameKind.cell) else (n,k))=(n,NameKind.cell):=if_pos hc
        rw [e2] at h
        simpa only [List.lookup_cons,hx] using h
      · have e2:(match (n,k) with | (n,k)=>if (k == NameKind.free && env.scope.kind == .function && env.kindOf n == some .cell)=true then (n,NameKind.cell) else (n,k))=(n,k):=if_neg hc
        rw [e2] at h
        simpa only [List.lookup_cons,hx] using h
theorem zdK {x:Str} {c:Addr}:∀ (names:List (Str × NameKind)) (n:Nat) (acc:List (Str × Addr)),(x,NameKind.cell) ∈ names→(cellsFrom n names acc).lookup x=some c→(∀ y,acc.lookup x=some y→n ≤ y∨True)→n ≤ c
  | [],_,_,h,_,_=>by cases h
  | (y,k) :: r,n,acc,h,e,_=>by
    unfold cellsFrom at e
    by_cases hr:(x,NameKind.cell) ∈ r
    · split at e
      · exact Nat.le_of_succ_le (zdK r (n + 1) _ hr e fun _ _=>.inr trivial)
      · exact zdK r n _ hr e fun _ _=>.inr trivial
    · rcases List.mem_cons.mp h with z | z
      · cases z
        rw [if_pos (by rfl)] at e
        have key:∀ (r:List (Str × NameKind)) (n':Nat) (acc:List (Str × Addr)),(x,NameKind.cell) ∉ r→(cellsFrom n' r acc).lookup x=acc.lookup x:=by
          intro r
          induction r with
          | nil=>intro _ _ _; rfl
          | cons p r ih =>
            intro n' acc hp
            obtain ⟨y',k'⟩:=p
            unfold cellsFrom
            split
            · rename_i hk
              have hk':k' = .cell:=by simpa using hk
              subst hk'
              have ne:¬ x=y':=fun z=>hp (by rw [z]; exact List.mem_cons_self)
              rw [ih _ _ fun z=>hp (List.mem_cons_of_mem _ z),List.lookup_cons,show (x == y')=false by simpa using ne]
            · exact ih _ _ fun z=>hp (List.mem_cons_of_mem _ z)
        rw [key r _ _ hr] at e
        simp only [List.lookup_cons,beq_self_eq_true] at e
        cases e; exact Nat.le_refl _
      · exact absurd z hr
theorem zcJ {x:Str}:∀ (names:List (Str × NameKind)) (n:Nat) (acc:List (Str × Addr)),(x,NameKind.cell) ∉ names→(cellsFrom n names acc).lookup x=acc.lookup x
  | [],_,_,_=>rfl
  | (y,k) :: r,n,acc,h=>by
    unfold cellsFrom
    split
    · rename_i hk
      have hk':k = .cell:=by simpa using hk
      subst hk'
      have ne:¬ x=y:=fun z=>h (by rw [z]; exact List.mem_cons_self)
      rw [zcJ r _ _ fun z=>h (List.mem_cons_of_mem _ z),List.lookup_cons,show (x == y)=false by simpa using ne]
    · exact zcJ r _ _ fun z=>h (List.mem_cons_of_mem _ z)
theorem zdE:∀ (names:List (Str × NameKind)) (n:Nat) (acc:List (Str × Addr)),(∀ x c,acc.lookup x=some c→c < n)→(∀ x y c,acc.lookup x=some c→acc.lookup y=some c→x=y) →
    ∀ x y c,(cellsFrom n names acc).lookup x=some c→(cellsFrom n names acc).lookup y=some c→x=y
  | [],_,_,_,h=>h
  | (z,k) :: r,n,acc,h1,h2=>by
    unfold cellsFrom
    split
    · have lk:∀ x c,((z,n) :: acc).lookup x=some c→(x=z∧c=n)∨acc.lookup x=some c:=fun x c h=>by
        rw [List.lookup_cons] at h
        cases hb:x == z with
        | true=>rw [hb] at h; cases h; exact .inl ⟨by simpa using hb,rfl⟩
        | false=>rw [hb] at h; exact .inr h
      refine zdE r (n + 1) _ (fun x c h=>?_) fun x y c e1 e2=>?_
      · rcases lk x c h with ⟨_,z⟩ | z
        · rw [z]; exact Nat.lt_succ_self _
        · exact Nat.lt_succ_of_lt (h1 x c z)
      · rcases lk x c e1 with ⟨a1,a2⟩ | a <;> rcases lk y c e2 with ⟨b1,b2⟩ | b
        · rw [a1,b1]
        · have:=h1 y c b; rw [a2] at this; exact absurd this (Nat.lt_irrefl _)
        · have:=h1 x c a; rw [b2] at this; exact absurd this (Nat.lt_irrefl _)
        · exact h2 x y c a b
    · exact zdE r n acc h1 h2
theorem zi8 {M:Model} {A:Around} {E:Value→Shared→Prop} {s:Shared} {scope:Scope} {globals:Addr} {cl:List (Str × Addr)} {qual:Str} {env:Env} {Q:Env→Shared→Prop}
    (hQ:Q (newEnv scope s.heap.objs.size globals (cellsFrom (s.heap.objs.size + 1) scope.names cl) qual none .none (some env) builtinsNs) { s with heap:=pushCells (s.heap.push { cls:=.type "dict",data:=.dict #[] }) scope.names }) :
    wpAny M A (newFunctionEnv scope globals cl [] qual none .none (some env)) Q E s:=by
  simp only [newFunctionEnv,Option.isSome_some,if_true]
  refine wpAny_bind (wpAny_alloc ?_)
  refine wpAny_bind (wpAny_layCells _ (fun name kind cells=>by cases hkc:kind == NameKind.cell <;> simp [hkc]) _ _ _ _ ?_)
  rw [show ({ s with heap:=s.heap.push { cls:=.type "dict",data:=.dict #[] } }:Shared).heap.objs.size=s.heap.objs.size + 1 from Heap.size_push ..]
  refine wpAny_bind ?_
  rw [List.forIn_nil]
  exact wpAny_pure (wpAny_pure hQ)
section
variable {X:Cx} {scope:Scope} {N':List Str} {ix:List Nat} {n:Nat} {tg elt iter:Expr} {ifs:List Expr} {g:TG} {tc:Option TT} {te:TE} {pos:Pos}
theorem zkl {pins:List (Addr × Obj)} {σ:St} {H:Hp} {s:Shared} {fp:List Addr} {cl:List (Str × Addr)} {h1:Heap} {tk:Nat} {m:Str→Option Value} (B:CompOk X scope N' ix n tg elt ifs g tc te) (I:Inv X pins σ H s)
    (hf:∀ b ∈ fp,FpOk X pins H b) (hfo:∀ b ∈ fp,∃ o,s.heap.get? b=some o) (hcl:∀ x c,cl.lookup x=some c→X.env.cells.lookup x=some c∨(s.heap.objs.size + 1 < c∧∃ v,h1.IsCell c v)) (hcf:∀ y ∈ scope.names,y.2 = .free→cl.lookup y.1=X.env.cells.lookup y.1)
    (hinj:∀ x y c,cl.lookup x=some c→cl.lookup y=some c→x=y) (hown:∀ x,scope.names.lookup x=some .cell→∃ c,cl.lookup x=some c) (hnew:∀ x c,scope.names.lookup x=some .cell→cl.lookup x=some c→s.heap.objs.size + 1 < c)
    (hk:∀ b o,s.heap.get? b=some o→h1.get? b=some o) (hD:h1.get? s.heap.objs.size=some { cls:=.type "list",data:=.seq #[] 0 }) (hC:h1.Ns (s.heap.objs.size + 1) m) :
    Inv (X.comp scope cl (s.heap.objs.size + 1) N' s H fp pins) [] (zcQ σ ix n) (upd H s.heap.objs.size (.lst [])) { s with heap:=h1,toks:=tk }:=by
  have hn:H s.heap.objs.size=none:=I.hok.fresh (Nat.le_refl _)
  have lt:∀ {b:Addr} {o:Obj},s.heap.get? b=some o→b ≠ s.heap.objs.size∧b ≠ s.heap.objs.size + 1:=fun e=>⟨Nat.ne_of_lt (Heap.lt_size e),Nat.ne_of_lt (Nat.lt_succ_of_lt (Heap.lt_size e))⟩
  have cellLt:∀ x c,X.env.cells.lookup x=some c→c < s.heap.objs.size:=fun x c e=>by
    obtain ⟨v,o,ho,_⟩:=I.cell x c e
    exact Heap.lt_size ho
  have fpLt:∀ b ∈ fp,b ≠ s.heap.objs.size + 1:=fun b hb=>by
    obtain ⟨o,e⟩:=hfo b hb
    exact (lt e).2
  · have keep:Un (frs X.stack) fp H (upd H s.heap.objs.size (.lst [])) s.heap h1:=Un.laid hk (Nat.le_refl _) hn
    refine ⟨⟨I.ok.mod, ?_, I.ok.glob, I.ok.blt, Nat.le_succ _, hinj, fun x hx => ?_, fun x c z e => Nat.le_of_lt (Nat.lt_trans (Nat.lt_succ_self _) (hnew x c (by simpa using (show (scope.names.lookup x == some NameKind.cell) = true from z)) e)), I.ok.hd, I.ok.frames, .inl rfl, fun b hb => ⟨fpLt b hb, fun x c e => (hcl x c e).elim (fun z => (hf b hb).2.2.2.2.1 x c z) fun z w => by
          obtain ⟨o,ho⟩:=hfo b hb
          have:=Heap.lt_size ho
          rw [← w] at this; exact Nat.lt_irrefl _ (Nat.lt_trans (Nat.lt_trans (Nat.lt_succ_self _) z.1) this)⟩,
        I.bs,Nat.le_trans I.ok.bsz I.sz,fun b o e hb=>?_,fun b hb z=>?_,I.stack,I.stkFree,I.ok.tb.grown I.base.tbls⟩,
      rfl,I.bare,keep,⟨m,hC,fun i x v e1 e2 e3=>?_⟩,fun x c e=>?_,?_,fun x c e=>?_,fun p hp=>?_,?_,?_⟩
    · show (relabel scope X.env).kind = .function
      exact B.kind
    · show ∃ c,cl.lookup x=some c
      rcases zfN hx with hx' | hx'
      case inr=>exact hown x hx'.1
      have z:=hcf _ hx' rfl
      dsimp only at z
      rw [z]
      exact I.ok.has x (B.free _ hx' rfl)
    · obtain ⟨_,_,_,f3,_⟩:=hf b hb
      rcases f3 with z | z
      · exact I.ok.noex b o e z
      · exact absurd (Nat.lt_of_lt_of_le (Heap.lt_size e) (Nat.le_trans I.ok.bsz z)) (Nat.lt_irrefl _)
    · rcases List.mem_cons.mp (I.stkSub b z) with e | e
      · exact (hf b hb).2.1 e
      · exact (hf b hb).2.2.1 e
    · have hj:i < ix.length:=by
        unfold zcQ at e2
        by_cases hj:i < ix.length
        · exact hj
        · rw [List.getElem?_append_right (by simpa using hj),List.getElem?_replicate] at e2
          split at e2 <;> cases e2
      obtain ⟨j,hj2⟩:∃ j,ix[i]?=some j:=⟨ix[i],by simp [hj]⟩
      obtain ⟨y,y1,y2,y3⟩:=B.take i j hj2
      have exy:x=y:=by
        have z:N'[i]?=some x:=e1
        rw [y1] at z
        exact (Option.some.inj z).symm
      subst exy
      have ev:σ[j]?=some (some v):=by
        unfold zcQ at e2
        rw [List.getElem?_append_left (by simpa using hj),List.getElem?_map,hj2] at e2
        have z:(σ[j]?).getD none=some v:=Option.some.inj e2
        cases q:σ[j]? with
        | none=>rw [q] at z; cases z
        | some w=>rw [q] at z; exact congrArg some z
      obtain ⟨m0,hn0,hl⟩:=I.loc
      have hm:(x,NameKind.free) ∈ scope.names:=PySem.mem_of_lookup y3
      have kx:=B.free _ hm rfl
      have vis:Vis X.env.scope x:=kx.elim (fun z=>.inr (.inl z)) fun z=>.inr (.inr z)
      obtain ⟨u,ru,lu⟩:=hl j x v y2 ev vis
      refine ⟨u,ru,.inr ⟨?_,?_⟩⟩
      · exact zc0 y3
      · rcases lu with ⟨z,_⟩ | ⟨_,c,hc,hcell⟩
        · rcases kx with w | w <;> (rw [w] at z; cases z)
        · refine ⟨c,?_,?_⟩
          · show cl.lookup x=some c
            rw [hcf _ hm rfl]
            exact hc
          · obtain ⟨o,ho,hd⟩:=hcell
            exact ⟨o,hk c o ho,hd⟩
    · rcases hcl x c e with z | ⟨_,z⟩
      · obtain ⟨v,o,ho,hd⟩:=I.cell x c z
        exact ⟨v,o,hk c o ho,hd⟩
      · exact z
    · show upd H s.heap.objs.size (.lst []) (s.heap.objs.size + 1)=none
      rw [zai (Nat.succ_ne_self _)]
      exact I.hok.fresh (Nat.le_succ _)
    · rcases hcl x c e with z | ⟨z,_⟩
      · have:=cellLt x c z
        rw [zai (Nat.ne_of_lt this)]
        exact I.freeC x c z
      · rw [zai (Nat.ne_of_gt (Nat.lt_trans (Nat.lt_succ_self _) z))]
        exact I.hok.fresh (Nat.le_of_lt (Nat.lt_trans (Nat.lt_succ_self _) z))
    · rw [List.append_nil] at hp
      obtain ⟨q1,q2,q3,q4,q5⟩:=I.pin p hp
      refine ⟨hk _ _ q1,by rw [zai (lt q1).1]; exact q2,(lt q1).2,fun z=>?_,q5⟩
      rcases List.mem_cons.mp (I.stkSub _ z) with e | e
      · exact q3 e
      · exact q4 e
    · exact I.hok.laid hk (Nat.le_refl _) ⟨Nat.zero_le _,[],0,.nil,hD⟩
    · show (zcQ σ ix n).length=N'.length
      unfold zcQ
      rw [List.length_append,List.length_map,List.length_replicate]
      exact B.len
theorem zlB {pins:List (Addr × Obj)} {σ σ':St} {H H':Hp} {s s':Shared} {fp:List Addr} {cl:List (Str × Addr)} {C:Addr} (I:Inv X pins σ H s) (hf:∀ b ∈ fp,FpOk X pins H b)
    (J:Inv (X.comp scope cl C N' s H fp pins) [] σ' H' s'):Inv X pins σ H' s':=by
  obtain ⟨hh,g,d,t,os'⟩:=s'
  obtain rfl:os'=s.os:=J.os
  exact I.call (h':=hh) (g':=g) (d':=d) (t':=t) (ch:=fp) J.base J.hok J.bare fun b hb=>⟨(hf b hb).2.2.2.1,(hf b hb).2.1,(hf b hb).2.2.2.2.1,(hf b hb).2.2.2.2.2⟩
theorem zj6 {pins:List (Addr × Obj)} {σ:St} {H:Hp} {s:Shared} {Q:VK} {it:Addr} {fp:List Addr} {tn:Nat→Heap→Prop} {J:It} {cl:List (Str × Addr)} {RR:Value→Addr→Result→Shared→Prop} {E:Value→Shared→Prop}
    (B:CompOk X scope N' ix n tg elt ifs g tc te) (hc:X.calm=true) (I:Inv X pins σ H s) (T:Turn X.prog X.w X.K tg J fp it tn) (st:tn 0 s.heap) (hf:∀ b ∈ fp,FpOk X pins H b)
    (hcl:∀ x c,cl.lookup x=some c→X.env.cells.lookup x=some c) (hcf:∀ y ∈ scope.names,y.2 = .free→cl.lookup y.1=X.env.cells.lookup y.1)
    (body:∀ D,H D=none→zpP D J g tc te Q (zcQ σ ix n) (upd H D (.lst [])))
    (hRR:∀ D C H' s' m,Inv X pins σ H' s'→s'.heap.Ns C m→FpOk X pins H' C→Q (.ref D) H'→RR (.ref D) C (.ok .next) s') :
    wpAny (model X.prog X.w) X.A (newList []) (fun acc s₃=>wpAny (model X.prog X.w) X.A (newFunctionEnv scope X.env.globals cl [] X.env.qual none .none (some X.env)) (fun cenv s₄ =>
      codeAny (model X.prog X.w) X.A (.compStart (.ListComp elt [⟨tg,iter,ifs,0⟩] scope pos) 0 (.ref it) acc { cenv with scope:=relabel scope X.env }) (RR acc cenv.locals) s₄) E s₃) E s:=by
  refine wpAny_newObj_type (zi8 ?_)
  dsimp only
  generalize hH2:s.heap.push { cls:=.type "list",dict:=none,data:=.seq ([]:List Value).toArray }=H2
  have hC:H2.objs.size=s.heap.objs.size + 1:=by rw [← hH2,Heap.size_push]
  obtain ⟨cs,ecs⟩:∃ cs,cs=cellsFrom (H2.objs.size + 1) scope.names cl:=⟨_,rfl⟩
  rw [← ecs]
  obtain ⟨h₁,eh⟩:∃ h₁,h₁=pushCells (H2.push { cls:=.type "dict",data:=.dict #[] }) scope.names:=⟨_,rfl⟩
  rw [← eh]
  have kp:∀ b o,H2.get? b=some o→h₁.get? b=some o:=fun b o e=>by rw [eh]; exact pushCells_keeps _ _ b o (Heap.get?_push_of_some _ e)
  have hns₁:h₁.Ns H2.objs.size fun _=>none:=by rw [eh]; exact (Heap.Ns.new H2 (.type "dict")).keeps (pushCells_keeps _ _)
  have below:∀ b,b < s.heap.objs.size→b ≠ H2.objs.size:=fun b hb=>by rw [hC]; exact Nat.ne_of_lt (Nat.lt_succ_of_lt hb)
  have old:∀ b o,s.heap.get? b=some o→h₁.get? b=some o:=fun b o e=>kp b o (hH2 ▸ Heap.get?_push_of_some _ e)
  have hacc:h₁.get? s.heap.objs.size=some { cls:=.type "list",data:=.seq #[] 0 }:=kp _ _ (hH2 ▸ Heap.get?_push_size _ rfl)
  have clt:∀ x c,cl.lookup x=some c→c < s.heap.objs.size:=fun x c e=>by
    obtain ⟨v,o,ho,_⟩:=I.cell x c (hcl x c e)
    exact Heap.lt_size ho
  have own:∀ x c,(x,NameKind.cell) ∈ scope.names→cs.lookup x=some c→s.heap.objs.size + 1 < c:=fun x c h e=>by
    rw [ecs] at e
    have:=zdK scope.names _ cl h e fun _ _=>.inr trivial
    omega
  have hcl2:∀ x c,cs.lookup x=some c→X.env.cells.lookup x=some c∨(s.heap.objs.size + 1 < c∧∃ v,h₁.IsCell c v):=fun x c e=>by
    by_cases hx:(x,NameKind.cell) ∈ scope.names
    · refine .inr ⟨own x c hx e,none,?_⟩
      have okc:=cellsFrom_ok scope.names (H2.push { cls:=.type "dict",data:=.dict #[] }) 0 [] ⟨fun _ _ hm=>(nomatch hm),List.Pairwise.nil⟩ (Nat.zero_le _)
      have e2:(cellsFrom (H2.objs.size + 1) scope.names []).lookup x=some c:=by
        have gen:∀ (names:List (Str × NameKind)) (n:Nat) (acc:List (Str × Addr)),(x,NameKind.cell) ∈ names→(cellsFrom n names acc).lookup x=(cellsFrom n names []).lookup x:=by
          have gen2:∀ (names:List (Str × NameKind)) (n:Nat) (acc acc':List (Str × Addr)),(x,NameKind.cell) ∈ names∨acc.lookup x=acc'.lookup x→(cellsFrom n names acc).lookup x=(cellsFrom n names acc').lookup x:=by
            intro names
            induction names with
            | nil=>intro n acc acc' h; exact h.elim (fun z=>by cases z) id
            | cons p r ih =>
              intro n acc acc' h
              obtain ⟨y,k⟩:=p
              unfold cellsFrom
              split
              · rename_i hk
                have hk':k = .cell:=by simpa using hk
                subst hk'
                refine ih _ _ _ ?_
                by_cases exy:x=y
                · subst exy; exact .inr (by simp only [List.lookup_cons,beq_self_eq_true])
                · rcases h with z | z
                  · rcases List.mem_cons.mp z with w | w
                    · cases w; exact absurd rfl exy
                    · exact .inl w
                  · exact .inr (by simp only [List.lookup_cons,show (x == y)=false by simpa using exy]; exact z)
              · rename_i hk
                refine ih _ _ _ ?_
                rcases h with z | z
                · rcases List.mem_cons.mp z with w | w
                  · cases w; exact absurd rfl hk
                  · exact .inl w
                · exact .inr z
          exact fun names n acc h=>gen2 names n acc [] (.inl h)
        rw [← gen scope.names _ cl hx,← ecs]; exact e
      rw [Heap.size_push] at okc
      rw [eh]
      exact (okc.empty x c (PySem.mem_of_lookup e2)).1
    · rw [ecs,zcJ _ _ _ hx] at e
      exact .inl (hcl x c e)
  have hcf2:∀ y ∈ scope.names,y.2 = .free→cs.lookup y.1=X.env.cells.lookup y.1:=fun y hy hf=>by
    rw [ecs,zcJ _ _ _ (B.nocell y hy hf)]
    exact hcf y hy hf
  have hinj:∀ x y c,cs.lookup x=some c→cs.lookup y=some c→x=y:=by
    rw [ecs]
    exact zdE scope.names _ cl (fun x c e=>Nat.lt_of_lt_of_le (clt x c e) (by rw [hC]; omega)) fun x y c e1 e2=>I.ok.inj x y c (hcl x c e1) (hcl y c e2)
  have hown:∀ x,scope.names.lookup x=some .cell→∃ c,cs.lookup x=some c:=fun x h=>by
    rw [ecs]
    exact Option.isSome_iff_exists.mp (PySem.W.cellsFrom_some scope.names _ cl (.inl h))
  have hnew:∀ x c,scope.names.lookup x=some .cell→cs.lookup x=some c→s.heap.objs.size + 1 < c:=fun x c h e=>own x c (PySem.mem_of_lookup h) e
  have cne:∀ b,b < s.heap.objs.size→(∀ x c,X.env.cells.lookup x=some c→c ≠ b)→∀ x c,cs.lookup x=some c→c ≠ b:=fun b hb hold x c e z=>by
    rcases hcl2 x c e with w | ⟨w,_⟩
    · exact hold x c w z
    · rw [z] at w; exact Nat.lt_irrefl _ (Nat.lt_trans (Nat.lt_trans (Nat.lt_succ_self _) w) hb)
  have hfo:∀ b ∈ fp,∃ o,s.heap.get? b=some o:=fun b hb=>let ⟨o,e,_⟩:=T.obj 0 _ st b hb; ⟨o,e⟩
  have st1:tn 0 h₁:=T.keep 0 _ _ st fun b _ o e=>old b o e
  have hD0:H s.heap.objs.size=none:=I.hok.fresh (Nat.le_refl _)
  obtain ⟨W,⟨m0,w0⟩,turn⟩:=body _ hD0
  have J0:Inv (X.comp scope cs H2.objs.size N' s H fp pins) [] (zcQ σ ix n) (upd H s.heap.objs.size (.lst [])) { s with heap:=h₁ }:=by
    rw [hC] at hns₁ ⊢
    exact zkl (tk:=s.toks) B I hf hfo hcl2 hcf2 hinj hown hnew old hacc hns₁
  have fpOk:∀ {H':Hp},(∀ b ∈ fp,H' b=none)→∀ b ∈ fp,FpOk (X.comp scope cs H2.objs.size N' s H fp pins) [] H' b:=fun hn b hb=>by
    obtain ⟨f0,f1,f2,f3,f4,f5⟩:=hf b hb
    obtain ⟨o,e⟩:=hfo b hb
    refine ⟨hn b hb,below b (Heap.lt_size e),fun z=>?_,.inl hb,cne b (Heap.lt_size e) f4,fun p hp=>f5 p ?_⟩
    · rcases List.mem_cons.mp (I.stkSub b z) with q | q
      · exact f1 q
      · exact f2 q
    · rw [List.append_nil] at hp
      exact hp
  have fp0:∀ b ∈ fp,upd H s.heap.objs.size (.lst []) b=none:=fun b hb=>by
    obtain ⟨o,e⟩:=hfo b hb
    rw [zai (Nat.ne_of_lt (Heap.lt_size e))]
    exact (hf b hb).1
  have loop:∀ s₃:Shared,s₃ = { s with heap:=h₁ } →
      codeAny (model X.prog X.w) X.A (.compLoop (.ListComp elt [⟨tg,iter,ifs,0⟩] scope pos) 0 (.ref it) (.ref s.heap.objs.size) (compEnvC scope cs H2.objs.size X.env)) (RR (.ref s.heap.objs.size) H2.objs.size) s₃:=by
    rintro s₃ rfl
    refine ziB (fun k s'=>∃ i ys σ2 H3,Inv (X.comp scope cs H2.objs.size N' s H fp pins) [] σ2 H3 s'∧tn i s'.heap∧(∀ b ∈ fp,H3 b=none)∧W i k ys σ2 H3) ?_ m0 ⟨0,[],_,_,J0,st1,fp0,w0⟩
    rintro k s3 ⟨i,ys,σ3,H3,I3,st3,fr3,w3⟩
    obtain ⟨hD3,alt⟩:=turn i k ys σ3 H3 w3
    rcases alt with ⟨stop,q⟩ | ⟨go,N,hN,step⟩
    · refine thn (T.done (X.comp scope cs H2.objs.size N' s H fp pins) rfl rfl rfl hc i [] s3 σ3 H3 _ I3 (fpOk fr3) st3 stop) fun r s4 ⟨hr,I4⟩=>?_
      subst hr
      obtain ⟨m4,hn4,_⟩:=I4.loc
      refine hRR _ _ H3 s4 m4 (zlB I hf I4) hn4 ⟨I4.free,fun z=>?_,fun z=>?_,.inr (Nat.le_trans I.sz (by omega)),fun x c e z=>?_,fun p hp z=>?_⟩ q
      · have lt:=I.lt
        rw [← z,hC] at lt
        exact absurd lt (Nat.not_lt.mpr (Nat.le_succ _))
      · exact I.nofs (show s.heap.objs.size ≤ H2.objs.size by omega) z
      · obtain ⟨v,o,ho,_⟩:=I.cell x c e
        have lt:=Heap.lt_size ho
        rw [z,hC] at lt
        exact absurd lt (Nat.not_lt.mpr (Nat.le_succ _))
      · have lt:=Heap.lt_size (I.pin p hp).1
        rw [z,hC] at lt
        exact absurd lt (Nat.not_lt.mpr (Nat.le_succ _))
    · refine thn (T.item (X.comp scope cs H2.objs.size N' s H fp pins) rfl rfl rfl hc i [] s3 σ3 H3 _ I3 (fpOk fr3) st3 go) fun r s4 ⟨u,hr,h4⟩=>?_
      subst hr
      refine thn h4 fun _ s5 ⟨x,H5,I5,r5,y5,st5,fr5⟩=>?_
      have I5':=I5.pinned (fpOk fr5) (T.obj _ _ st5)
      have back:∀ {σ7:St} {H7:Hp} {s7:Shared} {ys':List V},Inv (X.comp scope cs H2.objs.size N' s H fp pins) ([] ++ zg4 fp s5.heap) σ7 H7 s7→N ys' σ7 H7 →
          ∃ m,m < k∧∃ i ys σ2 H3,Inv (X.comp scope cs H2.objs.size N' s H fp pins) [] σ2 H3 s7∧tn i s7.heap∧(∀ b ∈ fp,H3 b=none)∧W i m ys σ2 H3:=fun {σ7 H7 s7 ys'} I7 n7=>by
        obtain ⟨m',hm,w7⟩:=hN ys' σ7 H7 n7
        refine ⟨m',hm,i + 1,ys',σ7,H7,I7.unpinned,T.keep _ _ _ st5 fun b hb o e=>(I7.pin (b,o) (List.mem_append_right _ (List.mem_append_right _ (zdw hb e)))).1,fun b hb=>?_,w7⟩
        obtain ⟨o,e,d⟩:=T.obj _ _ st5 b hb
        exact (I7.pin (b,o) (List.mem_append_right _ (List.mem_append_right _ (zdw hb e)))).2.1
      refine thn (B.tgt cs H2.objs.size s H fp pins _ s5 σ3 H5 x u _ I5' r5 (step x H5 y5)) fun _ s6 ⟨σ6,H6,I6,q6⟩=>?_
      have fin:∀ (b:Bool) (s7:Shared),TP (X.comp scope cs H2.objs.size N' s H fp pins) ([] ++ zg4 fp s5.heap) σ6
          (fun b H4=>if b=true then te σ6 H4 fun y H5=>H5 s.heap.objs.size=some (.lst ys)∧ys.length < sizeLine∧N (ys ++ [y]) σ6 (upd H5 s.heap.objs.size (.lst (ys ++ [y]))) else N ys σ6 H4) b s7 →
          if b=true then wpAny (model X.prog X.w) X.A (eval elt (compEnvC scope cs H2.objs.size X.env)) (fun x s₄ =>
              wpAny (model X.prog X.w) X.A (call (.builtin "list.append") [.ref s.heap.objs.size,x]) (fun _ s₅=>∃ m,m < k∧∃ i ys σ2 H3,Inv (X.comp scope cs H2.objs.size N' s H fp pins) [] σ2 H3 s₅∧tn i s₅.heap∧(∀ b ∈ fp,H3 b=none)∧W i m ys σ2 H3) (fun _ _=>False) s₄) (fun _ _=>False) s7
            else ∃ m,m < k∧∃ i ys σ2 H3,Inv (X.comp scope cs H2.objs.size N' s H fp pins) [] σ2 H3 s7∧tn i s7.heap∧(∀ b ∈ fp,H3 b=none)∧W i m ys σ2 H3:=by
        rintro b s7 ⟨H7,I7,q7⟩
        cases b with
        | false =>
          rw [if_neg Bool.false_ne_true] at q7 ⊢
          exact back I7 q7
        | true =>
          rw [if_pos rfl] at q7 ⊢
          refine thn (B.elt cs H2.objs.size s H fp pins _ s7 σ6 H7 _ I7 q7) fun y s8 ⟨yv,H8,I8,r8,hD8,hz,n8⟩=>?_
          refine thn (zeT _ s8 σ6 H8 (.ref s.heap.objs.size) [yv] (.ref s.heap.objs.size) [y] (fun _ H9=>N (ys ++ [yv]) σ6 H9) I8 rfl (.cons r8 .nil) ⟨_,ys,yv,rfl,rfl,hD8,hz,n8⟩) fun _ s9 ⟨_,H9,I9,_,n9⟩=>?_
          exact back I9 n9
      rcases B.test with ⟨e1,e2⟩ | ⟨c,t,e1,e2,ht⟩
      · subst e1; subst e2
        exact wpAny_tests_nil (fin true s6 ⟨H6,I6,q6⟩)
      · subst e1; subst e2
        exact wpAny_tests_one (thn (ht cs H2.objs.size s H fp pins _ s6 σ6 H6 _ I6 q6) fun b s7 z=>fin b s7 z)
  exact codeAny_compStart_list (loop _ rfl) (T.self X.A 0 _ _ _ st1 (loop _ rfl))
theorem zfm {wi:TI} (hc:X.calm=true) (hi:PI X tg iter wi) (B:CompOk X scope N' ix n tg elt ifs g tc te) (hs:∀ x,foldedSetIterable iter X.env x=pure x:=by intro _; rfl) :
    PE X (.ListComp elt [⟨tg,iter,ifs,0⟩] scope pos) (zpq wi ix n g tc te):=by
  intro pins s σ H Q I h
  rw [eval_ListComp]
  obtain ⟨cl,hclos,hcl,hcf⟩:=ze2 (scope:=scope) (env:=X.env) fun y hy hf=>I.ok.has _ (B.free y hy hf)
  refine wpAny_comprehension_free (use:=none) rfl hs hclos B.kind B.names (thn (hi pins s σ H _ I h) fun v s1 h1=>thn h1 fun itv s2 h2=>?_)
  obtain ⟨it,fp,tn,J,H2,rfl,I2,T,st2,f2,body⟩:=h2
  refine zj6 (RR:=fun acc C=>compPost (model X.prog X.w) X.A X.xe none (EP X pins σ Q) acc C) B hc I2 T st2 f2 hcl hcf body fun D C H' s' m I' hn hC q=>⟨m,hn,fun h' hs'=>?_⟩
  obtain ⟨f0,f1,f2',f3,f4,f5⟩:=hC
  exact ⟨.ref D,H',I'.turned (t':=s'.toks) (fun b o hb e=>(hs'.2 b hb).trans e) f0 f1 f3 f4 f5,rfl,q⟩
theorem zdJ {wi:TI} {i:Nat} {y:Str} {py spos:Pos} (hN:X.N.Nodup) (hiN:X.N[i]?=some y) (hy:Loc X.env.scope y) (hc:X.calm=true) (hi:PI X tg iter wi) (B:CompOk X scope N' ix n tg elt ifs g tc te)
    (hsw:swapsWith (.ListComp elt [⟨tg,iter,ifs,0⟩] scope pos) (some (.Name y py)) spos.line X.env=pure true) (hf:X.fn y=true∨X.env.scope.names.lookup y=some .local:=by first | exact .inl rfl | exact .inr rfl | assumption)
    (hs:∀ x,foldedSetIterable iter X.env x=pure x:=by intro _; rfl) :
    PS X (.Assign [.Name y py] (.ListComp elt [⟨tg,iter,ifs,0⟩] scope pos) spos) (tAsg (zpq wi ix n g tc te) (zhi i)):=by
  intro pins s σ H D I h
  rw [exec_Assign_Name_used _ _ _ _ hsw]
  refine wpAny_bind (wpAny_standAt (wpAny_bind ?_))
  show wpAny _ X.A (do let _ ← comprehension (.ListComp elt [⟨tg,iter,ifs,0⟩] scope pos) scope X.env _ (newList []) false (eval iter X.env) (some (assign (.Name y py) X.env))) _ _ s
  obtain ⟨cl,hclos,hcl,hcf⟩:=ze2 (scope:=scope) (env:=X.env) fun y hy hf=>I.ok.has _ (B.free y hy hf)
  refine wpAny_bind (wpAny_mono (wpAny_comprehension_free (use:=some (assign (.Name y py) X.env)) (Q:=fun _ s'=>SP X pins D .next s') rfl hs hclos B.kind B.names
    (thn (hi pins s σ H _ I h) fun v s1 h1=>thn h1 fun itv s2 h2=>?_)) (fun _ s' hq=>wpAny_pure (wpAny_pure hq)) fun _ _ e=>e)
  obtain ⟨it,fp,tn,J,H2,rfl,I2,T,st2,f2,body⟩:=h2
  refine zj6 (Q:=fun x H1=>zhi i x σ H1 D.nx) (RR:=fun acc C=>compPost (model X.prog X.w) X.A X.xe (some (assign (.Name y py) X.env)) (fun _ s'=>SP X pins D .next s') acc C) B hc I2 T st2 f2 hcl hcf body fun D' C H' s' m I' hn hC q=>?_
  obtain ⟨f0,f1,f2',f3,f4,f5⟩:=hC
  have Ip := I'.pinned (fp := [C]) (fun b hb => by have e : b = C := by simpa using hb
                                                   subst e; exact ⟨f0,f1,f2',f3,f4,f5⟩) (fun b hb=>by
    have e:b=C:=by simpa using hb
    subst e
    obtain ⟨o,es,ep,ho,hd,_⟩:=hn
    exact ⟨o,ho,fun v z=>by rw [hd] at z; cases z⟩)
  refine wpAny_assign_Name (zeY Ip hN hiN hy (v:=.ref D') rfl (fun s'' I''=>?_) hf)
  obtain ⟨o,es,ep,ho,hd,hr⟩:=hn
  have pinC:=I''.pin (C,o) (List.mem_append_right _ (List.mem_append_right _ (zdw (by simp) ho)))
  refine ⟨m,⟨o,es,ep,pinC.1,hd,hr⟩,fun h' hs'=>?_⟩
  exact ⟨_,H',(I''.unpinned).turned (t':=s''.toks) (fun b o hb e=>(hs'.2 b hb).trans e) pinC.2.1 f1 f3 f4 f5,q⟩
end
end L2
namespace L2
open PySem PySem.Spec PyProof.Rows
section
variable {X:Cx} {scope:Scope} {tg elt:Expr} {ifs:List Expr} {g:TG} {tc:Option TT} {te:TE}
theorem zcT (osc:Scope) (oN N':List Str) (ix:List Nat) (n:Nat) (hosc:X.env.scope=osc) (hoN:X.N=oN) (kind:scope.kind = .function) (nocell:(scope.names.all fun y=>y.2 != .free || scope.names.all fun z=>!(z.1 == y.1) || z.2 != .cell)=true) (names:∀ y ∈ scope.names,y.2 = .local→scope.names.lookup y.1=some .local)
    (free:(scope.names.all fun y=>y.2 != .free || (osc.names.lookup y.1 == some .cell || osc.names.lookup y.1 == some .free))=true) (len:ix.length + n=N'.length)
    (take:((List.range ix.length).all fun j=>match N'[j]?,oN[ix.getD j 0]? with | some x,some y=>x == y && scope.names.lookup x == some .free | _,_=>false)=true)
    (tgt:∀ (cl:List (Str × Addr)) (C:Addr) (s:Shared) (H:Hp) (fp:List Addr) (pins:List (Addr × Obj)),PG (X.comp scope cl C N' s H fp pins) tg g)
    (elt':∀ (cl:List (Str × Addr)) (C:Addr) (s:Shared) (H:Hp) (fp:List Addr) (pins:List (Addr × Obj)),PE (X.comp scope cl C N' s H fp pins) elt te)
    (test:(ifs = []∧tc=none)∨∃ c t,ifs = [c]∧tc=some t∧∀ (cl:List (Str × Addr)) (C:Addr) (s:Shared) (H:Hp) (fp:List Addr) (pins:List (Addr × Obj)),PT (X.comp scope cl C N' s H fp pins) c t) :
    CompOk X scope N' ix n tg elt ifs g tc te :=
  ⟨kind,fun y hy e hc=>by
    have z:=List.all_eq_true.mp nocell y hy
    rw [e] at z
    have z2:(scope.names.all fun w=>!(w.1 == y.1) || w.2 != .cell)=true:=by simpa using z
    have z3:=List.all_eq_true.mp z2 _ hc
    simp at z3,names,fun y hy e=>by
    have z:=List.all_eq_true.mp free y hy
    rw [e] at z
    have z':(osc.names.lookup y.1 == some .cell || osc.names.lookup y.1 == some .free)=true:=by simpa using z
    show X.env.scope.names.lookup y.1=_∨X.env.scope.names.lookup y.1=_
    rw [hosc]
    simpa using z',len,fun j i e=>by
    obtain ⟨hj,_⟩:=List.getElem?_eq_some_iff.mp e
    have e2:ix.getD j 0=i:=by
      rw [List.getD_eq_getElem?_getD,e]
      rfl
    have z:=List.all_eq_true.mp take j (List.mem_range.mpr hj)
    rw [e2] at z
    cases h1:N'[j]? with
    | none=>rw [h1] at z; cases z
    | some x =>
      cases h2:oN[i]? with
      | none=>rw [h1,h2] at z; cases z
      | some y =>
        rw [h1,h2] at z
        have z':x=y∧scope.names.lookup x=some .free:=by simpa using z
        obtain ⟨rfl,z2⟩:=z'
        exact ⟨x,rfl,by rw [hoN]; exact h2,z2⟩,tgt,elt',test⟩
end
structure Has (P:Program) (w:World) (K:PySem.W.Frag) (mg:Str→Option Value) (base:Heap) (CX:CXT) (k:Nat) (x:Str) (ps:List Str) (sp:Sp):Prop where
  ex:∃ (f:Addr) (fd:FuncData),FnOk P w K mg base CX k f fd ps sp∧mg x=some (.ref f)∧PySem.W.keepIn K (.ref f)=true∧Binds K fd ps []
section
variable {X:Cx} {CX:CXT} {k:Nat} {x:Str} {ps:List Str} {sp:Sp} {E:XK} {p pos:Pos} {e:Expr} {es:List Expr} {t:TA}
theorem za7 (G:Has X.prog X.w X.K X.mg X.base CX k x ps sp) (hr:Room k X.A) (hg:Gl X x) (hx:zdt CX X E)
    (ha:PA X (e :: es) t) (hdb:(x == ("__debug__" : Str))=false:=by decide) (he:starEach (e :: es) X.env=(false,eval e X.env) :: starEach es X.env:=by rfl) (hpl:(backTo pos (starEach es X.env)).any (·.1)=false:=by rfl) :
    PE X (.Call (.Name x p) (e :: es) [] pos) (zmW sp [] E t):=by
  obtain ⟨f,fd,F,hm,hk,hb⟩:=G.ex
  exact zpd F hr hg hm hk hb .nil hx ha hdb he hpl
end
structure DefAt (K:PySem.W.Frag) (x:Str) (st:Stmt) (f:Addr) (fd:FuncData):Prop where
  ns:PySem.W.nsIn K mainGlobals x=some (some (.ref f))
  fn:Fun K x x st f fd
theorem defAt_mk {K:PySem.W.Frag} {x:Str} {st:Stmt} {f:Addr} {oc:Value} {od an:Option Addr} {osl:Array (Option Value)} {kV doc pm cdv ct:Value} (a:PySem.W.nsIn K mainGlobals x=some (some (.ref f)))
    (l:K.lookup f=some ⟨oc,od,.func (PySem.W.fnOf x x (zcz st) (zb6 st) (zaj st) .none kV doc pm an cdv ct),osl⟩) (c:PySem.W.codeIn K cdv x=true) (k:PySem.W.keepIn K (.ref f)=true):∃ f fd,DefAt K x st f fd :=
  ⟨f,_,a,zih l c k⟩
theorem DefAt.has {P:Program} {w:World} {K:PySem.W.Frag} {mg:Str→Option Value} {base h:Heap} {CX:CXT} {k:Nat} {x:Str} {st:Stmt} {f:Addr} {fd:FuncData} {ps:List Str} {sp:Sp} (D:DefAt K x st f fd) (X:K.In h) (G:h.Ns mainGlobals mg)
    (ok:FnOk P w K mg base CX k f fd ps sp) (b:Binds K fd ps []):Has P w K mg base CX k x ps sp:=⟨f,fd,ok,PySem.W.mg_of X G D.ns,D.fn.kp,b⟩
theorem zqy {H:Hp} {a b:Addr} {o u:HO} (hn:H b=none) (h:H a=some o):upd H b u a=some o:=(zai (zah h hn)).trans h
theorem Same.upd {H:Hp} {b:Addr} {u:HO} (hn:H b=none):Same H (upd H b u):=fun _ _ h=>zqy hn h
end L2
namespace L2
open PySem PySem.Spec PyProof.Rows
section
variable {X:Cx} {pos:Pos}
end
end L2
namespace L2
open PySem PySem.Spec PyProof.Rows
theorem kit_self {K:PySem.W.Frag} {T:String}:PySem.W.kitOne K (.type T) (.type T)=some true:=by
  unfold PySem.W.kitOne
  rw [if_pos (by simp)]
theorem kit_no {K:PySem.W.Frag} {S T:String} (h1:((Value.type S) == (Value.type T))=false) (h2:PySem.W.kitMeta T=true) (h3:(PySem.fastBuiltinMro S).map (·.contains (.type T))=some false):PySem.W.kitOne K (.type S) (.type T)=some false:=by
  unfold PySem.W.kitOne
  rw [h1,if_neg Bool.false_ne_true]
  show (if PySem.W.kitMeta T=true then PySem.W.subIn K (.type S) (.type T) else none)=some false
  rw [if_pos h2]
  exact h3
theorem kit_int_bool {K:PySem.W.Frag}:PySem.W.kitOne K (.type "int") (.type "bool")=some false:=kit_no (by decide +kernel) (by decide +kernel) (by decide +kernel)
end L2
namespace L2
open PySem PySem.Spec PyProof.Rows
structure Tr (h:Heap) (e T:Addr) (cls:Value) (dct:Option Addr) (fl:Value):Prop where
  ex:∃ (oe:Obj) (vs:Array Value) (oT:Obj) (ts:Array Value),h.get? e=some oe∧oe.cls=cls∧oe.dict=dct∧oe.data = .fields vs∧vs[1]?=some (.ref T)∧h.get? T=some oT∧oT.data = .fields ts∧ts[3]?=some fl
  ne:T ≠ e
structure FlyD (B:Heap) (l:List Env) (e:Addr) (cls:Value) (dct:Option Addr) (fl:Value) (h:Heap):Prop where
  stays:B.StaysIn h
  out:B.get? e=none
  fun':h.FunFrames B l
  tr:∃ T,B.get? T=none∧Tr h e T cls dct fl
theorem Obj.dict_mapFields (o:Obj) (f):(o.mapFields f).dict=o.dict:=by
  obtain ⟨c,d,dt,sl⟩:=o
  cases dt <;> rfl
theorem zct {h:Heap} {a b:Addr} {o u:Obj} {vs:Array Value} (ha:h.get? a=some o) (hd:o.data = .fields vs) (hb:h.get? b=some u) (hn:∀ ws,u.data ≠ .fields ws):b ≠ a:=by
  intro z
  subst z
  rw [ha] at hb
  cases hb
  exact hn vs hd
section
variable {M:Model} {A:Around} {E:Value→Shared→Prop} {s:Shared} {B:Heap} {env:Env} {outer l:List Env} {L e:Addr} {cls:Value} {dct:Option Addr} {Q:Unit→Shared→Prop}
theorem zmG {oe:Obj} {vs:Array Value} {head:Value} {had:Bool} (hfr:A.frames=some (env :: outer)) (hl:s.heap.FunFrames B (env :: outer)) (hf:env.frame=some L) (he:s.heap.get? e=some oe) (hd:oe.data = .fields vs) (hsz:1 < vs.size)
    (hst:B.StaysIn s.heap) (hen:B.get? e=none) (h:∀ h',FlyD B (env :: outer) e oe.cls oe.dict (rawInt L) h'→s.heap.UpToSlots h'→Q () { s with heap:=h' }) :
    wpAny M A (do let a ← frameOf env; let pl ← entryPlaceOf L had; let b ← EntryCells.newEntry head a .none (rawInt L) .none pl; setField (.ref e) 1 b) Q E s:=by
  have noF:e ∉ (env :: outer).filterMap (·.frame):=fun hm=>by
    obtain ⟨_,o,ho,hn⟩:=hl.mem hm
    exact zct he hd ho hn rfl
  refine wpAny_bind (wpAny_frameOf_fun hfr hl hf fun h₁ hs₁=>wpAny_bind (wpAny_entryPlaceOf fun pl hpl=>?_))
  have e1:h₁.get? e=some oe:=(hs₁.2.1 e noF).trans he
  have st1:B.StaysIn h₁:=fun b o q=>(hs₁.2.1 b fun hm=>by rw [(hl.mem hm).1] at q; cases q).trans (hst b o q)
  unfold EntryCells.newEntry newFields
  refine wpAny_bind (wpAny_newObj_type ?_ (hpl.sizeOk5 _ _ _ _ _))
  generalize hto:({ cls:=.type "traceback",dict:=none,data:=.fields ([head,.ref L,.none,rawInt L,.none] ++ (if pl.isEmpty then List.replicate 6 Value.none else pl)).toArray }:Obj)=ot
  have td:∃ ts,ot.data = .fields ts∧ts[3]?=some (rawInt L):=by
    subst hto
    refine ⟨_,rfl,?_⟩
    rcases hpl with rfl | ⟨_,_,_,_,_,_,_,rfl⟩ <;> simp
  have nfr:ot.isFreed=false:=by
    obtain ⟨ts,d,_⟩:=td
    exact Obj.isFreed_of_fields d
  have e2:(h₁.push ot).get? e=some oe:=Heap.get?_push_of_some _ e1
  refine wpAny_setField e2 hd hsz (h _ ?_ ?_)
  · have ne1:h₁.objs.size ≠ e:=Nat.ne_of_gt (Heap.lt_size e1)
    have kp:∀ b o,b ≠ e→h₁.get? b=some o→((h₁.push ot).update e (Obj.mapFields (·.setIfInBounds 1 (Value.ref h₁.objs.size)))).get? b=some o:=fun b o hb q=>by
      rw [Heap.get?_update_other _ _ (Ne.symm hb)]
      exact Heap.get?_push_of_some _ q
    have d3:=Obj.data_mapFields hd (·.setIfInBounds 1 (Value.ref h₁.objs.size))
    refine ⟨fun b o q=>kp b o (fun z=>by rw [z,hen] at q; cases q) (st1 b o q),hen,hl.of_keeps fun b o hb hn=>?_,h₁.objs.size,st1.fresh,⟨?_,ne1⟩⟩
    · obtain ⟨sl,q⟩:=hs₁.2.2 b o hb
      exact ⟨_,kp b _ (zct he hd hb hn) q,rfl⟩
    · obtain ⟨ts,t1,t2⟩:=td
      refine ⟨_,_,ot,ts,Heap.get?_update_self _ e2 (Obj.isFreed_of_fields d3),Obj.cls_mapFields _ _,Obj.dict_mapFields _ _,d3,by simp [hsz],?_,t1,t2⟩
      rw [Heap.get?_update_other _ _ (Ne.symm ne1)]
      exact Heap.get?_push_size _ nfr
  · intro b o hb hn
    obtain ⟨sl,q⟩:=hs₁.2.2 b o hb
    refine ⟨sl,?_⟩
    rw [Heap.get?_update_other _ _ (Ne.symm (zct he hd hb hn))]
    exact Heap.get?_push_of_some _ q
theorem zmm {fl:Value} (F:FlyD B l e cls dct fl s.heap) (h:∀ h',FlyD B l e cls dct .none h'→s.heap.UpToSlots h'→Q () { s with heap:=h' }):wpAny M A (setFlight (.ref e) none) Q E s:=by
  obtain ⟨T,bT,⟨oe,vs,oT,ts,he,hc,hdc,hd,h1,hT,hdT,h3⟩,ne⟩:=F.tr
  have sz:3 < ts.size:=(Array.getElem?_eq_some_iff.mp h3).1
  have oth:∀ b o,b ≠ T→s.heap.get? b=some o→(s.heap.update T (Obj.mapFields (·.setIfInBounds 3 Value.none))).get? b=some o:=fun b o hb q=>by
    rw [Heap.get?_update_other _ _ (Ne.symm hb)]
    exact q
  unfold setFlight
  refine wpAny_bind (wpAny_field he hd h1 ?_)
  rw [if_pos (show (Value.ref T != Value.none)=true by simp)]
  refine wpAny_setField hT hdT sz (h _ ⟨fun b o q=>oth b o (fun z=>by rw [z,bT] at q; cases q) (F.stays b o q),F.out,F.fun'.of_keeps fun b o hb hn=>⟨o,oth b o (zct hT hdT hb hn) hb,rfl⟩,T,bT,⟨?_,ne⟩⟩ fun b o hb hn=>⟨o.slots,oth b o (zct hT hdT hb hn) hb⟩)
  exact ⟨oe,vs,_,_,oth e oe (Ne.symm ne) he,hc,hdc,hd,h1,Heap.get?_update_self _ hT (Obj.isFreed_of_fields (Obj.data_mapFields hdT _)),Obj.data_mapFields hdT _,by simp [sz]⟩
theorem znN {h:Heap} {args:List Value} (hfr:A.frames=some (env :: outer)) (hf:env.frame=some L) (hst:B.StaysIn h) (hl:h.FunFrames B (env :: outer)) (hx:Heap.MadeExcOf h s.heap e cls args)
    (k:∀ h',FlyD B (env :: outer) e cls none (rawInt L) h'→s.heap.UpToSlots h'→Q () { s with heap:=h' }):wpAny M A (noteFrame (.ref e) env) Q E s:=by
  obtain ⟨t,he,_,_⟩:=hx.there
  have oe:B.get? e=none:=by
    cases q:B.get? e with
    | none=>rfl
    | some o=>have z:=hst e o q; rw [hx.new] at z; cases z
  unfold noteFrame
  simp only [hf]
  refine wpAny_bind (wpAny_field he rfl (x:=Value.none) rfl ?_)
  rw [if_neg (by decide)]
  exact zmG hfr (hl.of_keeps fun b o hb _=>⟨o,hx.keeps b o hb,rfl⟩) hf he rfl (by simp) (fun b o q=>hx.keeps b o (hst b o q)) oe k
theorem zn5 (hfr:A.frames=some (env :: outer)) (hf:env.frame=some L) (F:FlyD B (env :: outer) e cls dct .none s.heap)
    (k:∀ h',FlyD B (env :: outer) e cls dct (rawInt L) h'→s.heap.UpToSlots h'→Q () { s with heap:=h' }):wpAny M A (noteFrame (.ref e) env) Q E s:=by
  obtain ⟨T,bT,⟨oe,vs,oT,ts,he,hc,hdc,hd,h1,hT,hdT,h3⟩,ne⟩:=F.tr
  have sz:3 < ts.size:=(Array.getElem?_eq_some_iff.mp h3).1
  have oth:∀ b o,b ≠ T→s.heap.get? b=some o→(s.heap.update T (Obj.mapFields (·.setIfInBounds 3 Value.none))).get? b=some o:=fun b o hb q=>by
    rw [Heap.get?_update_other _ _ (Ne.symm hb)]
    exact q
  subst hc
  subst hdc
  unfold noteFrame
  simp only [hf]
  refine wpAny_bind (wpAny_field he hd h1 ?_)
  rw [if_pos (show (Value.ref T != Value.none)=true by simp)]
  refine wpAny_bind (wpAny_field hT hdT h3 ?_)
  rw [if_neg (show ¬ ((Value.none == rawInt L)=true) by simp [rawInt])]
  refine wpAny_bind (wpAny_setField hT hdT sz ?_)
  refine zmG hfr (F.fun'.of_keeps fun b o hb hn=>⟨o,oth b o (zct hT hdT hb hn) hb,rfl⟩) hf (oth e oe (Ne.symm ne) he) hd (Array.getElem?_eq_some_iff.mp h1).1 (fun b o q=>oth b o (fun z=>by rw [z,bT] at q; cases q) (F.stays b o q)) F.out fun h' F' up=>?_
  exact k h' F' fun b o hb hn=>up b o (oth b o (zct hT hdT hb hn) hb) hn
theorem FlyD.pop {h:Heap} {fl:Value} (F:FlyD B (env :: outer) e cls dct fl h):FlyD B outer e cls dct fl h:=⟨F.stays,F.out,F.fun'.2.2,F.tr⟩
end
end L2
namespace L2
open PySem PySem.Spec PyProof.Rows
structure Fly (P:Program) (w:World) (outer:List Env) (H:Hp) (s:Shared) (e:Addr) (cls:Value) (dct:Option Addr) (H':Hp) (s':Shared):Prop where
  os:s'.os=s.os
  bare:AllBare s'.gens
  un:Un (frs outer) [] H H' s.heap s'.heap
  lay:∃ B,FlyD B outer e cls dct .none s'.heap∧HOk P w H' B∧∀ b o,s.heap.get? b=some o→b ∉ frs outer→∃ o',B.get? b=some o'∧(H b=none→o'=o)
def CX1 (P:Program) (w:World):CXT:=fun outer H s E e s'=>∃ (ea C:Addr) (dct:Option Addr) (H':Hp),e = .ref ea∧Fly P w outer H s ea (.ref C) dct H' s'∧E (.ref C) dct H'
theorem HOk.fly {P:Program} {w:World} {H:Hp} {B h:Heap} (x:HOk P w H B) (st:B.StaysIn h):HOk P w H h:=x.kept fun b u q=>st b u q
theorem HOk.none_of {P:Program} {w:World} {H:Hp} {B:Heap} {a:Addr} (x:HOk P w H B) (n:B.get? a=none):H a=none:=by
  cases q:H a with
  | none=>rfl
  | some o =>
    have z:=x.lt q
    have z2:=(x a o q)
    exfalso
    cases o with
    | lst xs=>obtain ⟨_,_,_,_,e⟩:=z2; rw [n] at e; cases e
    | tup xs=>obtain ⟨_,_,_,o,e,_⟩:=z2; rw [n] at e; cases e
    | dK kvs=>obtain ⟨_,_,_,_,o,_,_,e,_⟩:=z2; rw [n] at e; cases e
    | dT kvs=>obtain ⟨_,_,_,_,o,_,_,e,_⟩:=z2; rw [n] at e; cases e
    | set S n'=>obtain ⟨o,_,_,_,e,_⟩:=z2; rw [n] at e; cases e
    | ins C dx fs=>obtain ⟨_,_,_,e,_⟩:=z2; rw [n] at e; cases e
    | own y=>obtain ⟨_,e⟩:=z2; rw [n] at e; cases e
    | xd fs=>obtain ⟨_,⟨_,_,_,e,_⟩,_⟩:=z2; rw [n] at e; cases e
    | rng lo hi=>obtain ⟨_,_,_,e⟩:=z2; rw [n] at e; cases e
    | frz ob u=>obtain ⟨e,_⟩:=z2; rw [n] at e; cases e
    | tbl ps=>obtain ⟨_,_,_,_,_,_,_,e,_⟩:=z2; rw [n] at e; cases e
    | met f y=>have e:B.get? a=some _:=z2; rw [n] at e; cases e
    | ext φ=>obtain ⟨_,⟨_,e⟩,_⟩:=z2; rw [n] at e; cases e
theorem zjL {fs fr:List Addr} {H0 H1 H2:Hp} {h0 h1 h2 h3 B:Heap} {L:Addr} (U:Un fs [] H0 H1 h0 h1) (V:Un fr [] H1 H2 h1 h2) (hL:h0.objs.size ≤ L) (sub:∀ b ∈ fr,b ∈ L :: fs) (sup:∀ b ∈ fs,b ∈ fr) (frf:∀ b ∈ fs,H0 b=none)
    (ndat:∀ b ∈ fs,∀ o,h2.get? b=some o→∀ vs,o.data ≠ .fields vs) (up:h2.UpToSlots h3) (st:B.StaysIn h3) (all:∀ b o,h1.get? b=some o→b ∉ fr→∃ o',B.get? b=some o'∧(H1 b=none→o'=o)) :
    Un fs [] H0 H2 h0 h3∧∀ b o,h0.get? b=some o→b ∉ fs→∃ o',B.get? b=some o'∧(H0 b=none→o'=o):=by
  have nfr:∀ b o,h0.get? b=some o→b ∉ fs→b ∉ fr:=fun b o e hb hm=>by
    rcases List.mem_cons.mp (sub b hm) with z | z
    · exact absurd (Nat.lt_of_lt_of_le (Heap.lt_size e) hL) (by rw [z]; exact Nat.lt_irrefl _)
    · exact hb z
  have third:∀ b o,h0.get? b=some o→b ∉ fs→∃ o',B.get? b=some o'∧(H0 b=none→o'=o):=fun b o e hb=>by
    obtain ⟨o1,e1⟩:=U.there b o e (by simp)
    obtain ⟨o2,e2,z⟩:=all b o1 e1 (nfr b o e hb)
    refine ⟨o2,e2,fun n=>?_⟩
    have e1':=U.keep b o e n hb (by simp)
    rw [e1] at e1'
    cases e1'
    exact z (U.free b o e n (by simp))
  have slots:∀ b o,h0.get? b=some o→b ∈ fs→∃ sl,h3.get? b=some { o with slots:=sl }:=fun b o e hb=>by
    have n:=frf b hb
    obtain ⟨s1,e1⟩:=U.slot b o e n hb (by simp)
    obtain ⟨s2,e2⟩:=V.slot b _ e1 (U.free b o e n (by simp)) (sup b hb) (by simp)
    obtain ⟨s3,e3⟩:=up b _ e2 (ndat b hb _ e2)
    exact ⟨s3,e3⟩
  refine ⟨⟨fun b o e n hb _=>?_,fun b o e n hb _=>slots b o e hb,fun b o e n _=>?_,fun b o e _=>?_,fun b xs e=>V.tups b xs (U.tups b xs e),fun b o u e=>V.frzs b o u (U.frzs b o u e),fun b ps e=>?_⟩,third⟩
  · obtain ⟨o',e',z⟩:=third b o e hb
    rw [z n] at e'
    exact st b o e'
  · obtain ⟨o1,e1⟩:=U.there b o e (by simp)
    exact V.free b o1 e1 (U.free b o e n (by simp)) (by simp)
  · by_cases hb:b ∈ fs
    · obtain ⟨sl,q⟩:=slots b o e hb
      exact ⟨_,q⟩
    · obtain ⟨o',e',_⟩:=third b o e hb
      exact ⟨o',st b o' e'⟩
  · obtain ⟨m1,e1⟩:=U.tbls b ps e
    obtain ⟨m2,e2⟩:=V.tbls b _ e1
    exact ⟨m1 ++ m2,by rw [e2,Array.append_assoc]⟩
section
variable {P:Program} {w:World} {K:PySem.W.Frag} {mg:Str→Option Value} {base:Heap} {N:List Str} {qual:Str} {scope:Scope} {f:Addr} {cd:Value} {A:Around} {outer:List Env} {s0:Shared} {H0:Hp} {E:XK}
abbrev cx1 (P:Program) (w:World) (K:PySem.W.Frag) (mg:Str→Option Value) (base:Heap) (N:List Str) (qual:Str) (scope:Scope) (f:Addr) (cd:Value) (A:Around) (outer:List Env) (s0:Shared) (H0:Hp) (E:XK):Cx:=cxOf (CX1 P w) P w K mg base N qual scope f cd A outer s0 H0 E
theorem znQ {pins:List (Addr × Obj)} {σ:St} {H:Hp} {s s':Shared} {ea C:Addr} {args:List Value} (I:Inv (cx1 P w K mg base N qual scope f cd A outer s0 H0 E) pins σ H s) (hm:Heap.MadeExcOf s.heap s'.heap ea (.ref C) args)
    (os:s'.os=s.os) (bare:AllBare s'.gens) (q:E (.ref C) none H):(cx1 P w K mg base N qual scope f cd A outer s0 H0 E).xe (.ref ea) s':=by
  have hin:∀ env ∈ (cx1 P w K mg base N qual scope f cd A outer s0 H0 E).stack,∀ a,env.frame=some a→a ∈ frs (cx1 P w K mg base N qual scope f cd A outer s0 H0 E).stack:=fun env he a ha=>List.mem_filterMap.mpr ⟨env,he,ha⟩
  have hstk:=I.stack
  show wpAny (model P w) _ (leaving _ (.ref ea)) _ _ s'
  unfold leaving
  refine wpAny_bind (znN (B:=PySem.W.hideAll s.heap (frs (cx1 P w K mg base N qual scope f cd A outer s0 H0 E).stack)) I.ok.frames rfl (fun b o e=>PySem.W.of_hideAll _ e) (PySem.W.funFrames_hide hstk hin) hm fun h1 F1 up1=>?_)
  refine zmm F1 fun h2 F2 up2=>?_
  have keepS:∀ b o,s.heap.get? b=some o→b ∉ frs (cx1 P w K mg base N qual scope f cd A outer s0 H0 E).stack→(PySem.W.hideAll s.heap (frs (cx1 P w K mg base N qual scope f cd A outer s0 H0 E).stack)).get? b=some o:=fun b o e hb=>PySem.W.hideAll_get _ e hb
  obtain ⟨u,third⟩:=zjL (h2:=s.heap) (h3:=h2) (B:=PySem.W.hideAll s.heap (frs (cx1 P w K mg base N qual scope f cd A outer s0 H0 E).stack)) (fr:=frs (cx1 P w K mg base N qual scope f cd A outer s0 H0 E).stack) I.base Un.refl I.ok.above I.stkSub
    (fun b hb=>List.mem_cons_of_mem _ hb) I.ok.frf (fun b hb o e=>by
      obtain ⟨_,o',ho',hn⟩:=hstk.mem (List.mem_cons_of_mem _ hb)
      rw [e] at ho'
      cases ho'
      exact hn) ((Heap.UpToSlots.of_keeps hm.keeps).trans (up1.trans up2)) F2.stays (fun b o e hb=>⟨o,keepS b o e hb,fun _=>rfl⟩)
  refine ⟨ea,C,none,H,rfl,⟨os.trans I.os,bare,u,_,F2.pop,?_,third⟩,q⟩
  intro a o e
  refine (I.hok a o e).stay (fun b v hb q=>keepS b v q fun z=>?_) (fun _ q=>q) fun _ _ q=>q
  have n:=I.stkFree b z
  rcases hb with rfl | hb
  · rw [e] at n; cases n
  · rw [hb] at n; cases n
theorem znC {pins:List (Addr × Obj)} {σ:St} {H:Hp} {s s':Shared} {e:Value} (I:Inv (cx1 P w K mg base N qual scope f cd A outer s0 H0 E) pins σ H s) (h:CX1 P w (cx1 P w K mg base N qual scope f cd A outer s0 H0 E).stack H s E e s') :
    (cx1 P w K mg base N qual scope f cd A outer s0 H0 E).xe e s':=by
  obtain ⟨ea,C,dct,H',rfl,F,q⟩:=h
  obtain ⟨B,fl,hok,third⟩:=F.lay
  have hstk:=I.stack
  show wpAny (model P w) _ (leaving _ (.ref ea)) _ _ s'
  unfold leaving
  refine wpAny_bind (zn5 I.ok.frames rfl fl fun h1 F1 up1=>?_)
  refine zmm F1 fun h2 F2 up2=>?_
  obtain ⟨u,third'⟩:=zjL (h3:=h2) (B:=B) I.base F.un I.ok.above I.stkSub (fun b hb=>List.mem_cons_of_mem _ hb) I.ok.frf (fun b hb o e=>by
      obtain ⟨_,o',ho',hn⟩:=fl.fun'.mem (List.mem_cons_of_mem _ hb)
      rw [e] at ho'
      cases ho'
      exact hn) (up1.trans up2) F2.stays third
  exact ⟨ea,C,dct,H',rfl,⟨F.os.trans I.os,F.bare,u,B,F2.pop,hok,third'⟩,q⟩
end
theorem zmC {K:PySem.W.Frag} {h:Heap} {C:Addr} {bmB:List Value} {newId:String} (X:K.In h) (q:PySem.W.excIn K C bmB newId=true) :
    ∃ bm N nm qn bs hdct sn sub ab col dd k0 k1 k2 k3 k5 mN,h.get? C=some (excClassObj nm qn C N bs bm hdct sn sub ab col dd k0 k1 k2 k3 k5 newId)∧h.Ns N mN∧mN "__init__"=none∧OwnTail h bmB bm:=by
  unfold PySem.W.excIn at q
  split at q
  · rename_i dd cd sl ho
    split at q
    · rename_i C' bm k0 k1 k2 k3 n k5 hm hs
      simp only [Bool.and_eq_true,beq_iff_eq,Bool.not_eq_true'] at q
      obtain ⟨⟨⟨⟨⟨rfl,rfl⟩,hdel⟩,ht⟩,hok⟩,hni⟩:=q
      obtain ⟨nm,bs,mro,ns,qn,hd,sn,sub,ab,col,del⟩:=cd
      dsimp only at hm hdel hok hni
      subst hm hdel
      obtain ⟨sll⟩:=sl
      simp only at hs
      subst hs
      exact ⟨bm,ns,nm,qn,bs,hd,sn,sub,ab,col,dd,k0,k1,k2,k3,k5,_,X _ _ ho,.of_isNs (PySem.W.isNs_of_in X hok),PySem.W.nsMap_none_of_in X hok hni,PySem.W.tail_of_in X ht⟩
    · cases q
  · cases q
def Made (X:Cx) (E:St→XK):Prop:=∀ (pins:List (Addr × Obj)) (σ:St) (H:Hp) (s s':Shared) (ea C:Addr) (args:List Value),Inv X pins σ H s→Heap.MadeExcOf s.heap s'.heap ea (.ref C) args→s'.os=s.os→AllBare s'.gens→E σ (.ref C) none H→X.xe (.ref ea) s'
def zhG (CX:CXT) (X:Cx) (E:St→XK):Prop:=∀ (pins:List (Addr × Obj)) (σ:St) (H:Hp) (s:Shared) (e:Value) (s':Shared),Inv X pins σ H s→CX X.stack H s (E σ) e s'→X.xe e s'
def zod (C:Addr) (E:St→XK) (t:TA):TS:=fun _ σ H=>t σ H fun vs H1=>vs.length ≤ sizeLine∧E σ (.ref C) none H1
section
variable {X:Cx} {x:Str} {np cpos pos:Pos} {e₀:Expr} {rest:List Expr} {C:Addr} {bmB bmN:List Value} {newId Bn B nid inN initId:String} {E:St→XK} {t:TA}
theorem zm4 (hc:X.calm=true) (hg:Gl X x) (hmx:X.mg x=some (.ref C)) (hk:PySem.W.excIn X.K C bmB newId=true) (Fn:ExcBaseFacts Bn newId inN bmN) (hBn:bmB.contains (.type Bn)=true) (FB:ExcBaseFacts B nid initId bmB) (hE:Made X E)
    (ha:PA X (e₀ :: rest) t) (he:starEach (e₀ :: rest) X.env=(false,eval e₀ X.env) :: starEach rest X.env:=by rfl) (hplain:(backTo cpos (starEach rest X.env)).any (·.1)=false:=by rfl) (hdb:(x == ("__debug__" : Str))=false:=by decide) :
    PS X (.Raise (some (.Call (.Name x np) (e₀ :: rest) [] cpos)) none pos) (zod C E t):=by
  intro pins s σ H D I h
  obtain ⟨tl,N,nm,qn,bs,hdct,sn,sub,ab,col,dd,k0,k1,k2,k3,k5,mN,hC,hN,hni,T⟩:=zmC I.ok.mod.kin hk
  refine wpAny_Raise_call_subU (C:=C) (nm:=nm) (q:=qn) (N:=N) (bs:=bs) (bm:=tl) (hdct:=hdct) (sn:=sn) (sub:=sub) (ab:=ab) (col:=col) (dd:=dd) (k0:=k0) (k1:=k1) (k2:=k2) (k3:=k3) (k5:=k5)
    Fn hBn FB (mN:=mN) (T.hasType FB.hasBase) (I.ok.hd hc) (by rw [he]; show (false || (backTo cpos (starEach rest X.env)).any (·.1))=false; rw [hplain]; rfl) hni (zek I hg hmx ⟨rfl,?_⟩ hdb)
  have hA:=ha cpos pins s σ H _ I h
  rw [he] at hA ⊢
  refine Calls.evalArgs_plain (thn hA fun us s1 ⟨vs,H1,I1,r1,z,q⟩=>?_)
  have bk:=I1.bk
  refine ⟨rfl,by rw [← r1.length]; exact z,bk _ _ hC,hN.keeps bk,T.keeps bk,fun h' ea hm=>?_⟩
  exact hE pins σ H1 s1 { s1 with heap:=h' } ea C us I1 hm rfl I1.bare q
end
def zoq (sp:Sp) (E:St→XK) (t:TA):TE:=fun σ H Q=>t σ H fun vs H1=>sp vs H1 Q (E σ)
section
variable {X:Cx} {CX:CXT} {k:Nat} {x:Str} {ps:List Str} {sp:Sp} {E:St→XK} {p pos:Pos} {e:Expr} {es:List Expr} {t:TA}
theorem ziY (G:Has X.prog X.w X.K X.mg X.base CX k x ps sp) (hr:Room k X.A) (hg:Gl X x) (hx:zhG CX X E)
    (ha:PA X (e :: es) t) (hdb:(x == ("__debug__" : Str))=false:=by decide) (he:starEach (e :: es) X.env=(false,eval e X.env) :: starEach es X.env:=by rfl) (hpl:(backTo pos (starEach es X.env)).any (·.1)=false:=by rfl) :
    PE X (.Call (.Name x p) (e :: es) [] pos) (zoq sp E t):=by
  obtain ⟨f,fd,F,hm,hk,hb⟩:=G.ex
  intro pins s σ H Q I h
  refine wpAny_Call_Name_kw (zek I hg hm ?_ hdb)
  refine PySem.W.callWith_K (h₀:=X.base) I.ok.mod.kin hk (thn (ha pos pins s σ H _ I h) fun us s1 ⟨vs,H1,I1,r,q⟩=>⟨I1.kIn,?_⟩) he hpl
  have hl:us.length=ps.length:=by rw [← r.length]; exact F.len _ _ _ _ q
  have bd:BindsTo s1 fd ⟨us,[]⟩ (ps.zip us):=by
    have z:=hb s1 us I1.kIn (by rw [List.append_nil]; exact hl)
    rw [List.append_nil] at z
    exact z
  refine wpAny_call (codeAny_mono (F.run X.A X.stack s1 H1 ⟨us,[]⟩ us vs Q (E σ) hr I1.env0 bd r q) fun rs s' hq=>?_)
  cases rs with
  | error e'=>exact hx pins σ H1 s1 e' s' I1 hq
  | ok fl =>
    cases fl with
    | ret u=>exact I1.after hq
    | next=>exact False.elim hq
    | brk=>exact False.elim hq
    | cont=>exact False.elim hq
end
theorem zll {K:PySem.W.Frag} {M:Model} {A:Around} {E:Value→Shared→Prop} {s:Shared} {Q:Bool→Shared→Prop} {e C D:Addr} {oe:Obj} (X:K.In s.heap) (he:s.heap.get? e=some oe) (hc:oe.cls = .ref C)
    (h1:PySem.W.kitCls K (.ref C) (.ref D)=some true) (h2:PySem.W.mroIn K D (.type "BaseException")=some true) (q:Q true s):wpAny M A (excMatches (.ref e) (.ref D)) Q E s:=by
  obtain ⟨hp,g,d,tk,os⟩:=s
  obtain ⟨l1,l2,l3⟩:=PySem.W.kit_cls (M:=M) X h1
  have l4:=PySem.W.looks_mroIn (M:=M) X h2
  have l5:PySem.W.Looks M hp (isInstance (.ref D) (.type "tuple")) false:=l1.andThen (PySem.W.Looks.of_pure tc_notTuple)
  have l6:PySem.W.Looks M hp (typeOf (.ref e)) (.ref C):=by
    rw [← hc]
    exact (PySem.W.Looks.ld he).andThen .now
  have l7:PySem.W.Looks M hp (isExcClass (.ref D)) true:=l2.andThen (by rw [if_pos rfl]; exact l4)
  unfold excMatches
  repeat (first | with_reducible refine PySem.W.Looks.at l5 ?_ | with_reducible refine PySem.W.Looks.at l6 ?_ | with_reducible refine PySem.W.Looks.at l7 ?_ | with_reducible refine PySem.W.Looks.at l3 ?_ | wp_step)
  exact q
def excO (C:Addr) (dct:Option Addr) (ea:Addr):HO:=.ext fun h=>∃ ob,h.get? ea=some ob∧ob.cls = .ref C∧ob.dict=dct∧∃ vs,ob.data = .fields vs
theorem Inv.track {X:Cx} {pins:List (Addr × Obj)} {σ:St} {H:Hp} {s:Shared} {ea:Addr} {o:HO} (I:Inv X pins σ H s) (hn:H ea=none) (h0:X.s₀.heap.get? ea=none) (hL:ea ≠ X.env.locals) (hc:∀ x c,X.env.cells.lookup x=some c→c ≠ ea)
    (hp:∀ p ∈ X.pn ++ pins,p.1 ≠ ea) (hnew:ObjOk X.prog X.w (upd H ea o) s.heap ea o):Inv X pins σ (upd H ea o) s:=by
  have ne:∀ {b:Addr} {u:HO},H b=some u→b ≠ ea:=fun q z=>by rw [z,hn] at q; cases q
  refine ⟨I.ok,I.os,I.bare,⟨I.base.keep,I.base.slot,fun b ob q n hx=>?_,I.base.there,fun b xs q=>?_,fun b ob u q=>?_,fun b ps q=>?_⟩,I.loc,I.cell,?_,fun x c q=>?_,fun p q=>?_,fun b u q=>?_,I.len⟩
  · rw [zai (fun z=>by rw [z,h0] at q; cases q)]
    exact I.base.free b ob q n hx
  · have z:=I.base.tups b xs q
    rw [zai (ne z)]; exact z
  · have z:=I.base.frzs b ob u q
    rw [zai (ne z)]; exact z
  · obtain ⟨m,z⟩:=I.base.tbls b ps q
    exact ⟨m,by rw [zai (ne z)]; exact z⟩
  · rw [zai (Ne.symm hL)]; exact I.free
  · rw [zai (hc x c q)]; exact I.freeC x c q
  · obtain ⟨a1,a2,a3,a4,a5⟩:=I.pin p q
    exact ⟨a1,by rw [zai (hp p q)]; exact a2,a3,a4,a5⟩
  · by_cases hb:b=ea
    · subst hb
      rw [zal] at q
      cases q
      exact hnew
    · rw [zai hb] at q
      exact (I.hok b u q).stay (fun c v _ z=>z) (fun c z=>by rw [zai (ne z)]; exact z) fun c xs z=>by rw [zai (ne z)]; exact z
def Cx.suite (X:Cx) (ea:Addr):Cx:={ X with A:=X.A.mark (some (.ref ea)),calm:=false,xe:=fun _ _=>False }
theorem Inv.suite {X:Cx} {pins:List (Addr × Obj)} {σ:St} {H:Hp} {s:Shared} (I:Inv X pins σ H s) (ea:Addr):Inv (X.suite ea) pins σ H s :=
  ⟨⟨I.ok.mod,I.ok.kind,I.ok.glob,I.ok.blt,I.ok.above,I.ok.inj,I.ok.has,I.ok.cab,fun z=>(by cases (show false=true from z)),I.ok.frames,I.ok.stk,I.ok.exf,I.ok.bs,I.ok.bsz,I.ok.noex,I.ok.exfs,I.ok.funs,I.ok.frf,I.ok.tb⟩,I.os,I.bare,I.base,I.loc,I.cell,I.free,I.freeC,I.pin,I.hok,I.len⟩
theorem Inv.unsuite {X:Cx} {pins:List (Addr × Obj)} {σ:St} {H:Hp} {s:Shared} {ea:Addr} (ok:X.Ok) (I:Inv (X.suite ea) pins σ H s):Inv X pins σ H s :=
  ⟨ok,I.os,I.bare,I.base,I.loc,I.cell,I.free,I.freeC,I.pin,I.hok,I.len⟩
def tTry (K:PySem.W.Frag) (D':Addr) (tb:(St→XK)→TS) (i:Nat) (th:TS):TS:=fun D σ H =>
  tb (fun σ' cls dct H'=>∃ C,cls = .ref C∧PySem.W.kitCls K (.ref C) (.ref D')=some true∧∀ ea,H' ea=none→th { nx:=fun σ2 H2=>D.nx (σ2.set i none) H2,rt:=D.rt,bk:=fun σ2 H2=>D.bk (σ2.set i none) H2,ct:=fun σ2 H2=>D.ct (σ2.set i none) H2 } (σ'.set i (some (.ref ea))) (upd H' ea (excO C dct ea))) D σ H
section
variable {P:Program} {w:World} {X:Cx} {x n:Str} {np hpos pos:Pos} {body:List Stmt} {b₀:Stmt} {suite:List Stmt} {D':Addr} {tb:(St→XK)→TS} {th:TS} {i:Nat}
theorem zeW {pins:List (Addr × Obj)} {σ:St} {H:Hp} {s:Shared} {Q:Unit→Shared→Prop} (I:Inv X pins σ H s) (hN:X.N.Nodup) (hi:X.N[i]?=some n) (hn:X.env.kindOf n=some .local)
    (k:∀ s',Inv X pins (σ.set i none) H s'→Q () s'):wpAny (model X.prog X.w) X.A (do bindName X.env n .none; unbindBehindTheSuite X.env n hpos) Q X.xe s:=by
  have hk:X.env.scope.names.lookup n=some .local:=hn
  refine wpAny_bind (wpAny_bindName (zeY I hN hi (.inl hk) (v:=.non) rfl (fun s1 I1=>?_) (.inr hk)))
  obtain ⟨m,hm,hl⟩:=I1.loc
  have li:i < σ.length:=by
    rw [I.len]
    exact (List.getElem?_eq_some_iff.mp hi).1
  obtain ⟨u,ru,lu⟩:=hl i n .non hi (by rw [List.getElem?_set_self li]) (.inl hk)
  have hv:m n=some u:=by
    rcases lu with ⟨_,z⟩ | ⟨z,_⟩
    · exact z
    · rcases z with z | z <;> (rw [hn] at z; cases z)
  unfold unbindBehindTheSuite
  refine wpAny_onRaise (wpAny_unbindName_local hn hm hv (by rw [I.ok.kind]; rfl) fun h' u' hm' hs'=>k _ ?_)
  have I2:Inv X pins (σ.set i none) H s1:=I1.weak (by simp) fun j v e=>by
    by_cases hj:j=i
    · subst hj
      rw [List.getElem?_set_self li] at e
      cases e
    · rw [List.getElem?_set_ne (Ne.symm hj)] at e ⊢
      exact e
  have kp:∀ b o,b ≠ X.env.locals→s1.heap.get? b=some o→h'.get? b=some o:=fun b o hb e=>(hs'.2 b hb).trans e
  have e0:∀ b o,X.s₀.heap.get? b=some o→b ≠ X.env.locals:=fun b o e=>Nat.ne_of_lt (Nat.lt_of_lt_of_le (Heap.lt_size e) I.ok.above)
  refine ⟨I2.ok,I2.os,I2.bare,⟨fun b o e n' hb hx=>kp b o (e0 b o e) (I2.base.keep b o e n' hb hx),fun b o e n' hb hx=>?_,I2.base.free,fun b o e hx=>?_,I2.base.tups,I2.base.frzs,I2.base.tbls⟩,⟨_,hm',fun j y v e1 e2 e3=>?_⟩,fun y c e=>?_,I2.free,I2.freeC,fun p hp=>?_,?_,I2.len⟩
  · obtain ⟨sl,q⟩:=I2.base.slot b o e n' hb hx
    exact ⟨sl,kp b _ (e0 b o e) q⟩
  · obtain ⟨o',q⟩:=I2.base.there b o e hx
    exact ⟨o',kp b o' (e0 b o e) q⟩
  · by_cases hj:j=i
    · subst hj
      rw [List.getElem?_set_self li] at e2
      cases e2
    · rw [List.getElem?_set_ne (Ne.symm hj)] at e2
      have ny:y ≠ n:=fun z=>by
        subst z
        exact hj (zhe hN e1 hi)
      obtain ⟨u2,r2,l2⟩:=hl j y v e1 (by rw [List.getElem?_set_ne (Ne.symm hj)]; exact e2) e3
      refine ⟨u2,r2,?_⟩
      rcases l2 with ⟨k1,k2⟩ | ⟨k1,c,k2,ob,k3,k4⟩
      · exact .inl ⟨k1,by show (if y=n then u' else m y)=_; rw [if_neg ny]; exact k2⟩
      · exact .inr ⟨k1,c,k2,ob,kp c ob (I1.cne y c k2) k3,k4⟩
  · obtain ⟨v,ob,k3,k4⟩:=I2.cell y c e
    exact ⟨v,ob,kp c ob (I2.cne y c e) k3,k4⟩
  · obtain ⟨a1,a2,a3,a4,a5⟩:=I2.pin p hp
    exact ⟨kp _ _ a3 a1,a2,a3,a4,a5⟩
  · intro a o e
    refine (I2.hok a o e).stay (fun b v hb q=>kp b v (fun z=>?_) q) (fun _ q=>q) fun _ _ q=>q
    have fr:=I2.free
    rcases hb with rfl | hb
    · rw [z,fr] at e; cases e
    · rw [z,fr] at hb; cases hb
def Cx.guard (X:Cx) (pl:List (Addr × Obj)) (xe:Value→Shared→Prop):Cx:={ X with pn:=pl,xe:=xe }
theorem Inv.guard {pins:List (Addr × Obj)} {σ:St} {H:Hp} {s:Shared} (I:Inv X pins σ H s) (xe:Value→Shared→Prop):Inv (X.guard (X.pn ++ pins) xe) [] σ H s :=
  ⟨⟨I.ok.mod,I.ok.kind,I.ok.glob,I.ok.blt,I.ok.above,I.ok.inj,I.ok.has,I.ok.cab,I.ok.hd,I.ok.frames,I.ok.stk,I.ok.exf,I.ok.bs,I.ok.bsz,I.ok.noex,I.ok.exfs,I.ok.funs,I.ok.frf,I.ok.tb⟩,I.os,I.bare,I.base,I.loc,I.cell,I.free,I.freeC,
    fun p hp=>I.pin p (by rw [List.append_nil] at hp; exact hp),I.hok,I.len⟩
theorem Inv.unguard {pins pins':List (Addr × Obj)} {σ:St} {H:Hp} {s:Shared} {xe:Value→Shared→Prop} (ok:X.Ok) (I:Inv (X.guard (X.pn ++ pins) xe) pins' σ H s):Inv X pins σ H s :=
  ⟨ok,I.os,I.bare,I.base,I.loc,I.cell,I.free,I.freeC,fun p hp=>I.pin p (List.mem_append_left _ hp),I.hok,I.len⟩
theorem zqc (hex:X.ex = []) (hst:X.stack=X.env :: X.outer) (hfr:X.env.frame=some X.env.locals) (hN:X.N.Nodup) (hi:X.N[i]?=some n) (hn:X.env.kindOf n=some .local) (hg:Gl X x) (hmx:X.mg x=some (.ref D')) (hD:PySem.W.mroIn X.K D' (.type "BaseException")=some true)
    (hb:∀ (E:St→XK) (pl:List (Addr × Obj)) (xe:Value→Shared→Prop),zhG (CX1 X.prog X.w) (X.guard pl xe) E→PSs (X.guard pl xe) body (tb E)) (hh:∀ ea,PSs (X.suite ea) (b₀ :: suite) th) (hdb:(x == ("__debug__" : Str))=false:=by decide) :
    PS X (.Try body [.ExceptHandler (some (.Name x np)) (some n) (b₀ :: suite) hpos] [] [] pos) (tTry X.K D' tb i th):=by
  intro pins s σ H D I h
  have ok:=I.ok
  refine wpAny_Try_except ?_
  refine wpAny_mono (hb _ (X.pn ++ pins) (fun e s₁=>wpAny (model X.prog X.w) X.A (noteFrame e X.env) (fun _ s₂=>wpAny (model X.prog X.w) X.A (setFlight e none) (fun _ s₃=>wpAny (model X.prog X.w) X.A (handleBy e X.env [.ExceptHandler (some (.Name x np)) (some n) (b₀ :: suite) hpos]) (SP X pins D) X.xe s₃) X.xe s₂) X.xe s₁) ?_ [] s σ H D (I.guard _) h) (fun f s1 q=>?_) fun _ _ q=>q
  · -- an exception of the body
    intro pins' σ' H1 s1 e s2 I1 hcx
    obtain ⟨ea,C,dct,H',rfl,F,C',hC',hm,hth⟩:=hcx
    cases hC'
    have J1:Inv X pins σ' H1 s1:=I1.unguard ok
    have F':Fly X.prog X.w (X.env :: X.outer) H1 s1 ea (.ref C) dct H' s2:=by
      rw [← hst]
      exact F
    obtain ⟨Fos,Fbare,Fun,B,fl,hok,third⟩:=F'
    have fr2:X.A.frames=some (X.env :: X.outer):=by rw [← hst]; exact ok.frames
    -- whatever the heap behind
    have land:∀ h' ,FlyD B (X.env :: X.outer) ea (.ref C) dct .none h'→s2.heap.UpToSlots h'→Inv X pins σ' H' { s2 with heap:=h' }:=fun h' F' up=>by
      obtain ⟨u,_⟩:=zjL (fs:=frs (X.env :: X.outer)) (fr:=frs (X.env :: X.outer)) (h0:=s1.heap) (h1:=s1.heap) (h3:=h') (B:=B) (L:=s1.heap.objs.size) Un.refl Fun (Nat.le_refl _) (fun b hb=>List.mem_cons_of_mem _ hb) (fun b hb=>hb)
        (fun b hb=>J1.stkFree b (by rw [hst]; exact hb)) (fun b hb o e=>by
          obtain ⟨_,o',ho',hn'⟩:=fl.fun'.mem hb
          rw [e] at ho'
          cases ho'
          exact hn') up F'.stays third
      obtain ⟨hh2,g2,d2,t2,os2⟩:=s2
      obtain rfl:os2=s1.os:=Fos
      show Inv X pins σ' H' { s1 with heap:=h',gens:=g2,drawn:=d2,toks:=t2 }
      exact J1.call (h':=h') (g':=g2) (d':=d2) (t':=t2) (ch:=[]) (by rw [hst]; exact u) (hok.fly F'.stays) Fbare fun b z=>absurd z (by simp)
    show wpAny (model X.prog X.w) X.A (noteFrame (.ref ea) X.env) _ _ s2
    refine zn5 fr2 hfr fl fun h1 F1 up1=>?_
    refine zmm F1 fun h2 F2 up2=>?_
    have J2:=land h2 F2 (up1.trans up2)
    obtain ⟨T,_,⟨oe,vs,_,_,he,hc,hdc,hd,_⟩,_⟩:=F2.tr
    refine wpAny_handleBy_cons (codeAny_handlers_test (zek (X:=X.suite ea) (J2.suite ea) hg hmx ?_ hdb)) (by intro z; cases z)
    refine zll (K:=X.K) J2.kIn he hc hm hD ?_
    refine codeAny_handlers_suite_as ?_
    refine zmm F2 fun h3 F3 up3=>?_
    have J3:=land h3 F3 ((up1.trans up2).trans up3)
    obtain ⟨T3,_,⟨oe3,vs3,_,_,he3,hc3,hdc3,hd3,_⟩,_⟩:=F3.tr
    have nH:H' ea=none:=hok.none_of F3.out
    have nfr:ea ∉ frs X.stack:=fun z=>by
      rw [hst] at z
      obtain ⟨_,o',ho',hn'⟩:=F3.fun'.mem z
      exact zct he3 hd3 ho' hn' rfl
    have nB:∀ b o,s1.heap.get? b=some o→b ∉ frs X.stack→b ≠ ea:=fun b o e hb z=>by
      obtain ⟨o',e',_⟩:=third b o e (by rw [← hst]; exact hb)
      rw [z,F3.out] at e'
      cases e'
    have nL:ea ≠ X.env.locals:=fun z=>nfr (by
      rw [hst,z]
      exact List.mem_filterMap.mpr ⟨X.env,List.mem_cons_self,hfr⟩)
    have J4:Inv (X.suite ea) pins σ' (upd H' ea (excO C dct ea)) { s2 with heap:=h3 }:=(J3.suite ea).track nH (by
        cases z:X.s₀.heap.get? ea with
        | none=>exact z
        | some o =>
          obtain ⟨o1,e1⟩:=J1.base.there ea o z (by rw [hex]; simp)
          exact absurd rfl (nB ea o1 e1 nfr)) nL (fun y c e z=>by
        obtain ⟨v,ob,k3,k4⟩:=J3.cell y c e
        rw [z] at k3
        have k3':h3.get? ea=some ob:=k3
        rw [he3] at k3'
        cases k3'
        rw [hd3] at k4
        cases k4) (fun p hp=>by
        obtain ⟨a1,_,a3,a4,_⟩:=J1.pin p hp
        exact nB p.1 p.2 a1 fun z=>(List.mem_cons.mp (J1.stkSub p.1 z)).elim a3 a4)
      ⟨⟨oe3,he3,hc3,hdc3,vs3,hd3⟩,⟨oe3,he3⟩,fun g1 g2 z k=>by
        obtain ⟨ob,z1,z2⟩:=z
        exact ⟨ob,k ob z1,z2⟩⟩
    refine zeY (X:=X.suite ea) J4 hN hi (.inl hn) (v:=.ref ea) rfl (fun s5 I5=>?_) (.inr hn)
    refine wpAny_mono (hh ea pins s5 _ _ _ I5 (hth ea nH)) (fun f s6 q6=>?_) fun _ _ z=>z.elim
    cases f with
    | next =>
      obtain ⟨σ6,H6,I6,q6⟩:=q6
      exact zeW (I6.unsuite ok) hN hi hn fun s7 I7=>⟨_,_,I7,q6⟩
    | brk =>
      obtain ⟨σ6,H6,I6,q6⟩:=q6
      exact zeW (I6.unsuite ok) hN hi hn fun s7 I7=>⟨_,_,I7,q6⟩
    | cont =>
      obtain ⟨σ6,H6,I6,q6⟩:=q6
      exact zeW (I6.unsuite ok) hN hi hn fun s7 I7=>⟨_,_,I7,q6⟩
    | ret v =>
      obtain ⟨v6,σ6,H6,I6,r6,q6⟩:=q6
      exact zeW (I6.unsuite ok) hN hi hn fun s7 I7=>⟨v6,_,_,I7,r6,q6⟩
  · cases f with
    | next =>
      obtain ⟨σ6,H6,I6,q6⟩:=q
      exact wpAny_execs_nil ⟨σ6,H6,I6.unguard ok,q6⟩
    | brk =>
      obtain ⟨σ6,H6,I6,q6⟩:=q
      exact ⟨σ6,H6,I6.unguard ok,q6⟩
    | cont =>
      obtain ⟨σ6,H6,I6,q6⟩:=q
      exact ⟨σ6,H6,I6.unguard ok,q6⟩
    | ret v =>
      obtain ⟨v6,σ6,H6,I6,r6,q6⟩:=q
      exact ⟨v6,σ6,H6,I6.unguard ok,r6,q6⟩
end
end L2
namespace L2
open PySem PySem.Spec PyProof.Rows
structure ExcCls (K:PySem.W.Frag) (C:Addr):Prop where
  ga:PySem.W.findIn K (.ref C) "__getattribute__"=some (some (.builtin "BaseException.__getattribute__"))
  gn:PySem.W.findIn K (.ref C) "__getattr__"=some none
  hd:PySem.W.hasDictIn K C=true
  ha:PySem.W.findIn K (.ref C) "__class__"=some (some (.builtin "object.__class__"))
  hn:PySem.W.specialIn K (.builtin "object.__class__") "__get__"=some (some (.builtin "getset_descriptor.__get__"))
  htk:PySem.W.takesIn K (.builtin "object.__class__")=some true
  hm:PySem.W.mroIn K C (.type "object")=some true
  hb:PySem.W.mroIn K C (.type "BaseException")=some true
theorem zjt {K:PySem.W.Frag} {C:Addr} {od:Option Obj} {name:Str} {a g:Value} (hc:(PySem.W.clsIn K C).isSome=true) (ha:PySem.W.findIn K (.ref C) name=some (some a)) (hg:PySem.W.specialIn K a "__get__"=some (some g)) (ht:PySem.W.takesIn K a=some true) :
    PySem.W.findObj K C od name=some (.bind g a):=by
  obtain ⟨cd,hc⟩:=Option.isSome_iff_exists.mp hc
  unfold PySem.W.findObj
  rw [hc,Option.bind_some,ha,Option.bind_some]
  simp only [hg]
  show (PySem.W.takesIn K a).bind _=_
  rw [ht]
  rfl
set_option maxHeartbeats 4000000 in
theorem zl6 {K:PySem.W.Frag} {x C:Addr} {ox:Obj} {od:Option Obj} {prog:Program} {w:World} {A:Around} {E:Value→Shared→Prop} {Q:Option Value→Shared→Prop} {s:Shared} (Z:ExcCls K C) (X:K.In s.heap) (I:PySem.W.InstAt s.heap x ox C od)
    (k:Q (some (.ref C)) { s with toks:=s.toks + 1 }):wpAny (model prog w) A (getAttr? (.ref x) "__class__") Q E s:=by
  have hf:PySem.W.findObj K C od "__class__"=some (.bind (.builtin "getset_descriptor.__get__") (.builtin "object.__class__")):=zjt (by obtain ⟨cd,hc,_⟩:=PySem.W.any_some Z.hd; rw [hc]; rfl) Z.ha Z.hn Z.htk
  have X':=X
  have I':=I
  have Z':=Z
  obtain ⟨hh,g,d,t,os⟩:=s
  have L0:=I.type (M:=model prog w)
  have L1:=PySem.W.looks_findIn (M:=model prog w) X Z.ga
  have L2:=PySem.W.looks_findIn (M:=model prog w) X Z.gn
  have L3:=PySem.W.looks_find (M:=model prog w) X I hf
  have L4:PySem.W.Looks (model prog w) hh (isInstance (.ref x) (.type "BaseException")) true:=L0.andThen (PySem.W.looks_mroIn X Z.hb)
  have f3:=F.attr_ValueError.ga.bind (.ref x)
  have hx0:((false:Bool) && onTheHeap (Value.builtin "BaseException.__getattribute__"))=false:=rfl
  have hx2:(Value.builtin "BaseException.__getattribute__" == Value.builtin "object.__getattribute__")=false:=by decide +kernel
  have hx1:(onTheHeap (Value.ref C) && Value.builtin "BaseException.__getattribute__" == Value.builtin "object.__getattribute__")=false:=by rw [hx2]; rfl
  unfold getAttr? getAttrBy?
  refine wpAny_bind (wpAny_mkText (wpAny_bind (wpAny_attempt ?_)))
  repeat (any_goals (first | assumption | with_reducible refine PySem.W.Looks.at L0 ?_ | with_reducible refine PySem.W.Looks.at L1 ?_ | with_reducible refine PySem.W.Looks.at L2 ?_ | wp_step))
  have hk:builtinKind "BaseException.__getattribute__"=some .slot:=by decide +kernel
  have hsplit:splitId "BaseException.__getattribute__"=some ("BaseException","__getattribute__"):=by decide +kernel
  have har:=F.args_bexc_ga (.ref x) (.str "__class__" t)
  refine codeAny_call_builtin F.attr_ValueError.ga.plain F.entry_bexc_ga ?_
  simp only [checkBuiltinCall,hk,hsplit]
  refine wpAny_bind ?_
  refine PySem.W.Looks.at L4 ?_
  repeat (any_goals (first | assumption | with_reducible refine PySem.W.Looks.at L4 ?_ | with_reducible refine PySem.W.Looks.at L0 ?_ | with_reducible refine PySem.W.Looks.at L3 ?_ | wp_step))
  exact PySem.W.class_get (s:=⟨hh,g,d,t + 1,os⟩) (ox:=ox) (od:=od) X I Z.hm (wpAny_pure (PySem.W.handed_on rfl (wpAny_pure k)))
theorem zj0 {K:PySem.W.Frag} {x C:Addr} (Z:ExcCls K C):PySem.W.KitX K (.ref x) (.ref C) (fun h=>∃ ox od,PySem.W.InstAt h x ox C od) where
  ty:=fun _ _ _ I=>by
    obtain ⟨ox,od,I⟩:=I
    exact I.type
  it:=fun _ _ X _=>by
    obtain ⟨cd,hc,_⟩:=PySem.W.any_some Z.hd
    unfold PySem.W.clsIn at hc
    split at hc
    · rename_i ho
      intro A' Q' E' s' k q
      unfold isType loadHead
      exact wpAny_bind (wpAny_loadPart (k _ _ (X _ _ ho)) (wpAny_pure q))
    · cases hc
  ne:=fun h tp dd its n sl X htp=>by
    obtain ⟨cd,hc,_⟩:=PySem.W.any_some Z.hd
    refine Bool.eq_false_iff.mpr fun q=>?_
    have e:C=tp:=Value.ref.inj (beq_iff_eq.mp q)
    subst e
    unfold PySem.W.clsIn at hc
    split at hc
    · rename_i ho
      have z:=(X _ _ ho).symm.trans htp
      cases z
    · cases hc
  ca:=fun {prog w A E Q s} X I k=>by
    obtain ⟨ox,od,I⟩:=I
    exact zl6 Z X I k
theorem zjj {K:PySem.W.Frag} {C D:Addr} {b:Bool} (h1:PySem.W.hasDictIn K D=true) (h2:PySem.W.typeIn K (.ref D)=some (.type "type")) (h3:PySem.W.mroIn K C (.ref D)=some b):PySem.W.kitCls K (.ref C) (.ref D)=some b:=by
  obtain ⟨cd,hc,_⟩:=PySem.W.any_some h1
  show (if ((PySem.W.clsIn K D).isSome && PySem.W.typeIn K (.ref D) == some (.type "type"))=true then PySem.W.subIn K (.ref C) (.ref D) else none)=some b
  rw [hc,h2,if_pos (by simp)]
  exact h3
theorem zhh {K:PySem.W.Frag} {C D:Addr} {b:Bool} (h1:PySem.W.hasDictIn K D=true) (h2:PySem.W.typeIn K (.ref D)=some (.type "type")) (h3:PySem.W.mroIn K C (.ref D)=some b) (h4:PySem.W.mroIn K C (.ref C)=some true):PySem.W.kitOne K (.ref C) (.ref D)=some b:=by
  unfold PySem.W.kitOne
  by_cases e:C=D
  · subst e
    rw [if_pos (by simp)]
    exact h4.symm.trans h3
  · rw [if_neg (by simpa using e)]
    exact zjj h1 h2 h3
section
variable {X:Cx}
def rIsX (K:PySem.W.Frag):List V→Hp→VK→Prop:=fun xs H Q=>∃ a C dct c cv b,xs = [.ref a,c]∧clsV c=some cv∧H a=some (excO C dct a)∧(∀ dx,dct=some dx→∃ fs,H dx=some (.xd fs))∧ExcCls K C∧PySem.W.kitOne K (.ref C) cv=some b∧Q (.bl b) H
theorem zfQ:ze3 X (.builtin "isinstance") (rIsX X.K):=by
  intro pins s σ H xs us Q I r h
  obtain ⟨a,C,dct,c,cv,b,rfl,hc,hH,hdx,Z,hk,q⟩:=h
  obtain ⟨u,v,rfl,rx,ry⟩:=zkS r
  cases zj1 hc ry
  cases (show u=Value.ref a from rx)
  obtain ⟨⟨ob,h1,h2,h3,vs,h4⟩,_⟩:=I.hok a _ hH
  cases dct with
  | none=>exact PySem.W.kia_one (zj0 Z) I.kIn ⟨ob,none,h1,h2,by unfold PySem.W.notCls; rw [h4],by rw [h3]; trivial⟩ hk (fun z=>nomatch z) fun tk=>⟨.bl b,H,I.tok _,rfl,q⟩
  | some dx =>
    obtain ⟨fs,efs⟩:=hdx dx rfl
    obtain ⟨_,⟨od,_,_,hod,_⟩,_⟩:=(show ObjOk X.prog X.w H s.heap dx (.xd fs) from I.hok dx _ efs)
    exact PySem.W.kia_one (zj0 Z) I.kIn ⟨ob,some od,h1,h2,by unfold PySem.W.notCls; rw [h4],by rw [h3]; exact hod⟩ hk (fun z=>nomatch z) fun tk=>⟨.bl b,H,I.tok _,rfl,q⟩
end
section
variable {P:Program} {w:World} {K:PySem.W.Frag} {mg:Str→Option Value} {base:Heap} {N:List Str} {qual:Str} {scope:Scope} {f:Addr} {cd:Value} {A:Around} {outer:List Env} {s0:Shared} {H0:Hp} {E:XK}
theorem zq1:Made (cx1 P w K mg base N qual scope f cd A outer s0 H0 E) (fun _=>E):=fun _ _ _ _ _ _ _ _ I hm os bare q=>znQ I hm os bare q
theorem zpm:zhG (CX1 P w) (cx1 P w K mg base N qual scope f cd A outer s0 H0 E) (fun _=>E):=fun _ _ _ _ _ _ I h=>znC I h
theorem zmj {X:Cx}:zdt (CX1 P w) X E0:=fun _ _ _ _ _ _ _ h=>by
  obtain ⟨_,_,_,_,_,_,z⟩:=h
  exact z.elim
theorem Fun.ok1 {x qual:Str} {st:Stmt} {f:Addr} {fd:FuncData} {N ps:List Str} {k:Nat} {sp:Sp} (F:Fun K x qual st f fd) (S:FnScope N ps (zaj st)) (len:∀ vs H Q E,sp vs H Q E→vs.length=ps.length)
    (hbody:∀ (cdv:Value) (A:Around) (outer:List Env) (s:Shared) (H:Hp) (vs:List V) (Q:VK) (E:XK),Room k (A.deeper (envOfC qual (zaj st) s.heap.objs.size f cdv))→sp vs H Q E →
      ∃ t,PSs (cx1 P w K mg base N qual (zaj st) f cdv A outer s H E) (zb6 st) t∧t { nx:=fun _ H'=>Q .non H',rt:=Q } (start N vs) H):FnOk P w K mg base (CX1 P w) (k + 1) f fd ps sp:=by
  obtain ⟨oc,od,kV,doc,pm,an,cdv,ct,osl,rfl,lk,hcd⟩:=F.ex
  exact zpr lk hcd S len fun A outer s H vs Q E hr hsp=>hbody cdv A outer s H vs Q E hr hsp
end
end L2
namespace PM
open PySem L2
inductive D where
  | non | bl (b:Bool) | int (i:Int) | str (x:Str) | tup (l:List D) | lst (l:List D) | dct (ks:List Key) (l:List D) | scr (l:List Int) | exc (c:Nat) | fd (ks:List Key) (l:List D) | obj (c:Nat) (ks:List Str) (l:List D)
structure Kx where
  f:W.Frag
  ca:Nat→Addr
  an:Nat→Str
def XA (K:Kx) (F:Hp) (c:Nat) (dct:Option Addr):Prop:=if c < 16 then dct=none else ∃ dx,dct=some dx∧F dx=some (.xd [(K.an c,.int (((c / 16:Nat):Int) - 1))])
section
variable (K:Kx)
mutual
def Rep (F:Hp):D→V→Prop
  | .non,v=>v = .non
  | .bl b,v=>v = .bl b
  | .int i,v=>v = .int i
  | .str x,v=>v = .str x
  | .scr l,v=>∃ a,v = .ref a∧SqL K.f F a (l.map V.int)
  | .exc c,v=>∃ a dct,v = .ref a∧F a=some (excO (K.ca c) dct a)∧XA K F c dct
  | .tup l,v=>∃ a vs,v = .ref a∧F a=some (.tup vs)∧RepL F l vs
  | .fd ks l,v=>∃ a o kvs,v = .ref a∧F a=some (.frz o (.dK kvs))∧kvs.map (·.1)=ks∧RepL F l (kvs.map (·.2))
  | .obj c ks l,v=>∃ a dx fs,v = .ref a∧F a=some (.ins (K.ca c) dx fs)∧fs.map (·.1)=ks∧RepL F l (fs.map (·.2))
  | .lst l,v=>∃ a vs,v = .ref a∧Rd F a (.lst vs)∧RepL F l vs
  | .dct ks l,v=>∃ a kvs,v = .ref a∧F a=some (.dK kvs)∧kvs.map (·.1)=ks∧RepL F l (kvs.map (·.2))
def RepL (F:Hp):List D→List V→Prop
  | [],vs=>vs = []
  | d :: l,vs=>∃ v r,vs=v :: r∧Rep F d v∧RepL F l r
end
end
def ifC {α:Type} (p:Prop) (a b:α):α:=@ite α p (Classical.propDecidable p) a b
@[simp] theorem zb7 {α:Type} {p:Prop} {a b:α} (h:p):ifC p a b=a:=if_pos h
theorem zoG {α:Type} {p:Prop} {a b:α} (h:¬ p):ifC p a b=b:=if_neg h
structure Xc where
  c:Nat
inductive R (α:Type) where
  | no | ok (a:α) | ex (x:Xc)
namespace R
def bind {α β:Type}:R α→(α→R β)→R β
  | .no,_=>.no
  | .ok a,f=>f a
  | .ex x,_=>.ex x
@[simp] theorem bind_ok {α β:Type} (a:α) (f:α→R β):(R.ok a).bind f=f a:=rfl
@[simp] theorem zrc {α β:Type} (f:α→R β):(R.no:R α).bind f = .no:=rfl
@[simp] theorem zq6 {α β:Type} (x:Xc) (f:α→R β):(R.ex x:R α).bind f = .ex x:=rfl
end R
inductive Sl where
  | no | v (d:D) | o (d:D) | l (d:D) | p (ll:List (List Int))
abbrev En:=List Sl
inductive O where
  | no | nx (δ:En) | rt (d:D) | ro (d:D) | bk (δ:En) | ct (δ:En) | ex (δ:En) (x:Xc)
structure Ext (F H F' H':Hp):Prop where
  ff:Same F F'
  hh:Same H H'
  fh:Same F' H'
  nw:∀ p o,F p=none→H p=some o→F' p=none
theorem Ext.refl {F H:Hp} (s:Same F H):Ext F H F H:=⟨.refl _,.refl _,s,fun _ _ h _=>h⟩
theorem Ext.trans {F H F1 H1 F2 H2:Hp} (a:Ext F H F1 H1) (b:Ext F1 H1 F2 H2):Ext F H F2 H2 :=
  ⟨a.ff.trans b.ff,a.hh.trans b.hh,b.fh,fun p o h1 h2=>b.nw p o (a.nw p o h1 h2) (a.hh p o h2)⟩
theorem Ext.new {F H:Hp} {p:Addr} {o:HO} (s:Same F H) (h:H p=none):Ext F H (upd F p o) (upd H p o):=by
  have hf:=s.free h
  refine ⟨Same.upd hf,Same.upd h,fun b u q=>?_,fun q u h1 h2=>?_⟩
  · by_cases e:b=p
    · subst e; rw [zal] at q ⊢; exact q
    · rw [zai e] at q ⊢; exact s _ _ q
  · rw [zai (zah h2 h)]; exact h1
theorem Ext.newO {F H:Hp} {p:Addr} {o:HO} (s:Same F H) (h:H p=none):Ext F H F (upd H p o):=by
  refine ⟨.refl _,Same.upd h,s.trans (Same.upd h),fun q u h1 h2=>h1⟩
theorem Same.rd {H H':Hp} {a:Addr} {u:HO} (e:Same H H') (h:Rd H a u):Rd H' a u:=h.elim (fun h=>.inl (e _ _ h)) fun ⟨o,h⟩=>.inr ⟨o,e _ _ h⟩
section
variable {K:Kx} {F F' H H':Hp}
theorem XA.mono {c:Nat} {dct:Option Addr} (h:XA K F c dct) (e:Same F F'):XA K F' c dct:=by
  unfold XA at h ⊢
  split
  · rename_i hc; rw [if_pos hc] at h; exact h
  · rename_i hc
    rw [if_neg hc] at h
    obtain ⟨dx,h1,h2⟩:=h
    exact ⟨dx,h1,e _ _ h2⟩
mutual
theorem Rep.mono (e:Same F F'):∀ (d:D) {v:V},Rep K F d v→Rep K F' d v
  | .non,v,h=>by simpa only [Rep] using h
  | .bl b,v,h=>by simpa only [Rep] using h
  | .int b,v,h=>by simpa only [Rep] using h
  | .str b,v,h=>by simpa only [Rep] using h
  | .exc c,v,h=>by
    simp only [Rep] at h ⊢
    obtain ⟨a,dct,h1,h2,h3⟩:=h
    exact ⟨a,dct,h1,e _ _ h2,h3.mono e⟩
  | .fd ks l,v,h=>by
    simp only [Rep] at h ⊢
    obtain ⟨a,o,vs,h1,h2,h0,h3⟩:=h
    exact ⟨a,o,vs,h1,e _ _ h2,h0,RepL.mono e l h3⟩
  | .obj c ks l,v,h=>by
    simp only [Rep] at h ⊢
    obtain ⟨a,o,vs,h1,h2,h0,h3⟩:=h
    exact ⟨a,o,vs,h1,e _ _ h2,h0,RepL.mono e l h3⟩
  | .scr l,v,h=>by
    simp only [Rep] at h ⊢
    obtain ⟨a,h1,h2⟩:=h
    exact ⟨a,h1,e.seq h2⟩
  | .tup l,v,h=>by
    simp only [Rep] at h ⊢
    obtain ⟨a,vs,h1,h2,h3⟩:=h
    exact ⟨a,vs,h1,e _ _ h2,RepL.mono e l h3⟩
  | .lst l,v,h=>by
    simp only [Rep] at h ⊢
    obtain ⟨a,vs,h1,h2,h3⟩:=h
    exact ⟨a,vs,h1,PM.Same.rd e h2,RepL.mono e l h3⟩
  | .dct ks l,v,h=>by
    simp only [Rep] at h ⊢
    obtain ⟨a,vs,h1,h2,h0,h3⟩:=h
    exact ⟨a,vs,h1,e _ _ h2,h0,RepL.mono e l h3⟩
theorem RepL.mono (e:Same F F'):∀ (l:List D) {vs:List V},RepL K F l vs→RepL K F' l vs
  | [],vs,h=>by simpa only [RepL] using h
  | d :: l,vs,h=>by
    simp only [RepL] at h ⊢
    obtain ⟨v,r,h1,h2,h3⟩:=h
    exact ⟨v,r,h1,Rep.mono e d h2,RepL.mono e l h3⟩
end
theorem RepL.length:∀ {l:List D} {vs:List V},RepL K F l vs→vs.length=l.length
  | [],vs,h=>by simp only [RepL] at h; subst h; rfl
  | d :: l,vs,h=>by
    simp only [RepL] at h
    obtain ⟨v,r,rfl,_,h3⟩:=h
    simp [RepL.length h3]
theorem RepL.get:∀ {l:List D} {vs:List V} {i:Nat} {d:D},RepL K F l vs→l[i]?=some d→∃ v,vs[i]?=some v∧Rep K F d v
  | [],vs,i,d,h,e=>by simp at e
  | x :: l,vs,0,d,h,e=>by
    simp only [RepL] at h
    obtain ⟨v,r,rfl,h2,h3⟩:=h
    simp at e; subst e
    exact ⟨v,rfl,h2⟩
  | x :: l,vs,i + 1,d,h,e=>by
    simp only [RepL] at h
    obtain ⟨v,r,rfl,h2,h3⟩:=h
    obtain ⟨u,h4,h5⟩:=RepL.get h3 (i:=i) (d:=d) (by simpa using e)
    exact ⟨u,by simpa using h4,h5⟩
theorem RepL.nil:RepL K F [] []:=by simp only [RepL]
theorem RepL.cons {d:D} {l:List D} {v:V} {vs:List V} (h1:Rep K F d v) (h2:RepL K F l vs):RepL K F (d :: l) (v :: vs):=by
  simp only [RepL]; exact ⟨v,vs,rfl,h1,h2⟩
theorem RepL.append:∀ {l:List D} {vs:List V} {l':List D} {vs':List V},RepL K F l vs→RepL K F l' vs'→RepL K F (l ++ l') (vs ++ vs')
  | [],vs,l',vs',h,h'=>by simp only [RepL] at h; subst h; exact h'
  | d :: l,vs,l',vs',h,h'=>by
    simp only [RepL] at h
    obtain ⟨v,r,rfl,h2,h3⟩:=h
    exact .cons h2 (RepL.append h3 h')
theorem RepL.drop:∀ {l:List D} {vs:List V} (n:Nat),RepL K F l vs→RepL K F (l.drop n) (vs.drop n)
  | l,vs,0,h=>h
  | [],vs,n + 1,h=>by simp only [RepL] at h; subst h; exact .nil
  | d :: l,vs,n + 1,h=>by
    simp only [RepL] at h
    obtain ⟨v,r,rfl,h2,h3⟩:=h
    exact RepL.drop n h3
theorem RepL.take:∀ {l:List D} {vs:List V} (n:Nat),RepL K F l vs→RepL K F (l.take n) (vs.take n)
  | l,vs,0,h=>by simpa using RepL.nil
  | [],vs,n + 1,h=>by simp only [RepL] at h; subst h; exact .nil
  | d :: l,vs,n + 1,h=>by
    simp only [RepL] at h
    obtain ⟨v,r,rfl,h2,h3⟩:=h
    exact .cons h2 (RepL.take n h3)
theorem RepL.set:∀ {l:List D} {vs:List V} {d:D} {v:V} (i:Nat),RepL K F l vs→Rep K F d v→RepL K F (l.set i d) (vs.set i v)
  | [],vs,d,v,i,h,_=>by simp only [RepL] at h; subst h; exact .nil
  | x :: l,vs,d,v,0,h,h'=>by
    simp only [RepL] at h
    obtain ⟨u,r,rfl,h2,h3⟩:=h
    exact .cons h' h3
  | x :: l,vs,d,v,i + 1,h,h'=>by
    simp only [RepL] at h
    obtain ⟨u,r,rfl,h2,h3⟩:=h
    exact .cons h2 (RepL.set i h3 h')
theorem RepL.ints {ns:List Int}:RepL K F (ns.map .int) (ns.map .int):=by
  induction ns with
  | nil=>exact .nil
  | cons a l ih=>exact .cons rfl ih
end
section
variable (K:Kx)
def Top (F H:Hp):D→V→Prop
  | .lst l,v=>∃ a vs,v = .ref a∧Rd H a (.lst vs)∧RepL K F l vs
  | .dct ks l,v=>∃ a kvs,v = .ref a∧H a=some (.dK kvs)∧kvs.map (·.1)=ks∧RepL K F l (kvs.map (·.2))
  | .obj c ks l,v=>∃ a dx fs,v = .ref a∧H a=some (.ins (K.ca c) dx fs)∧fs.map (·.1)=ks∧RepL K F l (fs.map (·.2))
  | d,v=>Rep K F d v
def Own (F H:Hp):D→Addr→Prop
  | .lst l,a=>∃ vs,H a=some (.lst vs)∧RepL K F l vs
  | .dct ks l,a=>∃ kvs,H a=some (.dK kvs)∧kvs.map (·.1)=ks∧RepL K F l (kvs.map (·.2))
  | .obj c ks l,a=>∃ dx fs,H a=some (.ins (K.ca c) dx fs)∧fs.map (·.1)=ks∧RepL K F l (fs.map (·.2))
  | _,_=>False
structure Tab (H:Hp) (a:Addr) (bs:List Addr) (ll:List (List Int)):Prop where
  top:H a=some (.lst (bs.map .ref))
  len:bs.length=ll.length
  row:∀ (i:Nat) (b:Addr) (l:List Int),bs[i]?=some b→ll[i]?=some l→H b=some (.lst (l.map .int))
  nd:(a :: bs).Nodup
def SlOk (H0 F H:Hp):Option Sl→Option (Option V)→Prop
  | some (.v d),s=>∃ u,s=some (some u)∧Rep K F d u
  | some (.o d),s=>∃ a,s=some (some (.ref a))∧H0 a=none∧F a=none∧Own K F H d a
  | some (.l d),s=>∃ a,s=some (some (.ref a))∧H0 a=none∧F a=none∧Own K F H d a
  | some (.p ll),s=>∃ a bs,s=some (some (.ref a))∧Tab H a bs ll∧∀ b ∈ a :: bs,H0 b=none∧F b=none
  | _,_=>True
end
def Sl.own:Option Sl→Bool
  | some (.o _)=>true
  | some (.l _)=>true
  | some (.p _)=>true
  | _=>false
structure EnvOk (K:Kx) (Λ:List (Nat × Addr × HO)) (F0 H0 F H:Hp) (σ:St) (δ:En):Prop where
  ext:Ext F0 H0 F H
  len:σ.length=δ.length
  slot:∀ i:Nat,SlOk K H0 F H δ[i]? σ[i]?
  dist:∀ (i j:Nat) (a:Addr),i ≠ j→Sl.own δ[i]?=true→Sl.own δ[j]?=true→σ[i]?=some (some (.ref a))→σ[j]?=some (some (.ref a))→False
  lent:∀ x ∈ Λ,(∃ d,δ[x.1]?=some (.l d))∧σ[x.1]?=some (some (.ref x.2.1))∧H x.2.1=some x.2.2
  tabs:∀ (i:Nat) (ll:List (List Int)) (a:Addr) (vs:List V),δ[i]?=some (.p ll)→σ[i]?=some (some (.ref a))→H a=some (.lst vs)→(∀ (j:Nat) (b:Addr),j ≠ i→Sl.own δ[j]?=true→σ[j]?=some (some (.ref b))→V.ref b ∉ vs)∧∀ (j:Nat) (ll':List (List Int)),δ[j]?=some (.p ll')→j=i
section
variable {K:Kx} {Λ:List (Nat × Addr × HO)} {F0 H0 F H F' H' F1 H1:Hp} {σ:St} {δ:En}
theorem Own.mono (e1:Same F F') (e2:Same H H'):∀ {d:D} {a:Addr},Own K F H d a→Own K F' H' d a
  | .lst l,a,h=>let ⟨vs,h1,h2⟩:=h; ⟨vs,e2 _ _ h1,h2.mono e1⟩
  | .dct ks l,a,h=>let ⟨vs,h1,h0,h2⟩:=h; ⟨vs,e2 _ _ h1,h0,h2.mono e1⟩
  | .non,_,h=>h.elim
  | .bl _,_,h=>h.elim
  | .int _,_,h=>h.elim
  | .str _,_,h=>h.elim
  | .tup _,_,h=>h.elim
  | .scr _,_,h=>h.elim
  | .exc _,_,h=>h.elim
  | .fd _ _,_,h=>h.elim
  | .obj c ks l,a,h=>let ⟨dx,vs,h1,h0,h2⟩:=h; ⟨dx,vs,e2 _ _ h1,h0,h2.mono e1⟩
theorem Own.obj:∀ {d:D} {a:Addr},Own K F H d a→∃ o,H a=some o
  | .lst l,a,h=>let ⟨vs,h1,h2⟩:=h; ⟨_,h1⟩
  | .dct ks l,a,h=>let ⟨vs,h1,h2⟩:=h; ⟨_,h1⟩
  | .non,_,h=>h.elim
  | .bl _,_,h=>h.elim
  | .int _,_,h=>h.elim
  | .str _,_,h=>h.elim
  | .tup _,_,h=>h.elim
  | .scr _,_,h=>h.elim
  | .exc _,_,h=>h.elim
  | .fd _ _,_,h=>h.elim
  | .obj c ks l,a,h=>let ⟨dx,vs,h1,h2⟩:=h; ⟨_,h1⟩
theorem Own.at (e:H' a=H a):∀ {d:D},Own K F H d a→Own K F H' d a
  | .lst l,h=>let ⟨vs,h1,h2⟩:=h; ⟨vs,e.trans h1,h2⟩
  | .dct ks l,h=>let ⟨vs,h1,h0,h2⟩:=h; ⟨vs,e.trans h1,h0,h2⟩
  | .non,h=>h.elim
  | .bl _,h=>h.elim
  | .int _,h=>h.elim
  | .str _,h=>h.elim
  | .tup _,h=>h.elim
  | .scr _,h=>h.elim
  | .exc _,h=>h.elim
  | .fd _ _,h=>h.elim
  | .obj c ks l,h=>let ⟨dx,vs,h1,h0,h2⟩:=h; ⟨dx,vs,e.trans h1,h0,h2⟩
theorem Rep.top (s:Same F H):∀ {d:D} {v:V},Rep K F d v→Top K F H d v
  | .lst l,v,h=>by
    simp only [Rep] at h
    obtain ⟨a,vs,h1,h2,h3⟩:=h
    exact ⟨a,vs,h1,PM.Same.rd s h2,h3⟩
  | .dct ks l,v,h=>by
    simp only [Rep] at h
    obtain ⟨a,vs,h1,h2,h3⟩:=h
    exact ⟨a,vs,h1,s _ _ h2,h3⟩
  | .non,_,h=>h
  | .bl _,_,h=>h
  | .int _,_,h=>h
  | .str _,_,h=>h
  | .tup _,_,h=>h
  | .scr _,_,h=>h
  | .exc _,_,h=>h
  | .fd _ _,_,h=>h
  | .obj c ks l,v,h=>by
    simp only [Rep] at h
    obtain ⟨a,dx,vs,h1,h2,h3⟩:=h
    exact ⟨a,dx,vs,h1,s _ _ h2,h3⟩
theorem Own.top:∀ {d:D} {a:Addr},Own K F H d a→Top K F H d (.ref a)
  | .lst l,a,h=>let ⟨vs,h1,h2⟩:=h; ⟨a,vs,rfl,.inl h1,h2⟩
  | .dct ks l,a,h=>let ⟨vs,h1,h2⟩:=h; ⟨a,vs,rfl,h1,h2⟩
  | .non,_,h=>h.elim
  | .bl _,_,h=>h.elim
  | .int _,_,h=>h.elim
  | .str _,_,h=>h.elim
  | .tup _,_,h=>h.elim
  | .scr _,_,h=>h.elim
  | .exc _,_,h=>h.elim
  | .fd _ _,_,h=>h.elim
  | .obj c ks l,a,h=>let ⟨dx,vs,h1,h2⟩:=h; ⟨a,dx,vs,rfl,h1,h2⟩
theorem Top.mono (e1:Same F F') (e2:Same H H'):∀ {d:D} {v:V},Top K F H d v→Top K F' H' d v
  | .lst l,v,h=>let ⟨a,vs,h1,h2,h3⟩:=h; ⟨a,vs,h1,PM.Same.rd e2 h2,h3.mono e1⟩
  | .dct ks l,v,h=>let ⟨a,vs,h1,h2,h0,h3⟩:=h; ⟨a,vs,h1,e2 _ _ h2,h0,h3.mono e1⟩
  | .non,_,h=>h
  | .bl _,_,h=>h
  | .int _,_,h=>h
  | .str _,_,h=>h
  | .tup l,v,h=>Rep.mono e1 (.tup l) h
  | .scr l,v,h=>Rep.mono e1 (.scr l) h
  | .exc l,v,h=>Rep.mono e1 (.exc l) h
  | .fd ks l,v,h=>Rep.mono e1 (.fd ks l) h
  | .obj c ks l,v,h=>let ⟨a,dx,vs,h1,h2,h0,h3⟩:=h; ⟨a,dx,vs,h1,e2 _ _ h2,h0,h3.mono e1⟩
theorem Own.freeze {p:Addr} {d:D} (x:Ext F H F' H') (h0:F' p=none) (h1:H p=none) (o:Own K F' H' d p):∃ F'',Ext F H F'' H'∧Same F' F''∧Rep K F'' d (.ref p):=by
  obtain ⟨u,hu⟩:=o.obj
  have hs:Same F' (upd F' p u):=Same.upd h0
  refine ⟨upd F' p u,⟨x.ff.trans hs,x.hh,fun b w q=>?_,fun q w h2 h3=>?_⟩,hs,?_⟩
  · by_cases e:b=p
    · subst e; rw [zal] at q; cases q; exact hu
    · rw [zai e] at q; exact x.fh _ _ q
  · rw [zai (zah h3 h1)]; exact x.nw q w h2 h3
  · cases d with
    | lst l =>
      obtain ⟨vs,h2,h3⟩:=o
      rw [hu] at h2; cases h2
      simp only [Rep]
      exact ⟨p,vs,rfl,.inl zal,h3.mono hs⟩
    | dct ks l =>
      obtain ⟨vs,h2,h3,h4⟩:=o
      rw [hu] at h2; cases h2
      simp only [Rep]
      exact ⟨p,vs,rfl,zal,h3,h4.mono hs⟩
    | obj c ks l =>
      obtain ⟨dx,vs,h2,h3,h4⟩:=o
      rw [hu] at h2; cases h2
      simp only [Rep]
      exact ⟨p,dx,vs,rfl,zal,h3,h4.mono hs⟩
    | _=>exact o.elim
theorem Tab.mono {a:Addr} {bs:List Addr} {ll:List (List Int)} (e:Same H H') (t:Tab H a bs ll):Tab H' a bs ll:=⟨e _ _ t.top,t.len,fun i b l h1 h2=>e _ _ (t.row i b l h1 h2),t.nd⟩
theorem Tab.obj {a:Addr} {bs:List Addr} {ll:List (List Int)} (t:Tab H a bs ll):∀ b ∈ a :: bs,∃ o,H b=some o:=fun b hb=>by
  rcases List.mem_cons.mp hb with rfl | hb
  · exact ⟨_,t.top⟩
  · obtain ⟨i,hi,e⟩:=List.getElem_of_mem hb
    have hl:i < ll.length:=by rw [← t.len]; exact hi
    exact ⟨_,t.row i b ll[i] (by rw [List.getElem?_eq_getElem hi,e]) (List.getElem?_eq_getElem hl)⟩
theorem Tab.at' {a:Addr} {bs:List Addr} {ll:List (List Int)} (t:Tab H a bs ll) (e:∀ b ∈ a :: bs,H' b=H b):Tab H' a bs ll :=
  ⟨(e a (by simp)).trans t.top,t.len,fun i b l h1 h2=>(e b (List.mem_cons_of_mem _ (List.mem_of_getElem? h1))).trans (t.row i b l h1 h2),t.nd⟩
theorem refs_mem {bs:List Addr} {b:Addr}:V.ref b ∈ bs.map V.ref ↔ b ∈ bs:=by
  constructor
  · intro h
    obtain ⟨c,hc,e⟩:=List.mem_map.mp h
    cases e; exact hc
  · exact fun h=>List.mem_map.mpr ⟨b,h,rfl⟩
theorem SlOk.mono (e:Ext F H F' H'):∀ {x:Option Sl} {s:Option (Option V)},SlOk K H0 F H x s→SlOk K H0 F' H' x s
  | some (.v d),s,h=>let ⟨u,h1,h2⟩:=h; ⟨u,h1,Rep.mono e.ff d h2⟩
  | some (.o d),s,h=>let ⟨a,h1,h2,h3,h4⟩:=h; let ⟨o,ho⟩:=h4.obj; ⟨a,h1,h2,e.nw a o h3 ho,h4.mono e.ff e.hh⟩
  | some (.l d),s,h=>let ⟨a,h1,h2,h3,h4⟩:=h; let ⟨o,ho⟩:=h4.obj; ⟨a,h1,h2,e.nw a o h3 ho,h4.mono e.ff e.hh⟩
  | some (.p ll),s,h=>let ⟨a,bs,h1,h2,h3⟩:=h; ⟨a,bs,h1,h2.mono e.hh,fun b hb=>let ⟨o,ho⟩:=h2.obj b hb; ⟨(h3 b hb).1,e.nw b o (h3 b hb).2 ho⟩⟩
  | some .no,_,_=>trivial
  | none,_,_=>trivial
theorem EnvOk.tab (I:EnvOk K Λ F0 H0 F H σ δ) {i:Nat} {ll:List (List Int)} (hx:δ[i]?=some (.p ll)):∃ a bs,σ[i]?=some (some (.ref a))∧Tab H a bs ll∧(∀ b ∈ a :: bs,H0 b=none∧F b=none)∧(∀ (j:Nat) (b:Addr),j ≠ i→Sl.own δ[j]?=true→σ[j]?=some (some (.ref b))→b ∉ a :: bs)∧∀ (j:Nat) (ll':List (List Int)),δ[j]?=some (.p ll')→j=i:=by
  have z:=I.slot i
  rw [hx] at z
  obtain ⟨a,bs,h1,h2,h3⟩:=z
  obtain ⟨t1,t2⟩:=I.tabs i ll a _ hx h1 h2.top
  refine ⟨a,bs,h1,h2,h3,fun j b hj ho hs hb=>?_,t2⟩
  rcases List.mem_cons.mp hb with e | hb
  · subst e
    exact I.dist i j b (Ne.symm hj) (by rw [hx]; rfl) ho h1 hs
  · exact t1 j b hj ho hs (refs_mem.mpr hb)
theorem EnvOk.tabsOf {δ':En} {σ':St} (I:EnvOk K Λ F0 H0 F H σ δ) (h1:∀ (i:Nat) (ll:List (List Int)),δ'[i]?=some (.p ll)→δ[i]?=some (.p ll)∧σ'[i]?=σ[i]?) (h2:∀ (i:Nat) (a:Addr) (ll:List (List Int)),δ[i]?=some (.p ll)→σ[i]?=some (some (.ref a))→H' a=H a)
    (h3:∀ (i j:Nat) (ll:List (List Int)) (a b:Addr) (bs:List Addr),δ[i]?=some (.p ll)→σ[i]?=some (some (.ref a))→Tab H a bs ll→j ≠ i→Sl.own δ'[j]?=true→σ'[j]?=some (some (.ref b))→(Sl.own δ[j]?=true∧σ[j]?=some (some (.ref b)))∨b ∉ bs) :
    ∀ (i:Nat) (ll:List (List Int)) (a:Addr) (vs:List V),δ'[i]?=some (.p ll)→σ'[i]?=some (some (.ref a))→H' a=some (.lst vs)→(∀ (j:Nat) (b:Addr),j ≠ i→Sl.own δ'[j]?=true→σ'[j]?=some (some (.ref b))→V.ref b ∉ vs)∧∀ (j:Nat) (ll':List (List Int)),δ'[j]?=some (.p ll')→j=i:=by
  intro i ll a vs g1 g2 g3
  obtain ⟨d1,d2⟩:=h1 i ll g1
  rw [d2] at g2
  obtain ⟨a',bs,t1,t2,t3,t4,t5⟩:=I.tab d1
  rw [g2] at t1; cases t1
  rw [h2 i a ll d1 g2,t2.top] at g3; cases g3
  refine ⟨fun j b hj ho hs hb=>?_,fun j ll' hj=>t5 j ll' (h1 j ll' hj).1⟩
  rcases h3 i j ll a b bs d1 g2 t2 hj ho hs with ⟨o1,o2⟩ | o
  · exact t4 j b hj o1 o2 (List.mem_cons_of_mem _ (refs_mem.mp hb))
  · exact o (refs_mem.mp hb)
theorem EnvOk.grow (I:EnvOk K Λ F0 H0 F H σ δ) (e:Ext F H F' H'):EnvOk K Λ F0 H0 F' H' σ δ :=
  ⟨I.ext.trans e,I.len,fun i=>(I.slot i).mono e,I.dist,fun x hx=>let ⟨h1,h2,h3⟩:=I.lent x hx; ⟨h1,h2,e.hh _ _ h3⟩,I.tabsOf (fun i ll h=>⟨h,rfl⟩) (fun i a ll h1 h2=>by
    obtain ⟨a',bs,t1,t2,_⟩:=I.tab h1
    rw [h2] at t1; cases t1
    rw [t2.top,e.hh _ _ t2.top]) fun i j ll a b bs _ _ _ _ ho hs=>.inl ⟨ho,hs⟩⟩
theorem EnvOk.same (I:EnvOk K Λ F0 H0 F H σ δ):Same F H:=I.ext.fh
theorem Ext.base (a:Ext F0 H0 F1 H1) (b:Ext F1 H0 F' H'):Ext F0 H0 F' H' :=
  ⟨a.ff.trans b.ff,b.hh,b.fh,fun p o h1 h2=>b.nw p o (a.nw p o h1 h2) h2⟩
theorem EnvOk.up (I:EnvOk K Λ F0 H0 F H σ δ):EnvOk K Λ F H0 F H σ δ :=
  ⟨⟨.refl _,I.ext.hh,I.ext.fh,fun p o h1 h2=>h1⟩,I.len,I.slot,I.dist,I.lent,I.tabs⟩
theorem EnvOk.down (a:Ext F0 H0 F1 H1) (I:EnvOk K Λ F1 H0 F H σ δ):EnvOk K Λ F0 H0 F H σ δ :=
  ⟨a.base I.ext,I.len,I.slot,I.dist,I.lent,I.tabs⟩
theorem EnvOk.put {i:Nat} {d:D} {v:V} (I:EnvOk K Λ F0 H0 F H σ δ) (hl:∃ x,δ[i]?=some x∧∀ d,x ≠ .l d) (r:Rep K F d v):EnvOk K Λ F0 H0 F H (σ.set i (some v)) (δ.set i (.v d)):=by
  obtain ⟨x,hx,hn⟩:=hl
  have hi:i < δ.length:=(List.getElem?_eq_some_iff.mp hx).1
  have hi':i < σ.length:=by rw [I.len]; exact hi
  refine ⟨I.ext,by simp [I.len],fun j=>?_,fun j k a hjk h1 h2 h3 h4=>?_,fun y hy=>?_,I.tabsOf (fun k ll h=>by
      by_cases e:i=k
      · subst e; rw [List.getElem?_set_self hi] at h; cases h
      · rw [List.getElem?_set_ne e] at h; exact ⟨h,List.getElem?_set_ne e⟩) (fun _ _ _ _ _=>rfl) fun k j ll a b bs _ _ _ _ ho hs=>.inl (by
      by_cases e:i=j
      · subst e; rw [List.getElem?_set_self hi] at ho; cases ho
      · rw [List.getElem?_set_ne e] at ho hs; exact ⟨ho,hs⟩)⟩
  · by_cases e:i=j
    · subst e
      rw [List.getElem?_set_self hi,List.getElem?_set_self hi']
      exact ⟨v,rfl,r⟩
    · rw [List.getElem?_set_ne e,List.getElem?_set_ne e]
      exact I.slot j
  · have ne:∀ k:Nat,Sl.own (δ.set i (.v d))[k]?=true→i ≠ k:=by
      rintro k h rfl
      rw [List.getElem?_set_self hi] at h
      cases h
    have n1:=ne j h1
    have n2:=ne k h2
    rw [List.getElem?_set_ne n1] at h1 h3
    rw [List.getElem?_set_ne n2] at h2 h4
    exact I.dist j k a hjk h1 h2 h3 h4
  · obtain ⟨⟨d',h1⟩,h2,h3⟩:=I.lent y hy
    have n:i ≠ y.1:=by
      intro e
      rw [← e,hx] at h1
      exact hn d' (Option.some.inj h1)
    exact ⟨⟨d',by rw [List.getElem?_set_ne n]; exact h1⟩,by rw [List.getElem?_set_ne n]; exact h2,h3⟩
theorem EnvOk.putO {i:Nat} {d:D} {p:Addr} (I:EnvOk K Λ F0 H0 F H σ δ) (hl:∃ x,δ[i]?=some x∧∀ d,x ≠ .l d) (e:Ext F H F' H') (h0:F' p=none) (h1:H p=none) (o:Own K F' H' d p) :
    EnvOk K Λ F0 H0 F' H' (σ.set i (some (.ref p))) (δ.set i (.o d)):=by
  obtain ⟨x,hx,hn⟩:=hl
  have hi:i < δ.length:=(List.getElem?_eq_some_iff.mp hx).1
  have hi':i < σ.length:=by rw [I.len]; exact hi
  have fresh:∀ k:Nat,Sl.own δ[k]?=true→σ[k]? ≠ some (some (V.ref p)):=fun k hk e=>by
    have z:=I.slot k
    cases q:δ[k]? with
    | none=>rw [q] at hk; cases hk
    | some y =>
      rw [q] at hk z
      cases y with
      | no=>cases hk
      | v d=>cases hk
      | o d =>
        obtain ⟨a,z1,_,_,z4⟩:=z
        rw [e] at z1; cases z1
        obtain ⟨u,hu⟩:=z4.obj
        rw [h1] at hu; cases hu
      | l d =>
        obtain ⟨a,z1,_,_,z4⟩:=z
        rw [e] at z1; cases z1
        obtain ⟨u,hu⟩:=z4.obj
        rw [h1] at hu; cases hu
      | p ll =>
        obtain ⟨a,bs,z1,z2,_⟩:=z
        rw [e] at z1; cases z1
        rw [z2.top] at h1; cases h1
  have J:=I.grow e
  refine ⟨J.ext,by simp [I.len],fun j=>?_,fun j k a hjk g1 g2 g3 g4=>?_,fun y hy=>?_,I.tabsOf (fun k ll h=>by
      by_cases e:i=k
      · subst e; rw [List.getElem?_set_self hi] at h; cases h
      · rw [List.getElem?_set_ne e] at h; exact ⟨h,List.getElem?_set_ne e⟩) (fun k a ll g1 g2=>by
      obtain ⟨a',bs,t1,t2,_⟩:=I.tab g1
      rw [g2] at t1; cases t1
      rw [t2.top,e.hh _ _ t2.top]) fun k j ll a b bs _ _ t _ ho hs=>by
      by_cases e:i=j
      · subst e
        rw [List.getElem?_set_self hi'] at hs
        cases hs
        refine .inr fun hb=>?_
        obtain ⟨u,hu⟩:=t.obj p (List.mem_cons_of_mem _ hb)
        rw [h1] at hu; cases hu
      · rw [List.getElem?_set_ne e] at ho hs; exact .inl ⟨ho,hs⟩⟩
  · by_cases e:i=j
    · subst e
      rw [List.getElem?_set_self hi,List.getElem?_set_self hi']
      exact ⟨p,rfl,I.ext.hh.free h1,h0,o⟩
    · rw [List.getElem?_set_ne e,List.getElem?_set_ne e]
      exact J.slot j
  · by_cases e1:i=j
    · subst e1
      rw [List.getElem?_set_self hi'] at g3
      cases g3
      rw [List.getElem?_set_ne hjk] at g2 g4
      exact fresh k g2 g4
    · by_cases e2:i=k
      · subst e2
        rw [List.getElem?_set_self hi'] at g4
        cases g4
        rw [List.getElem?_set_ne e1] at g1 g3
        exact fresh j g1 g3
      · rw [List.getElem?_set_ne e1] at g1 g3
        rw [List.getElem?_set_ne e2] at g2 g4
        exact I.dist j k a hjk g1 g2 g3 g4
  · obtain ⟨⟨d',g1⟩,g2,g3⟩:=J.lent y hy
    have n:i ≠ y.1:=by
      intro e
      rw [← e,hx] at g1
      exact hn d' (Option.some.inj g1)
    exact ⟨⟨d',by rw [List.getElem?_set_ne n]; exact g1⟩,by rw [List.getElem?_set_ne n]; exact g2,g3⟩
theorem EnvOk.chg {i:Nat} {d d':D} {a:Addr} {u:HO} (I:EnvOk K Λ F0 H0 F H σ δ) (hx:δ[i]?=some (.o d)) (ha:σ[i]?=some (some (.ref a))) (o:Own K F (upd H a u) d' a) :
    EnvOk K Λ F0 H0 F (upd H a u) σ (δ.set i (.o d')):=by
  have hi:i < δ.length:=(List.getElem?_eq_some_iff.mp hx).1
  have z:=I.slot i
  rw [hx] at z
  obtain ⟨a',z1,z2,z3,z4⟩:=z
  rw [ha] at z1; cases z1
  have oth:∀ (k:Nat) (b:Addr),i ≠ k→Sl.own δ[k]?=true→σ[k]?=some (some (.ref b))→b ≠ a:=fun k b hk h1 h2 e=>by
    subst e
    exact I.dist i k b hk (by rw [hx]; rfl) h1 ha h2
  refine ⟨⟨I.ext.ff,fun b w q=>?_,fun b w q=>?_,I.ext.nw⟩,by simp [I.len],fun j=>?_,fun j k b hjk g1 g2 g3 g4=>?_,fun y hy=>?_,I.tabsOf (fun k ll h=>by
      by_cases e:i=k
      · subst e; rw [List.getElem?_set_self hi] at h; cases h
      · rw [List.getElem?_set_ne e] at h; exact ⟨h,rfl⟩) (fun k r ll g1 g2=>zai (by
      by_cases e:i=k
      · subst e; rw [hx] at g1; cases g1
      · exact oth k r e (by rw [g1]; rfl) g2)) fun k j ll r b bs _ _ _ _ ho hs=>.inl (by
      by_cases e:i=j
      · subst e; exact ⟨by rw [hx]; rfl,hs⟩
      · rw [List.getElem?_set_ne e] at ho; exact ⟨ho,hs⟩)⟩
  · rw [zai (zah q z2)]; exact I.ext.hh b w q
  · rw [zai (zah q z3)]; exact I.ext.fh b w q
  · by_cases e:i=j
    · subst e
      rw [List.getElem?_set_self hi]
      exact ⟨a,ha,z2,z3,o⟩
    · rw [List.getElem?_set_ne e]
      have w:=I.slot j
      cases q:δ[j]? with
      | none=>trivial
      | some y =>
        rw [q] at w
        cases y with
        | no=>trivial
        | v d=>exact w
        | o d =>
          obtain ⟨b,w1,w2,w3,w4⟩:=w
          exact ⟨b,w1,w2,w3,w4.at (zai (oth j b e (by rw [q]; rfl) w1))⟩
        | l d =>
          obtain ⟨b,w1,w2,w3,w4⟩:=w
          exact ⟨b,w1,w2,w3,w4.at (zai (oth j b e (by rw [q]; rfl) w1))⟩
        | p ll =>
          obtain ⟨r,bs,t1,t2,t3,t4,t5⟩:=I.tab q
          exact ⟨r,bs,t1,t2.at' fun b hb=>zai fun e'=>t4 i a e (by rw [hx]; rfl) ha (e' ▸ hb),t3⟩
  · have ow:∀ k:Nat,Sl.own (δ.set i (.o d'))[k]?=true→Sl.own δ[k]?=true:=by
      intro k h
      by_cases e:i=k
      · subst e; rw [hx]; rfl
      · rw [List.getElem?_set_ne e] at h; exact h
    exact I.dist j k b hjk (ow j g1) (ow k g2) g3 g4
  · obtain ⟨⟨d2,g1⟩,g2,g3⟩:=I.lent y hy
    have n:i ≠ y.1:=by
      intro e
      rw [← e,hx] at g1
      cases g1
    exact ⟨⟨d2,by rw [List.getElem?_set_ne n]; exact g1⟩,g2,by rw [zai (oth y.1 y.2.1 n (by rw [g1]; rfl) g2)]; exact g3⟩
end
end PM
namespace PM
open PySem L2
abbrev XOT:=Xc→Hp→Hp→Value→Option Addr→Prop
def Aft {α:Type} (E:St→XK) (XO:XOT) (σ:St) (F H:Hp) (P:α→Hp→Hp→Prop):R α→Prop
  | .no=>False
  | .ok a=>∀ F' H',Ext F H F' H'→P a F' H'
  | .ex x=>∀ C dct F' H',Ext F H F' H'→XO x F' H' C dct→E σ C dct H'
section
variable {E:St→XK} {XO:XOT} {σ:St} {F H F1 H1:Hp} {α β:Type} {P P':α→Hp→Hp→Prop}
theorem Aft.mono (e:Ext F H F1 H1):∀ {r:R α},Aft E XO σ F H P r→Aft E XO σ F1 H1 P r
  | .no,h=>h
  | .ok _,h=>fun F' H' e'=>h F' H' (e.trans e')
  | .ex _,h=>fun C dct F' H' e' x=>h C dct F' H' (e.trans e') x
theorem Aft.imp (i:∀ a F1 H1,Ext F H F1 H1→P a F1 H1→P' a F1 H1):∀ {r:R α},Aft E XO σ F H P r→Aft E XO σ F H P' r
  | .no,h=>h
  | .ok _,h=>fun F' H' e'=>i _ F' H' e' (h F' H' e')
  | .ex _,h=>h
theorem Aft.bind {P:β→Hp→Hp→Prop} {f:α→R β}:∀ {r:R α},Aft E XO σ F H P (r.bind f)→Aft E XO σ F H (fun a F1 H1=>Aft E XO σ F1 H1 P (f a)) r
  | .no,h=>h
  | .ok _,h=>fun F' H' e'=>Aft.mono e' h
  | .ex _,h=>h
end
inductive Prd (T:D→V→Prop):List D→List V→Prop where
  | nil:Prd T [] []
  | cons {d:D} {v:V} {ds:List D} {vs:List V}:T d v→Prd T ds vs→Prd T (d :: ds) (v :: vs)
section
variable (K:Kx) (XO:XOT) (E:St→XK)
def SE (t:TE) (m:En→R D):Prop:=∀ Λ F0 H0 F H σ δ Q,EnvOk K Λ F0 H0 F H σ δ→Aft E XO σ F H (fun d F' H'=>∀ v,Rep K F' d v→Q v H') (m δ)→t σ H Q
def SEr (t:TE) (m:En→R D):Prop:=∀ Λ F0 H0 F H σ δ Q,EnvOk K Λ F0 H0 F H σ δ→Aft E XO σ F H (fun d F' H'=>∀ v,Top K F' H' d v→Q v H') (m δ)→t σ H Q
def SEo (t:TE) (m:En→R D):Prop:=∀ Λ F0 H0 F H σ δ Q,EnvOk K Λ F0 H0 F H σ δ→Aft E XO σ F H (fun d F' H'=>∀ p,F' p=none→H p=none→Own K F' H' d p→Q (.ref p) H') (m δ)→t σ H Q
def ST (t:TT) (m:En→R Bool):Prop:=∀ Λ F0 H0 F H σ δ Q,EnvOk K Λ F0 H0 F H σ δ→Aft E XO σ F H (fun b _ H'=>Q b H') (m δ)→t σ H Q
def SA (t:TA) (m:En→R (List D)):Prop:=∀ Λ F0 H0 F H σ δ Q,EnvOk K Λ F0 H0 F H σ δ→Aft E XO σ F H (fun ds F' H'=>∀ vs,RepL K F' ds vs→Q vs H') (m δ)→t σ H Q
def SAr (t:TA) (m:En→R (List D)):Prop:=∀ Λ F0 H0 F H σ δ Q,EnvOk K Λ F0 H0 F H σ δ→Aft E XO σ F H (fun ds F' H'=>∀ vs,Prd (Top K F' H') ds vs→Q vs H') (m δ)→t σ H Q
end
section
variable {K:Kx} {XO:XOT} {E:St→XK} {t ta tb te:TE} {m ma mb me:En→R D}
theorem SE.r (h:SE K XO E t m):SEr K XO E t m:=fun Λ F0 H0 F H σ δ Q I a=>h Λ F0 H0 F H σ δ Q I (a.imp fun d F1 H1 e p v r=>p v (r.top e.fh))
theorem SEo.e (h:SEo K XO E t m):SE K XO E t m:=fun Λ F0 H0 F H σ δ Q I a=>h Λ F0 H0 F H σ δ Q I (by
  cases q:m δ with
  | no=>rw [q] at a; exact a
  | ex x=>rw [q] at a; exact a
  | ok d =>
    rw [q] at a
    intro F1 H1 e p h0 h1 o
    obtain ⟨F2,e2,s2,r⟩:=o.freeze e h0 h1
    exact a F2 H1 e2 _ r)
def mVar (i:Nat) (δ:En):R D:=match δ[i]? with | some (.v d)=>.ok d | _=>.no
def mRd (i:Nat) (δ:En):R D:=match δ[i]? with | some (.v d)=>.ok d | some (.o d)=>.ok d | some (.l d)=>.ok d | _=>.no
theorem zaf {i:Nat}:SE K XO E (tVar i) (mVar i):=by
  intro Λ F0 H0 F H σ δ Q I a
  unfold mVar at a
  have z:=I.slot i
  split at a
  · rename_i d q
    rw [q] at z
    obtain ⟨u,h1,h2⟩:=z
    exact ⟨u,h1,a F H (.refl I.same) u h2⟩
  · exact a.elim
theorem zad {i:Nat}:SEr K XO E (tVar i) (mRd i):=by
  intro Λ F0 H0 F H σ δ Q I a
  unfold mRd at a
  have z:=I.slot i
  split at a
  · rename_i d q
    rw [q] at z
    obtain ⟨u,h1,h2⟩:=z
    exact ⟨u,h1,a F H (.refl I.same) u (h2.top I.same)⟩
  · rename_i d q
    rw [q] at z
    obtain ⟨u,h1,_,_,h2⟩:=z
    exact ⟨_,h1,a F H (.refl I.same) _ h2.top⟩
  · rename_i d q
    rw [q] at z
    obtain ⟨u,h1,_,_,h2⟩:=z
    exact ⟨_,h1,a F H (.refl I.same) _ h2.top⟩
  · exact a.elim
def mC (d:D) (_:En):R D:=.ok d
theorem zav {i:Int}:SE K XO E (tC (.int i)) (mC (.int i)):=fun Λ F0 H0 F H σ δ Q I a=>a F H (.refl I.same) _ (by simp only [Rep])
theorem zfT {i:Bool}:SE K XO E (tC (.bl i)) (mC (.bl i)):=fun Λ F0 H0 F H σ δ Q I a=>a F H (.refl I.same) _ (by simp only [Rep])
theorem zn9:SE K XO E (tC .non) (mC .non):=fun Λ F0 H0 F H σ δ Q I a=>a F H (.refl I.same) _ (by simp only [Rep])
theorem zp5 {i:Str}:SE K XO E (tC (.str i)) (mC (.str i)):=fun Λ F0 H0 F H σ δ Q I a=>a F H (.refl I.same) _ (by simp only [Rep])
def R.of {α:Type}:Option α→R α
  | some a=>.ok a
  | none=>.no
@[simp] theorem R.of_some {α:Type} (a:α):R.of (some a) = .ok a:=rfl
def m2 (f:D→D→Option D) (ma mb:En→R D) (δ:En):R D:=(ma δ).bind fun x=>(mb δ).bind fun y=>R.of (f x y)
def m1 (f:D→Option D) (ma:En→R D) (δ:En):R D:=(ma δ).bind fun x=>R.of (f x)
@[simp] theorem zqS {f:D→D→Option D} {ma mb:En→R D} {δ:En}:m2 f ma mb δ=(ma δ).bind fun x=>(mb δ).bind fun y=>R.of (f x y):=rfl
@[simp] theorem zrs {f:D→Option D} {ma:En→R D} {δ:En}:m1 f ma δ=(ma δ).bind fun x=>R.of (f x):=rfl
variable (K) in
def SR (r:R2) (f:D→D→Option D):Prop:=∀ F H x y dx dy d Q,Same F H→Top K F H dx x→Top K F H dy y→f dx dy=some d→(∀ v F' H',Ext F H F' H'→Rep K F' d v→Q v H')→r x y H Q
variable (K) in
def SRo (r:R2) (f:D→D→Option D):Prop:=∀ F H x y dx dy d Q,Same F H→Top K F H dx x→Top K F H dy y→f dx dy=some d→(∀ p F' H',Ext F H F' H'→F' p=none→H p=none→Own K F' H' d p→Q (.ref p) H')→r x y H Q
theorem zaA {r:R2} {f:D→D→Option D} (hr:SR K r f) (ha:SEr K XO E ta ma) (hb:SEr K XO E tb mb):SE K XO E (tOp r ta tb) (m2 f ma mb):=by
  intro Λ F0 H0 F H σ δ Q I a
  refine ha Λ F0 H0 F H σ δ _ I (a.bind.imp fun dx F1 H1 e1 a1 x rx=>?_)
  refine hb Λ F0 H0 F1 H1 σ δ _ (I.grow e1) (a1.bind.imp fun dy F2 H2 e2 a2 y ry=>?_)
  cases q:f dx dy with
  | none=>rw [q] at a2; exact a2.elim
  | some d =>
    rw [q] at a2
    exact hr F2 H2 x y dx dy d Q e2.fh (rx.mono e2.ff e2.hh) ry q fun v F' H' e r=>a2 F' H' e v r
theorem zl1 {r:R2} {f:D→D→Option D} (hr:SRo K r f) (ha:SEr K XO E ta ma) (hb:SEr K XO E tb mb):SEo K XO E (tOp r ta tb) (m2 f ma mb):=by
  intro Λ F0 H0 F H σ δ Q I a
  refine ha Λ F0 H0 F H σ δ _ I (a.bind.imp fun dx F1 H1 e1 a1 x rx=>?_)
  refine hb Λ F0 H0 F1 H1 σ δ _ (I.grow e1) (a1.bind.imp fun dy F2 H2 e2 a2 y ry=>?_)
  cases q:f dx dy with
  | none=>rw [q] at a2; exact a2.elim
  | some d =>
    rw [q] at a2
    exact hr F2 H2 x y dx dy d Q e2.fh (rx.mono e2.ff e2.hh) ry q fun p F' H' e h0 h1 o=>a2 F' H' e p h0 (e1.hh.free (e2.hh.free h1)) o
variable (K) in
def SU (r:V→Hp→VK→Prop) (f:D→Option D):Prop:=∀ F H x dx d Q,Same F H→Top K F H dx x→f dx=some d→(∀ v F' H',Ext F H F' H'→Rep K F' d v→Q v H')→r x H Q
theorem zoF {r:V→Hp→VK→Prop} {f:D→Option D} (hr:SU K r f) (ha:SEr K XO E ta ma):SE K XO E (tUn r ta) (m1 f ma):=by
  intro Λ F0 H0 F H σ δ Q I a
  refine ha Λ F0 H0 F H σ δ _ I (a.bind.imp fun dx F1 H1 e1 a1 x rx=>?_)
  cases q:f dx with
  | none=>rw [q] at a1; exact a1.elim
  | some d =>
    rw [q] at a1
    exact hr F1 H1 x dx d Q e1.fh rx q fun v F' H' e r=>a1 F' H' e v r
def mNil (_:En):R (List D):=.ok []
def zaa (ma:En→R D) (mr:En→R (List D)) (δ:En):R (List D):=(ma δ).bind fun x=>(mr δ).bind fun l=>.ok (x :: l)
theorem zan:SA K XO E tNil mNil:=fun Λ F0 H0 F H σ δ Q I a=>a F H (.refl I.same) _ .nil
theorem zac {tr:TA} {mr:En→R (List D)} (ha:SE K XO E ta ma) (hr:SA K XO E tr mr):SA K XO E (zcy ta tr) (zaa ma mr):=by
  intro Λ F0 H0 F H σ δ Q I a
  refine ha Λ F0 H0 F H σ δ _ I (a.bind.imp fun dx F1 H1 e1 a1 x rx=>?_)
  refine hr Λ F0 H0 F1 H1 σ δ _ (I.grow e1) (a1.bind.imp fun dy F2 H2 e2 a2 y ry=>?_)
  exact a2 F2 H2 (.refl e2.fh) _ (.cons (Rep.mono e2.ff _ rx) ry)
theorem zaD:SAr K XO E tNil mNil:=fun Λ F0 H0 F H σ δ Q I a=>a F H (.refl I.same) _ .nil
theorem zap {tr:TA} {mr:En→R (List D)} (ha:SEr K XO E ta ma) (hr:SAr K XO E tr mr):SAr K XO E (zcy ta tr) (zaa ma mr):=by
  intro Λ F0 H0 F H σ δ Q I a
  refine ha Λ F0 H0 F H σ δ _ I (a.bind.imp fun dx F1 H1 e1 a1 x rx=>?_)
  refine hr Λ F0 H0 F1 H1 σ δ _ (I.grow e1) (a1.bind.imp fun dy F2 H2 e2 a2 y ry=>?_)
  exact a2 F2 H2 (.refl e2.fh) _ (.cons (rx.mono e2.ff e2.hh) ry)
def mTup (ml:En→R (List D)) (δ:En):R D:=(ml δ).bind fun l=>ifC (l.length ≤ sizeLine) (.ok (.tup l)) .no
def mLst (ml:En→R (List D)) (δ:En):R D:=(ml δ).bind fun l=>ifC (l.length ≤ sizeLine) (.ok (.lst l)) .no
theorem zg0 {tl:TA} {ml:En→R (List D)} (h:SA K XO E tl ml):SE K XO E (tTup tl) (mTup ml):=by
  intro Λ F0 H0 F H σ δ Q I a
  refine h Λ F0 H0 F H σ δ _ I (a.bind.imp fun ds F1 H1 e1 a1 vs r=>?_)
  unfold ifC at a1
  split at a1
  · rename_i hl
    refine ⟨by rw [r.length]; exact hl,fun p hp=>a1 _ _ (.new e1.fh hp) _ ?_⟩
    simp only [Rep]
    exact ⟨p,vs,rfl,zal,r.mono (Same.upd (e1.fh.free hp))⟩
  · exact a1.elim
theorem zcv {tl:TA} {ml:En→R (List D)} (h:SA K XO E tl ml):SEo K XO E (tLst tl) (mLst ml):=by
  intro Λ F0 H0 F H σ δ Q I a
  refine h Λ F0 H0 F H σ δ _ I (a.bind.imp fun ds F1 H1 e1 a1 vs r=>?_)
  unfold ifC at a1
  split at a1
  · rename_i hl
    refine ⟨by rw [r.length]; exact hl,fun p hp=>a1 _ _ (.newO e1.fh hp) _ (e1.fh.free hp) (e1.hh.free hp) ⟨vs,zal,r⟩⟩
  · exact a1.elim
def asB:D→Option Bool
  | .bl b=>some b
  | _=>none
def zaF (me:En→R D) (δ:En):R Bool:=(me δ).bind fun d=>R.of (asB d)
theorem zbm (h:SE K XO E te me):ST K XO E (zpM te) (zaF me):=by
  intro Λ F0 H0 F H σ δ Q I a
  refine h Λ F0 H0 F H σ δ _ I (a.bind.imp fun d F1 H1 e1 a1 v r=>?_)
  cases d with
  | bl b=>simp only [Rep] at r; exact ⟨b,r,a1 F1 H1 (.refl e1.fh)⟩
  | _=>exact a1.elim
theorem st_b (h:SE K XO E te me):ST K XO E (tB te) (zaF me):=zbm h
variable {tA tB':TT} {nA nB:En→R Bool}
def mAnd (nA nB:En→R Bool) (δ:En):R Bool:=(nA δ).bind fun b=>if b=true then nB δ else .ok false
def mOr (nA nB:En→R Bool) (δ:En):R Bool:=(nA δ).bind fun b=>if b=true then .ok true else nB δ
def mNot (nA:En→R Bool) (δ:En):R Bool:=(nA δ).bind fun b=>.ok (!b)
theorem zpW (h:ST K XO E tA nA) (h':ST K XO E tB' nB):ST K XO E (tAnd tA tB') (mAnd nA nB):=by
  intro Λ F0 H0 F H σ δ Q I a
  refine h Λ F0 H0 F H σ δ _ I (a.bind.imp fun b F1 H1 e1 a1=>?_)
  cases b with
  | true=>exact h' Λ F0 H0 F1 H1 σ δ _ (I.grow e1) a1
  | false=>exact a1 F1 H1 (.refl e1.fh)
theorem zhN (h:ST K XO E tA nA) (h':ST K XO E tB' nB):ST K XO E (tOr tA tB') (mOr nA nB):=by
  intro Λ F0 H0 F H σ δ Q I a
  refine h Λ F0 H0 F H σ δ _ I (a.bind.imp fun b F1 H1 e1 a1=>?_)
  cases b with
  | false=>exact h' Λ F0 H0 F1 H1 σ δ _ (I.grow e1) a1
  | true=>exact a1 F1 H1 (.refl e1.fh)
theorem zdb (h:ST K XO E tA nA):ST K XO E (tNot tA) (mNot nA):=by
  intro Λ F0 H0 F H σ δ Q I a
  exact h Λ F0 H0 F H σ δ _ I (a.bind.imp fun b F1 H1 e1 a1=>a1 F1 H1 (.refl e1.fh))
def zi1 (ma mb:En→R D) (δ:En):R D:=(ma δ).bind fun d=>(R.of (asB d)).bind fun b=>if b=true then mb δ else .ok (.bl false)
def mOrV (ma mb:En→R D) (δ:En):R D:=(ma δ).bind fun d=>(R.of (asB d)).bind fun b=>if b=true then .ok (.bl true) else mb δ
def zpx (ma:En→R D) (δ:En):R D:=(ma δ).bind fun d=>(R.of (asB d)).bind fun b=>.ok (.bl (!b))
theorem zjI (h:SE K XO E ta ma) (h':SE K XO E tb mb):SE K XO E (zqm ta tb) (zi1 ma mb):=by
  intro Λ F0 H0 F H σ δ Q I a
  refine h Λ F0 H0 F H σ δ _ I (a.bind.imp fun d F1 H1 e1 a1 v r=>?_)
  cases d with
  | bl b =>
    simp only [Rep] at r
    refine ⟨b,r,?_⟩
    cases b with
    | true=>exact h' Λ F0 H0 F1 H1 σ δ _ (I.grow e1) a1
    | false=>exact a1 F1 H1 (.refl e1.fh) _ (by simp only [Rep])
  | _=>exact a1.elim
theorem zqU (h:SE K XO E ta ma) (h':SE K XO E tb mb):SE K XO E (tOrV ta tb) (mOrV ma mb):=by
  intro Λ F0 H0 F H σ δ Q I a
  refine h Λ F0 H0 F H σ δ _ I (a.bind.imp fun d F1 H1 e1 a1 v r=>?_)
  cases d with
  | bl b =>
    simp only [Rep] at r
    refine ⟨b,r,?_⟩
    cases b with
    | false=>exact h' Λ F0 H0 F1 H1 σ δ _ (I.grow e1) a1
    | true=>exact a1 F1 H1 (.refl e1.fh) _ (by simp only [Rep])
  | _=>exact a1.elim
theorem zqt (h:SE K XO E ta ma):SE K XO E (zql ta) (zpx ma):=by
  intro Λ F0 H0 F H σ δ Q I a
  refine h Λ F0 H0 F H σ δ _ I (a.bind.imp fun d F1 H1 e1 a1 v r=>?_)
  cases d with
  | bl b =>
    simp only [Rep] at r
    exact ⟨b,r,a1 F1 H1 (.refl e1.fh) _ (by simp only [Rep])⟩
  | _=>exact a1.elim
def spM (K:Kx) (XO:XOT) (f:List D→R D):Sp:=fun vs H Q E=>∃ F ds,Same F H∧RepL K F ds vs∧Aft (fun _=>E) XO [] F H (fun d F' H'=>∀ v,Rep K F' d v→Q v H') (f ds)
def zfS (f:List D→R D) (ml:En→R (List D)) (δ:En):R D:=(ml δ).bind f
def R.nev {α:Type}:R α→R α
  | .ex _=>.no
  | r=>r
@[simp] theorem R.nev_ok {α:Type} (a:α):(R.ok a).nev = .ok a:=rfl
def zak (f:List D→R D) (ml:En→R (List D)) (δ:En):R D:=(ml δ).bind fun l=>(f l).nev
theorem Aft.any {α:Type} {E E':St→XK} {σ σ':St} {F H:Hp} {P:α→Hp→Hp→Prop} {r:R α} (h:Aft E XO σ F H P r.nev):Aft E' XO σ' F H P r:=by
  cases r with
  | no=>exact h
  | ok a=>exact h
  | ex x=>exact h.elim
theorem zhI {f:List D→R D} {tl:TA} {ml:En→R (List D)} (h:SA K XO E tl ml):SE K XO E (zoq (spM K XO f) E tl) (zfS f ml):=by
  intro Λ F0 H0 F H σ δ Q I a
  refine h Λ F0 H0 F H σ δ _ I (a.bind.imp fun ds F1 H1 e1 a1 vs r=>⟨F1,ds,e1.fh,r,?_⟩)
  cases q:f ds with
  | no=>rw [q] at a1; exact a1
  | ok d=>rw [q] at a1; exact a1
  | ex x=>rw [q] at a1; exact a1
theorem za2 {f:List D→R D} {tl:TA} {ml:En→R (List D)} {E':XK} (h:SA K XO E tl ml):SE K XO E (zmW (spM K XO f) [] E' tl) (zak f ml):=by
  intro Λ F0 H0 F H σ δ Q I a
  refine h Λ F0 H0 F H σ δ _ I (a.bind.imp fun ds F1 H1 e1 a1 vs r=>⟨F1,ds,e1.fh,by rw [List.append_nil]; exact r,a1.any⟩)
variable (K) in
def SG (g:TG) (b:D→En→Option En):Prop:=∀ Λ F0 H0 F H σ δ d v δ' Q,EnvOk K Λ F0 H0 F H σ δ→Rep K F d v→b d δ=some δ'→(∀ σ',EnvOk K Λ F0 H0 F H σ' δ'→Q σ' H)→g v σ H Q
variable (K) in
def SGs (g:TGs) (b:List D→En→Option En):Prop:=∀ Λ F0 H0 F H σ δ d v δ' Q,EnvOk K Λ F0 H0 F H σ δ→RepL K F d v→b d δ=some δ'→(∀ σ',EnvOk K Λ F0 H0 F H σ' δ'→Q σ' H)→g v σ H Q
def zat (i:Nat) (d:D) (δ:En):Option En:=match δ[i]? with | none=>none | some (.l _)=>none | some _=>some (δ.set i (.v d))
def za0 (i:Nat) (d:D) (δ:En):Option En:=match δ[i]? with | some .no=>some (δ.set i (.v d)) | _=>none
def bNil (l:List D) (δ:En):Option En:=match l with | []=>some δ | _=>none
def za1 (b:D→En→Option En) (c:List D→En→Option En) (l:List D) (δ:En):Option En:=match l with | d :: r=>(b d δ).bind (c r) | []=>none
def bTup (n:Nat) (c:List D→En→Option En) (d:D) (δ:En):Option En:=match d with | .tup l=>if l.length=n then c l δ else none | _=>none
theorem zax {i:Nat}:SG K (zhi i) (zat i):=by
  intro Λ F0 H0 F H σ δ d v δ' Q I r e q
  unfold zat at e
  split at e
  · cases e
  · cases e
  · rename_i x h2 h1
    cases e
    exact q _ (I.put ⟨x,h1,fun d' z=>h2 d' (by rw [z])⟩ r)
theorem zbi {i:Nat}:SG K (zhi i) (za0 i):=by
  intro Λ F0 H0 F H σ δ d v δ' Q I r e q
  unfold za0 at e
  split at e
  · rename_i h1
    cases e
    exact q _ (I.put ⟨_,h1,fun d' z=>by cases z⟩ r)
  · cases e
theorem zcB:SGs K gNil bNil:=by
  intro Λ F0 H0 F H σ δ d v δ' Q I r e q
  cases d with
  | nil=>simp only [RepL] at r; cases e; exact ⟨r,q _ I⟩
  | cons x l=>cases e
theorem zaZ {g:TG} {h:TGs} {b:D→En→Option En} {c:List D→En→Option En} (hg:SG K g b) (hh:SGs K h c):SGs K (zqO g h) (za1 b c):=by
  intro Λ F0 H0 F H σ δ d v δ' Q I r e q
  cases d with
  | nil=>cases e
  | cons x l =>
    simp only [RepL] at r
    obtain ⟨u,w,rfl,r1,r2⟩:=r
    change (b x δ).bind (c l)=some δ' at e
    cases z:b x δ with
    | none=>rw [z] at e; cases e
    | some δ1 =>
      rw [z] at e
      exact ⟨u,w,rfl,hg Λ F0 H0 F H σ δ x u δ1 _ I r1 z fun σ1 I1=>hh Λ F0 H0 F H σ1 δ1 l w δ' Q I1 r2 e q⟩
theorem zdP {n:Nat} {h:TGs} {c:List D→En→Option En} (hh:SGs K h c):SG K (gTup K.f n h) (bTup n c):=by
  intro Λ F0 H0 F H σ δ d v δ' Q I r e q
  cases d with
  | tup l =>
    simp only [Rep] at r
    obtain ⟨a,vs,rfl,h1,h2⟩:=r
    simp only [bTup] at e
    split at e
    · rename_i hn
      exact ⟨a,vs,rfl,.inl (.inl (I.same _ _ h1)),by rw [h2.length]; exact hn,hh Λ F0 H0 F H σ δ l vs δ' Q I h2 e q⟩
    · cases e
  | _=>cases e
def Weak (δ δ':En):Prop:=δ.length=δ'.length∧∀ i:Nat,δ[i]?=some .no∨δ[i]?=δ'[i]?
theorem Weak.refl (δ:En):Weak δ δ:=⟨rfl,fun _=>.inr rfl⟩
theorem Weak.trans {a b c:En} (h:Weak a b) (h':Weak b c):Weak a c:=⟨h.1.trans h'.1,fun i=>by
  rcases h.2 i with z | z
  · exact .inl z
  · rcases h'.2 i with y | y
    · exact .inl (z.trans y)
    · exact .inr (z.trans y)⟩
def BW (b:D→En→Option En):Prop:=∀ d δ δ',b d δ=some δ'→Weak δ δ'
def BWs (b:List D→En→Option En):Prop:=∀ d δ δ',b d δ=some δ'→Weak δ δ'
theorem zbz {i:Nat}:BW (za0 i):=by
  intro d δ δ' e
  unfold za0 at e
  split at e
  · rename_i h1
    cases e
    refine ⟨by simp,fun j=>?_⟩
    by_cases h:i=j
    · subst h; exact .inl h1
    · exact .inr (by rw [List.getElem?_set_ne h])
  · cases e
theorem zjd:BWs bNil:=by
  intro d δ δ' e
  cases d with
  | nil=>cases e; exact .refl _
  | cons x l=>cases e
theorem zeo {b:D→En→Option En} {c:List D→En→Option En} (h:BW b) (h':BWs c):BWs (za1 b c):=by
  intro d δ δ' e
  cases d with
  | nil=>cases e
  | cons x l =>
    change (b x δ).bind (c l)=some δ' at e
    cases z:b x δ with
    | none=>rw [z] at e; cases e
    | some δ1=>rw [z] at e; exact (h _ _ _ z).trans (h' _ _ _ e)
theorem zmB {n:Nat} {c:List D→En→Option En} (h:BWs c):BW (bTup n c):=by
  intro d δ δ' e
  cases d with
  | tup l =>
    simp only [bTup] at e
    split at e
    · exact h _ _ _ e
    · cases e
  | _=>cases e
variable (K) in
def IsIt (J:It) (P:Hp→Hp→Prop) (ds:List D):Prop:=∀ F2 H2,P F2 H2→∀ i:Nat,(∀ d,ds[i]?=some d→J.go i H2∧∀ x H',J.yld i H2 x H'→∃ F3,Ext F2 H2 F3 H'∧Rep K F3 d x)∧(ds[i]?=none→J.stop i H2)
variable (K XO E) in
def SI (wi:TI) (m:En→R (List D)):Prop:=∀ Λ F0 H0 F H σ δ R,EnvOk K Λ F0 H0 F H σ δ→Aft E XO σ F H (fun ds F1 H1=>∀ J,IsIt K J (fun F2 H2=>Same F1 F2∧Same F2 H2) ds→R J H1) (m δ)→wi σ H R
variable (K XO E) in
def SIc (wi:TI) (m:En→R (List D)):Prop:=∀ Λ F0 H0 F H σ δ R,EnvOk K Λ F0 H0 F H σ δ→Aft E XO σ F H (fun ds F1 H1=>∀ J,IsIt K J (fun F2 H2=>Ext F1 H1 F2 H2) ds→R J H1) (m δ)→wi σ H R
theorem SI.c {wi:TI} {m:En→R (List D)} (h:SI K XO E wi m):SIc K XO E wi m:=fun Λ F0 H0 F H σ δ R I a=>h Λ F0 H0 F H σ δ R I (a.imp fun ds F1 H1 e p J hJ=>p J fun F2 H2 x=>hJ F2 H2 ⟨x.ff,x.fh⟩)
def asL:D→Option (List D)
  | .lst l=>some l
  | .scr l=>some (l.map .int)
  | _=>none
def mItL (ml:En→R D) (δ:En):R (List D):=(ml δ).bind fun d=>R.of (asL d)
theorem zh4 {a:Addr} {ds:List D} {vs:List V} {F1:Hp} {P:Hp→Hp→Prop} (r:RepL K F1 ds vs) (h:∀ F2 H2,P F2 H2→Same F1 F2∧Same F2 H2∧SqL K.f H2 a vs):IsIt K (Itl K.f a) P ds:=by
  intro F2 H2 p i
  obtain ⟨s1,s2,q⟩:=h F2 H2 p
  refine ⟨fun d hd=>?_,fun hn=>?_⟩
  · obtain ⟨v,hv,rv⟩:=r.get hd
    refine ⟨⟨vs,v,q,hv⟩,fun x H' y=>?_⟩
    obtain ⟨rfl,y⟩:=y
    have z:=y vs q
    rw [hv] at z; cases z
    exact ⟨F2,.refl s2,Rep.mono s1 _ rv⟩
  · exact ⟨vs,q,by rw [r.length]; exact List.getElem?_eq_none_iff.mp hn⟩
theorem zdB (h:SEr K XO E te me):SIc K XO E (zpv K.f te) (mItL me):=by
  intro Λ F0 H0 F H σ δ R I a
  refine h Λ F0 H0 F H σ δ _ I (a.bind.imp fun d F1 H1 e1 a1 v r=>?_)
  cases d with
  | lst l =>
    obtain ⟨a,vs,rfl,h1,h2⟩:=r
    exact ⟨a,rfl,⟨vs,.inl h1⟩,a1 F1 H1 (.refl e1.fh) _ (zh4 h2 fun F2 H2 x=>⟨x.ff,x.fh,.inl (PM.Same.rd x.hh h1)⟩)⟩
  | scr l =>
    simp only [Top,Rep] at r
    obtain ⟨a,rfl,h1⟩:=r
    exact ⟨a,rfl,⟨_,e1.fh.seq h1⟩,a1 F1 H1 (.refl e1.fh) _ (zh4 .ints fun F2 H2 x=>⟨x.ff,x.fh,x.fh.seq (x.ff.seq h1)⟩)⟩
  | _=>exact a1.elim
def zgb (lo:Int) (n:Nat):List D:=(List.range n).map fun (k:Nat)=>D.int (lo + (k:Int))
theorem zkJ {lo:Int} {n:Nat} {P:Hp→Hp→Prop} (h:∀ F2 H2,P F2 H2→Same F2 H2):IsIt K (Itr lo n) P (zgb lo n):=by
  intro F2 H2 p i
  unfold zgb
  rw [List.getElem?_map]
  have er:(List.range n)[i]?=if i < n then some i else none:=by
    by_cases hi:i < n
    · rw [if_pos hi,List.getElem?_range hi]
    · rw [if_neg hi,List.getElem?_eq_none_iff]; simpa using hi
  rw [er]
  refine ⟨fun d hd=>?_,fun hn=>?_⟩
  · by_cases hi:i < n
    · rw [if_pos hi] at hd
      cases hd
      refine ⟨hi,fun x H' y=>?_⟩
      obtain ⟨rfl,rfl⟩:=y
      exact ⟨F2,.refl (h F2 _ p),by simp only [Rep]⟩
    · rw [if_neg hi] at hd; cases hd
  · by_cases hi:i < n
    · rw [if_pos hi] at hn; cases hn
    · exact Nat.le_of_not_lt hi
def rng (l:List D):Option (List D):=match l with
  | [.int j]=>ifC (-(2 ^ 62) ≤ j∧j < 2 ^ 62) (some (zgb 0 j.toNat)) none
  | [.int i,.int j]=>ifC (-(2 ^ 62) ≤ i∧i < 2 ^ 62∧-(2 ^ 62) ≤ j∧j < 2 ^ 62) (some (zgb i (j - i).toNat)) none
  | _=>none
def mRng (ml:En→R (List D)) (δ:En):R (List D):=(ml δ).bind fun l=>R.of (rng l)
theorem RepL.one {F:Hp} {d:D} {vs:List V} (r:RepL K F [d] vs):∃ v,vs = [v]∧Rep K F d v:=by
  simp only [RepL] at r
  obtain ⟨v,r',rfl,h,rfl⟩:=r
  exact ⟨v,rfl,h⟩
theorem RepL.two {F:Hp} {d e:D} {vs:List V} (r:RepL K F [d,e] vs):∃ v u,vs = [v,u]∧Rep K F d v∧Rep K F e u:=by
  simp only [RepL] at r
  obtain ⟨v,r',rfl,h,v2,r2,rfl,h2,rfl⟩:=r
  exact ⟨v,v2,rfl,h,h2⟩
theorem zdl {tl:TA} {ml:En→R (List D)} (hn:∀ δ l,ml δ = .ok l→l.length=1) (h:SA K XO E tl ml):SI K XO E (zp9 tl) (mRng ml):=by
  intro Λ F0 H0 F H σ δ R I a
  unfold mRng at a
  cases hm:ml δ with
  | no=>rw [hm] at a; exact a.elim
  | ex x=>refine h Λ F0 H0 F H σ δ _ I ?_; rw [hm] at a ⊢; exact a
  | ok l =>
    refine h Λ F0 H0 F H σ δ _ I ?_
    rw [hm] at a ⊢
    intro F1 H1 e1 vs r
    have h1:=hn δ l hm
    match l,h1 with
    | [d],_ =>
      obtain ⟨v,rfl,rv⟩:=r.one
      have a1:=Aft.mono e1 a
      cases d with
      | int j =>
        simp only [Rep] at rv
        subst rv
        change Aft E XO σ F1 H1 _ (PM.R.of (ifC (-(2 ^ 62) ≤ j∧j < 2 ^ 62) _ _)) at a1
        by_cases hj : -(2 ^ 62) ≤ j∧j < 2 ^ 62
        · rw [zb7 hj] at a1
          exact ⟨j,rfl,hj.1,hj.2,a1 F1 H1 (.refl e1.fh) _ (zkJ fun F2 H2 x=>x.2)⟩
        · rw [zoG hj] at a1; exact a1.elim
      | _=>exact a1.elim
theorem len1 {ma:En→R D}:∀ δ l,zaa ma mNil δ = .ok l→l.length=1:=by
  intro δ l h
  unfold zaa mNil at h
  cases e:ma δ with
  | ok d=>rw [e] at h; cases h; rfl
  | no=>rw [e] at h; cases h
  | ex x=>rw [e] at h; cases h
def zgL (l:List D):List D:=l.mapIdx fun i d=>.tup [.int i,d]
theorem zik {a:Addr} {ds:List D} {vs:List V} {F1:Hp} {P:Hp→Hp→Prop} (r:RepL K F1 ds vs) (h:∀ F2 H2,P F2 H2→Same F1 F2∧Same F2 H2∧SqL K.f H2 a vs):IsIt K (Ite K.f a) P (zgL ds):=by
  intro F2 H2 p i
  obtain ⟨s1,s2,q⟩:=h F2 H2 p
  unfold zgL
  rw [List.getElem?_mapIdx]
  refine ⟨fun d hd=>?_,fun hn=>?_⟩
  · cases e:ds[i]? with
    | none=>rw [e] at hd; cases hd
    | some x =>
      rw [e] at hd
      cases hd
      obtain ⟨v,hv,rv⟩:=r.get e
      refine ⟨⟨vs,v,q,hv⟩,fun x' H' y=>?_⟩
      obtain ⟨p',y',rfl,hp,rfl,y⟩:=y
      have z:=y vs q
      rw [hv] at z; cases z
      refine ⟨_,.new s2 hp,?_⟩
      simp only [Rep]
      exact ⟨p',_,rfl,zal,.cons (by simp only [Rep]) (.cons (Rep.mono (s1.trans (Same.upd (s2.free hp))) _ rv) .nil)⟩
  · cases e:ds[i]? with
    | none=>exact ⟨vs,q,by rw [r.length]; exact List.getElem?_eq_none_iff.mp e⟩
    | some x=>rw [e] at hn; cases hn
def asL':D→Option (List D)
  | .lst l=>some l
  | _=>none
def zhQ:List D→Option (List D)
  | [d]=>(asL' d).map zgL
  | _=>none
def zfq (ml:En→R (List D)) (δ:En):R (List D):=(ml δ).bind fun l=>R.of (zhQ l)
theorem zg1 {l r:List D} (h:zhQ l=some r):∃ x,l = [.lst x]∧r=zgL x:=by
  cases l with
  | nil=>cases h
  | cons d t =>
    cases t with
    | cons _ _=>cases h
    | nil =>
      cases d with
      | lst x=>cases h; exact ⟨x,rfl,rfl⟩
      | _=>cases h
theorem zmo {tl:TA} {ml:En→R (List D)} (h:SA K XO E tl ml):SI K XO E (zpH K.f tl) (zfq ml):=by
  intro Λ F0 H0 F H σ δ R I a
  refine h Λ F0 H0 F H σ δ _ I (a.bind.imp fun ds F1 H1 e1 a1 vs r=>?_)
  cases q:zhQ ds with
  | none=>rw [q] at a1; exact a1.elim
  | some z =>
    rw [q] at a1
    obtain ⟨l,rfl,rfl⟩:=zg1 q
    obtain ⟨v,rfl,r'⟩:=RepL.one r
    simp only [Rep] at r'
    obtain ⟨a,vs,rfl,h1,h2⟩:=r'
    exact ⟨a,rfl,⟨vs,.inl (PM.Same.rd e1.fh h1)⟩,a1 F1 H1 (.refl e1.fh) _ (zik h2 fun F2 H2 x=>⟨x.1,x.2,.inl (PM.Same.rd x.2 (PM.Same.rd x.1 h1))⟩)⟩
theorem zhx {tl:TA} {ml:En→R (List D)} (h:SAr K XO E tl ml):SIc K XO E (zpH K.f tl) (zfq ml):=by
  intro Λ F0 H0 F H σ δ R I a
  refine h Λ F0 H0 F H σ δ _ I (a.bind.imp fun ds F1 H1 e1 a1 vs r=>?_)
  cases q:zhQ ds with
  | none=>rw [q] at a1; exact a1.elim
  | some z =>
    rw [q] at a1
    obtain ⟨l,rfl,rfl⟩:=zg1 q
    cases r with
    | cons r r' =>
      cases r'
      obtain ⟨a,vs,rfl,h1,h2⟩:=r
      exact ⟨a,rfl,⟨vs,.inl h1⟩,a1 F1 H1 (.refl e1.fh) _ (zik h2 fun F2 H2 x=>⟨x.ff,x.fh,.inl (PM.Same.rd x.hh h1)⟩)⟩
end
end PM
namespace PM
open PySem L2
section
variable (K:Kx) (XO:XOT) (E:St→XK)
def AftS (Λ:List (Nat × Addr × HO)) (F0 H0:Hp) (Dn:Ends):O→Prop
  | .no=>False
  | .nx δ=>∀ σ F H,EnvOk K Λ F0 H0 F H σ δ→Dn.nx σ H
  | .bk δ=>∀ σ F H,EnvOk K Λ F0 H0 F H σ δ→Dn.bk σ H
  | .ct δ=>∀ σ F H,EnvOk K Λ F0 H0 F H σ δ→Dn.ct σ H
  | .rt d=>∀ v F H,Ext F0 H0 F H→Rep K F d v→Dn.rt v H
  | .ro d=>∀ p F H,Ext F0 H0 F H→F p=none→H0 p=none→Own K F H d p→Dn.rt (.ref p) H
  | .ex δ x=>∀ σ F H C dct,EnvOk K Λ F0 H0 F H σ δ→XO x F H C dct→E σ C dct H
def SS (t:TS) (m:En→O):Prop:=∀ Λ F0 H0 F H σ δ Dn,EnvOk K Λ F0 H0 F H σ δ→AftS K XO E Λ F0 H0 Dn (m δ)→t Dn σ H
end
def R.toO {α:Type} (r:R α) (δ:En) (f:α→O):O:=match r with | .no=>.no | .ok a=>f a | .ex x=>.ex δ x
@[simp] theorem R.toO_ok {α:Type} (a:α) (δ:En) (f:α→O):(R.ok a).toO δ f=f a:=rfl
@[simp] theorem R.toO_no {α:Type} (δ:En) (f:α→O):(R.no:R α).toO δ f = .no:=rfl
@[simp] theorem R.toO_ex {α:Type} (x:Xc) (δ:En) (f:α→O):(R.ex x:R α).toO δ f = .ex δ x:=rfl
section
variable {K:Kx} {XO:XOT} {E:St→XK} {ta tb te:TE} {ma mb me:En→R D} {t u:TS} {m n:En→O} {Λ:List (Nat × Addr × HO)} {F0 H0 F H F1 H1:Hp} {σ:St} {δ:En} {Dn:Ends}
theorem AftS.of {α:Type} {r:R α} {f:α→O} (I:EnvOk K Λ F0 H0 F H σ δ) (a:AftS K XO E Λ F0 H0 Dn (r.toO δ f)):Aft E XO σ F H (fun a _ _=>AftS K XO E Λ F0 H0 Dn (f a)) r:=by
  cases r with
  | no=>exact a
  | ok b=>exact fun _ _ _=>a
  | ex x=>exact fun C dct F' H' e h=>a σ F' H' C dct (I.grow e) h
theorem AftS.up (e:Ext F0 H0 F1 H1):∀ {o:O},AftS K XO E Λ F0 H0 Dn o→AftS K XO E Λ F1 H0 Dn o
  | .no,h=>h
  | .nx _,h=>fun σ F H I=>h σ F H (I.down e)
  | .bk _,h=>fun σ F H I=>h σ F H (I.down e)
  | .ct _,h=>fun σ F H I=>h σ F H (I.down e)
  | .rt _,h=>fun v F H x=>h v F H (e.base x)
  | .ro _,h=>fun p F H x=>h p F H (e.base x)
  | .ex _ _,h=>fun σ F H C d I=>h σ F H C d (I.down e)
def zbp (δ:En):O:=.nx δ
def mSeq (m n:En→O) (δ:En):O:=match m δ with | .nx δ'=>n δ' | r=>r
theorem zbA:SS K XO E zqq zbp:=fun Λ F0 H0 F H σ δ Dn I a=>a σ F H I
theorem zaz (h:SS K XO E t m) (h':SS K XO E u n):SS K XO E (tSeq t u) (mSeq m n):=by
  intro Λ F0 H0 F H σ δ Dn I a
  refine h Λ F0 H0 F H σ δ _ I ?_
  unfold mSeq at a
  cases q:m δ with
  | no=>rw [q] at a; exact a
  | nx δ'=>rw [q] at a; exact fun σ' F' H' I'=>h' Λ F0 H0 F' H' σ' δ' Dn I' a
  | rt d=>rw [q] at a; exact a
  | ro d=>rw [q] at a; exact a
  | bk δ'=>rw [q] at a; exact a
  | ct δ'=>rw [q] at a; exact a
  | ex δ' x=>rw [q] at a; exact a
def mRet (me:En→R D) (δ:En):O:=(me δ).toO δ .rt
theorem zbg (h:SE K XO E te me):SS K XO E (tRet te) (mRet me):=by
  intro Λ F0 H0 F H σ δ Dn I a
  exact h Λ F0 H0 F H σ δ _ I ((AftS.of I a).imp fun d F1 H1 e p v r=>p v F1 H1 (I.ext.trans e) r)
def zcu (me:En→R D) (δ:En):O:=(me δ).toO δ .ro
theorem zdh (h:SEo K XO E te me):SS K XO E (tRet te) (zcu me):=by
  intro Λ F0 H0 F H σ δ Dn I a
  exact h Λ F0 H0 F H σ δ _ I ((AftS.of I a).imp fun d F1 H1 e p v h0 h1 o=>p v F1 H1 (I.ext.trans e) h0 (I.ext.hh.free h1) o)
def zlr (i:Nat) (δ:En):O:=match δ[i]? with | some (.o d)=>.ro d | _=>.no
theorem zja {i:Nat}:SS K XO E (tRet (tVar i)) (zlr i):=by
  intro Λ F0 H0 F H σ δ Dn I a
  unfold zlr at a
  split at a
  · rename_i d q
    have z:=I.slot i
    rw [q] at z
    obtain ⟨p,z1,z2,z3,z4⟩:=z
    exact ⟨_,z1,a p F H I.ext z3 z2 z4⟩
  · exact a.elim
def mDo (me:En→R D) (δ:En):O:=(me δ).toO δ fun _=>.nx δ
theorem zoM (h:SE K XO E te me):SS K XO E (zmk te) (mDo me):=by
  intro Λ F0 H0 F H σ δ Dn I a
  exact h Λ F0 H0 F H σ δ _ I ((AftS.of I a).imp fun d F1 H1 e p v r=>p σ F1 H1 (I.grow e))
def mIfS (n:En→R Bool) (m m':En→O) (δ:En):O:=(n δ).toO δ fun b=>if b=true then m δ else m' δ
theorem zdV {tc:TT} {nc:En→R Bool} (h:ST K XO E tc nc) (ha:SS K XO E t m) (hb:SS K XO E u n):SS K XO E (tIfS tc t u) (mIfS nc m n):=by
  intro Λ F0 H0 F H σ δ Dn I a
  refine h Λ F0 H0 F H σ δ _ I ((AftS.of I a).imp fun b F1 H1 e p=>?_)
  cases b with
  | true=>exact ha Λ F0 H0 F1 H1 σ δ Dn (I.grow e) p
  | false=>exact hb Λ F0 H0 F1 H1 σ δ Dn (I.grow e) p
def O.of:Option En→O
  | some δ=>.nx δ
  | none=>.no
@[simp] theorem O.of_some (δ:En):O.of (some δ) = .nx δ:=rfl
def mAsg (me:En→R D) (b:D→En→Option En) (δ:En):O:=(me δ).toO δ fun d=>O.of (b d δ)
theorem za5 {g:TG} {b:D→En→Option En} (h:SE K XO E te me) (hg:SG K g b):SS K XO E (tAsg te g) (mAsg me b):=by
  intro Λ F0 H0 F H σ δ Dn I a
  refine h Λ F0 H0 F H σ δ _ I ((AftS.of I a).imp fun d F1 H1 e p v r=>?_)
  cases q:b d δ with
  | none=>rw [q] at p; exact p.elim
  | some δ'=>rw [q] at p; exact hg Λ F0 H0 F1 H1 σ δ d v δ' _ (I.grow e) r q fun σ' I'=>p σ' F1 H1 I'
def bNew (i:Nat) (d:D) (δ:En):Option En:=match δ[i]? with | none=>none | some (.l _)=>none | some _=>some (δ.set i (.o d))
theorem zfK {i:Nat} (h:SEo K XO E te me):SS K XO E (tAsg te (zhi i)) (mAsg me (bNew i)):=by
  intro Λ F0 H0 F H σ δ Dn I a
  refine h Λ F0 H0 F H σ δ _ I ((AftS.of I a).imp fun d F1 H1 e p v h0 h1 o=>?_)
  unfold bNew at p
  split at p
  · exact p.elim
  · exact p.elim
  · rename_i x h3 h2
    exact p _ F1 H1 (I.putO ⟨x,h2,fun d' z=>h3 d' (by rw [z])⟩ e h0 h1 o)
def zfc (b:D→En→Option En) (m:En→O):List D→En→O
  | [],δ=>.nx δ
  | d :: l,δ=>match b d δ with
    | none=>.no
    | some δ1=>match m δ1 with
      | .nx δ2=>zfc b m l δ2
      | .ct δ2=>zfc b m l δ2
      | .bk δ2=>.nx δ2
      | r=>r
def mFor (mi:En→R (List D)) (b:D→En→Option En) (m:En→O) (δ:En):O:=(mi δ).toO δ fun l=>zfc b m l δ
theorem zpf {J:It} {P:Hp→Hp→Prop} {g:TG} {b:D→En→Option En} {ds:List D} (hJ:IsIt K J P ds) (hP:∀ σ δ F H,EnvOk K Λ F0 H0 F H σ δ→P F H) (hg:SG K g b) (hb:SS K XO E t m) (I:EnvOk K Λ F0 H0 F H σ δ)
    (a:AftS K XO E Λ F0 H0 Dn (zfc b m ds δ)):∃ W:Nat→Nat→St→Hp→Prop,(∃ k,W 0 k σ H)∧∀ i k σ H,W i k σ H →
      (J.stop i H∧Dn.nx σ H)∨(J.go i H∧∃ N:St→Hp→Prop,(∀ σ' H',N σ' H'→∃ k',k' < k∧W (i + 1) k' σ' H')∧∀ x H',J.yld i H x H'→g x σ H' fun σ2 H2=>t { Dn with nx:=N,ct:=N,bk:=Dn.nx } σ2 H2):=by
  let W:Nat→Nat→St→Hp→Prop:=fun i k σ H=>∃ F δ,EnvOk K Λ F0 H0 F H σ δ∧k=ds.length - i∧i ≤ ds.length∧AftS K XO E Λ F0 H0 Dn (zfc b m (ds.drop i) δ)
  refine ⟨W,⟨ds.length,F,δ,I,rfl,Nat.zero_le _,a⟩,?_⟩
  rintro i k σ H ⟨F,δ,I,rfl,hi,a⟩
  have hP':=hP σ δ F H I
  by_cases hlt:i < ds.length
  · have e:ds.drop i=ds[i] :: ds.drop (i + 1):=List.drop_eq_getElem_cons hlt
    obtain ⟨h1,h2⟩:=(hJ F H hP' i).1 ds[i] (by simp [hlt])
    refine .inr ⟨h1,W (i + 1) (ds.length - (i + 1)),fun σ' H' w=>⟨_,by omega,w⟩,fun x H' y=>?_⟩
    obtain ⟨F3,e3,r⟩:=h2 x H' y
    rw [e] at a
    unfold zfc at a
    cases q:b ds[i] δ with
    | none=>rw [q] at a; exact a.elim
    | some δ1 =>
      rw [q] at a
      refine hg Λ F0 H0 F3 H' σ δ _ x δ1 _ (I.grow e3) r q fun σ1 I1=>hb Λ F0 H0 F3 H' σ1 δ1 _ I1 ?_
      cases q2:m δ1 with
      | no=>simp only [q2] at a; exact a
      | nx δ2=>simp only [q2] at a; exact fun σ' F' H' I'=>⟨F',δ2,I',rfl,hlt,a⟩
      | ct δ2=>simp only [q2] at a; exact fun σ' F' H' I'=>⟨F',δ2,I',rfl,hlt,a⟩
      | bk δ2=>simp only [q2] at a; exact a
      | rt d=>simp only [q2] at a; exact a
      | ro d=>simp only [q2] at a; exact a
      | ex δ' x=>simp only [q2] at a; exact a
  · have e:i=ds.length:=by omega
    subst e
    rw [List.drop_length] at a
    exact .inl ⟨(hJ F H hP' _).2 (by simp),a σ F H I⟩
theorem zeC {wi:TI} {mi:En→R (List D)} {g:TG} {b:D→En→Option En} (hi:SI K XO E wi mi) (hg:SG K g b) (hb:SS K XO E t m):SS K XO E (tFor wi g t) (mFor mi b m):=by
  intro Λ F0 H0 F H σ δ Dn I a
  refine hi Λ F0 H0 F H σ δ _ I ((AftS.of I a).imp fun ds F1 H1 e p J hJ=>?_)
  have I1:=I.grow e
  exact zpf (F0:=F1) hJ (fun σ δ F H I=>⟨I.ext.ff,I.ext.fh⟩) hg hb I1.up (p.up I1.ext)
def zew (c:En→R Bool) (m:En→O):Nat→En→O
  | 0,_=>.no
  | n + 1,δ=>(c δ).toO δ fun b=>if b=true then (match m δ with | .nx δ2=>zew c m n δ2 | .ct δ2=>zew c m n δ2 | .bk δ2=>.nx δ2 | r=>r) else .nx δ
open Classical in
def zgR (c:En→R Bool) (m:En→O) (δ:En):O:=if h:∃ n,zew c m n δ ≠ .no then zew c m (choose h) δ else .no
theorem znZ {tc:TT} {nc:En→R Bool} (hc:ST K XO E tc nc) (hb:SS K XO E t m):SS K XO E (zot tc t) (zgR nc m):=by
  intro Λ F0 H0 F H σ δ Dn I a
  unfold zgR at a
  split at a
  · rename_i h
    refine ⟨fun k σ H=>∃ F δ,EnvOk K Λ F0 H0 F H σ δ∧AftS K XO E Λ F0 H0 Dn (zew nc m k δ),⟨_,F,δ,I,a⟩,?_⟩
    rintro k σ H ⟨F,δ,I,a⟩
    cases k with
    | zero=>exact a.elim
    | succ k =>
      unfold zew at a
      refine hc Λ F0 H0 F H σ δ _ I ((AftS.of I a).imp fun b F1 H1 e p=>?_)
      cases b with
      | false=>exact p σ F1 H1 (I.grow e)
      | true =>
        refine ⟨fun σ H=>∃ F δ,EnvOk K Λ F0 H0 F H σ δ∧AftS K XO E Λ F0 H0 Dn (zew nc m k δ),fun σ' H' w=>⟨k,Nat.lt_succ_self _,w⟩,hb Λ F0 H0 F1 H1 σ δ _ (I.grow e) ?_⟩
        rw [if_pos rfl] at p
        cases q2:m δ with
        | no=>simp only [q2] at p; exact p
        | nx δ2=>simp only [q2] at p; exact fun σ' F' H' I'=>⟨F',δ2,I',p⟩
        | ct δ2=>simp only [q2] at p; exact fun σ' F' H' I'=>⟨F',δ2,I',p⟩
        | bk δ2=>simp only [q2] at p; exact p
        | rt d=>simp only [q2] at p; exact p
        | ro d=>simp only [q2] at p; exact p
        | ex δ' x=>simp only [q2] at p; exact p
  · exact a.elim
end
end PM
namespace PM
open PySem L2
section
variable {K:Kx} {F H:Hp}
end
section
variable {K:Kx} {XO:XOT} {E:St→XK} {ta tb te ty td:TE} {ma mb me my md:En→R D} {t u:TS} {m n:En→O} {Λ:List (Nat × Addr × HO)} {F0 H0 F H F1 H1:Hp} {σ:St} {δ:En} {Dn:Ends}
theorem EnvOk.own {i:Nat} {d:D} (I:EnvOk K Λ F0 H0 F H σ δ) (hx:δ[i]?=some (.o d)):∃ a,σ[i]?=some (some (.ref a))∧Own K F H d a:=by
  have z:=I.slot i
  rw [hx] at z
  obtain ⟨a,z1,z2,z3,z4⟩:=z
  exact ⟨a,z1,z4⟩
def zdj (i:Nat) (me:En→R D) (δ:En):O:=match δ[i]? with
  | some (.o (.lst l))=>(me δ).toO δ fun d=>ifC (l.length < sizeLine) (.nx (δ.set i (.o (.lst (l ++ [d]))))) .no
  | _=>.no
theorem zf8 {i:Nat} (h:SE K XO E te me):SS K XO E (zmk (tBM K.f "list" zmL (tVar i) (zcy te tNil))) (zdj i me):=by
  intro Λ F0 H0 F H σ δ Dn I a
  unfold zdj at a
  split at a
  · rename_i l q
    obtain ⟨p,s1,vs,s2,s3⟩:=I.own q
    refine ⟨_,s1,.inl ⟨rfl,vs,.inl (.inl s2)⟩,?_⟩
    refine h Λ F0 H0 F H σ δ _ I ((AftS.of I a).imp fun d F1 H1 e c v r=>?_)
    unfold ifC at c
    split at c
    · rename_i hl
      refine ⟨p,vs,v,rfl,rfl,e.hh _ _ s2,by rw [s3.length]; exact hl,?_⟩
      exact c σ F1 _ ((I.grow e).chg q s1 ⟨_,zal,(s3.mono e.ff).append (.cons r .nil)⟩)
    · exact c.elim
  · exact a.elim
def zgI (i:Nat) (mi me:En→R D) (δ:En):O:=match δ[i]? with
  | some (.o (.lst l))=>(me δ).toO δ fun d=>(mi δ).toO δ fun k=>match k with
    | .int k=>(match ixN l.length k with | some j=>.nx (δ.set i (.o (.lst (l.set j d)))) | none=>.no)
    | _=>.no
  | _=>.no
theorem zgc {i:Nat} {ti:TE} {mi:En→R D} (hi:SE K XO E ti mi) (h:SE K XO E te me):SS K XO E (tAsg te (gSub (tVar i) ti zoT)) (zgI i mi me):=by
  intro Λ F0 H0 F H σ δ Dn I a
  unfold zgI at a
  split at a
  · rename_i l q
    obtain ⟨p,s1,vs,s2,s3⟩:=I.own q
    refine h Λ F0 H0 F H σ δ _ I ((AftS.of I a).imp fun d F1 H1 e c v r=>⟨_,s1,?_⟩)
    refine hi Λ F0 H0 F1 H1 σ δ _ (I.grow e) ((AftS.of (I.grow e) c).imp fun k F2 H2 e2 c2 v2 r2=>?_)
    cases k with
    | int k =>
      simp only [Rep] at r2
      subst r2
      dsimp only at c2
      cases z:ixN l.length k with
      | none=>rw [z] at c2; exact c2.elim
      | some j =>
        rw [z] at c2
        refine ⟨p,vs,k,j,rfl,rfl,e2.hh _ _ (e.hh _ _ s2),by rw [s3.length]; exact z,?_⟩
        exact c2 σ F2 _ (((I.grow e).grow e2).chg q s1 ⟨_,zal,((s3.mono e.ff).mono e2.ff).set j (Rep.mono e2.ff _ r)⟩)
    | _=>exact c2.elim
  · exact a.elim
def zkE (f:Int→Int→Int) (i:Nat) (mi me:En→R D) (δ:En):O:=match δ[i]? with
  | some (.o (.lst l))=>(mi δ).toO δ fun k=>(match k with
    | .int k=>(match ixN l.length k with
      | some j=>(match l[j]? with
        | some (.int x)=>(me δ).toO δ fun y=>(match y with | .int y=>.nx (δ.set i (.o (.lst (l.set j (.int (f x y)))))) | _=>.no)
        | _=>.no)
      | none=>.no)
    | _=>.no)
  | _=>.no
theorem zlQ {f:Int→Int→Int} {i:Nat} {ti:TE} {mi:En→R D} (hi:SE K XO E ti mi) (h:SE K XO E te me):SS K XO E (zpS (tVar i) ti te (rIxL K.f) (ipI f) zoT) (zkE f i mi me):=by
  intro Λ F0 H0 F H σ δ Dn I a
  unfold zkE at a
  split at a
  · rename_i l q
    obtain ⟨p,s1,vs,s2,s3⟩:=I.own q
    refine ⟨_,s1,?_⟩
    refine hi Λ F0 H0 F H σ δ _ I ((AftS.of I a).imp fun k F1 H1 e c v r=>?_)
    cases k with
    | int k =>
      simp only [Rep] at r
      subst r
      dsimp only at c
      cases z:ixN l.length k with
      | none=>rw [z] at c; exact c.elim
      | some j =>
        rw [z] at c
        dsimp only at c
        cases z2:l[j]? with
        | none=>rw [z2] at c; exact c.elim
        | some d =>
          rw [z2] at c
          cases d with
          | int x =>
            obtain ⟨w,w1,w2⟩:=s3.get z2
            simp only [Rep] at w2
            subst w2
            have h1:=e.hh _ _ s2
            refine ⟨p,vs,k,_,rfl,rfl,.inl (.inl h1),by unfold atI; rw [s3.length,z]; exact w1,?_⟩
            refine h Λ F0 H0 F1 H1 σ δ _ (I.grow e) ((AftS.of (I.grow e) c).imp fun y F2 H2 e2 c2 v2 r2=>?_)
            cases y with
            | int y =>
              simp only [Rep] at r2
              subst r2
              refine ⟨x,y,rfl,rfl,p,vs,k,j,rfl,rfl,e2.hh _ _ h1,by rw [s3.length]; exact z,?_⟩
              exact c2 σ F2 _ (((I.grow e).grow e2).chg q s1 ⟨_,zal,((s3.mono e.ff).mono e2.ff).set j (by simp only [Rep])⟩)
            | _=>exact c2.elim
          | _=>exact c.elim
    | _=>exact c.elim
  · exact a.elim
def i2 (f:Int→Int→D) (x y:D):Option D:=match x,y with | .int i,.int j=>some (f i j) | _,_=>none
def i2c (C:Int→Int→Prop) (f:Int→Int→D) (x y:D):Option D:=match x,y with | .int i,.int j=>ifC (C i j) (some (f i j)) none | _,_=>none
theorem zkA {g:Int→Int→V} {f:Int→Int→D} (h:∀ i j F,Rep K F (f i j) (g i j)):SR K (rI0 g) (i2 f):=by
  intro F H x y dx dy d Q s hx hy e q
  cases dx with
  | int i =>
    cases dy with
    | int j =>
      cases e
      simp only [Top,Rep] at hx hy
      exact ⟨i,j,hx,hy,q _ F H (.refl s) (h i j F)⟩
    | _=>cases e
  | _=>cases e
theorem zjF {C:Int→Int→Prop} {g:Int→Int→V} {f:Int→Int→D} (h:∀ i j F,Rep K F (f i j) (g i j)):SR K (rI C g) (i2c C f):=by
  intro F H x y dx dy d Q s hx hy e q
  cases dx with
  | int i =>
    cases dy with
    | int j =>
      simp only [Top,Rep] at hx hy
      simp only [i2c] at e
      unfold ifC at e
      split at e
      · rename_i hc
        cases e
        exact ⟨i,j,hx,hy,hc,q _ F H (.refl s) (h i j F)⟩
      · cases e
    | _=>cases e
  | _=>cases e
def oAdd:D→D→Option D:=i2 fun i j=>.int (i + j)
def oSub:D→D→Option D:=i2 fun i j=>.int (i - j)
def oMul:D→D→Option D:=i2c (fun i j=>Fit i∧Fit j) fun i j=>.int (i * j)
def oDiv:D→D→Option D:=i2c (fun _ j=>j ≠ 0∧Fit j) fun i j=>.int (i.fdiv j)
def oMod:D→D→Option D:=i2c (fun _ j=>0 < j) fun i j=>.int (i % j)
def oPow:D→D→Option D:=i2c CPow fun i j=>.int (i ^ j.toNat)
def oLt:D→D→Option D:=i2 fun i j=>.bl (decide (i < j))
def oLe:D→D→Option D:=i2 fun i j=>.bl (decide (i ≤ j))
def oGt:D→D→Option D:=i2 fun i j=>.bl (decide (j < i))
def oGe:D→D→Option D:=i2 fun i j=>.bl (decide (j ≤ i))
theorem zcs:SR K (rI0 fun i j=>.int (i + j)) oAdd:=zkA fun _ _ _=>by simp only [Rep]
theorem zjN:SR K (rI0 fun i j=>.int (i - j)) oSub:=zkA fun _ _ _=>by simp only [Rep]
theorem zjW:SR K (rI (fun i j=>Fit i∧Fit j) fun i j=>.int (i * j)) oMul:=zjF fun _ _ _=>by simp only [Rep]
theorem zeF:SR K (rI (fun _ j=>j ≠ 0∧Fit j) fun i j=>.int (i.fdiv j)) oDiv:=zjF fun _ _ _=>by simp only [Rep]
theorem zdc:SR K (rI (fun _ j=>0 < j) fun i j=>.int (i % j)) oMod:=zjF fun _ _ _=>by simp only [Rep]
theorem ziN:SR K (rI CPow fun i j=>.int (i ^ j.toNat)) oPow:=zjF fun _ _ _=>by simp only [Rep]
theorem zlI:SR K (rI0 fun i j=>.bl (decide (i < j))) oLt:=zkA fun _ _ _=>by simp only [Rep]
theorem znx:SR K (rI0 fun i j=>.bl (decide (i ≤ j))) oLe:=zkA fun _ _ _=>by simp only [Rep]
theorem znI:SR K (rI0 fun i j=>.bl (decide (j < i))) oGt:=zkA fun _ _ _=>by simp only [Rep]
theorem zqT:SR K (rI0 fun i j=>.bl (decide (j ≤ i))) oGe:=zkA fun _ _ _=>by simp only [Rep]
def oNeg:D→Option D
  | .int i=>some (.int (-i))
  | _=>none
theorem zl0:SU K (rU fun i=>.int (-i)) oNeg:=by
  intro F H x dx d Q s hx e q
  cases dx with
  | int i=>cases e; simp only [Top,Rep] at hx; exact ⟨i,hx,q _ F H (.refl s) (by simp only [Rep])⟩
  | _=>cases e
def fl:D→Option V
  | .non=>some .non
  | .bl b=>some (.bl b)
  | .int i=>some (.int i)
  | .str x=>some (.str x)
  | _=>none
theorem zjB {d:D} {v x:V} (h:fl d=some v) (r:Top K F H d x):x=v:=by
  cases d with
  | non=>cases h; simpa only [Top,Rep] using r
  | bl _=>cases h; simpa only [Top,Rep] using r
  | int _=>cases h; simpa only [Top,Rep] using r
  | str _=>cases h; simpa only [Top,Rep] using r
  | _=>cases h
def oEq (x y:D):Option D:=match fl x,fl y with | some a,some b=>if scal a b=true then some (.bl (decide (a=b))) else none | _,_=>none
def oNe (x y:D):Option D:=match fl x,fl y with | some a,some b=>if scal a b=true then some (.bl (!decide (a=b))) else none | _,_=>none
theorem zky:SR K rEq oEq:=by
  intro F H x y dx dy d Q s hx hy e q
  unfold oEq at e
  split at e
  · rename_i a b h1 h2
    split at e
    · rename_i hs
      cases e
      cases zjB h1 hx; cases zjB h2 hy
      exact ⟨hs,q _ F H (.refl s) (by simp only [Rep])⟩
    · cases e
  · cases e
theorem zqQ:SR K rNe oNe:=by
  intro F H x y dx dy d Q s hx hy e q
  unfold oNe at e
  split at e
  · rename_i a b h1 h2
    split at e
    · rename_i hs
      cases e
      cases zjB h1 hx; cases zjB h2 hy
      exact ⟨hs,q _ F H (.refl s) (by simp only [Rep])⟩
    · cases e
  · cases e
def isN:D→Bool
  | .non=>true
  | _=>false
theorem zoB {d:D} {x:V} (r:Top K F H d x):decide (x = .non)=isN d:=by
  cases d with
  | non=>simp only [Top,Rep] at r; subst r; rfl
  | bl _=>simp only [Top,Rep] at r; subst r; rfl
  | int _=>simp only [Top,Rep] at r; subst r; rfl
  | str _=>simp only [Top,Rep] at r; subst r; rfl
  | tup _=>simp only [Top,Rep] at r; obtain ⟨a,_,rfl,_⟩:=r; rfl
  | lst _=>obtain ⟨a,_,rfl,_⟩:=r; rfl
  | dct _ _=>obtain ⟨a,_,rfl,_⟩:=r; rfl
  | scr _=>simp only [Top,Rep] at r; obtain ⟨a,rfl,_⟩:=r; rfl
  | exc _=>simp only [Top,Rep] at r; obtain ⟨a,_,rfl,_⟩:=r; rfl
  | fd _ _=>simp only [Top,Rep] at r; obtain ⟨a,_,_,rfl,_⟩:=r; rfl
  | obj _ _ _=>simp only [Top,Rep] at r; obtain ⟨a,_,_,rfl,_⟩:=r; rfl
def zmc (x y:D):Option D:=match y with | .non=>some (.bl (!isN x)) | _=>none
theorem znb:SR K (fun x y H Q=>y = .non∧Q (.bl (!decide (x = .non))) H) zmc:=by
  intro F H x y dx dy d Q s hx hy e q
  cases dy with
  | non=>cases e; simp only [Top,Rep] at hy; exact ⟨hy,q _ F H (.refl s) (by simp only [Rep]; rw [zoB hx])⟩
  | _=>cases e
def oIxL (x y:D):Option D:=match x,y with | .lst l,.int i=>atI l i | .scr l,.int i=>(atI l i).map .int | _,_=>none
def oIxT (x y:D):Option D:=match x,y with | .tup l,.int i=>atI l i | _,_=>none
theorem zjs {l:List D} {vs:List V} {i:Int} {d:D} (r:RepL K F l vs) (h:atI l i=some d):∃ v,atI vs i=some v∧Rep K F d v:=by
  unfold atI at h ⊢
  rw [r.length]
  cases q:ixN l.length i with
  | none=>rw [q] at h; cases h
  | some j=>rw [q] at h; exact r.get h
theorem zbH:SR K (rIxL K.f) oIxL:=by
  intro F H x y dx dy d Q s hx hy e q
  cases dx with
  | lst l =>
    cases dy with
    | int i =>
      obtain ⟨a,vs,rfl,h1,h2⟩:=hx
      simp only [Top,Rep] at hy
      obtain ⟨v,g1,g2⟩:=zjs h2 e
      exact ⟨a,vs,i,v,rfl,hy,.inl h1,g1,q _ F H (.refl s) g2⟩
    | _=>cases e
  | scr l =>
    cases dy with
    | int i =>
      simp only [Top,Rep] at hx hy
      obtain ⟨a,rfl,h1⟩:=hx
      simp only [oIxL] at e
      cases z:atI l i with
      | none=>rw [z] at e; cases e
      | some n =>
        rw [z] at e; cases e
        obtain ⟨v,g1,g2⟩:=zjs (F:=F) (K:=K) (l:=l.map .int) (vs:=l.map V.int) (i:=i) (d:=.int n) .ints (by
          unfold atI at z ⊢
          rw [List.length_map]
          cases q:ixN l.length i with
          | none=>rw [q] at z; cases z
          | some j =>
            rw [q] at z
            change l[j]?=some n at z
            show (l.map D.int)[j]?=_
            rw [List.getElem?_map,z]; rfl)
        exact ⟨a,_,i,v,rfl,hy,s.seq h1,g1,q _ F H (.refl s) g2⟩
    | _=>cases e
  | _=>cases e
theorem zol:SR K (rIxT K.f) oIxT:=by
  intro F H x y dx dy d Q s hx hy e q
  cases dx with
  | tup l =>
    cases dy with
    | int i =>
      simp only [Top,Rep] at hx hy
      obtain ⟨a,vs,rfl,h1,h2⟩:=hx
      obtain ⟨v,g1,g2⟩:=zjs h2 e
      exact ⟨a,vs,i,v,rfl,hy,.inl (.inl (s _ _ h1)),g1,q _ F H (.refl s) g2⟩
    | _=>cases e
  | _=>cases e
end
end PM
namespace PM
open PySem L2
section
variable {K:Kx} {XO:XOT} {E:St→XK} {ta tb te ty td:TE} {ma mb me my md:En→R D} {t u:TS} {m n:En→O} {Λ:List (Nat × Addr × HO)} {F0 H0 F H F1 H1:Hp} {σ:St} {δ:En} {Dn:Ends}
abbrev EN:St→XK:=fun _ _ _ _=>False
def zfb:Sl→Sl
  | .o d=>.l d
  | .p _=>.no
  | s=>s
def za9 (δ:En) (ix:List Nat) (n:Nat):En:=ix.map (fun i=>zfb (δ[i]?.getD .no)) ++ List.replicate n .no
def zcD (f:D→R (Option D)):List D→R (List D)
  | []=>.ok []
  | d :: l=>(f d).bind fun o=>(zcD f l).bind fun r=>.ok (o.toList ++ r)
def zdy (b:D→En→Option En) (nc:Option (En→R Bool)) (me:En→R D) (δ:En) (d:D):R (Option D):=match b d δ with
  | none=>.no
  | some δ1=>(match nc with
    | none=>(me δ1).nev.bind fun x=>.ok (some x)
    | some c=>(c δ1).nev.bind fun k=>if k=true then (me δ1).nev.bind fun x=>.ok (some x) else .ok none)
def zdi (mi:En→R (List D)) (ix:List Nat) (n:Nat) (b:D→En→Option En) (nc:Option (En→R Bool)) (me:En→R D) (δ:En):R D :=
  (mi δ).bind fun ds=>ifC (ds.length ≤ sizeLine) ((zcD (zdy b nc me (za9 δ ix n)) ds).nev.bind fun l=>.ok (.lst l)) .no
theorem zmH {ix:List Nat} {n:Nat} (I:EnvOk K Λ F0 H0 F H σ δ) (hix:ix.Nodup) :
    ∃ Λc,EnvOk K Λc F0 H0 F H (zcQ σ ix n) (za9 δ ix n)∧(∀ i:Nat,Sl.own (za9 δ ix n)[i]?=true→∃ x ∈ Λc,x.1=i)∧∀ x ∈ Λc,∃ o,H x.2.1=some o:=by
  have gd:∀ j:Nat,j < ix.length→(za9 δ ix n)[j]?=some (zfb (δ[ix.getD j 0]?.getD .no)):=fun j hj=>by
    unfold za9
    rw [List.getElem?_append_left (by simpa using hj),List.getElem?_map,List.getElem?_eq_getElem hj]
    simp [List.getD_eq_getElem?_getD,List.getElem?_eq_getElem hj]
  have gs:∀ j:Nat,j < ix.length→(zcQ σ ix n)[j]?=some ((σ[ix.getD j 0]?).getD none):=fun j hj=>by
    unfold zcQ
    rw [List.getElem?_append_left (by simpa using hj),List.getElem?_map,List.getElem?_eq_getElem hj]
    simp [List.getD_eq_getElem?_getD,List.getElem?_eq_getElem hj]
  have gn:∀ j:Nat,¬ j < ix.length→(za9 δ ix n)[j]?=some .no∨(za9 δ ix n)[j]?=none:=fun j hj=>by
    unfold za9
    rw [List.getElem?_append_right (by simpa using hj),List.getElem?_replicate]
    split
    · exact .inl rfl
    · exact .inr rfl
  have own:∀ j:Nat,Sl.own (za9 δ ix n)[j]?=true→j < ix.length∧∃ d a o,δ[ix.getD j 0]?=some d∧Sl.own (some d)=true∧(za9 δ ix n)[j]?=some (zfb d)∧(∃ e,zfb d = .l e)∧σ[ix.getD j 0]?=some (some (.ref a))∧(zcQ σ ix n)[j]?=some (some (.ref a))∧H a=some o∧H0 a=none∧F a=none:=fun j h=>by
    by_cases hj:j < ix.length
    · refine ⟨hj,?_⟩
      rw [gd j hj] at h
      have z:=I.slot (ix.getD j 0)
      cases q:δ[ix.getD j 0]? with
      | none=>rw [q] at h; cases h
      | some s =>
        rw [q] at h z
        cases s with
        | no=>cases h
        | v d=>cases h
        | o d =>
          obtain ⟨a,z1,z2,z3,z4⟩:=z
          obtain ⟨o,ho⟩:=z4.obj
          exact ⟨_,a,o,rfl,rfl,by rw [gd j hj,q]; rfl,⟨d,rfl⟩,z1,by rw [gs j hj,z1]; rfl,ho,z2,z3⟩
        | l d =>
          obtain ⟨a,z1,z2,z3,z4⟩:=z
          obtain ⟨o,ho⟩:=z4.obj
          exact ⟨_,a,o,rfl,rfl,by rw [gd j hj,q]; rfl,⟨d,rfl⟩,z1,by rw [gs j hj,z1]; rfl,ho,z2,z3⟩
        | p ll=>cases h
    · rcases gn j hj with z | z <;> (rw [z] at h; cases h)
  let Λc:List (Nat × Addr × HO):=(List.range ix.length).filterMap fun (j:Nat)=>match (zcQ σ ix n)[j]? with
    | some (some (V.ref a))=>if Sl.own (za9 δ ix n)[j]?=true then (H a).map fun o=>(j,a,o) else none
    | _=>none
  have mem:∀ x ∈ Λc,(zcQ σ ix n)[x.1]?=some (some (.ref x.2.1))∧Sl.own (za9 δ ix n)[x.1]?=true∧H x.2.1=some x.2.2:=fun x hx=>by
    obtain ⟨j,_,h⟩:=List.mem_filterMap.mp hx
    split at h
    · rename_i a q
      split at h
      · rename_i ow
        cases q2:H a with
        | none=>rw [q2] at h; cases h
        | some o=>rw [q2] at h; cases h; exact ⟨q,ow,q2⟩
      · cases h
    · cases h
  have zjm:∀ (j:Nat) (ll:List (List Int)),(za9 δ ix n)[j]? ≠ some (.p ll):=fun j ll h=>by
    by_cases hj:j < ix.length
    · rw [gd j hj] at h
      cases q:δ[ix.getD j 0]? with
      | none=>rw [q] at h; cases h
      | some s=>rw [q] at h; cases s <;> cases h
    · rcases gn j hj with z | z <;> (rw [z] at h; cases h)
  refine ⟨Λc,⟨I.ext,?_,fun j=>?_,fun i j a hij h1 h2 h3 h4=>?_,fun x hx=>?_,fun j ll a vs h=>absurd h (zjm j ll)⟩,fun j h=>?_,fun x hx=>⟨_,(mem x hx).2.2⟩⟩
  · unfold zcQ za9
    simp
  · by_cases hj:j < ix.length
    · rw [gd j hj,gs j hj]
      have z:=I.slot (ix.getD j 0)
      cases q:δ[ix.getD j 0]? with
      | none=>trivial
      | some s =>
        rw [q] at z
        cases s with
        | no=>trivial
        | v d=>obtain ⟨u,z1,z2⟩:=z; exact ⟨u,by rw [z1]; rfl,z2⟩
        | o d=>obtain ⟨a,z1,z2⟩:=z; exact ⟨a,by rw [z1]; rfl,z2⟩
        | l d=>obtain ⟨a,z1,z2⟩:=z; exact ⟨a,by rw [z1]; rfl,z2⟩
        | p ll=>trivial
    · rcases gn j hj with z | z <;> (rw [z]; trivial)
  · obtain ⟨i1,d1,a1,o1,i2,i3,i4,i5,i6,i7,i8⟩:=own i h1
    obtain ⟨j1,d2,a2,o2,j2,j3,j4,j5,j6,j7,j8⟩:=own j h2
    rw [i7] at h3; cases h3
    rw [j7] at h4; cases h4
    refine I.dist (ix.getD i 0) (ix.getD j 0) a (fun e=>hij ?_) (by rw [i2]; exact i3) (by rw [j2]; exact j3) i6 j6
    rw [List.getD_eq_getElem?_getD,List.getD_eq_getElem?_getD,List.getElem?_eq_getElem i1,List.getElem?_eq_getElem j1] at e
    exact ((List.getElem?_inj i1 hix).mp (by rw [List.getElem?_eq_getElem i1,List.getElem?_eq_getElem j1]; exact congrArg some e))
  · obtain ⟨m1,m2,m3⟩:=mem x hx
    obtain ⟨_,d,_,_,_,_,h4,⟨e,h5⟩,_⟩:=own x.1 m2
    exact ⟨⟨e,by rw [h4,h5]⟩,m1,m3⟩
  · obtain ⟨i1,d1,a1,o1,i2,i3,i4,i5,i6,i7,i8,_⟩:=own j h
    refine ⟨(j,a1,o1),List.mem_filterMap.mpr ⟨j,List.mem_range.mpr i1,?_⟩,rfl⟩
    rw [i7]
    show (if Sl.own (za9 δ ix n)[j]?=true then (H a1).map fun o=>(j,a1,o) else none)=_
    rw [if_pos h,i8]
    rfl
theorem EnvOk.side {p:Addr} {w:HO} (I:EnvOk K Λ F0 H0 F H σ δ) (ho:∀ i:Nat,Sl.own δ[i]?=true→∃ x ∈ Λ,x.1=i) (hp:∀ x ∈ Λ,x.2.1 ≠ p) (h0:H0 p=none) (h1:F p=none):EnvOk K Λ F0 H0 F (upd H p w) σ δ:=by
  have ne:∀ (i:Nat) (a:Addr),Sl.own δ[i]?=true→σ[i]?=some (some (.ref a))→a ≠ p:=fun i a h h'=>by
    obtain ⟨x,hx,e⟩:=ho i h
    have z:=(I.lent x hx).2.1
    rw [e,h'] at z
    cases z
    exact hp x hx
  have zjm:∀ (j:Nat) (ll:List (List Int)),δ[j]? ≠ some (.p ll):=fun j ll h=>by
    obtain ⟨x,hx,e⟩:=ho j (by rw [h]; rfl)
    obtain ⟨d,hd⟩:=(I.lent x hx).1
    rw [e,h] at hd; cases hd
  refine ⟨⟨I.ext.ff,fun b o q=>?_,fun b o q=>?_,I.ext.nw⟩,I.len,fun i=>?_,I.dist,fun x hx=>?_,fun j ll a vs h=>absurd h (zjm j ll)⟩
  · rw [zai (zah q h0)]; exact I.ext.hh b o q
  · rw [zai (zah q h1)]; exact I.ext.fh b o q
  · have z:=I.slot i
    cases q:δ[i]? with
    | none=>trivial
    | some s =>
      rw [q] at z
      cases s with
      | no=>trivial
      | v d=>exact z
      | o d=>obtain ⟨a,z1,z2,z3,z4⟩:=z; exact ⟨a,z1,z2,z3,z4.at (zai (ne i a (by rw [q]; rfl) z1))⟩
      | l d=>obtain ⟨a,z1,z2,z3,z4⟩:=z; exact ⟨a,z1,z2,z3,z4.at (zai (ne i a (by rw [q]; rfl) z1))⟩
      | p ll=>exact absurd q (zjm i ll)
  · obtain ⟨z1,z2,z3⟩:=I.lent x hx
    exact ⟨z1,z2,by rw [zai (hp x hx)]; exact z3⟩
theorem EnvOk.weakL {δ':En} (w:Weak δ δ') (hl:∀ x ∈ Λ,∃ d,δ[x.1]?=some (.l d)) (I:EnvOk K Λ F0 H0 F H σ δ'):EnvOk K Λ F0 H0 F H σ δ:=by
  refine ⟨I.ext,I.len.trans w.1.symm,fun i=>?_,fun i j a hij h1 h2 h3 h4=>?_,fun x hx=>⟨hl x hx,(I.lent x hx).2⟩,I.tabsOf (fun k ll h=>⟨(w.2 k).elim (fun z=>by rw [z] at h; cases h) fun z=>by rw [← z]; exact h,rfl⟩) (fun _ _ _ _ _=>rfl) fun k j ll r b bs _ _ _ _ ho hs=>.inl ⟨(w.2 j).elim (fun z=>by rw [z] at ho; cases ho) fun z=>by rw [← z]; exact ho,hs⟩⟩
  · rcases w.2 i with z | z
    · rw [z]; trivial
    · rw [z]; exact I.slot i
  · have ow:∀ k:Nat,Sl.own δ[k]?=true→Sl.own δ'[k]?=true:=fun k h=>by
      rcases w.2 k with z | z
      · rw [z] at h; cases h
      · rw [← z]; exact h
    exact I.dist i j a hij (ow i h1) (ow j h2) h3 h4
theorem zjp {f:D→R (Option D)} {d:D} {l r:List D} (h:(zcD f (d :: l)).nev = .ok r):∃ o r',f d = .ok o∧(zcD f l).nev = .ok r'∧r=o.toList ++ r':=by
  unfold zcD at h
  cases q:f d with
  | no=>rw [q] at h; cases h
  | ex x=>rw [q] at h; cases h
  | ok o =>
    rw [q] at h
    cases q2:zcD f l with
    | no=>rw [R.bind_ok,q2] at h; cases h
    | ex x=>rw [R.bind_ok,q2] at h; cases h
    | ok r'=>rw [R.bind_ok,q2] at h; cases h; exact ⟨o,r',rfl,rfl,rfl⟩
theorem nev_ok {α:Type} {r:R α} {a:α} (h:r.nev = .ok a):r = .ok a:=by
  cases r with
  | no=>cases h
  | ok b=>cases h; rfl
  | ex x=>cases h
theorem zbt {wi:TI} {mi:En→R (List D)} {ix:List Nat} {n:Nat} {g:TG} {b:D→En→Option En} {tc:Option TT} {nc:Option (En→R Bool)}
    (hi:SIc K XO E wi mi) (hix:ix.Nodup) (hg:SG K g b) (hw:BW b) (hc:(tc=none∧nc=none)∨∃ c k,tc=some c∧nc=some k∧ST K XO EN c k) (he:SE K XO EN te me):SEo K XO E (zpq wi ix n g tc te) (zdi mi ix n b nc me):=by
  intro Λ F0 H0 F H σ δ Q I a
  refine hi Λ F0 H0 F H σ δ _ I (a.bind.imp fun ds F1 H1 e1 a1 J hJ p hp=>?_)
  unfold ifC at a1
  split at a1
  case isFalse=>exact a1.elim
  rename_i hsz
  have I1:=I.grow e1
  obtain ⟨Λc,Ic,hown,hall⟩:=zmH (n:=n) I1 hix
  cases qg:(zcD (zdy b nc me (za9 δ ix n)) ds).nev with
  | no=>rw [qg] at a1; exact a1.elim
  | ex x=>cases q2:zcD (zdy b nc me (za9 δ ix n)) ds <;> (rw [q2] at qg; cases qg)
  | ok l =>
  rw [qg] at a1
  have hlent:∀ x ∈ Λc,∃ d,(za9 δ ix n)[x.1]?=some (.l d):=fun x hx=>(Ic.lent x hx).1
  have hpn:∀ x ∈ Λc,x.2.1 ≠ p:=fun x hx e=>by
    obtain ⟨o,ho⟩:=hall x hx
    rw [e,hp] at ho; cases ho
  have p0:H0 p=none:=I1.ext.hh.free hp
  have f1:F1 p=none:=e1.fh.free hp
  refine ⟨fun i k ys σ2 H2=>∃ F2 l1 l2,EnvOk K Λc F0 H0 F2 H2 σ2 (za9 δ ix n)∧Ext F1 H1 F2 H2∧H2 p=some (.lst ys)∧F2 p=none∧RepL K F2 l1 ys∧(zcD (zdy b nc me (za9 δ ix n)) (ds.drop i)).nev = .ok l2∧l=l1 ++ l2∧k=ds.length - i∧i ≤ ds.length∧ys.length ≤ i,
    ⟨_,F1,[],l,?_,.newO e1.fh hp,zal,f1,.nil,qg,rfl,rfl,Nat.zero_le _,Nat.le_refl _⟩,?_⟩
  · exact Ic.grow (.newO e1.fh hp)
  rintro i k ys σ2 H2 ⟨F2,l1,l2,I2,x2,hD,hF,r,qd,rfl,rfl,hil,hys⟩
  refine ⟨hD,?_⟩
  by_cases hlt:i < ds.length
  · have e:ds.drop i=ds[i] :: ds.drop (i + 1):=List.drop_eq_getElem_cons hlt
    rw [e] at qd
    obtain ⟨o,l3,q1,q3,rfl⟩:=zjp qd
    obtain ⟨h1,h2⟩:=(hJ F2 H2 x2 i).1 ds[i] (by simp [hlt])
    refine .inr ⟨h1,fun ys' σ' H'=>∃ F' l1',EnvOk K Λc F0 H0 F' H' σ' (za9 δ ix n)∧Ext F1 H1 F' H'∧H' p=some (.lst ys')∧F' p=none∧RepL K F' l1' ys'∧l1 ++ (o.toList ++ l3)=l1' ++ l3∧ys'.length ≤ i + 1,
      fun ys' σ' H' ⟨F',l1',w1,w2,w3,w4,w5,w6,w7⟩=>⟨_,by omega,F',l1',l3,w1,w2,w3,w4,w5,q3,w6,rfl,hlt,w7⟩,fun x H' y=>?_⟩
    obtain ⟨F3,e3,rx⟩:=h2 x H' y
    have hp2:∀ {F5 H5:Hp},Ext F2 H2 F5 H5→H5 p=some (.lst ys)∧F5 p=none:=fun z=>⟨z.hh _ _ hD,z.nw p _ hF hD⟩
    unfold zdy at q1
    cases qb:b ds[i] (za9 δ ix n) with
    | none=>rw [qb] at q1; cases q1
    | some δ1 =>
      rw [qb] at q1
      have hwk:=hw _ _ _ qb
      refine hg Λc F0 H0 F3 H' σ2 _ _ x δ1 _ (I2.grow e3) rx qb fun σ3 I3=>?_
      have fin:∀ F4 H4,Ext F3 H' F4 H4→(me δ1).nev.bind (fun x=>R.ok (some x)) = .ok o→te σ3 H4 fun y H5=>H5 p=some (.lst ys)∧ys.length < sizeLine ∧
          ∃ F' l1',EnvOk K Λc F0 H0 F' (upd H5 p (.lst (ys ++ [y]))) σ3 (za9 δ ix n)∧Ext F1 H1 F' (upd H5 p (.lst (ys ++ [y])))∧upd H5 p (.lst (ys ++ [y])) p=some (.lst (ys ++ [y]))∧F' p=none∧RepL K F' l1' (ys ++ [y])∧l1 ++ (o.toList ++ l3)=l1' ++ l3∧(ys ++ [y]).length ≤ i + 1:=by
        intro F4 H4 e4 qe
        cases qm:me δ1 with
        | no=>rw [qm] at qe; cases qe
        | ex x=>rw [qm] at qe; cases qe
        | ok d =>
          rw [qm] at qe
          cases qe
          refine he Λc F0 H0 F4 H4 σ3 δ1 _ (I3.grow e4) ?_
          rw [qm]
          intro F5 H5 e5 v rv
          have z:=e3.trans (e4.trans e5)
          obtain ⟨z1,z2⟩:=hp2 z
          refine ⟨z1,by omega,F5,l1 ++ [d],(((I3.grow e4).grow e5).weakL hwk hlent).side hown hpn p0 z2,?_,zal,z2,(r.mono z.ff).append (.cons rv .nil),by simp,by simpa using hys⟩
          have w:=x2.trans z
          exact ⟨w.ff,fun c o q=>by rw [zai (zah q hp)]; exact w.hh c o q,fun c o q=>by rw [zai (zah q z2)]; exact w.fh c o q,w.nw⟩
      rcases hc with ⟨rfl,rfl⟩ | ⟨c,kc,rfl,rfl,hcc⟩
      · have z:=fin F3 H' (.refl e3.fh) q1
        unfold zox
        simp only [if_true]
        exact z
      · simp only at q1
        refine hcc Λc F0 H0 F3 H' σ3 δ1 _ I3 ?_
        cases qk:kc δ1 with
        | no=>rw [qk] at q1; cases q1
        | ex x=>rw [qk] at q1; cases q1
        | ok bb =>
          rw [qk] at q1
          intro F4 H4 e4
          cases bb with
          | true=>rw [if_pos rfl]; exact fin F4 H4 e4 q1
          | false =>
            rw [if_neg Bool.false_ne_true]
            have eo:o=none:=by
              rw [R.nev_ok,R.bind_ok,if_neg Bool.false_ne_true] at q1
              cases q1; rfl
            subst eo
            have z:=e3.trans e4
            obtain ⟨z1,z2⟩:=hp2 z
            exact ⟨F4,l1,(I3.grow e4).weakL hwk hlent,x2.trans z,z1,z2,r.mono z.ff,rfl,by omega⟩
  · have e:i=ds.length:=by omega
    subst e
    rw [List.drop_length] at qd
    cases qd
    refine .inl ⟨(hJ F2 H2 x2 _).2 (by simp),a1 F2 H2 x2 p hF (e1.hh.free hp) ⟨ys,hD,?_⟩⟩
    rw [List.append_nil]
    exact r
def zcE (n:Nat) (ds:List D):En:=ds.map .v ++ List.replicate n .no
def runF (np nv:Nat) (m:En→O) (ds:List D):R D:=if ds.length=np then (match m (zcE nv ds) with | .rt d=>.ok d | .nx _=>.ok .non | .ex _ x=>.ex x | _=>.no) else .no
theorem zjA {np nv:Nat} {N:List Str} {ds:List D} {vs:List V} (s:Same F H) (r:RepL K F ds vs) (hn:N.length=np + nv) (hl:ds.length=np):EnvOk K [] F H F H (L2.start N vs) (zcE nv ds):=by
  have hv:=r.length
  unfold L2.start zcE
  have en:N.length - vs.length=nv:=by omega
  rw [en]
  refine ⟨.refl s,by simp [hv],fun i=>?_,fun i j a _ h1 _ _ _=>?_,fun x hx=>(by cases hx),fun i ll a vs h1=>(by
    by_cases hi:i < ds.length
    · rw [List.getElem?_append_left (by simpa using hi),List.getElem?_map,List.getElem?_eq_getElem hi] at h1
      cases h1
    · rw [List.getElem?_append_right (by simpa using hi),List.getElem?_replicate] at h1
      split at h1 <;> cases h1)⟩
  · by_cases hi:i < ds.length
    · rw [List.getElem?_append_left (by simpa using hi),List.getElem?_append_left (by simp; omega),List.getElem?_map,List.getElem?_map,List.getElem?_eq_getElem hi]
      obtain ⟨v,h1,h2⟩:=r.get (List.getElem?_eq_getElem hi)
      rw [h1]
      exact ⟨v,rfl,h2⟩
    · rw [List.getElem?_append_right (by simpa using hi),List.getElem?_replicate]
      split <;> trivial
  · by_cases hi:i < ds.length
    · rw [List.getElem?_append_left (by simpa using hi),List.getElem?_map,List.getElem?_eq_getElem hi] at h1
      cases h1
    · rw [List.getElem?_append_right (by simpa using hi),List.getElem?_replicate] at h1
      split at h1 <;> cases h1
theorem zdk {np nv:Nat} {N:List Str} {vs:List V} {Q:VK} {E:XK} (h:SS K XO (fun _=>E) t m) (hn:N.length=np + nv) (sp:spM K XO (runF np nv m) vs H Q E):t { nx:=fun _ H'=>Q .non H',rt:=Q } (L2.start N vs) H:=by
  obtain ⟨F,ds,s,r,a⟩:=sp
  unfold runF at a
  split at a
  · rename_i hl
    refine h [] F H F H _ _ _ (zjA s r hn hl) ?_
    cases q:m (zcE nv ds) with
    | no=>rw [q] at a; exact a
    | nx δ=>rw [q] at a; exact fun σ F' H' I=>a F' H' I.ext _ (by simp only [Rep])
    | rt d=>rw [q] at a; exact fun v F' H' e r=>a F' H' e v r
    | ro d=>rw [q] at a; exact a.elim
    | bk δ=>rw [q] at a; exact a.elim
    | ct δ=>rw [q] at a; exact a.elim
    | ex δ x=>rw [q] at a; exact fun σ F' H' C dct I w=>a C dct F' H' I.ext w
  · exact a.elim
def runO (np nv:Nat) (m:En→O) (ds:List D):R D:=if ds.length=np then (match m (zcE nv ds) with | .ro d=>.ok d | .ex _ x=>.ex x | _=>.no) else .no
def spO (K:Kx) (XO:XOT) (f:List D→R D):Sp:=fun vs H Q E=>∃ F ds,Same F H∧RepL K F ds vs∧Aft (fun _=>E) XO [] F H (fun d F' H'=>∀ p,F' p=none→H p=none→Own K F' H' d p→Q (.ref p) H') (f ds)
theorem zd8 {np nv:Nat} {N:List Str} {vs:List V} {Q:VK} {E:XK} (h:SS K XO (fun _=>E) t m) (hn:N.length=np + nv) (sp:spO K XO (runO np nv m) vs H Q E):t { nx:=fun _ H'=>Q .non H',rt:=Q } (L2.start N vs) H:=by
  obtain ⟨F,ds,s,r,a⟩:=sp
  unfold runO at a
  split at a
  · rename_i hl
    refine h [] F H F H _ _ _ (zjA s r hn hl) ?_
    cases q:m (zcE nv ds) with
    | no=>rw [q] at a; exact a
    | nx δ=>rw [q] at a; exact a.elim
    | rt d=>rw [q] at a; exact a.elim
    | ro d=>rw [q] at a; exact fun p F' H' e h0 h1 o=>a F' H' e p h0 h1 o
    | bk δ=>rw [q] at a; exact a.elim
    | ct δ=>rw [q] at a; exact a.elim
    | ex δ x=>rw [q] at a; exact fun σ F' H' C dct I w=>a C dct F' H' I.ext w
  · exact a.elim
theorem zcR {np nv:Nat} {vs:List V} {Q:VK} {E:XK} (sp:spO K XO (runO np nv m) vs H Q E):vs.length=np:=by
  obtain ⟨F,ds,s,r,a⟩:=sp
  unfold runO at a
  split at a
  · rename_i hl; rw [r.length]; exact hl
  · exact a.elim
theorem zbv {np nv:Nat} {vs:List V} {Q:VK} {E:XK} (sp:spM K XO (runF np nv m) vs H Q E):vs.length=np:=by
  obtain ⟨F,ds,s,r,a⟩:=sp
  unfold runF at a
  split at a
  · rename_i hl; rw [r.length]; exact hl
  · exact a.elim
theorem zp2 {f:List D→R D} {ns:List Int} {a:Addr} {Q:VK} {E:XK} (hf:f [.scr ns] = .ok (.bl true)) (h:SqL K.f H a (ns.map V.int)) (q:∀ H',Q (.bl true) H'):spM K XO f [.ref a] H Q E:=by
  refine ⟨fun b=>if b=a then H b else none,[.scr ns],fun b o e=>?_,.cons ?_ .nil,?_⟩
  · dsimp only at e
    split at e
    · exact e
    · cases e
  · simp only [Rep]
    refine ⟨a,rfl,?_⟩
    rcases h with (h | ⟨o,h⟩) | h
    · exact .inl (.inl (by dsimp only; rw [if_pos rfl]; exact h))
    · exact .inl (.inr ⟨o,by dsimp only; rw [if_pos rfl]; exact h⟩)
    · exact .inr h
  · rw [hf]
    intro F' H' _ v r
    simp only [Rep] at r
    subst r
    exact q H'
theorem zbY {f:List D→R D} {tl:TA} {ml:En→R (List D)} {E':XK} (h:SA K XO E tl ml):SEo K XO E (zmW (spO K XO f) [] E' tl) (zak f ml):=by
  intro Λ F0 H0 F H σ δ Q I a
  refine h Λ F0 H0 F H σ δ _ I (a.bind.imp fun ds F1 H1 e1 a1 vs r=>⟨F1,ds,e1.fh,by rw [List.append_nil]; exact r,?_⟩)
  exact Aft.imp (fun d F2 H2 e2 p q h0 h1 o=>p q h0 (e1.hh.free h1) o) (Aft.any a1)
mutual
def zdn:D→Bool
  | .tup l=>zeE l
  | .lst _=>false
  | .dct _ _=>false
  | .scr _=>false
  | .exc _=>false
  | .fd _ _=>false
  | .obj _ _ _=>false
  | _=>true
def zeE:List D→Bool
  | []=>true
  | d :: l=>zdn d && zeE l
end
variable (K) in
def Bor (F H:Hp) (d:D) (v:V):Prop:=Rep K F d v∨∃ a,v = .ref a∧Own K F H d a
variable (K XO E) in
def SAb (t:TA) (m:En→R (List D)):Prop:=∀ Λ F0 H0 F H σ δ Q,EnvOk K Λ F0 H0 F H σ δ→Aft E XO σ F H (fun ds F' H'=>∀ vs,Prd (Bor K F' H') ds vs→Q vs H') (m δ)→t σ H Q
theorem Bor.mono {F H F' H':Hp} (e:Ext F H F' H') {d:D} {v:V}:Bor K F H d v→Bor K F' H' d v
  | .inl h=>.inl (Rep.mono e.ff _ h)
  | .inr ⟨a,h1,h2⟩=>.inr ⟨a,h1,h2.mono e.ff e.hh⟩
theorem zfv:SAb K XO E tNil mNil:=fun Λ F0 H0 F H σ δ Q I a=>a F H (.refl I.same) _ .nil
theorem zet {tr:TA} {mr:En→R (List D)} (ha:SE K XO E ta ma) (hr:SAb K XO E tr mr):SAb K XO E (zcy ta tr) (zaa ma mr):=by
  intro Λ F0 H0 F H σ δ Q I a
  refine ha Λ F0 H0 F H σ δ _ I (a.bind.imp fun dx F1 H1 e1 a1 x rx=>?_)
  refine hr Λ F0 H0 F1 H1 σ δ _ (I.grow e1) (a1.bind.imp fun dy F2 H2 e2 a2 y ry=>?_)
  exact a2 F2 H2 (.refl e2.fh) _ (.cons (.inl (Rep.mono e2.ff _ rx)) ry)
theorem zhO {i:Nat} {tr:TA} {mr:En→R (List D)} (hr:SAb K XO E tr mr):SAb K XO E (zcy (tVar i) tr) (zaa (mRd i) mr):=by
  intro Λ F0 H0 F H σ δ Q I a
  have key:∀ d v,mRd i δ = .ok d→σ[i]?=some (some v)→Bor K F H d v→zcy (tVar i) tr σ H Q:=fun d v hm hs b=>by
    unfold zaa at a
    rw [hm] at a
    refine ⟨v,hs,hr Λ F0 H0 F H σ δ _ I (Aft.imp (fun dy F2 H2 e2 a2 y ry=>?_) (Aft.bind a))⟩
    exact a2 F2 H2 (.refl e2.fh) _ (.cons (b.mono e2) ry)
  have z:=I.slot i
  unfold zaa at a
  cases q:δ[i]? with
  | none =>
    have e:mRd i δ = .no:=by unfold mRd; rw [q]
    rw [e] at a; exact a.elim
  | some s =>
    rw [q] at z
    cases s with
    | no =>
      have e:mRd i δ = .no:=by unfold mRd; rw [q]
      rw [e] at a; exact a.elim
    | v d=>obtain ⟨u,z1,z2⟩:=z; exact key d u (by unfold mRd; rw [q]) z1 (.inl z2)
    | o d=>obtain ⟨u,z1,_,_,z2⟩:=z; exact key d _ (by unfold mRd; rw [q]) z1 (.inr ⟨u,rfl,z2⟩)
    | l d=>obtain ⟨u,z1,_,_,z2⟩:=z; exact key d _ (by unfold mRd; rw [q]) z1 (.inr ⟨u,rfl,z2⟩)
    | p ll =>
      have e:mRd i δ = .no:=by unfold mRd; rw [q]
      rw [e] at a; exact a.elim
def zbB (F H:Hp):Hp:=fun b=>match F b with
  | some o=>some o
  | none=>match H b with
    | some (.lst vs)=>some (.lst vs)
    | some (.dK kvs)=>some (.dK kvs)
    | some (.frz o u)=>some (.frz o u)
    | some (.ins C dx fs)=>some (.ins C dx fs)
    | _=>none
theorem zd6 {F H:Hp}:Same F (zbB F H):=fun b o h=>by unfold zbB; rw [h]
theorem zhp {F H:Hp} (s:Same F H):Same (zbB F H) H:=fun b o h=>by
  unfold zbB at h
  cases q:F b with
  | some u=>rw [q] at h; cases h; exact s _ _ q
  | none =>
    simp only [q] at h
    cases q2:H b with
    | none=>rw [q2] at h; cases h
    | some u=>cases u <;> simp only [q2] at h <;> cases h <;> rfl
theorem zhy {F H:Hp} (s:Same F H):∀ {d:D} {v:V},Bor K F H d v→Rep K (zbB F H) d v:=by
  intro d v h
  rcases h with h | ⟨a,rfl,h⟩
  · exact Rep.mono zd6 _ h
  · cases d with
    | lst l =>
      obtain ⟨vs,h1,h2⟩:=h
      simp only [Rep]
      refine ⟨a,vs,rfl,.inl ?_,h2.mono zd6⟩
      unfold zbB
      cases q:F a with
      | some u=>rw [s _ _ q] at h1; exact h1
      | none=>simp only [h1]
    | dct ks l =>
      obtain ⟨vs,h1,h0,h2⟩:=h
      simp only [Rep]
      refine ⟨a,vs,rfl,?_,h0,h2.mono zd6⟩
      unfold zbB
      cases q:F a with
      | some u=>rw [s _ _ q] at h1; exact h1
      | none=>simp only [h1]
    | obj c ks l =>
      obtain ⟨dx,vs,h1,h0,h2⟩:=h
      simp only [Rep]
      refine ⟨a,dx,vs,rfl,?_,h0,h2.mono zd6⟩
      unfold zbB
      cases q:F a with
      | some u=>rw [s _ _ q] at h1; exact h1
      | none=>simp only [h1]
    | _=>exact h.elim
theorem zhJ {F H:Hp} (s:Same F H):∀ {ds:List D} {vs:List V},Prd (Bor K F H) ds vs→RepL K (zbB F H) ds vs
  | _,_,.nil=>.nil
  | _,_,.cons h t=>.cons (zhy s h) (zhJ s t)
open Classical in
def minH (F H F':Hp):Hp:=fun b=>if F b=none∧H b ≠ none then none else F' b
theorem zou {F H F' H':Hp} (e:Ext (zbB F H) H F' H') {a:Addr} {o:HO} (h:F' a=some o) (h1:∀ vs,o ≠ .lst vs) (h2:∀ kvs,o ≠ .dK kvs) (h3:∀ q u,o ≠ .frz q u) (h4:∀ C dx fs,o ≠ .ins C dx fs):minH F H F' a=some o:=by
  unfold minH
  split
  · rename_i hc
    exfalso
    cases qh:H a with
    | none=>exact hc.2 qh
    | some u =>
      have np:zbB F H a=match H a with | some (.lst vs)=>some (.lst vs) | some (.dK kvs)=>some (.dK kvs) | some (.frz o u)=>some (.frz o u) | some (.ins C dx fs)=>some (.ins C dx fs) | _=>none:=by
        unfold zbB; rw [hc.1]
      cases u with
      | lst vs=>rw [qh] at np; have z:=e.ff a _ np; rw [h] at z; cases z; exact h1 vs rfl
      | dK vs=>rw [qh] at np; have z:=e.ff a _ np; rw [h] at z; cases z; exact h2 vs rfl
      | frz q w=>rw [qh] at np; have z:=e.ff a _ np; rw [h] at z; cases z; exact h3 q w rfl
      | ins C dx fs=>rw [qh] at np; have z:=e.ff a _ np; rw [h] at z; cases z; exact h4 C dx fs rfl
      | _=>rw [qh] at np; have z:=e.nw a _ np qh; rw [h] at z; cases z
  · exact h
mutual
theorem zhz {F H F' H':Hp} (e:Ext (zbB F H) H F' H'):∀ (d:D) {v:V},zdn d=true→Rep K F' d v→Rep K (minH F H F') d v
  | .non,v,_,h=>by simp only [Rep] at h ⊢; exact h
  | .bl _,v,_,h=>by simp only [Rep] at h ⊢; exact h
  | .int _,v,_,h=>by simp only [Rep] at h ⊢; exact h
  | .str _,v,_,h=>by simp only [Rep] at h ⊢; exact h
  | .lst _,v,c,h=>by simp only [zdn] at c; cases c
  | .dct _ _,v,c,h=>by simp only [zdn] at c; cases c
  | .scr _,v,c,h=>by simp only [zdn] at c; cases c
  | .exc _,v,c,h=>by simp only [zdn] at c; cases c
  | .fd _ _,v,c,h=>by simp only [zdn] at c; cases c
  | .obj _ _ _,v,c,h=>by simp only [zdn] at c; cases c
  | .tup l,v,c,h=>by
    simp only [zdn] at c
    simp only [Rep] at h ⊢
    obtain ⟨a,vs,h1,h2,h3⟩:=h
    exact ⟨a,vs,h1,zou e h2 (fun _ z=>by cases z) (fun _ z=>by cases z) (fun _ _ z=>by cases z) (fun _ _ _ z=>by cases z),zhS e l c h3⟩
theorem zhS {F H F' H':Hp} (e:Ext (zbB F H) H F' H'):∀ (l:List D) {vs:List V},zeE l=true→RepL K F' l vs→RepL K (minH F H F') l vs
  | [],vs,_,h=>by simp only [RepL] at h ⊢; exact h
  | d :: l,vs,c,h=>by
    simp only [zeE,Bool.and_eq_true] at c
    simp only [RepL] at h ⊢
    obtain ⟨v,r,h1,h2,h3⟩:=h
    exact ⟨v,r,h1,zhz e d c.1 h2,zhS e l c.2 h3⟩
end
theorem zhD {F H F' H':Hp} (e:Ext (zbB F H) H F' H'):Ext F H (minH F H F') H':=by
  refine ⟨fun b o h=>?_,e.hh,fun b o h=>?_,fun p o h1 h2=>?_⟩
  · unfold minH
    rw [if_neg (fun hc=>by rw [h] at hc; cases hc.1)]
    exact e.ff b o (zd6 b o h)
  · unfold minH at h
    split at h
    · cases h
    · exact e.fh b o h
  · unfold minH
    rw [if_pos ⟨h1,by rw [h2]; intro z; cases z⟩]
def zdm (f:List D→R D) (ml:En→R (List D)) (δ:En):R D:=(ml δ).bind fun l=>(f l).nev.bind fun d=>if zdn d=true then .ok d else .no
theorem zhT {f:List D→R D} {tl:TA} {ml:En→R (List D)} {E':XK} (h:SAb K XO E tl ml):SE K XO E (zmW (spM K XO f) [] E' tl) (zdm f ml):=by
  intro Λ F0 H0 F H σ δ Q I a
  refine h Λ F0 H0 F H σ δ _ I (a.bind.imp fun ds F1 H1 e1 a1 vs r=>⟨zbB F1 H1,ds,zhp e1.fh,by rw [List.append_nil]; exact zhJ e1.fh r,?_⟩)
  cases q:f ds with
  | no=>rw [q] at a1; exact a1.elim
  | ex x=>rw [q] at a1; exact a1.elim
  | ok d =>
    rw [q] at a1
    intro F2 H2 e2 v rv
    simp only [R.nev_ok,R.bind_ok] at a1
    split at a1
    · rename_i hc
      exact a1 _ H2 (zhD e2) v (zhz e2 d hc rv)
    · exact a1.elim
variable (K) in
def SC (r:List V→Hp→VK→Prop) (f:List D→Option D):Prop:=∀ F H vs ds d Q,Same F H→Prd (Top K F H) ds vs→f ds=some d→(∀ v F' H',Ext F H F' H'→Rep K F' d v→Q v H')→r vs H Q
variable (K) in
def SCo (r:List V→Hp→VK→Prop) (f:List D→Option D):Prop:=∀ F H vs ds d Q,Same F H→Prd (Top K F H) ds vs→f ds=some d→(∀ p F' H',Ext F H F' H'→F' p=none→H p=none→Own K F' H' d p→Q (.ref p) H')→r vs H Q
def mCB (f:List D→Option D) (ml:En→R (List D)) (δ:En):R D:=(ml δ).bind fun l=>R.of (f l)
theorem zbo {r:List V→Hp→VK→Prop} {f:List D→Option D} {tl:TA} {ml:En→R (List D)} (hr:SC K r f) (h:SAr K XO E tl ml):SE K XO E (tCB r tl) (mCB f ml):=by
  intro Λ F0 H0 F H σ δ Q I a
  refine h Λ F0 H0 F H σ δ _ I (a.bind.imp fun ds F1 H1 e1 a1 vs rv=>?_)
  cases q:f ds with
  | none=>rw [q] at a1; exact a1.elim
  | some d=>rw [q] at a1; exact hr F1 H1 vs ds d Q e1.fh rv q fun v F' H' e r=>a1 F' H' e v r
theorem zoa {r:List V→Hp→VK→Prop} {f:List D→Option D} {tl:TA} {ml:En→R (List D)} (hr:SCo K r f) (h:SAr K XO E tl ml):SEo K XO E (tCB r tl) (mCB f ml):=by
  intro Λ F0 H0 F H σ δ Q I a
  refine h Λ F0 H0 F H σ δ _ I (a.bind.imp fun ds F1 H1 e1 a1 vs rv=>?_)
  cases q:f ds with
  | none=>rw [q] at a1; exact a1.elim
  | some d=>rw [q] at a1; exact hr F1 H1 vs ds d Q e1.fh rv q fun p F' H' e h0 h1 o=>a1 F' H' e p h0 (e1.hh.free h1) o
def fLen:List D→Option D
  | [.lst l]=>some (.int l.length)
  | [.scr l]=>some (.int l.length)
  | [.tup l]=>some (.int l.length)
  | _=>none
theorem zbx:SC K (fun xs H Q=>∃ p ys,xs = [.ref p]∧(SqL K.f H p ys∨SqT K.f H p ys)∧Q (.int ys.length) H) fLen:=by
  intro F H vs ds d Q s r e q
  unfold fLen at e
  split at e
  · cases e
    cases r with
    | cons r r' =>
      cases r'
      obtain ⟨a,xs,rfl,h1,h2⟩:=r
      exact ⟨a,xs,rfl,.inl (.inl h1),q _ F H (.refl s) (by simp only [Rep]; rw [h2.length])⟩
  · cases e
    cases r with
    | cons r r' =>
      cases r'
      simp only [Top,Rep] at r
      obtain ⟨a,rfl,h1⟩:=r
      exact ⟨a,_,rfl,.inl (s.seq h1),q _ F H (.refl s) (by simp only [Rep]; rw [List.length_map])⟩
  · cases e
    cases r with
    | cons r r' =>
      cases r'
      simp only [Top,Rep] at r
      obtain ⟨a,xs,rfl,h1,h2⟩:=r
      exact ⟨a,xs,rfl,.inr (.inl (.inl (s _ _ h1))),q _ F H (.refl s) (by simp only [Rep]; rw [h2.length])⟩
  · cases e
def fAbs:List D→Option D
  | [.int i]=>some (.int (if i < 0 then -i else i))
  | _=>none
theorem zoe:SC K (fun xs H Q=>∃ i,xs = [.int i]∧Q (.int (if i < 0 then -i else i)) H) fAbs:=by
  intro F H vs ds d Q s r e q
  unfold fAbs at e
  split at e
  · rename_i i
    cases e
    cases r with
    | cons r r' =>
      cases r'
      simp only [Top,Rep] at r
      subst r
      exact ⟨i,rfl,q _ F H (.refl s) (by simp only [Rep])⟩
  · cases e
def zgJ:List D→Option D
  | [.lst l]=>some (.lst l)
  | [.tup l]=>some (.lst l)
  | _=>none
theorem zmP:SCo K (fun xs H Q=>∃ p ys,xs = [.ref p]∧(SqL K.f H p ys∨SqT K.f H p ys)∧∀ l,H l=none→Q (.ref l) (upd H l (.lst ys))) zgJ:=by
  intro F H vs ds d Q s r e q
  unfold zgJ at e
  split at e
  · cases e
    cases r with
    | cons r r' =>
      cases r'
      obtain ⟨a,xs,rfl,h1,h2⟩:=r
      exact ⟨a,xs,rfl,.inl (.inl h1),fun p hp=>q _ F _ (.newO s hp) (s.free hp) hp ⟨xs,zal,h2⟩⟩
  · cases e
    cases r with
    | cons r r' =>
      cases r'
      simp only [Top,Rep] at r
      obtain ⟨a,xs,rfl,h1,h2⟩:=r
      exact ⟨a,xs,rfl,.inr (.inl (.inl (s _ _ h1))),fun p hp=>q _ F _ (.newO s hp) (s.free hp) hp ⟨xs,zal,h2⟩⟩
  · cases e
def asI:D→Option Int
  | .int i=>some i
  | _=>none
def mNoP (_:En):R (Option Int):=.ok none
def zeO (me:En→R D) (δ:En):R (Option Int):=(me δ).bind fun d=>(R.of (asI d)).bind fun i=>.ok (some i)
variable (K XO E) in
def SO (t:TO) (m:En→R (Option Int)):Prop:=∀ Λ F0 H0 F H σ δ Q,EnvOk K Λ F0 H0 F H σ δ→Aft E XO σ F H (fun o _ H'=>Q o H') (m δ)→t σ H Q
theorem zoK:SO K XO E zlv mNoP:=fun Λ F0 H0 F H σ δ Q I a=>a F H (.refl I.same)
theorem zgq (h:SE K XO E te me):SO K XO E (zpQ te) (zeO me):=by
  intro Λ F0 H0 F H σ δ Q I a
  refine h Λ F0 H0 F H σ δ _ I (a.bind.imp fun d F1 H1 e1 a1 v r=>?_)
  cases d with
  | int i=>simp only [Rep] at r; exact ⟨i,r,a1 F1 H1 (.refl e1.fh)⟩
  | _=>exact a1.elim
def cutD (xs:List D) (lo hi:Option Int):List D:=(xs.drop (HT.sIx xs.length 0 lo)).take (HT.sIx xs.length xs.length hi - HT.sIx xs.length 0 lo)
def mSl (me:En→R D) (ml mh:En→R (Option Int)) (δ:En):R D:=(me δ).bind fun d=>(ml δ).bind fun lo=>(mh δ).bind fun hi=>(R.of (asL d)).bind fun l=>.ok (.lst (cutD l lo hi))
theorem zeZ {tl th:TO} {ml mh:En→R (Option Int)} (h:SEr K XO E te me) (hl:SO K XO E tl ml) (hh:SO K XO E th mh):SEo K XO E (tSl (rSlL K.f) te tl th) (mSl me ml mh):=by
  intro Λ F0 H0 F H σ δ Q I a
  refine h Λ F0 H0 F H σ δ _ I (a.bind.imp fun d F1 H1 e1 a1 v r=>?_)
  refine hl Λ F0 H0 F1 H1 σ δ _ (I.grow e1) (a1.bind.imp fun lo F2 H2 e2 a2=>?_)
  refine hh Λ F0 H0 F2 H2 σ δ _ ((I.grow e1).grow e2) (a2.bind.imp fun hi F3 H3 e3 a3=>?_)
  cases d with
  | lst l =>
    obtain ⟨p,vs,rfl,h1,h2⟩:=r
    refine ⟨p,vs,rfl,.inl (PM.Same.rd e3.hh (PM.Same.rd e2.hh h1)),fun q hq=>a3 F3 _ (.newO e3.fh hq) q (e3.fh.free hq) (e1.hh.free (e2.hh.free (e3.hh.free hq))) ⟨_,zal,?_⟩⟩
    unfold cutD cutV
    rw [← h2.length]
    exact (((h2.mono e2.ff).mono e3.ff).drop _).take _
  | scr l =>
    simp only [Top,Rep] at r
    obtain ⟨p,rfl,h1⟩:=r
    refine ⟨p,_,rfl,e3.hh.seq (e2.hh.seq (e1.fh.seq h1)),fun q hq=>a3 F3 _ (.newO e3.fh hq) q (e3.fh.free hq) (e1.hh.free (e2.hh.free (e3.hh.free hq))) ⟨_,zal,?_⟩⟩
    unfold cutD cutV
    rw [List.length_map,List.length_map]
    exact (RepL.ints.drop _).take _
  | _=>exact a3.elim
end
end PM
namespace PM
open PySem L2
def oCat (x y:D):Option D:=match x,y with | .lst l,.lst r=>ifC (l.length + r.length ≤ sizeLine) (some (.lst (l ++ r))) none | _,_=>none
def zb9:Nat→D→Bool
  | _,.non=>true
  | _,.int _=>true
  | n + 1,.tup l=>l.all (zb9 n)
  | n + 1,.lst l=>l.all (zb9 n)
  | _,_=>false
open Classical in
def oNeD (x y:D):Option D:=ifC (zb9 8 x=true∧zb9 8 y=true) (some (.bl (!decide (x=y)))) none
def isiB:String→D→Bool
  | "int",.int _=>true
  | "int",.bl _=>true
  | "bool",.bl _=>true
  | "list",.lst _=>true
  | "tuple",.tup _=>true
  | "str",.str _=>true
  | _,_=>false
def okI:D→Bool
  | .scr _=>false
  | .exc _=>false
  | .fd _ _=>false
  | .obj _ _ _=>false
  | _=>true
def oIsi (c:String) (d:D):Option D:=match d with | .scr _=>none | .exc _=>none | .fd _ _=>none | .obj _ _ _=>none | d=>some (.bl (isiB c d))
def asIs:List D→Option (List Int)
  | []=>some []
  | .int i :: l=>(asIs l).map (i :: ·)
  | _=>none
theorem zes (ns:List Int):asIs (ns.map .int)=some ns:=by
  induction ns with
  | nil=>rfl
  | cons a l ih=>simp [asIs,ih]
theorem zdp {l:List D} {ns:List Int} (h:asIs l=some ns):l=ns.map .int:=by
  induction l generalizing ns with
  | nil=>cases h; rfl
  | cons d l ih =>
    cases d with
    | int i =>
      simp only [asIs] at h
      cases q:asIs l with
      | none=>rw [q] at h; cases h
      | some m=>rw [q] at h; cases h; rw [ih q]; rfl
    | _=>cases h
def fSum:List D→Option D
  | [.lst l]=>(asIs l).map fun ns=>.int ns.sum
  | _=>none
def maxI:List Int→Int→Int
  | [],m=>m
  | a :: l,m=>maxI l (if a > m then a else m)
def zkn (l:List D) (d:D):Option D:=match l with
  | [.lst []]=>some d
  | [.lst (.int a :: l)]=>(asIs l).map fun ns=>.int (maxI ns a)
  | _=>none
def zkx (ml:En→R (List D)) (md:En→R D) (δ:En):R D:=(ml δ).bind fun l=>(md δ).bind fun d=>R.of (zkn l d)
theorem zlf {c:En→R Bool} {m:En→O} {δ:En} {n:Nat} {o:O} (h:zew c m n δ=o) (ho:o ≠ .no):zgR c m δ=o:=by
  have mono:∀ k n δ,zew c m n δ ≠ .no→zew c m (n + k) δ=zew c m n δ:=by
    intro k n
    induction n with
    | zero=>intro δ h; exact absurd rfl h
    | succ n ih =>
      intro δ h
      have e:n + 1 + k=(n + k) + 1:=by omega
      rw [e]
      unfold zew at h ⊢
      cases q:c δ with
      | no=>rfl
      | ex x=>rfl
      | ok b =>
        rw [q] at h
        cases b with
        | false=>rfl
        | true =>
          simp only [R.toO_ok,if_true] at h ⊢
          cases q2:m δ <;> simp only [q2] at h ⊢ <;> exact ih _ h
  have hex:∃ n,zew c m n δ ≠ .no:=⟨n,by rw [h]; exact ho⟩
  unfold zgR
  rw [dif_pos hex]
  have h1:=mono n (Classical.choose hex) δ (Classical.choose_spec hex)
  have h2:=mono (Classical.choose hex) n δ (by rw [h]; exact ho)
  rw [← h1,Nat.add_comm,h2,h]
theorem zmn {c:En→R Bool} {m:En→O} {α:Type} (env:α→En) (go:α→Bool) (nxt:α→α) (P:α→Prop) (μ:α→Nat) (hc:∀ a,P a→c (env a) = .ok (go a)) (hs:∀ a,P a→go a=true→m (env a) = .nx (env (nxt a))∧P (nxt a)∧μ (nxt a) < μ a)
    (a:α) (h:P a):∃ b,P b∧go b=false∧zgR c m (env a) = .nx (env b)∧∃ k,b=Nat.repeat nxt k a:=by
  have key:∀ n a,P a→μ a < n→∃ b,P b∧go b=false∧zew c m n (env a) = .nx (env b)∧∃ k,b=Nat.repeat nxt k a:=by
    intro n
    induction n with
    | zero=>intro a _ h; omega
    | succ n ih =>
      intro a hp hm
      cases g:go a with
      | false=>exact ⟨a,hp,g,by unfold zew; rw [hc a hp,g]; rfl,0,rfl⟩
      | true =>
        obtain ⟨h1,h2,h3⟩:=hs a hp g
        obtain ⟨b,b1,b2,b3,k,b4⟩:=ih (nxt a) h2 (by omega)
        refine ⟨b,b1,b2,?_,k + 1,?_⟩
        · unfold zew
          rw [hc a hp,g]
          simp only [R.toO_ok,if_true,h1]
          exact b3
        · rw [b4]
          clear b4 b3 b2 b1 b h3 h2 h1 hm hp ih
          induction k with
          | zero=>rfl
          | succ k ih=>show nxt (Nat.repeat nxt k (nxt a))=nxt (Nat.repeat nxt (k + 1) a); rw [ih]
  obtain ⟨b,b1,b2,b3,k⟩:=key (μ a + 1) a h (Nat.lt_succ_self _)
  exact ⟨b,b1,b2,zlf b3 (by intro z; cases z),k⟩
theorem zg5 {β:Type} {f:D→R (Option D)} (enc:β→D) (g:β→Option D):∀ (l:List β),(∀ x ∈ l,f (enc x) = .ok (g x))→zcD f (l.map enc) = .ok (l.filterMap g)
  | [],_=>rfl
  | x :: l,h=>by
    rw [List.map_cons]
    unfold zcD
    rw [h x List.mem_cons_self,R.bind_ok,zg5 enc g l fun y hy=>h y (List.mem_cons_of_mem _ hy)]
    cases q:g x with
    | none=>rw [List.filterMap_cons_none q]; rfl
    | some d=>rw [List.filterMap_cons_some q]; rfl
theorem small {n:Nat} (h:n ≤ 100000):n ≤ sizeLine:=Nat.le_trans h (by decide)
end PM
namespace PM
open PySem L2
theorem fitN {i:Int} (n:Nat) (h:i.natAbs ≤ n) (h2:n < 2 ^ 8000:=by decide +kernel):Fit i:=Nat.lt_of_le_of_lt h h2
@[simp] theorem zrg (i j:Int):oAdd (.int i) (.int j)=some (.int (i + j)):=rfl
@[simp] theorem zri (i j:Int):oSub (.int i) (.int j)=some (.int (i - j)):=rfl
theorem zon {i j:Int} (h:Fit i) (h':Fit j):oMul (.int i) (.int j)=some (.int (i * j)):=zb7 (p:=Fit i∧Fit j) ⟨h,h'⟩
theorem zqo {i j:Int} (h:j ≠ 0) (h':Fit j):oDiv (.int i) (.int j)=some (.int (i.fdiv j)):=zb7 (p:=j ≠ 0∧Fit j) ⟨h,h'⟩
theorem zgp {i j:Int} (h:0 < j) (h':Fit j):oDiv (.int i) (.int j)=some (.int (i / j)):=by
  rw [zqo (by omega) h',Int.fdiv_eq_ediv_of_nonneg _ (by omega)]
theorem ze8 {i j:Int} (h:0 < j):oMod (.int i) (.int j)=some (.int (i % j)):=zb7 (p:=0 < j) h
theorem zmX {i j:Int} (h:CPow i j):oPow (.int i) (.int j)=some (.int (i ^ j.toNat)):=zb7 (p:=CPow i j) h
@[simp] theorem zrk (i j:Int):oLt (.int i) (.int j)=some (.bl (decide (i < j))):=rfl
@[simp] theorem zrj (i j:Int):oLe (.int i) (.int j)=some (.bl (decide (i ≤ j))):=rfl
@[simp] theorem zrm (i j:Int):oGt (.int i) (.int j)=some (.bl (decide (j < i))):=rfl
@[simp] theorem zro (i j:Int):oGe (.int i) (.int j)=some (.bl (decide (j ≤ i))):=rfl
@[simp] theorem zrf (i:Int):oNeg (.int i)=some (.int (-i)):=rfl
@[simp] theorem zrq (i j:Int):oEq (.int i) (.int j)=some (.bl (decide (i=j))):=by simp [oEq,fl,scal]
@[simp] theorem zrp (i j:Int):oNe (.int i) (.int j)=some (.bl (!decide (i=j))):=by simp [oNe,fl,scal]
@[simp] theorem zrr (b:Bool):asB (.bl b)=some b:=rfl
@[simp] theorem zrl (l:List D):asL (.lst l)=some l:=rfl
@[simp] theorem zoH (i:Int):asI (.int i)=some i:=rfl
@[simp] theorem zrh (l:List D):fLen [.lst l]=some (.int l.length):=rfl
@[simp] theorem zrd (l:List D):fLen [.tup l]=some (.int l.length):=rfl
@[simp] theorem zq0 (l:List D):zgJ [.lst l]=some (.lst l):=rfl
@[simp] theorem zq4 (a b:D):oIxT (.tup [a,b]) (.int 0)=some a:=rfl
@[simp] theorem zqY (a b:D):oIxT (.tup [a,b]) (.int 1)=some b:=rfl
theorem atI_nat {α:Type} {l:List α} {k:Nat} {d:α} (h:l[k]?=some d):atI l (k:Int)=some d:=by
  have hk:=(List.getElem?_eq_some_iff.mp h).1
  unfold atI ixN
  rw [if_pos (by omega),if_pos (by omega)]
  exact h
theorem zqn {l:List D} {k:Nat} {d:D} (h:l[k]?=some d):oIxL (.lst l) (.int (k:Int))=some d:=atI_nat h
theorem zqh {l:List D} {i:Int} {d:D} (h0:0 ≤ i) (h:l[i.toNat]?=some d):oIxL (.lst l) (.int i)=some d:=by
  have e:i=((i.toNat:Nat):Int):=by omega
  rw [e]
  exact zqn h
theorem rng1 {n:Int} (h0:0 ≤ n) (h:n ≤ 100000):rng [.int n]=some (zgb 0 n.toNat):=by
  show ifC _ _ _=_
  rw [zb7 (by omega)]
theorem zpI (n:Nat):zgb 0 n=(List.range n).map fun (k:Nat)=>D.int (k:Int):=by
  unfold zgb
  exact List.map_congr_left fun k _=>by simp
theorem zf3 (l:List D):zgL l=(l.zipIdx).map fun p=>D.tup [.int (p.2:Int),p.1]:=by
  unfold zgL
  rw [List.mapIdx_eq_zipIdx_map]
@[simp] theorem zrn (a b:α):([a,b].length ≤ sizeLine)=True:=by simp [sizeLine]
end PM
namespace PM
open PySem L2
def sv:Option D→Sl
  | none=>.no
  | some d=>.v d
theorem znu {i:Nat} {d:D} {δ:En} {o:Option D} (h:δ[i]?=some (sv o)):zat i d δ=some (δ.set i (.v d)):=by
  unfold zat
  rw [h]
  cases o <;> rfl
@[simp] theorem zq3 (d:D):sv (some d) = .v d:=rfl
def iL (l:List Int):D:=.lst (l.map .int)
theorem zdv {α:Type} {f:D→R (Option D)} (enc:α→D) (g:α→D) (l:List α) (h:∀ x ∈ l,f (enc x) = .ok (some (g x))):zcD f (l.map enc) = .ok (l.map g):=by
  rw [zg5 enc (fun x=>some (g x)) l h,List.filterMap_eq_map']
end PM
namespace PM
open PySem L2
theorem zcm {mi:En→R (List D)} {ix:List Nat} {n:Nat} {b:D→En→Option En} {nc:Option (En→R Bool)} {me:En→R D} {δ:En} {l r:List D} (h1:mi δ = .ok l) (hl:l.length ≤ 100000)
    (h2:zcD (zdy b nc me (za9 δ ix n)) l = .ok r):zdi mi ix n b nc me δ = .ok (.lst r):=by
  unfold zdi
  rw [h1,R.bind_ok,zb7 (small hl),h2]
  rfl
theorem zcZ {mi:En→R (List D)} {b:D→En→Option En} {m:En→O} {δ:En} {l:List D} (h:mi δ = .ok l):mFor mi b m δ=zfc b m l δ:=by
  unfold mFor
  rw [h]
  rfl
theorem zb3 {np nv:Nat} {m:En→O} {ds:List D} {d:D} (h:m (zcE nv ds) = .rt d) (hl:ds.length=np:=by rfl):runF np nv m ds = .ok d:=by
  unfold runF
  rw [if_pos hl,h]
theorem zcA {np nv:Nat} {m:En→O} {ds:List D} {d:D} (h:m (zcE nv ds) = .ro d) (hl:ds.length=np:=by rfl):runO np nv m ds = .ok d:=by
  unfold runO
  rw [if_pos hl,h]
theorem zaq {m n:En→O} {δ δ':En} (h:m δ = .nx δ'):mSeq m n δ=n δ':=by unfold mSeq; rw [h]
theorem zaN {me:En→R D} {b:D→En→Option En} {δ δ':En} {d:D} (h:me δ = .ok d) (h2:b d δ=some δ'):mAsg me b δ = .nx δ':=by unfold mAsg; rw [h,R.toO_ok,h2]; rfl
theorem zjZ {n:En→R Bool} {m m':En→O} {δ:En} (h:n δ = .ok true):mIfS n m m' δ=m δ:=by unfold mIfS; rw [h]; rfl
theorem zeU {n:En→R Bool} {m m':En→O} {δ:En} (h:n δ = .ok false):mIfS n m m' δ=m' δ:=by unfold mIfS; rw [h]; rfl
theorem zco {β:Type} {b:D→En→Option En} {m:En→O} (enc:β→D) (P:List β→En→Prop) (all:List β)
    (step:∀ pre x post δ,all=pre ++ x :: post→P pre δ→∃ δ1 δ2,b (enc x) δ=some δ1∧(m δ1 = .nx δ2∨m δ1 = .ct δ2)∧P (pre ++ [x]) δ2) (δ:En) (h:P [] δ):∃ δ2,zfc b m (all.map enc) δ = .nx δ2∧P all δ2:=by
  have key:∀ (post pre:List β) (δ:En),all=pre ++ post→P pre δ→∃ δ2,zfc b m (post.map enc) δ = .nx δ2∧P all δ2:=by
    intro post
    induction post with
    | nil=>intro pre δ e h; exact ⟨δ,rfl,by rw [e,List.append_nil]; exact h⟩
    | cons x post ih =>
      intro pre δ e h
      obtain ⟨δ1,δ2,h1,h2,h3⟩:=step pre x post δ e h
      obtain ⟨δ3,h4,h5⟩:=ih (pre ++ [x]) δ2 (by rw [e]; simp) h3
      refine ⟨δ3,?_,h5⟩
      rw [List.map_cons]
      unfold zfc
      rw [h1]
      rcases h2 with h2 | h2 <;> (simp only [h2]; exact h4)
  exact key all [] δ rfl h
end PM
namespace PM
open PySem L2
@[simp] theorem zqR (l:List Int):fLen [iL l]=some (.int l.length):=by simp [iL]
@[simp] theorem zre (l:List Int):asL (iL l)=some (l.map .int):=rfl
end PM
namespace PM
open PySem L2
theorem zn1 {l:List D} {k:Nat} (h:k ≤ l.length):cutD l none (some (k:Int))=l.take k:=by
  unfold cutD
  have e:HT.sIx l.length l.length (some (k:Int))=k:=by
    show (if (k:Int) < 0 then ((k:Int) + (l.length:Int)).toNat else min (k:Int).toNat l.length)=k
    rw [if_neg (by omega)]; omega
  rw [e]
  show (l.drop 0).take (k - 0)=_
  simp
theorem zm9 {l:List D} {k:Nat} (h:k ≤ l.length):cutD l (some (k:Int)) none=l.drop k:=by
  unfold cutD
  have e:HT.sIx l.length 0 (some (k:Int))=k:=by
    show (if (k:Int) < 0 then ((k:Int) + (l.length:Int)).toNat else min (k:Int).toNat l.length)=k
    rw [if_neg (by omega)]; omega
  rw [e]
  show (l.drop k).take (l.length - k)=_
  rw [List.take_of_length_le (by simp)]
theorem znP (l:List Int) (lo hi:Option Int):∃ cs:List Int,cutD (l.map .int) lo hi=cs.map .int∧cs.length ≤ l.length:=by
  refine ⟨(l.drop (HT.sIx l.length 0 lo)).take (HT.sIx l.length l.length hi - HT.sIx l.length 0 lo),?_,by rw [List.length_take,List.length_drop]; omega⟩
  unfold cutD
  rw [List.length_map,List.map_take,List.map_drop]
theorem zlJ {l r:List D} (h:l.length + r.length ≤ 100000):oCat (.lst l) (.lst r)=some (.lst (l ++ r)):=by
  show ifC _ _ _=_
  rw [zb7 (small h)]
theorem zo8 {x y:D} (hx:zb9 8 x=true) (hy:zb9 8 y=true) (h:x=y):oNeD x y=some (.bl false):=by
  unfold oNeD
  rw [zb7 ⟨hx,hy⟩]
  simp [h]
end PM
namespace PM
open PySem L2 PyProof.Rows
section
variable {K:Kx} {ca:Nat→Addr} {an:Nat→Str} {XO:XOT} {E:L2.St→XK} {ta tb te:TE} {ma mb me:En→R D} {X:Cx}
def zqv:R2:=fun x y H Q=>∃ l b xs zs,x = .ref l∧y = .ref b∧Rd H l (.lst xs)∧Rd H b (.lst zs)∧xs.length + zs.length ≤ sizeLine∧∀ p,H p=none→Q (.ref p) (upd H p (.lst (xs ++ zs)))
theorem zjg:OpR X (binaryOp .Add) zqv:=by
  intro pins s σ H x y v u Q I rx ry h
  obtain ⟨l,b,xs,zs,rfl,rfl,hH,hB,hz,q⟩:=h
  cases rx
  cases ry
  obtain ⟨z,its,n,r,e⟩:=hH.ok I.hok
  obtain ⟨z2,its2,n2,r2,e2⟩:=hB.ok I.hok
  have hl:=r.length
  have hl2:=r2.length
  refine PySem.P.add_list e e2 ?_ (by rw [List.size_toArray,List.size_toArray]; omega)
  have ea:its.toArray ++ its2.toArray=(its ++ its2).toArray:=by simp
  rw [ea]
  exact ⟨.ref _,_,I.lnew (t':=s.toks) (r.append r2) (by rw [List.length_append]; omega),rfl,q _ I.fresh⟩
theorem zlE:SRo K zqv oCat:=by
  intro F H x y dx dy d Q s hx hy e q
  cases dx with
  | lst l =>
    cases dy with
    | lst r =>
      simp only [oCat] at e
      unfold ifC at e
      split at e
      · rename_i hc
        cases e
        obtain ⟨a,vs,rfl,h1,h2⟩:=hx
        obtain ⟨b,ws,rfl,g1,g2⟩:=hy
        exact ⟨a,b,vs,ws,rfl,rfl,h1,g1,by rw [h2.length,g2.length]; exact hc,fun p hp=>q p F _ (.newO s hp) (s.free hp) hp ⟨_,zal,h2.append g2⟩⟩
      · cases e
    | _=>cases e
  | _=>cases e
theorem zcr {F:Hp}:∀ {ns:List Int} {xs:List V},RepL K F (ns.map .int) xs→xs=ns.map V.int
  | [],xs,h=>by simpa only [List.map_nil,RepL] using h
  | n :: ns,xs,h=>by
    simp only [List.map_cons,RepL,Rep] at h
    obtain ⟨v,r,rfl,rfl,h3⟩:=h
    rw [zcr h3]; rfl
def rSum:List V→Hp→VK→Prop:=fun xs H Q=>∃ (p:Addr) (ns:List Int),xs = [.ref p]∧Rd H p (.lst (ns.map V.int))∧Q (.int ns.sum) H
theorem zlt {ds:List D} {d:D} (h:fSum ds=some d):∃ ns:List Int,ds = [.lst (ns.map .int)]∧d = .int ns.sum:=by
  unfold fSum at h
  split at h
  · rename_i l
    cases z:asIs l with
    | none=>rw [z] at h; cases h
    | some ns=>rw [z] at h; cases h; exact ⟨ns,by rw [zdp z],rfl⟩
  · cases h
theorem zgn:SC K rSum fSum:=by
  intro F H vs ds d Q s r e q
  obtain ⟨ns,rfl,rfl⟩:=zlt e
  cases r with
  | cons r r' =>
    cases r'
    obtain ⟨a,xs,rfl,h1,h2⟩:=r
    have ex:=zcr h2
    subst ex
    exact ⟨a,ns,rfl,h1,q _ F H (.refl s) (by simp only [Rep])⟩
theorem zbw (hc:X.calm=true):ze3 X (.builtin "sum") rSum:=by
  intro pins s σ H xs us Q I r h
  obtain ⟨p,ns,rfl,hq,q⟩:=h
  obtain ⟨u,rfl,rx⟩:=zff r
  cases rx
  obtain ⟨z,its,n,rv,e⟩:=hq.ok I.hok
  obtain ⟨ts,rfl,htl⟩:∃ ts:List Tok,its=(ns.zip ts).map (fun p=>Value.int p.1 p.2)∧ts.length=ns.length:=by
    clear e hq q z
    induction ns generalizing its with
    | nil=>cases rv; exact ⟨[],rfl,rfl⟩
    | cons a l ih =>
      cases rv with
      | cons h t =>
        obtain ⟨tk,rfl⟩:=h
        obtain ⟨ts,rfl,hl⟩:=ih _ t
        exact ⟨tk :: ts,rfl,by simp [hl]⟩
  have ei:((ns.zip ts).map (fun p=>Value.int p.1 p.2)).toArray=intItems (ns.zip ts).toArray:=by simp [intItems]
  rw [ei] at e
  refine sum_intListG (I.ok.hd hc) ⟨_,e,rfl,n,rfl⟩ fun h' tk t' hk=>?_
  have es:preSum (numAt (ns.zip ts).toArray) (ns.zip ts).toArray.size=ns.sum:=by
    rw [preSum_eq,List.take_of_length_le (by simp)]
    have:(ns.zip ts).map (·.1)=ns:=List.map_fst_zip (by omega)
    show ((ns.zip ts).map (·.1)).sum=_
    rw [this]
  rw [es]
  exact ⟨.int ns.sum,H,I.kept (t':=tk) hk,⟨_,rfl⟩,q⟩
theorem zo6 {K:W.Frag} {S T:String} (h2:PySem.W.kitMeta T=true) (h3:(PySem.fastBuiltinMro S).map (·.contains (.type T))=some true):PySem.W.kitOne K (.type S) (.type T)=some true:=by
  unfold PySem.W.kitOne
  split
  · rfl
  · show (if PySem.W.kitMeta T=true then PySem.W.subIn K (.type S) (.type T) else none)=some true
    rw [if_pos h2]
    exact h3
def ziS:D→String
  | .non=>"NoneType"
  | .bl _=>"bool"
  | .int _=>"int"
  | .str _=>"str"
  | .tup _=>"tuple"
  | .lst _=>"list"
  | .dct _ _=>"dict"
  | .scr _=>"list"
  | .exc _=>"object"
  | .fd _ _=>"object"
  | .obj _ _ _=>"object"
theorem zfP {K:W.Frag}:PySem.W.kitOne K (.type "NoneType") (.type "int")=some false:=L2.kit_no (by decide +kernel) (by decide +kernel) (by decide +kernel)
theorem kit_int_bool {K:W.Frag}:PySem.W.kitOne K (.type "bool") (.type "int")=some true:=zo6 (by decide +kernel) (by decide +kernel)
theorem zju {K:W.Frag}:PySem.W.kitOne K (.type "int") (.type "int")=some true:=L2.kit_self
theorem zi3 {K:W.Frag}:PySem.W.kitOne K (.type "str") (.type "int")=some false:=L2.kit_no (by decide +kernel) (by decide +kernel) (by decide +kernel)
theorem zhF {K:W.Frag}:PySem.W.kitOne K (.type "tuple") (.type "int")=some false:=L2.kit_no (by decide +kernel) (by decide +kernel) (by decide +kernel)
theorem ziy {K:W.Frag}:PySem.W.kitOne K (.type "list") (.type "int")=some false:=L2.kit_no (by decide +kernel) (by decide +kernel) (by decide +kernel)
theorem zib {K:W.Frag}:PySem.W.kitOne K (.type "dict") (.type "int")=some false:=L2.kit_no (by decide +kernel) (by decide +kernel) (by decide +kernel)
theorem zfi {K:W.Frag}:PySem.W.kitOne K (.type "NoneType") (.type "bool")=some false:=L2.kit_no (by decide +kernel) (by decide +kernel) (by decide +kernel)
theorem zhk {K:W.Frag}:PySem.W.kitOne K (.type "bool") (.type "bool")=some true:=L2.kit_self
theorem zij {K:W.Frag}:PySem.W.kitOne K (.type "int") (.type "bool")=some false:=L2.kit_no (by decide +kernel) (by decide +kernel) (by decide +kernel)
theorem ziO {K:W.Frag}:PySem.W.kitOne K (.type "str") (.type "bool")=some false:=L2.kit_no (by decide +kernel) (by decide +kernel) (by decide +kernel)
theorem zgE {K:W.Frag}:PySem.W.kitOne K (.type "tuple") (.type "bool")=some false:=L2.kit_no (by decide +kernel) (by decide +kernel) (by decide +kernel)
theorem zhg {K:W.Frag}:PySem.W.kitOne K (.type "list") (.type "bool")=some false:=L2.kit_no (by decide +kernel) (by decide +kernel) (by decide +kernel)
theorem zhM {K:W.Frag}:PySem.W.kitOne K (.type "dict") (.type "bool")=some false:=L2.kit_no (by decide +kernel) (by decide +kernel) (by decide +kernel)
theorem zfg {K:W.Frag}:PySem.W.kitOne K (.type "NoneType") (.type "list")=some false:=L2.kit_no (by decide +kernel) (by decide +kernel) (by decide +kernel)
theorem zhX {K:W.Frag}:PySem.W.kitOne K (.type "bool") (.type "list")=some false:=L2.kit_no (by decide +kernel) (by decide +kernel) (by decide +kernel)
theorem zil {K:W.Frag}:PySem.W.kitOne K (.type "int") (.type "list")=some false:=L2.kit_no (by decide +kernel) (by decide +kernel) (by decide +kernel)
theorem zh8 {K:W.Frag}:PySem.W.kitOne K (.type "str") (.type "list")=some false:=L2.kit_no (by decide +kernel) (by decide +kernel) (by decide +kernel)
theorem zgG {K:W.Frag}:PySem.W.kitOne K (.type "tuple") (.type "list")=some false:=L2.kit_no (by decide +kernel) (by decide +kernel) (by decide +kernel)
theorem zhw {K:W.Frag}:PySem.W.kitOne K (.type "list") (.type "list")=some true:=L2.kit_self
theorem zhL {K:W.Frag}:PySem.W.kitOne K (.type "dict") (.type "list")=some false:=L2.kit_no (by decide +kernel) (by decide +kernel) (by decide +kernel)
theorem znL {K:W.Frag} (d:D) (h:okI d=true):PySem.W.kitOne K (.type (ziS d)) (.type "int")=some (isiB "int" d):=by
  cases d with
  | non=>exact zfP
  | bl b=>exact kit_int_bool
  | int b=>exact zju
  | str b=>exact zi3
  | tup b=>exact zhF
  | lst b=>exact ziy
  | dct b b'=>exact zib
  | scr b=>cases h
  | exc b=>cases h
  | fd b b'=>cases h
  | obj b b' b''=>cases h
theorem zmQ {K:W.Frag} (d:D) (h:okI d=true):PySem.W.kitOne K (.type (ziS d)) (.type "bool")=some (isiB "bool" d):=by
  cases d with
  | non=>exact zfi
  | bl b=>exact zhk
  | int b=>exact zij
  | str b=>exact ziO
  | tup b=>exact zgE
  | lst b=>exact zhg
  | dct b b'=>exact zhM
  | scr b=>cases h
  | exc b=>cases h
  | fd b b'=>cases h
  | obj b b' b''=>cases h
theorem zmM {K:W.Frag} (d:D) (h:okI d=true):PySem.W.kitOne K (.type (ziS d)) (.type "list")=some (isiB "list" d):=by
  cases d with
  | non=>exact zfg
  | bl b=>exact zhX
  | int b=>exact zil
  | str b=>exact zh8
  | tup b=>exact zgG
  | lst b=>exact zhw
  | dct b b'=>exact zhL
  | scr b=>cases h
  | exc b=>cases h
  | fd b b'=>cases h
  | obj b b' b''=>cases h
theorem zmi {c:String} (hk:∀ d,okI d=true→PySem.W.kitOne K.f (.type (ziS d)) (.type c)=some (isiB c d)) (ha:SEr K XO E ta ma):SE K XO E (tCB (rIs K.f) (zcy ta (zcy (tC (.ty c)) tNil))) (m1 (oIsi c) ma):=by
  intro Λ F0 H0 F H σ δ Q I a
  refine ha Λ F0 H0 F H σ δ _ I (a.bind.imp fun d F1 H1 e1 a1 x rx=>?_)
  by_cases hs':okI d=true
  case neg =>
    cases d with
    | scr _=>exact a1.elim
    | exc _=>exact a1.elim
    | fd _ _=>exact a1.elim
    | obj _ _ _=>exact a1.elim
    | _=>exact absurd rfl hs'
  have a2:Aft E XO σ F1 H1 (fun d F' H'=>∀ v,Rep K F' d v→Q v H') (.ok (.bl (isiB c d))):=by
    cases d with
    | scr l=>cases hs'
    | exc l=>cases hs'
    | fd _ _=>cases hs'
    | obj _ _ _=>cases hs'
    | _=>exact a1
  have fin:=a2 F1 H1 (.refl e1.fh) (.bl (isiB c d)) (by simp only [Rep])
  suffices h:TyOf K.f H1 x (.type (ziS d)) from ⟨x,.ty c,.type c,_,_,rfl,rfl,h,hk d hs',fin⟩
  cases d with
  | non=>simp only [Top,Rep] at rx; subst rx; exact .non
  | bl b=>simp only [Top,Rep] at rx; subst rx; exact .bl _
  | int b=>simp only [Top,Rep] at rx; subst rx; exact .int _
  | str b=>simp only [Top,Rep] at rx; subst rx; exact .str _
  | tup l =>
    simp only [Top,Rep] at rx
    obtain ⟨p,vs,rfl,h1,h2⟩:=rx
    exact .tup (e1.fh _ _ h1)
  | lst l =>
    obtain ⟨p,vs,rfl,h1,h2⟩:=rx
    rcases h1 with h | ⟨o,h⟩
    · exact .lst h
    · exact .frz h
  | dct ks l=>obtain ⟨p,kvs,rfl,h1,h2⟩:=rx; exact .dK h1
  | scr l=>cases hs'
  | exc l=>cases hs'
  | fd _ _=>cases hs'
  | obj _ _ _=>cases hs'
def toPy:Nat→D→PyData
  | _,.non=>.none
  | _,.int i=>.int i
  | n + 1,.tup l=>.tuple (l.map (toPy n))
  | n + 1,.lst l=>.list (l.map (toPy n))
  | _,_=>.none
theorem zjX:∀ (n:Nat) (d:D),zb9 n d=true→(toPy n d).canLay0=true∧(toPy n d).depth ≤ n:=by
  intro n
  induction n with
  | zero =>
    intro d h
    cases d with
    | non=>exact ⟨rfl,Nat.le_refl _⟩
    | int i=>exact ⟨rfl,Nat.le_refl _⟩
    | _=>cases h
  | succ n ih =>
    have all:∀ l:List D,l.all (zb9 n)=true→PyData.canLayAll0 (l.map (toPy n))=true∧PyData.depthAll (l.map (toPy n)) ≤ n:=by
      intro l
      induction l with
      | nil=>intro _; exact ⟨rfl,Nat.zero_le _⟩
      | cons a l ih2 =>
        intro h
        rw [List.all_cons,Bool.and_eq_true] at h
        obtain ⟨h1,h2⟩:=ih a h.1
        obtain ⟨h3,h4⟩:=ih2 h.2
        refine ⟨?_,?_⟩
        · simp only [List.map_cons,PyData.canLayAll0,h1,h3,Bool.and_self]
        · simp only [List.map_cons,PyData.depthAll]; omega
    intro d h
    cases d with
    | non=>exact ⟨rfl,Nat.zero_le _⟩
    | int i=>exact ⟨rfl,Nat.zero_le _⟩
    | tup l=>obtain ⟨h1,h2⟩:=all l h; exact ⟨by simpa only [toPy,PyData.canLay0] using h1,by simp only [toPy,PyData.depth]; omega⟩
    | lst l=>obtain ⟨h1,h2⟩:=all l h; exact ⟨by simpa only [toPy,PyData.canLay0] using h1,by simp only [toPy,PyData.depth]; omega⟩
    | _=>cases h
open Classical in
theorem zoI:∀ (n:Nat) (d d':D),zb9 n d=true→zb9 n d'=true→PyData.eqv (toPy n d) (toPy n d')=decide (d=d'):=by
  intro n
  induction n with
  | zero =>
    intro d d' h h'
    cases d with
    | non=>cases d' <;> first | (simp [toPy,PyData.eqv]; done) | cases h'
    | int i =>
      cases d' with
      | int j=>simp only [toPy,PyData.eqv]; by_cases e:i=j <;> simp [e]
      | _=>first | (simp [toPy,PyData.eqv]; done) | cases h'
    | _=>cases h
  | succ n ih =>
    have all:∀ l l':List D,l.all (zb9 n)=true→l'.all (zb9 n)=true→PyData.eqvAll (l.map (toPy n)) (l'.map (toPy n))=decide (l=l'):=by
      intro l
      induction l with
      | nil=>intro l' _ _; cases l' <;> simp [PyData.eqvAll]
      | cons a l ih2 =>
        intro l' h h'
        cases l' with
        | nil=>simp [PyData.eqvAll]
        | cons b l' =>
          rw [List.all_cons,Bool.and_eq_true] at h h'
          simp only [List.map_cons,PyData.eqvAll,ih a b h.1 h'.1,ih2 l' h.2 h'.2]
          by_cases e1:a=b <;> by_cases e2:l=l' <;> simp [e1,e2]
    intro d d' h h'
    cases d with
    | non=>cases d' <;> first | (simp [toPy,PyData.eqv]; done) | cases h'
    | int i =>
      cases d' with
      | int j=>simp only [toPy,PyData.eqv]; by_cases e:i=j <;> simp [e]
      | _=>first | (simp [toPy,PyData.eqv]; done) | cases h'
    | tup l =>
      cases d' with
      | tup l'=>simp only [toPy,PyData.eqv,all l l' h h']; simp
      | _=>first | (simp [toPy,PyData.eqv]; done) | cases h'
    | lst l =>
      cases d' with
      | lst l'=>simp only [toPy,PyData.eqv,all l l' h h']; simp
      | _=>first | (simp [toPy,PyData.eqv]; done) | cases h'
    | _=>cases h
theorem zns {pins:List (Addr × Obj)} {σ:L2.St} {H F:Hp} {s:Shared} (I:Inv X pins σ H s) (sm:Same F H):∀ (n:Nat) (d:D) (v:V) (u:Value),zb9 n d=true→Rep ⟨X.K,ca,an⟩ F d v→RelV v u→∃ as,Reads s.heap u (toPy n d) as:=by
  intro n
  induction n with
  | zero =>
    intro d v u h r ru
    cases d with
    | non=>simp only [Rep] at r; subst r; cases ru; exact ⟨_,.none⟩
    | int i=>simp only [Rep] at r; subst r; obtain ⟨t,rfl⟩:=ru; exact ⟨_,.int i t⟩
    | _=>cases h
  | succ n ih =>
    have all:∀ (l:List D) (vs:List V) (us:List Value),l.all (zb9 n)=true→RepL ⟨X.K,ca,an⟩ F l vs→Vals vs us→∃ as,ReadsAll s.heap us (l.map (toPy n)) as:=by
      intro l
      induction l with
      | nil=>intro vs us _ r ru; simp only [RepL] at r; subst r; cases ru; exact ⟨_,.nil⟩
      | cons a l ih2 =>
        intro vs us h r ru
        rw [List.all_cons,Bool.and_eq_true] at h
        simp only [RepL] at r
        obtain ⟨v,r',rfl,r1,r2⟩:=r
        cases ru with
        | cons ru ru' =>
          obtain ⟨as,h1⟩:=ih a v _ h.1 r1 ru
          obtain ⟨bs,h2⟩:=ih2 r' _ h.2 r2 ru'
          exact ⟨_,.cons h1 h2⟩
    intro d v u h r ru
    cases d with
    | non=>simp only [Rep] at r; subst r; cases ru; exact ⟨_,.none⟩
    | int i=>simp only [Rep] at r; subst r; obtain ⟨t,rfl⟩:=ru; exact ⟨_,.int i t⟩
    | tup l =>
      simp only [Rep] at r
      obtain ⟨a,vs,rfl,h1,h2⟩:=r
      cases ru
      obtain ⟨its,rv,⟨o,e,c,k,dd⟩,_⟩:=I.tuple (show SqT X.K H a vs from .inl (.inl (sm _ _ h1)))
      obtain ⟨as,h3⟩:=all l vs its h h2 rv
      exact ⟨_,.tuple e c dd (by simpa using h3)⟩
    | lst l =>
      simp only [Rep] at r
      obtain ⟨a,vs,rfl,h1,h2⟩:=r
      cases ru
      obtain ⟨its,rv,⟨o,k,e,c,_,dd⟩,_⟩:=I.list (show SqL X.K H a vs from .inl (PM.Same.rd sm h1))
      obtain ⟨as,h3⟩:=all l vs its h h2 rv
      exact ⟨_,.list e c dd (by simpa using h3)⟩
    | _=>cases h
theorem ziM {pins:List (Addr × Obj)} {σ:L2.St} {H F:Hp} {s:Shared} (I:Inv X pins σ H s) (sm:Same F H) {n:Nat} {d:D} {v:V} {u:Value} (h:zb9 n d=true) (r:Top ⟨X.K,ca,an⟩ F H d v) (ru:RelV v u):∃ as,Reads s.heap u (toPy n d) as:=by
  have r':Rep ⟨X.K,ca,an⟩ (zbB F H) d v:=by
    cases d with
    | lst l =>
      obtain ⟨a,vs,rfl,h1,h2⟩:=r
      rcases h1 with h1 | ⟨o,h1⟩
      · exact zhy sm (.inr ⟨a,rfl,vs,h1,h2⟩)
      · simp only [Rep]
        refine ⟨a,vs,rfl,.inr ⟨o,?_⟩,h2.mono zd6⟩
        unfold zbB
        cases q:F a with
        | some u=>rw [sm _ _ q] at h1; exact h1
        | none=>simp only [h1]
    | dct ks l=>cases n <;> cases h
    | obj c ks l=>cases n <;> cases h
    | _=>exact Rep.mono zd6 _ r
  exact zns I (zhp sm) n d v u h r' ru
open Classical in
def rEqD (K:Kx) (neg:Bool):R2:=fun x y H Q=>∃ (F:Hp) (dx dy:D),Same F H∧Top K F H dx x∧Top K F H dy y∧zb9 8 dx=true∧zb9 8 dy=true∧Q (.bl (if neg=true then !decide (dx=dy) else decide (dx=dy))) H
theorem zp7 (hu:X.A.units + 64 < cLine):OpR X (compareOp .NotEq) (rEqD ⟨X.K,ca,an⟩ true):=by
  intro pins s σ H x y v u Q I rx ry h
  obtain ⟨F,dx,dy,sm,tx,ty,px,py,q⟩:=h
  obtain ⟨as,ra⟩:=ziM I sm px tx rx
  obtain ⟨bs,rb⟩:=ziM I sm py ty ry
  obtain ⟨l1,l2⟩:=zjX 8 dx px
  obtain ⟨m1,m2⟩:=zjX 8 dy py
  refine SeqAt.compareNe_reads ra rb l1 m1 (by omega) ?_
  rw [zoI 8 dx dy px py]
  exact ⟨.bl _,H,I,rfl,q⟩
theorem zpR:SR K (rEqD K true) oNeD:=by
  intro F H x y dx dy d Q s hx hy e q
  unfold oNeD ifC at e
  split at e
  · rename_i h
    cases e
    exact ⟨F,dx,dy,s,hx,hy,h.1,h.2,q _ F H (.refl s) (by simp only [Rep]; rfl)⟩
  · cases e
end
end PM
namespace L2
open PySem PySem.Spec PyProof.Rows
section
variable {X:Cx}
end
end L2
namespace PM
open PySem L2
section
variable {K:Kx} {XO:XOT} {E:L2.St→XK}
end
end PM
namespace PM
open PySem L2
def xoK (K:Kx):XOT:=fun x F _ C dct=>C = .ref (K.ca x.c)∧XA K F x.c dct
def zoy (c:Nat) (ml:En→R (List D)) (δ:En):O:=(ml δ).toO δ fun l=>ifC (l.length ≤ sizeLine) (.ex δ ⟨c⟩) .no
section
variable {K:Kx} {E:L2.St→XK} {ta:TE} {ma:En→R D} {t u:TS} {m n:En→O} {Λ:List (Nat × Addr × HO)} {F0 H0 F H:Hp} {σ:L2.St} {δ:En}
theorem znA {C:Addr} {c:Nat} {tl:TA} {ml:En→R (List D)} (hC:C=K.ca c) (hax:c < 16) (h:SA K (xoK K) E tl ml):SS K (xoK K) E (zod C E tl) (zoy c ml):=by
  intro Λ F0 H0 F H σ δ Dn I a
  refine h Λ F0 H0 F H σ δ _ I ((AftS.of I a).imp fun l F1 H1 e p vs r=>?_)
  unfold ifC at p
  split at p
  · rename_i hl
    exact ⟨by rw [r.length]; exact hl,p σ F1 H1 _ _ (I.grow e) ⟨by rw [hC],by unfold XA; rw [if_pos hax]⟩⟩
  · exact p.elim
theorem EnvOk.unset {i:Nat} (I:EnvOk K Λ F0 H0 F H σ δ) (hl:∃ x,δ[i]?=some x∧∀ d,x ≠ .l d):EnvOk K Λ F0 H0 F H (σ.set i none) (δ.set i .no):=by
  obtain ⟨x,hx,hn⟩:=hl
  have hi:i < δ.length:=(List.getElem?_eq_some_iff.mp hx).1
  refine ⟨I.ext,by simp [I.len],fun j=>?_,fun j k a hjk h1 h2 h3 h4=>?_,fun y hy=>?_,I.tabsOf (fun k ll h=>by
      by_cases e:i=k
      · subst e; rw [List.getElem?_set_self hi] at h; cases h
      · rw [List.getElem?_set_ne e] at h; exact ⟨h,List.getElem?_set_ne e⟩) (fun _ _ _ _ _=>rfl) fun k j ll a b bs _ _ _ _ ho hs=>.inl (by
      by_cases e:i=j
      · subst e; rw [List.getElem?_set_self hi] at ho; cases ho
      · rw [List.getElem?_set_ne e] at ho hs; exact ⟨ho,hs⟩)⟩
  · by_cases e:i=j
    · subst e
      rw [List.getElem?_set_self hi]
      trivial
    · rw [List.getElem?_set_ne e,List.getElem?_set_ne e]
      exact I.slot j
  · have ne:∀ k:Nat,Sl.own (δ.set i .no)[k]?=true→i ≠ k:=by
      rintro k h rfl
      rw [List.getElem?_set_self hi] at h
      cases h
    have n1:=ne j h1
    have n2:=ne k h2
    rw [List.getElem?_set_ne n1] at h1 h3
    rw [List.getElem?_set_ne n2] at h2 h4
    exact I.dist j k a hjk h1 h2 h3 h4
  · obtain ⟨⟨d',h1⟩,h2,h3⟩:=I.lent y hy
    have n:i ≠ y.1:=by
      intro e
      rw [← e,hx] at h1
      exact hn d' (Option.some.inj h1)
    exact ⟨⟨d',by rw [List.getElem?_set_ne n]; exact h1⟩,by rw [List.getElem?_set_ne n]; exact h2,h3⟩
def zfF (i:Nat) (δ:En):Option En:=match δ[i]? with | none=>none | some (.l _)=>none | some _=>some (δ.set i .no)
theorem zgo {i:Nat} {δ':En} (h:zfF i δ=some δ') (I:EnvOk K Λ F0 H0 F H σ δ):EnvOk K Λ F0 H0 F H (σ.set i none) δ':=by
  unfold zfF at h
  split at h
  · cases h
  · cases h
  · rename_i x h2 h1
    cases h
    exact I.unset ⟨x,h1,fun d' z=>h2 d' (by rw [z])⟩
def zjG (i:Nat):O→O
  | .nx δ=>(match zfF i δ with | some δ'=>.nx δ' | none=>.no)
  | .bk δ=>(match zfF i δ with | some δ'=>.bk δ' | none=>.no)
  | .ct δ=>(match zfF i δ with | some δ'=>.ct δ' | none=>.no)
  | .ex _ _=>.no
  | r=>r
def mTry (mb:En→O) (sub:Nat→Bool) (i:Nat) (mh:En→O) (δ:En):O:=match mb δ with
  | .ex δ' x=>if sub x.c=true then (match zat i (.exc x.c) δ' with | some δ1=>zjG i (mh δ1) | none=>.no) else .no
  | r=>r
theorem zqJ {D':Addr} {tb:(L2.St→XK)→TS} {th:TS} {mb mh:En→O} {sub:Nat→Bool} {i:Nat} (hsub:∀ c,sub c=true→PySem.W.kitCls K.f (.ref (K.ca c)) (.ref D')=some true)
    (hb:∀ E',SS K (xoK K) E' (tb E') mb) (hh:SS K (xoK K) EN th mh):SS K (xoK K) E (tTry K.f D' tb i th) (mTry mb sub i mh):=by
  intro Λ F0 H0 F H σ δ Dn I a
  refine hb _ Λ F0 H0 F H σ δ Dn I ?_
  unfold mTry at a
  cases q:mb δ with
  | no=>rw [q] at a; exact a
  | nx δ'=>rw [q] at a; exact a
  | rt d=>rw [q] at a; exact a
  | ro d=>rw [q] at a; exact a
  | bk δ'=>rw [q] at a; exact a
  | ct δ'=>rw [q] at a; exact a
  | ex δ' x =>
    rw [q] at a
    simp only at a
    split at a
    · rename_i hs
      rintro σ1 F1 H1 C dct I1 ⟨rfl,hxa⟩
      refine ⟨_,rfl,hsub _ hs,fun ea hea=>?_⟩
      have sF:Same F1 (upd F1 ea (excO (K.ca x.c) dct ea)):=Same.upd (I1.same.free hea)
      have I2:=I1.grow (Ext.new (o:=excO (K.ca x.c) dct ea) I1.same hea)
      cases qb:zat i (.exc x.c) δ' with
      | none=>rw [qb] at a; exact a.elim
      | some δ1 =>
        rw [qb] at a
        simp only at a
        refine zax (K:=K) Λ F0 H0 _ _ σ1 δ' (.exc x.c) (.ref ea) δ1 (fun σ2 H2=>th { nx:=fun σ2 H2=>Dn.nx (σ2.set i none) H2,rt:=Dn.rt,bk:=fun σ2 H2=>Dn.bk (σ2.set i none) H2,ct:=fun σ2 H2=>Dn.ct (σ2.set i none) H2 } σ2 H2) I2 ?_ qb fun σ2 I3=>?_
        · simp only [Rep]
          exact ⟨ea,dct,rfl,zal,hxa.mono sF⟩
        · refine hh Λ F0 H0 _ _ σ2 δ1 _ I3 ?_
          cases qh:mh δ1 with
          | no=>rw [qh] at a; exact a
          | rt d=>rw [qh] at a; exact a
          | ro d=>rw [qh] at a; exact a
          | ex _ _=>rw [qh] at a; exact a.elim
          | nx δ2 =>
            rw [qh] at a
            simp only [zjG] at a
            cases z:zfF i δ2 with
            | none=>rw [z] at a; exact a.elim
            | some δ3=>rw [z] at a; exact fun σ F H J=>a _ F H (zgo z J)
          | bk δ2 =>
            rw [qh] at a
            simp only [zjG] at a
            cases z:zfF i δ2 with
            | none=>rw [z] at a; exact a.elim
            | some δ3=>rw [z] at a; exact fun σ F H J=>a _ F H (zgo z J)
          | ct δ2 =>
            rw [qh] at a
            simp only [zjG] at a
            cases z:zfF i δ2 with
            | none=>rw [z] at a; exact a.elim
            | some δ3=>rw [z] at a; exact fun σ F H J=>a _ F H (zgo z J)
    · exact a.elim
def zls (tab:Nat→Option Bool) (d:D):Option D:=match d with | .exc c=>(tab c).map .bl | _=>none
theorem zoQ {w:V} {cv:Value} {tab:Nat→Option Bool} (hw:clsV w=some cv) (hk:∀ c b,tab c=some b→ExcCls K.f (K.ca c)∧PySem.W.kitOne K.f (.ref (K.ca c)) cv=some b) (ha:SEr K XO E ta ma) :
    SE K XO E (tCB (rIsX K.f) (zcy ta (zcy (tC w) tNil))) (m1 (zls tab) ma):=by
  intro Λ F0 H0 F H σ δ Q I a
  refine ha Λ F0 H0 F H σ δ _ I (a.bind.imp fun d F1 H1 e1 a1 x rx=>?_)
  cases d with
  | exc c =>
    simp only [Top,Rep] at rx
    obtain ⟨p,dct,rfl,h1,hxa⟩:=rx
    simp only [zls] at a1
    cases z:tab c with
    | none=>rw [z] at a1; exact a1.elim
    | some b =>
      rw [z] at a1
      obtain ⟨k1,k2⟩:=hk c b z
      exact ⟨p,_,dct,w,cv,b,rfl,hw,e1.fh _ _ h1,fun dx ed=>by
        unfold XA at hxa
        split at hxa
        · rw [hxa] at ed; cases ed
        · obtain ⟨dx',e2,e3⟩:=hxa
          rw [e2] at ed; cases ed
          exact ⟨_,e1.fh _ _ e3⟩,k1,k2,a1 F1 H1 (.refl e1.fh) _ (by simp only [Rep])⟩
  | _=>exact a1.elim
end
end PM
namespace L2
open PySem PySem.Spec PyProof.Rows
section
variable {P:Program} {w:World} {B:Around} {Z:Result→Shared→Prop} {J S:Addr} {fp wr:List Addr} {n:Nat} {Pv:Nat→Value→Prop} {Sn:Nat→Heap→Prop}
theorem zht:(toString "max" ++ toString ".loop" : String) = "max.loop":=by decide
theorem zq5 (W:Walks P w B.in1 J fp wr n Pv Sn) (bt:Nat→Nat→Bool) (cmp:CmpOf P w B.in1 .Gt Pv bt) (nS:S ∉ fp) (df:Value):∀ (r i:Nat) (s:Shared) (best:Value) (c:Nat),i + 1 + r=n→Sn (i + 1) s.heap→Pv (argBest bt i) best →
    s.heap.get? S=some { cls:=.type "list",dict:=none,data:=.seq #[best,best] c,slots:=#[] } →
    (∀ v h' tk,Pv (argBest bt (n - 1)) v→(∀ b o,b ∉ wr→b ≠ S→s.heap.get? b=some o→h'.get? b=some o)→Z (.ok (.ret v)) { s with heap:=h',toks:=tk }) →
    codeAny (model P w) B (.builtin "max.loop" ⟨[.ref J,.none,.ref S],[("default",df)]⟩) Z s:=by
  have nw:S ∉ wr:=fun z=>nS (W.sub _ z)
  intro r
  induction r with
  | zero =>
    intro i s best c hr st pb atS fin
    have ei:i + 1=n:=hr
    refine codeAny_builtin F.entry_max_loop ((Around.under_plainId F.plain_max_loop (A:=B) _).symm ▸ ?_)
    refine wpAny_bind (wpAny_seqItems atS rfl (wpAny_bind (wpAny_tryCatch (W.done s _ _ (ei ▸ st) fun h1 tk kp=>?_))))
    have atS1:=kp S _ nw atS
    refine wpAny_bind (wpAny_updateSeq atS1 rfl (wpAny_bind (wpAny_letGo (wpAny_pure (fin best _ tk ?_ fun b o g1 g2 e=>?_)))))
    · rw [← ei]; exact pb
    · exact (Heap.get?_update_other _ _ (Ne.symm g2)).trans (kp b o g1 e)
  | succ r ih =>
    intro i s best c hr st pb atS fin
    have lt:i + 1 < n:=by omega
    refine codeAny_builtin F.entry_max_loop ((Around.under_plainId F.plain_max_loop (A:=B) _).symm ▸ ?_)
    refine wpAny_bind (wpAny_seqItems atS rfl (wpAny_bind (wpAny_tryCatch (W.item (i + 1) s _ _ lt st fun v h1 tk pv st1 kp=>?_))))
    have atS1:=kp S _ nw atS
    refine wpAny_bind (wpAny_pure (wpAny_bind (wpAny_tryCatch (wpAny_holding (wpAny_bind (cmp (i + 1) (argBest bt i) v best _ _ _ pv pb (wpAny_bind (wpAny_holding (wpAny_truthy_bool (wpAny_bind (wpAny_letGo (wpAny_pure ?_))))))))))))
    cases hb:bt (i + 1) (argBest bt i) with
    | true =>
      simp only [if_true]
      refine wpAny_bind (wpAny_updateSeq atS1 rfl (wpAny_bind (wpAny_letGo ?_)))
      rw [zht]
      refine wpAny_pure ⟨plainId_quiet F.plain_max_loop _,ih (i + 1) _ v _ (by omega) (W.frame _ _ _ st1 fun b g o e=>(Heap.get?_update_other _ _ (fun z:S=b=>nS (z ▸ g))).trans e) ?_ (Heap.get?_update_self _ atS1 rfl) fun v2 h2 tk2 p2 k2=>?_⟩
      · simp only [argBest,hb,if_true]; exact pv
      · exact fin v2 h2 tk2 p2 fun b o g1 g2 e=>k2 b o g1 g2 ((Heap.get?_update_other _ _ (Ne.symm g2)).trans (kp b o g1 e))
    | false =>
      simp only [Bool.false_eq_true,if_false]
      refine wpAny_bind (wpAny_letGo ?_)
      rw [zht]
      refine wpAny_pure ⟨plainId_quiet F.plain_max_loop _,ih (i + 1) _ best c (by omega) st1 ?_ atS1 fun v2 h2 tk2 p2 k2=>?_⟩
      · simp only [argBest,hb,Bool.false_eq_true,if_false]; exact pb
      · exact fin v2 h2 tk2 p2 fun b o g1 g2 e=>k2 b o g1 g2 (kp b o g1 e)
theorem znO (W:Walks P w B.in1 J fp wr n Pv Sn) (bt:Nat→Nat→Bool) (cmp:CmpOf P w B.in1 .Gt Pv bt) (nS:S ∉ fp) (df:Value) {s:Shared} {c:Nat} (st:Sn 0 s.heap) (atS:s.heap.get? S=some { cls:=.type "list",dict:=none,data:=.seq #[] c,slots:=#[] })
    (f0:n=0→∀ h' tk,(∀ b o,b ∉ wr→b ≠ S→s.heap.get? b=some o→h'.get? b=some o)→Z (.ok (.ret df)) { s with heap:=h',toks:=tk })
    (fin:0 < n→∀ v h' tk,Pv (argBest bt (n - 1)) v→(∀ b o,b ∉ wr→b ≠ S→s.heap.get? b=some o→h'.get? b=some o)→Z (.ok (.ret v)) { s with heap:=h',toks:=tk }) :
    codeAny (model P w) B (.builtin "max.loop" ⟨[.ref J,.none,.ref S],[("default",df)]⟩) Z s:=by
  have nw:S ∉ wr:=fun z=>nS (W.sub _ z)
  refine codeAny_builtin F.entry_max_loop ((Around.under_plainId F.plain_max_loop (A:=B) _).symm ▸ ?_)
  refine wpAny_bind (wpAny_seqItems atS rfl ?_)
  by_cases h0:n=0
  · refine wpAny_bind (wpAny_tryCatch (W.done s _ _ (h0 ▸ st) fun h1 tk kp=>?_))
    exact wpAny_bind (wpAny_rule (wpAny_pure (f0 h0 h1 tk fun b o g1 _ e=>kp b o g1 e)))
  · have hp:0 < n:=by omega
    refine wpAny_bind (wpAny_tryCatch (W.item 0 s _ _ hp st fun v h1 tk pv st1 kp=>?_))
    have atS1:=kp S _ nw atS
    refine wpAny_bind (wpAny_pure (wpAny_bind (wpAny_updateSeq atS1 rfl ?_)))
    rw [zht]
    refine wpAny_pure ⟨plainId_quiet F.plain_max_loop _,zq5 W bt cmp nS df (n - 1) 0 _ v _ (by omega) (W.frame _ _ _ st1 fun b g o e=>(Heap.get?_update_other _ _ (fun z:S=b=>nS (z ▸ g))).trans e) pv (Heap.get?_update_self _ atS1 rfl) fun v2 h2 tk2 p2 k2=>?_⟩
    exact fin hp v2 h2 tk2 p2 fun b o g1 g2 e=>k2 b o g1 g2 ((Heap.get?_update_other _ _ (Ne.symm g2)).trans (kp b o g1 e))
end
section
variable {P:Program} {w:World} {B:Around} {E:Value→Shared→Prop} {s:Shared} {Q:Value→Shared→Prop} {l:Addr} {xs:Array (Int × Tok)} {df:Value}
theorem zoL (a b:Value):argsOk "max" ⟨[a],[("default",b)]⟩:=by
  unfold argsOk
  kernel_rfl
theorem zpB (hh:B.handled=none) (hl:s.heap.IsList l (intItems xs)) (f0:xs.size=0→∀ h' tk,(∀ b o,s.heap.get? b=some o→h'.get? b=some o)→Q df { s with heap:=h',toks:=tk })
    (fin:0 < xs.size→∀ v h' tk,(intItems xs)[argBest (fun i j=>decide (numAt xs i > numAt xs j)) (xs.size - 1)]?=some v→(∀ b o,s.heap.get? b=some o→h'.get? b=some o)→Q v { s with heap:=h',toks:=tk }) :
    wpAny (model P w) B (call (.builtin "max") [.ref l] [("default",df)]) Q E s:=by
  have main:wpAny (model P w) B.in1 (Builtin.«max» ⟨[.ref l],[("default",df)]⟩) (fun r s'=>match r with
      | .done f=>(match (Except.ok f:Result) with | .ok (.ret v)=>Q v s' | .ok _=>False | .error e=>E e s')
      | .again c'=>c'.quiet=true∧codeAny (model P w) B c' (fun r s'=>match r with | .ok (.ret v)=>Q v s' | .ok _=>False | .error e=>E e s') s') E s:=by
    show wpAny _ B.in1 (Builtin.Builtins.bindParams "max" ["key","default"] 0 ⟨[],[("default",df)]⟩ >>= _) _ _ s
    refine wpAny_bind (wpAny_of_eq (show Builtin.Builtins.bindParams "max" ["key","default"] 0 ⟨[],[("default",df)]⟩=pure [none,some df] from rfl) (wpAny_bind (wpAny_pure (wpAny_bind (iter_intList hl fun s2 e st below ne=>?_)))))
    subst e
    refine wpAny_bind (wpAny_newObj_type ?_)
    rw [zht]
    have out:∀ b ∈ [s.heap.objs.size,l],b ≠ (s.heap.push { cls:=.type "list_iterator",data:=.fields #[.ref l,.int 0 0] }).objs.size:=fun b hb z=>absurd (below b hb) (by rw [z]; exact Nat.lt_irrefl _)
    have W:=Walks.list (prog:=P) (w:=w) (A:=B.in1) hh s.heap.objs.size l ne (intItems xs)
    refine wpAny_pure ⟨plainId_quiet F.plain_max_loop _,znO W _ (CmpOf.ints_gt (numAt xs) (fun _ _=>intItems_at)) (fun z=>out _ z rfl) df (W.frame _ _ _ st fun b _ o e=>Heap.get?_push_of_some _ e) (Heap.get?_push_size _ rfl) (fun h0 h' tk kp=>?_) fun hp v h' tk pv kp=>?_⟩
    · refine f0 (by simpa [intItems] using h0) h' tk fun b o e=>?_
      have e1:=Heap.get?_push_of_some { cls:=.type "list_iterator",data:=.fields #[.ref l,.int 0 0] } e
      exact kp b o (fun z => by have : b = s.heap.objs.size := by simpa using z
                                exact Nat.lt_irrefl _ (this ▸ Heap.lt_size e)) (Nat.ne_of_lt (Heap.lt_size e1)) (Heap.get?_push_of_some _ e1)
    · refine fin (by simpa [intItems] using hp) v h' tk (by simpa [intItems] using pv) fun b o e=>?_
      have e1:=Heap.get?_push_of_some { cls:=.type "list_iterator",data:=.fields #[.ref l,.int 0 0] } e
      exact kp b o (fun z => by have : b = s.heap.objs.size := by simpa using z
                                exact Nat.lt_irrefl _ (this ▸ Heap.lt_size e)) (Nat.ne_of_lt (Heap.lt_size e1)) (Heap.get?_push_of_some _ e1)
  refine wpAny_call (codeAny_call_builtin F.plain_max F.entry_max ?_)
  simp only [checkBuiltinCall,F.kind_max]
  cases sg:Manifest.signature? "max" with
  | none=>exact wpAny_pure main
  | some q =>
    have ok:=zoL (.ref l) df
    simp only [argsOk,sg] at ok
    show wpAny _ B.in1 (Bind.checkArgs "max" q ⟨[.ref l],[("default",df)]⟩) _ _ s
    rw [show Bind.checkArgs "max" q ⟨[.ref l],[("default",df)]⟩=pure () from ok]
    exact wpAny_pure main
end
end L2
namespace L2
open PySem PySem.Spec PyProof.Rows
def zp1 (ta:TA) (td:TE):TE:=fun σ H Q=>ta σ H fun vs H1=>(zcy td tNil) σ H1 fun zs H2=>∃ (y:V) (a:Addr) (ns:List Int),zs = [y]∧vs = [.ref a]∧Rd H2 a (.lst (ns.map V.int))∧Q (match ns with | []=>y | n :: l=>.int (PM.maxI l n)) H2
theorem maxI_ge:∀ (l:List Int) (m:Int),m ≤ PM.maxI l m∧(∀ a ∈ l,a ≤ PM.maxI l m)∧(PM.maxI l m=m∨PM.maxI l m ∈ l)
  | [],m=>⟨Int.le_refl _,fun _ h=>(by cases h),.inl rfl⟩
  | a :: l,m=>by
    obtain ⟨h1,h2,h3⟩:=maxI_ge l (if a > m then a else m)
    unfold PM.maxI
    have e:(if a > m then a else m)=a∧a > m∨(if a > m then a else m)=m∧¬ a > m:=by split <;> simp_all
    refine ⟨by omega,fun b hb=>?_,?_⟩
    · rcases List.mem_cons.mp hb with rfl | hb
      · omega
      · exact h2 b hb
    · rcases h3 with h3 | h3
      · rcases e with ⟨e,_⟩ | ⟨e,_⟩
        · exact .inr (by rw [h3,e]; exact List.mem_cons_self)
        · exact .inl (by rw [h3,e])
      · exact .inr (List.mem_cons_of_mem _ h3)
section
variable {X:Cx}
theorem zo4 {e d:Expr} {ta:TA} {td:TE} {p pos kp:Pos} (hc:X.calm=true) (hg:Gl X "max") (hm:X.mg "max"=none) (ha:PA X [e] ta) (hd:PE X d td)
    (he:backTo pos (starEach [e] X.env)=(false,eval e X.env) :: backTo pos (starEach [] X.env):=by rfl) (hpl:(backTo pos (starEach [e] X.env)).any (·.1)=false:=by rfl):PE X (.Call (.Name "max" p) [e] [⟨some "default",d,kp⟩] pos) (zp1 ta td):=by
  intro pins s σ H Q I h
  refine wpAny_Call_Name_kw (zeG I hg hm boot_max ?_)
  refine callWith_kw (thn (ha pos pins s σ H _ I h) fun us s1 ⟨vs,H1,I1,r1,q1⟩=>?_) he hpl
  refine thn (zoA hd zpU pos pins s1 σ H1 _ I1 q1) fun ws s2 ⟨zs,H2,I2,rz,y,a,ns,e1,e2,hq,q⟩=>?_
  subst e1 e2
  obtain ⟨u,rfl,rx⟩:=zff r1
  cases rx
  obtain ⟨df,rfl,ry⟩:=zff rz
  obtain ⟨z,its,n,rv,eh⟩:=hq.ok I2.hok
  obtain ⟨ts,rfl,htl⟩:∃ ts:List Tok,its=(ns.zip ts).map (fun p=>Value.int p.1 p.2)∧ts.length=ns.length:=by
    clear eh hq q z
    induction ns generalizing its with
    | nil=>cases rv; exact ⟨[],rfl,rfl⟩
    | cons a l ih =>
      cases rv with
      | cons h t =>
        obtain ⟨tk,rfl⟩:=h
        obtain ⟨ts,rfl,hl⟩:=ih _ t
        exact ⟨tk :: ts,rfl,by simp [hl]⟩
  have ei:((ns.zip ts).map (fun p=>Value.int p.1 p.2)).toArray=intItems (ns.zip ts).toArray:=by simp [intItems]
  rw [ei] at eh
  have en:∀ j,numAt (ns.zip ts).toArray j=ns.getD j 0:=fun j=>by
    rw [numAt_eq]
    have:(ns.zip ts).map (·.1)=ns:=List.map_fst_zip (by omega)
    show ((ns.zip ts).map (·.1)).getD j 0=_
    rw [this]
  have esz:(ns.zip ts).toArray.size=ns.length:=by simp; omega
  show wpAny _ _ (call (.builtin "max") [.ref a] [("default",df)]) _ _ s2
  refine zpB (I2.ok.hd hc) ⟨_,eh,rfl,n,rfl⟩ (fun h0 h' tk hk=>?_) fun hp v h' tk hv hk=>?_
  · rw [esz] at h0
    have:ns = []:=List.length_eq_zero_iff.mp h0
    subst this
    exact ⟨y,H2,I2.kept (t':=tk) hk,ry,q⟩
  · rw [esz] at hp
    cases ns with
    | nil=>simp at hp
    | cons m l =>
      obtain ⟨t,rfl⟩:=intItems_at hv
      refine ⟨.int (PM.maxI l m),H2,I2.kept (t':=tk) hk,⟨t,?_⟩,q⟩
      congr 1
      obtain ⟨g1,g2⟩:=argBest_gt (numAt ((m :: l).zip ts).toArray) (((m :: l).zip ts).toArray.size - 1)
      obtain ⟨k1,k2,k3⟩:=maxI_ge l m
      have lb:∀ a ∈ m :: l,a ≤ numAt ((m :: l).zip ts).toArray (argBest (fun i j=>decide (numAt ((m :: l).zip ts).toArray i > numAt ((m :: l).zip ts).toArray j)) (((m :: l).zip ts).toArray.size - 1)):=fun a ha=>by
        obtain ⟨j,hj,ej⟩:=List.getElem_of_mem ha
        have:=g2 j (by rw [esz]; omega)
        rw [en j,List.getD_eq_getElem?_getD,List.getElem?_eq_getElem hj,ej] at this
        exact this
      have ub:numAt ((m :: l).zip ts).toArray (argBest (fun i j=>decide (numAt ((m :: l).zip ts).toArray i > numAt ((m :: l).zip ts).toArray j)) (((m :: l).zip ts).toArray.size - 1)) ≤ PM.maxI l m:=by
        generalize argBest (fun i j=>decide (numAt ((m :: l).zip ts).toArray i > numAt ((m :: l).zip ts).toArray j)) (((m :: l).zip ts).toArray.size - 1)=j at g1
        rw [en j]
        rw [esz] at g1
        have hj:j < (m :: l).length:=by omega
        have hm:(m :: l).getD j 0 ∈ m :: l:=by rw [List.getD_eq_getElem?_getD,List.getElem?_eq_getElem hj]; exact List.getElem_mem hj
        rcases List.mem_cons.mp hm with z | z
        · rw [z]; exact k1
        · exact k2 _ z
      have hm:PM.maxI l m ∈ m :: l:=k3.elim (fun z=>by rw [z]; exact List.mem_cons_self) fun z=>List.mem_cons_of_mem _ z
      exact Int.le_antisymm ub (lb _ hm)
end
end L2
namespace PM
open PySem L2
section
variable {K:Kx} {XO:XOT} {E:L2.St→XK} {td te:TE} {md me:En→R D}
theorem zkm {ds:List D} {d r:D} (h:zkn ds d=some r):∃ ns:List Int,ds = [.lst (ns.map .int)]∧r=match ns with | []=>d | n :: l=>.int (maxI l n):=by
  unfold zkn at h
  split at h
  · cases h; exact ⟨[],rfl,rfl⟩
  · rename_i a l
    cases z:asIs l with
    | none=>rw [z] at h; cases h
    | some ns=>rw [z] at h; cases h; exact ⟨a :: ns,by rw [zdp z]; rfl,rfl⟩
  · cases h
theorem zpi {tl:TA} {ml:En→R (List D)} (hl:SAr K XO E tl ml) (hd:SE K XO E td md):SE K XO E (zp1 tl td) (zkx ml md):=by
  intro Λ F0 H0 F H σ δ Q I a
  refine hl Λ F0 H0 F H σ δ _ I (a.bind.imp fun ds F1 H1 e1 a1 vs r=>?_)
  refine hd Λ F0 H0 F1 H1 σ δ _ (I.grow e1) (a1.bind.imp fun d F2 H2 e2 a2 y ry=>?_)
  cases q:zkn ds d with
  | none=>rw [q] at a2; exact a2.elim
  | some z =>
    rw [q] at a2
    obtain ⟨ns,rfl,rfl⟩:=zkm q
    cases r with
    | cons r r' =>
      cases r'
      obtain ⟨p,xs,rfl,h1,h2⟩:=r
      have ex:=zcr h2
      subst ex
      refine ⟨y,p,ns,rfl,rfl,PM.Same.rd e2.hh h1,a2 F2 H2 (.refl e2.fh) _ ?_⟩
      cases ns with
      | nil=>exact ry
      | cons n l=>simp only [Rep]
end
end PM
namespace L2
open PySem PySem.Spec PyProof.Rows
section
variable {X:Cx}
end
end L2
namespace PM
open PySem L2
section
variable {K:Kx} {XO:XOT} {E:L2.St→XK} {td ty tx:TE} {md my mx:En→R D}
end
end PM
namespace L2
open PySem PySem.Spec PyProof.Rows
section
variable {X:Cx}
def zoU (ta:TA):TE:=fun σ H Q=>ta σ H fun vs H1=>∃ j:Int,vs = [.int j]∧∀ r,H1 r=none→Q (.ref r) (upd H1 r (.rng 0 j))
theorem zlq {a:Expr} {ta:TA} {p pos:Pos} (hg:Gl X "range") (hm:X.mg "range"=none) (ha:PA X [a] ta) (hs:starEach [a] X.env = [(false,eval a X.env)]:=by rfl):PE X (.Call (.Name "range" p) [a] [] pos) (zoU ta):=by
  intro pins s σ H Q I h
  refine Call_ (zeG I hg hm boot_range (PyProof.Rows.callWith_type1 (thn (ha pos pins s σ H _ I h) fun us s1 ⟨vs,H1,I1,r1,q1⟩=>?_) hs rfl))
  obtain ⟨j,e,q⟩:=q1
  subst e
  obtain ⟨u,rfl,t,rfl⟩:=zff r1
  refine call_range_1 ⟨.ref s1.heap.objs.size,_,?_,rfl,q _ (I1.hok.fresh (Nat.le_refl _))⟩
  exact I1.laid (fun b o e=>Heap.get?_push_of_some _ e) (Nat.le_refl _) ⟨_,_,_,Heap.get?_push_size _ rfl⟩
def zor:List V→Hp→VK→Prop:=fun xs H Q=>∃ (r:Addr) (j:Int),xs = [.ref r]∧H r=some (.rng 0 j)∧(0 ≤ j∧j ≤ 100000)∧∀ l,H l=none→Q (.ref l) (upd H l (.lst ((List.range j.toNat).map fun k:Nat=>.int (k:Int))))
theorem zkQ (hc:X.calm=true):ze3 X (.type "list") zor:=by
  intro pins s σ H xs us Q I r h
  obtain ⟨ra,j,rfl,hr,hj,q⟩:=h
  obtain ⟨u,rfl,rx⟩:=zff r
  cases rx
  obtain ⟨t1,t2,t3,e⟩:=I.hok ra _ hr
  have sz:Builtin.Range.rangeSize 0 j 1=(j.toNat:Int):=by rw [rangeSize_one]; split <;> omega
  refine call_list_range (I.ok.hd hc) e (small_one (by decide) (by decide) (by omega) (by omega)) sz (by omega) fun h' tk acc c' kp hl items=>?_
  refine ⟨.ref s.heap.objs.size,_,?_,rfl,q _ (I.hok.fresh (Nat.le_refl _))⟩
  obtain ⟨i1,i2⟩:=items
  refine I.laid kp (Nat.le_refl _) ⟨(by rw [List.length_map,List.length_range]; exact Nat.le_trans (show j.toNat ≤ 100000 by omega) (show 100000 ≤ sizeLine by decide)),acc.toList,c',?_,by simpa using hl⟩
  have key:∀ (n:Nat) (l:List Value) (o:Nat),l.length=n→(∀ k v,l[k]?=some v→∃ t,v=Value.int ((o + k:Nat):Int) t)→Vals ((List.range' o n).map fun k:Nat=>V.int (k:Int)) l:=by
    intro n
    induction n with
    | zero=>intro l o h1 _; rw [List.length_eq_zero_iff.mp h1]; exact .nil
    | succ n ih =>
      intro l o h1 h2
      cases l with
      | nil=>simp at h1
      | cons v l =>
        obtain ⟨t,rfl⟩:=h2 0 v rfl
        refine .cons ⟨t,rfl⟩ (ih l (o + 1) (by simpa using h1) fun k v hk=>?_)
        obtain ⟨t',e'⟩:=h2 (k + 1) v (by simpa using hk)
        exact ⟨t',by rw [e']; congr 2; omega⟩
  have:=key j.toNat acc.toList 0 (by simpa using i1) fun k v hk=>by
    obtain ⟨t,e'⟩:=i2 k v (by simpa using hk)
    exact ⟨t,by rw [e']; congr 1; simp⟩
  rw [List.range_eq_range']
  exact this
end
end L2
namespace PM
open PySem L2
section
variable {K:Kx} {XO:XOT} {E:L2.St→XK}
def lstR (l:List D):Option D:=match l with
  | [.int j]=>ifC (0 ≤ j∧j ≤ 100000) (some (.lst ((List.range j.toNat).map fun k:Nat=>.int (k:Int)))) none
  | _=>none
def zpc (ml:En→R (List D)) (δ:En):R D:=(ml δ).bind fun l=>R.of (lstR l)
theorem zk5 {l:List D} {d:D} (h:lstR l=some d):∃ j:Int,l = [.int j]∧(0 ≤ j∧j ≤ 100000)∧d = .lst ((List.range j.toNat).map fun k:Nat=>.int (k:Int)):=by
  unfold lstR at h
  split at h
  · rename_i j
    unfold ifC at h
    split at h
    · cases h; exact ⟨j,rfl,by assumption,rfl⟩
    · cases h
  · cases h
theorem zmq {tl:TA} {ml:En→R (List D)} (h:SA K XO E tl ml):SEo K XO E (tCB zor (zcy (zoU tl) tNil)) (zpc ml):=by
  intro Λ F0 H0 F H σ δ Q I a
  refine h Λ F0 H0 F H σ δ _ I (a.bind.imp fun ds F1 H1 e1 a1 vs r=>?_)
  cases q:lstR ds with
  | none=>rw [q] at a1; exact a1.elim
  | some d =>
    rw [q] at a1
    obtain ⟨j,rfl,hj,rfl⟩:=zk5 q
    obtain ⟨v,rfl,rv⟩:=RepL.one r
    simp only [Rep] at rv
    subst rv
    refine ⟨j,rfl,fun ra hra=>⟨ra,j,rfl,zal,hj,fun l hl=>?_⟩⟩
    have x1:Ext F1 H1 F1 (upd H1 ra (.rng 0 j)):=.newO e1.fh hra
    have x2:=x1.trans (.newO (o:=.lst ((List.range j.toNat).map fun k:Nat=>V.int (k:Int))) x1.fh hl)
    have hl1:H1 l=none:=x1.hh.free hl
    refine a1 F1 _ x2 l (e1.fh.free hl1) (e1.hh.free hl1) ⟨_,zal,?_⟩
    have:=RepL.ints (K:=K) (F:=F1) (ns:=(List.range j.toNat).map fun k:Nat=>(k:Int))
    rw [List.map_map,List.map_map] at this
    exact this
end
end PM
namespace L2
open PySem PySem.Spec PyProof.Rows
theorem Inv.turnedL {X:Cx} {pins:List (Addr × Obj)} {σ:St} {H:Hp} {s:Shared} {h':Heap} {t':Nat} (ch:List Addr) (I:Inv X pins σ H s) (hf:∀ b ∈ ch,FpOk X pins H b) (k:∀ b o,b ∉ ch→s.heap.get? b=some o→h'.get? b=some o):Inv X pins σ H { s with heap:=h',toks:=t' }:=by
  have nit:∀ b u,H b=some u→b ∉ ch:=fun b u e z=>by
    obtain ⟨f0,_⟩:=hf b z
    rw [f0] at e; cases e
  refine I.step (g':=s.gens) (d':=s.drawn) (ch:=ch) (fun b hb=>?_) (fun b o _ _ hc e _=>k b o hc e) (fun b o _ _ hc e _=>⟨o.slots,k b o hc e⟩) (fun _ _ _ _ n=>n)
    (fun b o hc e=>⟨o,k b o hc e⟩) (fun _ _ e=>e) (fun _ _ _ e=>e) (fun b ps e=>⟨#[],by rw [e]; simp⟩) (fun m hm=>?_) (fun b u e=>?_) I.bare
  · obtain ⟨f0,f1,f2,f3,f4,f5⟩:=hf b hb
    exact ⟨f3,f1,f4,f5⟩
  · obtain ⟨o,es,ep,ho,r⟩:=hm
    refine ⟨o,es,ep,k _ o (fun z=>?_) ho,r⟩
    obtain ⟨_,f1,_⟩:=hf _ z
    exact f1 rfl
  · refine (I.hok b u e).stay (fun c v hc q=>k c v ?_ q) (fun _ q=>q) fun _ _ q=>q
    rcases hc with z | z
    · rw [z]; exact nit b u e
    · exact nit c _ z
theorem Inv.laidT {X:Cx} {pins:List (Addr × Obj)} {σ:St} {H:Hp} {s:Shared} {h':Heap} {t':Nat} (ch:List Addr) {xs:List V} {us:List Value} (I:Inv X pins σ H s) (hf:∀ b ∈ ch,FpOk X pins H b) (k:∀ b o,b ∉ ch→s.heap.get? b=some o→h'.get? b=some o)
    (hl:xs.length ≤ sizeLine) (rv:Vals xs us) (ht:h'.get? s.heap.objs.size=some { cls:=.type "tuple",data:=.seq us.toArray }):Inv X pins σ (upd H s.heap.objs.size (.tup xs)) { s with heap:=h',toks:=t' }:=by
  have hT:H s.heap.objs.size=none:=I.hok.fresh (Nat.le_refl _)
  have nit:∀ b u,H b=some u→b ∉ ch:=fun b u e z=>by
    obtain ⟨f0,_⟩:=hf b z
    rw [f0] at e; cases e
  refine I.step (h':=h') (g':=s.gens) (d':=s.drawn) (t':=t') (ch:=ch) (fun b hb=>?_) (fun b o _ _ hb q _=>k b o hb q) (fun b o _ _ hb q _=>⟨o.slots,k b o hb q⟩) (fun b o hb q n=>?_) (fun b o hb q=>⟨o,k b o hb q⟩) (fun b ys q=>?_) (fun b o ys q=>?_) (fun b ps q=>⟨#[],?_⟩) (fun m hm=>?_) ?_ I.bare
  · obtain ⟨f0,f1,f2,f3,f4,f5⟩:=hf b hb
    exact ⟨f3,f1,f4,f5⟩
  · rw [zai (Nat.ne_of_lt (Heap.lt_size q))]; exact n
  · rw [zai (zah q hT)]; exact q
  · rw [zai (zah q hT)]; exact q
  · rw [zai (zah q hT),q]; simp
  · obtain ⟨o,es',ep,ho',r⟩:=hm
    refine ⟨o,es',ep,k _ o (fun z=>?_) ho',r⟩
    obtain ⟨_,f1,_⟩:=hf _ z
    exact f1 rfl
  · intro b o q
    by_cases hb:b=s.heap.objs.size
    · subst hb
      rw [zal] at q; cases q
      exact ⟨hl,us,rv,⟨_,ht,rfl,_,rfl⟩⟩
    · rw [zai hb] at q
      refine (I.hok b o q).stay (fun c v hc' q'=>?_) (fun c q'=>by rw [zai (zah q' hT)]; exact q') fun c ys q'=>by rw [zai (zah q' hT)]; exact q'
      rcases hc' with rfl | hc'
      · exact k _ v (nit _ _ q) q'
      · exact k _ v (nit _ _ hc') q'
theorem zit {h:Heap} {z TI TO i1 i2 a b:Addr} {f0 u v:Value} {k1 k2:Nat} {xs ys:Array Value} (hd : [z,TI,TO,i1,i2].Nodup) (h1:IsZip h z TI TO f0) (h3:IsPair h TO u v) (h4:h.IsListIter i1 a k1) (h5:h.IsListIter i2 b k2) (p:PlainL h a xs) (p':PlainL h b ys):ZipApart z TI TO i1 i2 a b:=by
  obtain ⟨o,n,e,c,_⟩:=p
  obtain ⟨o',n',e',c',_⟩:=p'
  obtain ⟨j1,g1,d1,_⟩:=h4
  obtain ⟨j2,g2,d2,_⟩:=h5
  simp only [List.nodup_cons,List.mem_cons,List.not_mem_nil,or_false,not_or,List.nodup_nil,and_true,not_false_eq_true] at hd
  obtain ⟨⟨z1,z2,z3,z4⟩,⟨y1,y2,y3⟩,⟨x1,x2⟩,w1⟩:=hd
  have q1:∀ {o:Obj} {l:Addr},h.get? l=some o→o.cls = .type "list"→l ≠ z:=fun e c r=>by subst r; rw [h1] at e; cases e; simp at c
  have q2:∀ {o:Obj} {l:Addr},h.get? l=some o→o.cls = .type "list"→l ≠ TO:=fun e c r=>by subst r; rw [h3] at e; cases e; simp at c
  have q3:∀ {o:Obj} {l:Addr},h.get? l=some o→o.cls = .type "list"→l ≠ i1:=fun e c r=>by subst r; rw [g1] at e; cases e; rw [d1] at c; simp at c
  have q4:∀ {o:Obj} {l:Addr},h.get? l=some o→o.cls = .type "list"→l ≠ i2:=fun e c r=>by subst r; rw [g2] at e; cases e; rw [d2] at c; simp at c
  exact ⟨Ne.symm z1,Ne.symm z2,Ne.symm z3,Ne.symm z4,y1,y2,y3,x1,x2,w1,q1 e c,q2 e c,q3 e c,q4 e c,q1 e' c',q2 e' c',q3 e' c',q4 e' c'⟩
def Itz (K:PySem.W.Frag) (a b:Addr):It :=
  ⟨fun i H=>∃ xs ys x y,SqL K H a xs∧SqL K H b ys∧xs[i]?=some x∧ys[i]?=some y,
   fun i H v H'=>∃ p x y,v = .ref p∧H p=none∧H'=upd H p (.tup [x,y])∧(∀ xs,SqL K H a xs→xs[i]?=some x)∧∀ ys,SqL K H b ys→ys[i]?=some y,
   fun i H=>∃ xs ys,SqL K H a xs∧SqL K H b ys∧(xs.length ≤ i∨ys.length ≤ i)⟩
theorem zni {P:Program} {w:World} {K:PySem.W.Frag} {es:List Expr} {k} {pos:Pos} (a b z TI TO i1 i2:Addr) (hd : [z,TI,TO,i1,i2].Nodup) :
    Turn P w K (.Tuple es k pos) (Itz K a b) [z,TI,TO,i1,i2] z (fun i h=>IsZip h z TI TO .none∧IsPair h TI (.ref i1) (.ref i2)∧(∃ u v,IsPair h TO u v)∧h.IsListIter i1 a i∧h.IsListIter i2 b i) where
  mem:=by simp
  obj:=fun i h st c hc=>by
    obtain ⟨h1,h2,⟨u,v,h3⟩,⟨o1,h4,c1,d1⟩,o2,h5,c2,d2⟩:=st
    simp only [List.mem_cons,List.not_mem_nil,or_false] at hc
    rcases hc with rfl | rfl | rfl | rfl | rfl
    · exact ⟨_,h1,fun v z=>by cases (show Data.fields _=Data.cell v from z)⟩
    · exact ⟨_,h2,fun v z=>by cases (show Data.seq _=Data.cell v from z)⟩
    · exact ⟨_,h3,fun v z=>by cases (show Data.seq _=Data.cell v from z)⟩
    · exact ⟨o1,h4,fun v z=>by rw [d1] at z; cases z⟩
    · exact ⟨o2,h5,fun v z=>by rw [d2] at z; cases z⟩
  keep:=fun i h h' st q=>by
    obtain ⟨h1,h2,⟨u,v,h3⟩,h4,h5⟩:=st
    exact ⟨q z (by simp) _ h1,q TI (by simp) _ h2,⟨u,v,q TO (by simp) _ h3⟩,h4.at fun o e=>q i1 (by simp) o e,h5.at fun o e=>q i2 (by simp) o e⟩
  item:=by
    intro X hP hw hK hc i pins s σ H E I hf st hg
    subst hP hw hK
    obtain ⟨xs,ys,x,y,q1,q2,hx,hy⟩:=hg
    obtain ⟨its,rv,p,hz⟩:=I.list q1
    obtain ⟨its',rv',p',hz'⟩:=I.list q2
    obtain ⟨u,hu,ru⟩:=rv.get hx
    obtain ⟨u',hu',ru'⟩:=rv'.get hy
    obtain ⟨h1,h2,⟨f,g,h3⟩,h4,h5⟩:=st
    have D:=zit hd h1 h3 h4 h5 p p'
    have hT:H s.heap.objs.size=none:=I.hok.fresh (Nat.le_refl _)
    have nT:∀ c o,s.heap.get? c=some o→c ≠ s.heap.objs.size:=fun c o e=>Nat.ne_of_lt (Heap.lt_size e)
    refine wpAny_pyNext_zip_item D h1 h2 h3 h4 h5 p.isList p'.isList (x:=u) (y:=u') (by simpa using hu) (by simpa using hu') fun h' a1 a2 a3 a4 a5 a6 hk=>⟨_,rfl,?_⟩
    refine wpAny_letOwnedTupleGo_zip a1 fun h'' b1 hs''=>?_
    have hs2:Heap.SameBut z h' h'':=hs''
    have nzT:=nT z _ h1
    have hk2:∀ c o,c ∉ [z,TI,TO,i1,i2]→s.heap.get? c=some o→h''.get? c=some o:=fun c o hc q=>by
      simp only [List.mem_cons,List.not_mem_nil,or_false,not_or] at hc
      exact (hs2.2 c hc.1).trans (hk c o hc.1 hc.2.2.1 hc.2.2.2.1 hc.2.2.2.2 q)
    refine ⟨.ref s.heap.objs.size,upd H s.heap.objs.size (.tup [x,y]),?_,rfl,⟨_,x,y,rfl,hT,rfl,fun xs' h=>by rw [I.list_inj h q1]; exact hx,fun ys' h=>by rw [I.list_inj h q2]; exact hy⟩,
      ⟨b1,(hs2.2 _ D.TIz).trans (hk _ _ D.TIz D.TITO D.TIi1 D.TIi2 h2),⟨u,u',(hs2.2 _ D.TOz).trans a2⟩,a3.at fun o e=>(hs2.2 _ D.i1z).trans e,a4.at fun o e=>(hs2.2 _ D.i2z).trans e⟩,fun c hc=>?_⟩
    · exact I.laidT (t':=s.toks) [z,TI,TO,i1,i2] hf hk2 (by show 2 ≤ sizeLine; decide) (.cons ru (.cons ru' .nil)) ((hs2.2 _ (Ne.symm nzT)).trans a5)
    · obtain ⟨f0,_⟩:=hf c hc
      rw [zai]
      · exact f0
      · obtain ⟨o1,e4,_⟩:=h4
        obtain ⟨o2,e5,_⟩:=h5
        simp only [List.mem_cons,List.not_mem_nil,or_false] at hc
        rcases hc with rfl | rfl | rfl | rfl | rfl
        · exact nT _ _ h1
        · exact nT _ _ h2
        · exact nT _ _ h3
        · exact nT _ _ e4
        · exact nT _ _ e5
  done:=by
    intro X hP hw hK hc i pins s σ H E I hf st hg
    subst hP hw hK
    obtain ⟨xs,ys,q1,q2,he⟩:=hg
    obtain ⟨its,rv,p,hz⟩:=I.list q1
    obtain ⟨its',rv',p',hz'⟩:=I.list q2
    obtain ⟨h1,h2,⟨f,g,h3⟩,h4,h5⟩:=st
    have D:=zit hd h1 h3 h4 h5 p p'
    have l1:=rv.length
    have l2:=rv'.length
    refine wpAny_pyNext_zip_end (I.ok.hd hc) D h1 h2 h3 h4 h5 p.isList p'.isList (he.imp (fun z=>by simp; omega) fun z=>by simp; omega) fun h' hk=>⟨rfl,?_⟩
    exact I.turnedL (t':=s.toks) [z,TI,TO,i1,i2] hf fun c o hc q=>by
      simp only [List.mem_cons,List.not_mem_nil,or_false,not_or] at hc
      exact hk c o hc.1 hc.2.2.1 hc.2.2.2.1 hc.2.2.2.2 q
  self:=fun _ _ _ _ _ st h=>wpAny_pyIter_zip st.1 h
section
variable {X:Cx}
def iZip (K:PySem.W.Frag) (ta:TA):TI:=fun σ H R=>ta σ H fun vs H1=>∃ a b,vs = [.ref a,.ref b]∧(∃ xs,SqL K H1 a xs)∧(∃ ys,SqL K H1 b ys)∧R (Itz K a b) H1
theorem zqa {es:List Expr} {k} {tp:Pos} {l l':Expr} {ta:TA} {p pos:Pos} (hg:Gl X "zip") (hm:X.mg "zip"=none) (ha:PA X [l,l'] ta) (hs:starEach [l,l'] X.env=(false,eval l X.env) :: starEach [l'] X.env:=by rfl) (hs2:(backTo pos (starEach [l'] X.env)).any (·.1)=false:=by rfl) :
    PI X (.Tuple es k tp) (.Call (.Name "zip" p) [l,l'] [] pos) (iZip X.K ta):=by
  intro pins s σ H R I h
  refine Call_ (zeG I hg hm PyProof.Rows.boot_zip (PyProof.Rows.callWith_type1 (thn (ha pos pins s σ H _ I h) fun us s1 ⟨vs,H1,I1,r1,q1⟩=>?_) hs hs2))
  obtain ⟨a,b,e,⟨xs,hq⟩,⟨ys,hq'⟩,q⟩:=q1
  subst e
  obtain ⟨u,v,rfl,rx,ry⟩:=zkS r1
  cases rx
  cases ry
  obtain ⟨its,rv,pl,hz⟩:=I1.list hq
  obtain ⟨its',rv',pl',hz'⟩:=I1.list hq'
  refine call_zip_2 pl.isList pl'.isList fun h' c1 c2 c3 c4 c5 hsz hk=>?_
  have I2:Inv X pins σ H1 { s1 with heap:=h' }:=I1.kept (t':=s1.toks) hk
  obtain ⟨m,em⟩:∃ m,m=s1.heap.objs.size:=⟨_,rfl⟩
  have hnd : [m + 4,m + 2,m + 3,m,m + 1].Nodup:=by simp
  rw [← em] at c1 c2 c3 c4 c5 ⊢
  refine wpAny_pyIter_zip c1 ⟨m + 4,[m + 4,m + 2,m + 3,m,m + 1],_,_,H1,rfl,I2,zni a b _ _ _ _ _ hnd,⟨c1,c2,⟨_,_,c3⟩,c4,c5⟩,fun d hd=>?_,q⟩
  have hd':s1.heap.objs.size ≤ d:=by
    simp only [List.mem_cons,List.not_mem_nil,or_false] at hd
    rcases hd with rfl | rfl | rfl | rfl | rfl <;> omega
  exact I1.fpOk hd' (I1.hok.fresh hd')
end
end L2
namespace PM
open PySem L2
section
variable {K:Kx} {XO:XOT} {E:L2.St→XK}
def zipD (l r:List D):List D:=List.zipWith (fun x y=>.tup [x,y]) l r
def zip1:List D→Option (List D)
  | [x,y]=>(asL' x).bind fun l=>(asL' y).map (zipD l)
  | _=>none
def mZip (ml:En→R (List D)) (δ:En):R (List D):=(ml δ).bind fun l=>R.of (zip1 l)
theorem zme {l r:List D} (h:zip1 l=some r):∃ x y,l = [.lst x,.lst y]∧r=zipD x y:=by
  match l,h with
  | [x,y],h =>
    cases x with
    | lst x =>
      cases y with
      | lst y=>cases h; exact ⟨x,y,rfl,rfl⟩
      | _=>cases h
    | _=>cases h
theorem znl {a b:Addr} {ds es:List D} {vs ws:List V} {F1:Hp} {P:Hp→Hp→Prop} (r:RepL K F1 ds vs) (r':RepL K F1 es ws) (h:∀ F2 H2,P F2 H2→Same F1 F2∧Same F2 H2∧SqL K.f H2 a vs∧SqL K.f H2 b ws):IsIt K (Itz K.f a b) P (zipD ds es):=by
  intro F2 H2 p i
  obtain ⟨s1,s2,q,q'⟩:=h F2 H2 p
  unfold zipD
  rw [List.getElem?_zipWith]
  refine ⟨fun d hd=>?_,fun hn=>?_⟩
  · cases e:ds[i]? with
    | none=>rw [e] at hd; cases hd
    | some x =>
      cases e':es[i]? with
      | none=>rw [e,e'] at hd; cases hd
      | some y =>
        rw [e,e'] at hd
        cases hd
        obtain ⟨v,hv,rv⟩:=r.get e
        obtain ⟨w,hw,rw'⟩:=r'.get e'
        refine ⟨⟨vs,ws,v,w,q,q',hv,hw⟩,fun x' H' y=>?_⟩
        obtain ⟨p',x1,y1,rfl,hp,rfl,z1,z2⟩:=y
        have z:=z1 vs q
        rw [hv] at z; cases z
        have z:=z2 ws q'
        rw [hw] at z; cases z
        refine ⟨_,.new s2 hp,?_⟩
        simp only [Rep]
        have m:=s1.trans (Same.upd (u:=.tup [v,w]) (s2.free hp))
        exact ⟨p',_,rfl,zal,.cons (Rep.mono m _ rv) (.cons (Rep.mono m _ rw') .nil)⟩
  · cases e:ds[i]? with
    | none=>exact ⟨vs,ws,q,q',.inl (by rw [r.length]; exact List.getElem?_eq_none_iff.mp e)⟩
    | some x =>
      cases e':es[i]? with
      | none=>exact ⟨vs,ws,q,q',.inr (by rw [r'.length]; exact List.getElem?_eq_none_iff.mp e')⟩
      | some y=>rw [e,e'] at hn; cases hn
theorem zpZ {tl:TA} {ml:En→R (List D)} (h:SA K XO E tl ml):SI K XO E (iZip K.f tl) (mZip ml):=by
  intro Λ F0 H0 F H σ δ R I a
  refine h Λ F0 H0 F H σ δ _ I (a.bind.imp fun ds F1 H1 e1 a1 vs r=>?_)
  cases q:zip1 ds with
  | none=>rw [q] at a1; exact a1.elim
  | some z =>
    rw [q] at a1
    obtain ⟨l,l',rfl,rfl⟩:=zme q
    obtain ⟨v,w,rfl,r1,r2⟩:=RepL.two r
    simp only [Rep] at r1 r2
    obtain ⟨a,vs,rfl,h1,h2⟩:=r1
    obtain ⟨b,ws,rfl,h3,h4⟩:=r2
    exact ⟨a,b,rfl,⟨vs,.inl (PM.Same.rd e1.fh h1)⟩,⟨ws,.inl (PM.Same.rd e1.fh h3)⟩,a1 F1 H1 (.refl e1.fh) _ (znl h2 h4 fun F2 H2 x=>⟨x.1,x.2,.inl (PM.Same.rd x.2 (PM.Same.rd x.1 h1)),.inl (PM.Same.rd x.2 (PM.Same.rd x.1 h3))⟩)⟩
end
end PM
namespace PM
end PM
namespace L2
open PySem PySem.Spec PyProof.Rows
section
variable {X:Cx}
def zqs (f:List Int→Int→Int):List V→Hp→VK→Prop:=fun xs H Q=>∃ (p:Addr) (n:Int) (l:List Int),xs = [.ref p]∧Rd H p (.lst ((n :: l).map V.int))∧Q (.int (f l n)) H
theorem znY {ns:List Int} {its:List Value} (rv:Vals (ns.map V.int) its):∃ ts:List Tok,its.toArray=intItems (ns.zip ts).toArray∧(ns.zip ts).toArray.size=ns.length∧∀ j,numAt (ns.zip ts).toArray j=ns.getD j 0:=by
  obtain ⟨ts,rfl,htl⟩:∃ ts:List Tok,its=(ns.zip ts).map (fun p=>Value.int p.1 p.2)∧ts.length=ns.length:=by
    induction ns generalizing its with
    | nil=>cases rv; exact ⟨[],rfl,rfl⟩
    | cons a l ih =>
      cases rv with
      | cons h t =>
        obtain ⟨tk,rfl⟩:=h
        obtain ⟨ts,rfl,hl⟩:=ih t
        exact ⟨tk :: ts,rfl,by simp [hl]⟩
  refine ⟨ts,by simp [intItems],by simp; omega,fun j=>?_⟩
  rw [numAt_eq]
  have:(ns.zip ts).map (·.1)=ns:=List.map_fst_zip (by omega)
  show ((ns.zip ts).map (·.1)).getD j 0=_
  rw [this]
theorem znK {m:Int} {l:List Int} {f:Nat→Int} (hf:∀ j,f j=(m :: l).getD j 0):f (argBest (fun i j=>decide (f i > f j)) ((m :: l).length - 1))=PM.maxI l m:=by
  obtain ⟨g1,g2⟩:=argBest_gt f ((m :: l).length - 1)
  obtain ⟨k1,k2,k3⟩:=maxI_ge l m
  generalize argBest (fun i j=>decide (f i > f j)) ((m :: l).length - 1)=j at *
  have hj:j < (m :: l).length:=by have:(m :: l).length=l.length + 1:=rfl; omega
  have hm:(m :: l).getD j 0 ∈ m :: l:=by rw [List.getD_eq_getElem?_getD,List.getElem?_eq_getElem hj]; exact List.getElem_mem hj
  rw [← hf j] at hm
  refine Int.le_antisymm ?_ ?_
  · rcases List.mem_cons.mp hm with z | z
    · rw [z]; exact k1
    · exact k2 _ z
  · have hx:PM.maxI l m ∈ m :: l:=k3.elim (fun z=>by rw [z]; exact List.mem_cons_self) fun z=>List.mem_cons_of_mem _ z
    obtain ⟨i,hi,ei⟩:=List.getElem_of_mem hx
    have:=g2 i (by have:(m :: l).length=l.length + 1:=rfl; omega)
    rw [hf i,List.getD_eq_getElem?_getD,List.getElem?_eq_getElem hi,ei] at this
    exact this
theorem ziv (hc:X.calm=true):ze3 X (.builtin "max") (zqs PM.maxI):=by
  intro pins s σ H xs us Q I r h
  obtain ⟨p,m,l,rfl,hq,q⟩:=h
  obtain ⟨u,rfl,rx⟩:=zff r
  cases rx
  obtain ⟨z,its,n,rv,e⟩:=hq.ok I.hok
  obtain ⟨ts,e1,e2,e3⟩:=znY rv
  rw [e1] at e
  refine max_intList (I.ok.hd hc) ⟨_,e,rfl,n,rfl⟩ (by rw [e2]; simp) fun v h' tk hv hk=>?_
  obtain ⟨t,rfl⟩:=intItems_at hv
  refine ⟨.int (PM.maxI l m),H,I.kept (t':=tk) hk,⟨t,?_⟩,q⟩
  congr 1
  rw [e2]
  exact znK e3
end
end L2
namespace PM
open PySem L2
section
variable {K:Kx}
def zh5:List D→Option D
  | [.int i,.int j]=>some (.int (if j > i then j else i))
  | _=>none
def zi5:List D→Option D
  | [.int i,.int j]=>some (.int (if j < i then j else i))
  | _=>none
def zii (f:List Int→Int→Int):List D→Option D
  | [.lst (.int a :: l)]=>(asIs l).map fun ns=>.int (f ns a)
  | _=>none
theorem zje:SC K (fun xs H Q=>∃ i j,xs = [.int i,.int j]∧Q (.int (if j > i then j else i)) H) zh5:=by
  intro F H vs ds d Q s r e q
  unfold zh5 at e
  split at e
  · rename_i i j
    cases e
    cases r with
    | cons r r' =>
      cases r' with
      | cons r2 r3 =>
        cases r3
        simp only [Top,Rep] at r r2
        subst r r2
        exact ⟨i,j,rfl,q _ F H (.refl s) (by simp only [Rep])⟩
  · cases e
theorem zlg:SC K (fun xs H Q=>∃ i j,xs = [.int i,.int j]∧Q (.int (if j < i then j else i)) H) zi5:=by
  intro F H vs ds d Q s r e q
  unfold zi5 at e
  split at e
  · rename_i i j
    cases e
    cases r with
    | cons r r' =>
      cases r' with
      | cons r2 r3 =>
        cases r3
        simp only [Top,Rep] at r r2
        subst r r2
        exact ⟨i,j,rfl,q _ F H (.refl s) (by simp only [Rep])⟩
  · cases e
theorem zkf {f:List Int→Int→Int} {ds:List D} {d:D} (h:zii f ds=some d):∃ (n:Int) (l:List Int),ds = [.lst ((n :: l).map .int)]∧d = .int (f l n):=by
  unfold zii at h
  split at h
  · rename_i a l
    cases z:asIs l with
    | none=>rw [z] at h; cases h
    | some ns=>rw [z] at h; cases h; exact ⟨a,ns,by rw [zdp z]; rfl,rfl⟩
  · cases h
theorem zlk {f:List Int→Int→Int}:SC K (zqs f) (zii f):=by
  intro F H vs ds d Q s r e q
  obtain ⟨n,l,rfl,rfl⟩:=zkf e
  cases r with
  | cons r r' =>
    cases r'
    obtain ⟨a,xs,rfl,h1,h2⟩:=r
    have ex:=zcr (ns:=n :: l) h2
    subst ex
    exact ⟨a,n,l,rfl,h1,q _ F H (.refl s) (by simp only [Rep])⟩
end
end PM
namespace L2
open PySem PySem.Spec PyProof.Rows
section
variable {X:Cx}
theorem zjH {ns:List Int} {its:List Value} (rv:Vals (ns.map V.int) its):IntsAre its ns:=by
  induction ns generalizing its with
  | nil=>cases rv; exact .nil
  | cons a l ih =>
    cases rv with
    | cons h t =>
      obtain ⟨tk,rfl⟩:=h
      exact .cons _ _ (ih t)
theorem znG {ns:List Int} {its:List Value} (rv:IntsAre its ns):Vals (ns.map V.int) its:=by
  induction rv with
  | nil=>exact .nil
  | cons _ _ _ ih=>exact .cons ⟨_,rfl⟩ ih
end
end L2
namespace PM
open PySem L2
section
variable {K:Kx}
end
end PM
namespace PM
open PySem L2
section
variable {K:Kx} {XO:XOT} {E:L2.St→XK} {te:TE} {me:En→R D}
end
end PM
namespace L2
open PySem PySem.Spec PyProof.Rows
section
variable {X:Cx}
end
end L2
namespace PM
open PySem L2
section
variable {K:Kx} {XO:XOT} {E:L2.St→XK} {tl te:TE} {ml me:En→R D}
end
end PM
namespace L2
open PySem PySem.Spec PyProof.Rows
open Sem (wp)
section
variable {P:Program} {w:World} {B:Around} {Er:Value→Shared→Prop} {hp:Heap} {gs:Array GenState} {dr:Drawn} {tk:Nat} {os:OsState}
variable {nm q:Str} {C N:Addr} {bs bm bmB:List Value} {hdct:Bool} {sn:List Str} {sub:List Value} {ab:Bool} {col:Option Bool} {dd:Option Addr} {k0 k1 k2 k3 k5:Option Value} {B0 Bn newId nid initId inN:String} {bmN:List Value}
abbrev tupO (as:List Value):Obj:={ cls:=.type "tuple",data:=.seq as.toArray }
abbrev zkZ (C t:Addr):Obj:={ cls:=.ref C,data:=.fields #[.ref t,.none,.none,.none,.bool false,.none] }
theorem zgO (Fn:ExcBaseFacts Bn newId inN bmN) (has:bmB.contains (.type Bn)=true) (Fb:ExcBaseFacts B0 nid initId bmB) (tail:OwnTail hp bmB bm) {ns:Str→Option Value} {as:List Value} {fa:Addr} {fo:Obj} {Q:Fin→Shared→Prop}
    (atC:hp.get? C=some (excClassObj nm q C N bs bm hdct sn sub ab col dd k0 k1 k2 k3 k5 newId)) (atN:hp.Ns N ns) (ini:ns "__init__"=some (.ref fa)) (atF:hp.get? fa=some fo) (isF:fo.cls = .type "function")
    (run:∀ h' e,Heap.MadeExcOf hp h' e (.ref C) as→wpAny (model P w) B (call (.ref fa) (.ref e :: as)) (fun r s'=>r = .none∧Q (.done (.ret (.ref e))) s') Er ⟨h',gs,dr,tk,os⟩) (few:as.length ≤ sizeLine) :
    wpAny (model P w) B (Builtin.«type.__call__» ⟨.ref C :: as,[]⟩) Q Er ⟨hp,gs,dr,tk,os⟩:=by
  repeat (first | with_reducible refine wpAny_loadPart_at atC ?_ | with_reducible refine wpAny_madeBy_exc atC ?_ | wp_step)
  refine codeAny_call_builtin_code (Code.quiet_builtin _ Fn.quiet) (wpAny_check_new_subU Fn has tail atC ?_)
  refine codeAny_exc_new_subU Fn has Fb tail atC ?_ few
  show wpAny _ _ _ _ _ _
  have up:∀ b o,hp.get? b=some o→((hp.push (tupO as)).push (zkZ C hp.objs.size)).get? b=some o:=fun b o e=>Heap.get?_push_of_some _ (Heap.get?_push_of_some _ e)
  have atC1:=up _ _ atC
  have atN1:((hp.push (tupO as)).push (zkZ C hp.objs.size)).Ns N ns:=by obtain ⟨o,es,ep,e,r⟩:=atN; exact ⟨o,es,ep,up _ _ e,r⟩
  have atE:((hp.push (tupO as)).push (zkZ C hp.objs.size)).get? (hp.objs.size + 1)=some (zkZ C hp.objs.size):=by heap_get
  have own:(Value.ref C :: bm).contains (.ref C)=true:=by simp
  have tail1:=tail.keeps (h':=(hp.push (tupO as)).push (zkZ C hp.objs.size)) up
  unfold isInstance
  repeat (first | with_reducible refine wpAny_loadPart_at atE ?_ | (with_reducible refine wpAny_isSubtype_exc atC1 ?_; rw [own]) | wp_step)
  show wpAny _ _ (typeLookup (.ref C) _) _ _ _; refine wpAny_typeLookup_tail atC1 atN1 tail1 Fb.mroIs Fb.init.lookup ?_
  rw [ini]; refine wpAny_holding (wpAny_bind ?_); unfold bindSpecial
  refine wpAny_bind (wpAny_typeOf (T:="function") ⟨_,up _ _ atF,isF⟩ ?_)
  rw [if_pos (by decide)]
  have made:Heap.MadeExcOf hp ((hp.push (tupO as)).push (zkZ C hp.objs.size)) (hp.objs.size + 1) (.ref C) as :=
    ⟨up,Heap.get?_none_of_le (Nat.le_succ _),hp.objs.size,atE,Heap.get?_none_of_le (Nat.le_refl _),Heap.get?_push_of_some _ (Heap.get?_push_at rfl rfl)⟩
  refine wpAny_pure (wpAny_bind (wpAny_mono (run _ _ made) (fun r s' hr=>?_) fun _ _ x=>x))
  obtain ⟨rfl,hQ⟩:=hr
  wp_walk
  exact hQ
theorem zku (Fn:ExcBaseFacts Bn newId inN bmN) (has:bmB.contains (.type Bn)=true) (Fb:ExcBaseFacts B0 nid initId bmB) (tail:OwnTail hp bmB bm) {ns:Str→Option Value} {as:List Value} {fa:Addr} {fo:Obj} {Q:Value→Shared→Prop}
    (atC:hp.get? C=some (excClassObj nm q C N bs bm hdct sn sub ab col dd k0 k1 k2 k3 k5 newId)) (atN:hp.Ns N ns) (ini:ns "__init__"=some (.ref fa)) (atF:hp.get? fa=some fo) (isF:fo.cls = .type "function")
    (run:∀ h' e,Heap.MadeExcOf hp h' e (.ref C) as→wpAny (model P w) (B.under (.builtin "type.__call__" ⟨.ref C :: as,[]⟩)) (call (.ref fa) (.ref e :: as)) (fun r s'=>r = .none∧Q (.ref e) s') Er ⟨h',gs,dr,tk,os⟩) (few:as.length ≤ sizeLine) :
    wpAny (model P w) B (call (.ref C) as) Q Er ⟨hp,gs,dr,tk,os⟩:=by
  have f1:=tc_lookup
  have f2:=tc_bind (.ref C)
  have isT:(⟨hp,gs,dr,tk,os⟩:Shared).TypeIs (.ref C) "type":=⟨_,atC,rfl⟩
  refine wpAny_call (codeAny_of_tree ?_); show wpAny _ _ (callAny (.ref C) _) _ _ _
  repeat (any_goals (first | assumption | with_reducible refine wpAny_loadPart_at atC ?_ | wp_step))
  refine ⟨rfl,codeAny_call_builtin_at (Code.quiet_builtin _ (by decide +kernel)) entry_typeCall (wpAny_check_type_call_sub atC ?_)⟩
  exact zgO Fn has Fb tail atC atN ini atF isF (fun h' e m=>run h' e m) few
end
end L2
namespace L2
open PySem PySem.Spec PyProof.Rows
section
variable {P:Program} {w:World} {B:Around} {Er:Value→Shared→Prop} {s:Shared}
end
end L2
namespace L2
open PySem PySem.Spec PyProof.Rows
section
variable {X:Cx}
end
end L2
namespace PM
open PySem L2
section
variable {K:Kx} {XO:XOT} {E:L2.St→XK}
end
end PM
namespace L2
open PySem PySem.Spec PyProof.Rows
def uniq (ns:List Int):List Int:=ns.foldl step_dedup []
section
variable {X:Cx}
theorem zqB (ns:List Int):firstMet (fun i=>ns.getD i 0) ns.length=uniq ns:=by
  unfold firstMet uniq
  congr 1
  refine List.ext_getElem (by simp) fun i h1 h2=>?_
  simp [List.getElem?_eq_getElem h2]
theorem zjU:PGet X (rIxL X.K):=by
  intro pins s σ H x y v u Q I rx ry h
  obtain ⟨p,xs,i,z,rfl,rfl,hq,he,q⟩:=h
  cases rx
  obtain ⟨t,rfl⟩:=ry
  obtain ⟨its,r,pl,hz⟩:=I.list hq
  obtain ⟨j,h1,h2,h3,h4,h5⟩:=zjl he
  obtain ⟨w,ew,rw'⟩:=r.get h2
  have hl:=r.length
  have hn:=ziE
  by_cases h0:0 ≤ i
  · have hj:i.toNat=j:=by
      rw [seqIndex_of h0 h5] at h1
      exact Option.some.inj h1
    exact wpAny_getItem_list pl.isList h0 (by omega) (by rw [hj]; simpa using ew) ⟨z,H,I,rw',q⟩
  · have hj:(i + (its.toArray.size:Int)).toNat=j:=by
      rw [seqIndex_neg (by omega) h4] at h1
      rw [List.size_toArray,← hl]
      exact Option.some.inj h1
    exact wpAny_getItem_list_neg pl.isList (by omega) (by rw [List.size_toArray] <;> omega) (by omega) (by rw [hj]; simpa using ew) ⟨z,H,I,rw',q⟩
def zpL:List V→Hp→VK→Prop:=fun xs H Q=>∃ (p:Addr) (S:Int→Bool) (n:Nat),xs = [.ref p]∧H p=some (.set S n)∧Q (.int n) H
theorem zh0:ze3 X (.builtin "len") zpL:=by
  intro pins s σ H xs us Q I r h
  obtain ⟨p,S,n,rfl,hp,q⟩:=h
  obtain ⟨u,rfl,rx⟩:=zff r
  cases rx
  obtain ⟨o,es,ep,t,ho,hex,hd,_,_,hb,hf,hn⟩:=I.hok p _ hp
  exact call_len_set ho hex hd hf (by unfold scanBound at hb; omega) ⟨.int n,H,I.tok _,⟨_,by rw [hn]⟩,q⟩
end
end L2
namespace PM
open PySem L2
section
variable {K:Kx} {XO:XOT} {E:L2.St→XK}
end
end PM
namespace L2
open PySem PySem.Spec PyProof.Rows
section
variable {X:Cx}
end
end L2
namespace PM
open PySem L2
section
variable {K:Kx} {XO:XOT} {E:L2.St→XK} {tk te:TE} {mk me:En→R D}
end
end PM
namespace PM
open PySem L2
section
variable {K:Kx} {XO:XOT} {E:St→XK} {ta tb te:TE} {ma mb me:En→R D} {t u:TS} {m n:En→O} {Λ:List (Nat × Addr × HO)} {F0 H0 F H F' H' F1 H1:Hp} {σ:St} {δ:En} {Dn:Ends}
def tabD (ll:List (List Int)):D:=.lst (ll.map iL)
def zqd:Sl→Sl
  | .o d=>.v d
  | .l d=>.v d
  | .p ll=>.v (tabD ll)
  | s=>s
def peek (δ:En):En:=δ.map zqd
theorem zoZ {a:Addr} {bs:List Addr} {ll:List (List Int)} (t:Tab F a bs ll):Rep K F (tabD ll) (.ref a):=by
  unfold tabD
  simp only [Rep]
  refine ⟨a,bs.map .ref,rfl,.inl t.top,?_⟩
  have key:∀ (bs:List Addr) (ll:List (List Int)),bs.length=ll.length→(∀ (i:Nat) (b:Addr) (l:List Int),bs[i]?=some b→ll[i]?=some l→F b=some (.lst (l.map .int)))→RepL K F (ll.map iL) (bs.map .ref):=by
    intro bs
    induction bs with
    | nil=>intro ll h _; cases ll with | nil=>exact .nil | cons _ _=>simp at h
    | cons b bs ih =>
      intro ll h hr
      cases ll with
      | nil=>simp at h
      | cons l ll =>
        refine .cons ?_ (ih ll (by simpa using h) fun i b' l' h1 h2=>hr (i + 1) b' l' (by simpa using h1) (by simpa using h2))
        unfold iL
        simp only [Rep]
        exact ⟨b,l.map .int,rfl,.inl (hr 0 b l rfl rfl),RepL.ints⟩
  exact key bs ll t.len t.row
theorem zmw {a:Addr} {vs:List V} (s:Same F H) (h:H a=some (.lst vs)):zbB F H a=some (.lst vs):=by
  unfold zbB
  cases q:F a with
  | some u=>rw [s _ _ q] at h; exact h
  | none=>simp only [h]
theorem Tab.plus {a:Addr} {bs:List Addr} {ll:List (List Int)} (s:Same F H) (t:Tab H a bs ll):Tab (zbB F H) a bs ll :=
  ⟨zmw s t.top,t.len,fun i b l h1 h2=>zmw s (t.row i b l h1 h2),t.nd⟩
theorem zph (I:EnvOk K Λ F0 H0 F H σ δ):EnvOk K [] (zbB F H) H (zbB F H) H σ (peek δ):=by
  have pk:∀ i:Nat,(peek δ)[i]?=(δ[i]?).map zqd:=fun i=>by unfold peek; rw [List.getElem?_map]
  have no:∀ i:Nat,Sl.own (peek δ)[i]?=false:=fun i=>by
    rw [pk]
    cases q:δ[i]? with
    | none=>rfl
    | some s=>cases s <;> rfl
  refine ⟨.refl (zhp I.same),by rw [I.len]; simp [peek],fun i=>?_,fun i j a _ h1=>(by rw [no i] at h1; cases h1),fun x hx=>(by cases hx),fun i ll a vs h=>?_⟩
  · have z:=I.slot i
    rw [pk]
    cases q:δ[i]? with
    | none=>trivial
    | some s =>
      rw [q] at z
      cases s with
      | no=>trivial
      | v d=>obtain ⟨u,z1,z2⟩:=z; exact ⟨u,z1,Rep.mono zd6 d z2⟩
      | o d=>obtain ⟨a,z1,_,_,z4⟩:=z; exact ⟨_,z1,zhy I.same (.inr ⟨a,rfl,z4⟩)⟩
      | l d=>obtain ⟨a,z1,_,_,z4⟩:=z; exact ⟨_,z1,zhy I.same (.inr ⟨a,rfl,z4⟩)⟩
      | p ll=>obtain ⟨a,bs,z1,z2,_⟩:=z; exact ⟨_,z1,zoZ (z2.plus I.same)⟩
  · have:=no i
    rw [h] at this; cases this
def zkM (m:En→R D) (δ:En):R D:=match m (peek δ) with | .ok d=>if zdn d=true then .ok d else .no | _=>.no
theorem zoW (h:SE K XO E te me):SE K XO E te (zkM me):=by
  intro Λ F0 H0 F H σ δ Q I a
  refine h [] (zbB F H) H (zbB F H) H σ (peek δ) Q (zph I) ?_
  unfold zkM at a
  cases q:me (peek δ) with
  | no=>rw [q] at a; exact a
  | ex x=>rw [q] at a; exact a.elim
  | ok d =>
    rw [q] at a
    dsimp only at a
    split at a
    · rename_i hc
      intro F2 H2 e2 v rv
      exact a _ H2 (zhD e2) v (zhz e2 d hc rv)
    · exact a.elim
variable (K XO E) in
def SEp (t:TE) (m:En→R (List (List Int))):Prop:=∀ Λ F0 H0 F H σ δ Q,EnvOk K Λ F0 H0 F H σ δ→Aft E XO σ F H (fun ll F' H'=>∀ a bs,Tab H' a bs ll→(∀ b ∈ a :: bs,F' b=none∧H b=none)→Q (.ref a) H') (m δ)→t σ H Q
def asIl:D→Option (List Int)
  | .lst l=>asIs l
  | _=>none
theorem ziH {d:D} {l:List Int} (h:asIl d=some l):d=iL l:=by
  cases d with
  | lst x=>rw [zdp h]; rfl
  | _=>cases h
def zmy (ma mb:En→R D) (δ:En):R (List (List Int)):=(ma δ).bind fun x=>(mb δ).bind fun y=>(R.of (asIl x)).bind fun r=>(R.of (asIl y)).bind fun s=>.ok [r,s]
theorem znj (ha:SEo K XO E ta ma) (hb:SEo K XO E tb mb):SEp K XO E (tLst (zcy ta (zcy tb tNil))) (zmy ma mb):=by
  intro Λ F0 H0 F H σ δ Q I a
  refine ha Λ F0 H0 F H σ δ _ I (a.bind.imp fun x F1 H1 e1 a1 p p0 p1 po=>?_)
  refine hb Λ F0 H0 F1 H1 σ δ _ (I.grow e1) (a1.bind.imp fun y F2 H2 e2 a2 q q0 q1 qo=>?_)
  cases qx:asIl x with
  | none=>rw [qx] at a2; exact a2.elim
  | some r =>
    cases qy:asIl y with
    | none=>rw [qx,qy] at a2; exact a2.elim
    | some s =>
      rw [qx,qy] at a2
      have ex:=ziH qx
      have ey:=ziH qy
      subst ex ey
      obtain ⟨vs,g1,g2⟩:=po
      have eg:=zcr g2
      subst eg
      obtain ⟨ws,k1,k2⟩:=qo
      have ek:=zcr k2
      subst ek
      refine ⟨by simp [sizeLine],fun c hc=>?_⟩
      have g1':=e2.hh _ _ g1
      have pc:p ≠ c:=zah g1' hc
      have qc:q ≠ c:=zah k1 hc
      have pq:p ≠ q:=zah g1 q1
      refine a2 F2 _ (.newO e2.fh hc) c [p,q] ⟨zal,rfl,fun i b l h1 h2=>?_,by simp [pc.symm,qc.symm,pq]⟩ fun b hb=>?_
      · match i with
        | 0=>simp at h1 h2; subst h1 h2; rw [zai pc]; exact g1'
        | 1=>simp at h1 h2; subst h1 h2; rw [zai qc]; exact k1
        | _ + 2=>simp at h1
      · simp at hb
        rcases hb with rfl | rfl | rfl
        · exact ⟨e2.fh.free hc,(e1.hh.trans e2.hh).free hc⟩
        · exact ⟨e2.nw _ _ p0 g1,p1⟩
        · exact ⟨q0,e1.hh.free q1⟩
def zjm (i:Nat) (δ:En):Bool:=(List.range δ.length).all fun j=>j == i || match δ[j]? with | some (.p _)=>false | _=>true
theorem zn0 {i:Nat} (h:zjm i δ=true) (j:Nat) (ll:List (List Int)) (hj:δ[j]?=some (.p ll)):j=i:=by
  have:=List.all_eq_true.mp h j (List.mem_range.mpr (List.getElem?_eq_some_iff.mp hj).1)
  rw [hj] at this
  simpa using this
theorem EnvOk.putP {i:Nat} {ll:List (List Int)} {a:Addr} {bs:List Addr} (I:EnvOk K Λ F0 H0 F H σ δ) (hl:∃ x,δ[i]?=some x∧∀ d,x ≠ .l d) (hn:∀ (j:Nat) (ll':List (List Int)),δ[j]?=some (.p ll')→j=i) (e:Ext F H F' H') (t:Tab H' a bs ll) (h0:∀ b ∈ a :: bs,F' b=none∧H b=none) :
    EnvOk K Λ F0 H0 F' H' (σ.set i (some (.ref a))) (δ.set i (.p ll)):=by
  obtain ⟨x,hx,hnl⟩:=hl
  have hi:i < δ.length:=(List.getElem?_eq_some_iff.mp hx).1
  have hi':i < σ.length:=by rw [I.len]; exact hi
  have fresh:∀ (k:Nat) (b:Addr),k ≠ i→Sl.own δ[k]?=true→σ[k]?=some (some (.ref b))→b ∉ a :: bs:=fun k b hki hk hs hb=>by
    have z:=I.slot k
    have hn':=(h0 b hb).2
    cases q:δ[k]? with
    | none=>rw [q] at hk; cases hk
    | some y =>
      rw [q] at hk z
      cases y with
      | no=>cases hk
      | v d=>cases hk
      | o d=>obtain ⟨c,z1,_,_,z4⟩:=z; rw [hs] at z1; cases z1; obtain ⟨u,hu⟩:=z4.obj; rw [hn'] at hu; cases hu
      | l d=>obtain ⟨c,z1,_,_,z4⟩:=z; rw [hs] at z1; cases z1; obtain ⟨u,hu⟩:=z4.obj; rw [hn'] at hu; cases hu
      | p l2=>exact hki (hn k l2 q)
  have J:=I.grow e
  refine ⟨J.ext,by simp [I.len],fun j=>?_,fun j k b hjk g1 g2 g3 g4=>?_,fun y hy=>?_,fun j l2 c vs g1 g2 g3=>?_⟩
  · by_cases ee:i=j
    · subst ee
      rw [List.getElem?_set_self hi,List.getElem?_set_self hi']
      exact ⟨a,bs,rfl,t,fun b hb=>⟨I.ext.hh.free (h0 b hb).2,(h0 b hb).1⟩⟩
    · rw [List.getElem?_set_ne ee,List.getElem?_set_ne ee]
      exact J.slot j
  · by_cases e1:i=j
    · subst e1
      rw [List.getElem?_set_self hi'] at g3; cases g3
      rw [List.getElem?_set_ne hjk] at g2 g4
      exact fresh k a (Ne.symm hjk) g2 g4 (by simp)
    · by_cases e2:i=k
      · subst e2
        rw [List.getElem?_set_self hi'] at g4; cases g4
        rw [List.getElem?_set_ne e1] at g1 g3
        exact fresh j a (Ne.symm e1) g1 g3 (by simp)
      · rw [List.getElem?_set_ne e1] at g1 g3
        rw [List.getElem?_set_ne e2] at g2 g4
        exact I.dist j k b hjk g1 g2 g3 g4
  · obtain ⟨⟨d',g1⟩,g2,g3⟩:=J.lent y hy
    have ne:i ≠ y.1:=by
      intro ee
      rw [← ee,hx] at g1
      exact hnl d' (Option.some.inj g1)
    exact ⟨⟨d',by rw [List.getElem?_set_ne ne]; exact g1⟩,by rw [List.getElem?_set_ne ne]; exact g2,g3⟩
  · have ji:j=i:=by
      by_cases ee:i=j
      · exact ee.symm
      · rw [List.getElem?_set_ne ee] at g1; exact hn j l2 g1
    subst ji
    rw [List.getElem?_set_self hi'] at g2; cases g2
    rw [t.top] at g3; cases g3
    refine ⟨fun k b hk ho hs hb=>?_,fun k l3 hk=>?_⟩
    · rw [List.getElem?_set_ne (Ne.symm hk)] at ho hs
      exact fresh k b hk ho hs (List.mem_cons_of_mem _ (refs_mem.mp hb))
    · by_cases ee:j=k
      · exact ee.symm
      · rw [List.getElem?_set_ne ee] at hk; exact hn k l3 hk
def znt (me:En→R (List (List Int))) (i:Nat) (δ:En):O:=(me δ).toO δ fun ll=>match δ[i]? with
  | none=>.no
  | some (.l _)=>.no
  | some _=>if zjm i δ=true then .nx (δ.set i (.p ll)) else .no
theorem zpl {i:Nat} {mp:En→R (List (List Int))} (h:SEp K XO E te mp):SS K XO E (tAsg te (zhi i)) (znt mp i):=by
  intro Λ F0 H0 F H σ δ Dn I a
  refine h Λ F0 H0 F H σ δ _ I ((AftS.of I a).imp fun ll F1 H1 e c p bs t h0=>?_)
  cases q:δ[i]? with
  | none=>simp only [q] at c; exact c.elim
  | some x =>
    simp only [q] at c
    cases x with
    | l d=>exact c.elim
    | no | v d | o d | p l2 =>
      dsimp only at c
      split at c
      · rename_i hn
        exact c _ F1 H1 (I.putP ⟨_,q,fun d z=>by cases z⟩ (zn0 hn) e t h0)
      · exact c.elim
theorem EnvOk.chgP {i k:Nat} {ll:List (List Int)} {row:List Int} {a b:Addr} {bs:List Addr} (I:EnvOk K Λ F0 H0 F H σ δ) (hx:δ[i]?=some (.p ll)) (ha:σ[i]?=some (some (.ref a))) (t:Tab H a bs ll) (hb:bs[k]?=some b) :
    EnvOk K Λ F0 H0 F (upd H b (.lst (row.map .int))) σ (δ.set i (.p (ll.set k row))):=by
  have hi:i < δ.length:=(List.getElem?_eq_some_iff.mp hx).1
  obtain ⟨a',bs',t1,t2,t3,t4,t5⟩:=I.tab hx
  rw [ha] at t1; cases t1
  have eb:bs'=bs:=by
    have:=t2.top.symm.trans t.top
    have e2:bs'.map V.ref=bs.map V.ref:=by injection this with this; injection this
    exact List.map_inj_right (fun x y h=>by injection h) |>.mp e2
  subst eb
  have bm:b ∈ bs':=List.mem_of_getElem? hb
  have fb:=t3 b (List.mem_cons_of_mem _ bm)
  have kl:k < bs'.length:=(List.getElem?_eq_some_iff.mp hb).1
  have nd:=List.nodup_cons.mp t.nd
  have oth:∀ (j:Nat) (c:Addr),i ≠ j→Sl.own δ[j]?=true→σ[j]?=some (some (.ref c))→c ≠ b:=fun j c hj ho hs ee=>t4 j c (Ne.symm hj) ho hs (by rw [ee]; exact List.mem_cons_of_mem _ bm)
  refine ⟨⟨I.ext.ff,fun c w q=>?_,fun c w q=>?_,I.ext.nw⟩,by simp [I.len],fun j=>?_,fun j k2 c hjk g1 g2 g3 g4=>?_,fun y hy=>?_,fun j l2 c vs g1 g2 g3=>?_⟩
  · rw [zai (zah q fb.1)]; exact I.ext.hh c w q
  · rw [zai (zah q fb.2)]; exact I.ext.fh c w q
  · by_cases ee:i=j
    · subst ee
      rw [List.getElem?_set_self hi]
      refine ⟨a,bs',ha,⟨?_,by simp [t.len],fun j c r h1 h2=>?_,t.nd⟩,t3⟩
      · rw [zai (show a ≠ b from fun z=>nd.1 (z ▸ bm))]; exact t.top
      · by_cases ej:k=j
        · subst ej
          rw [hb] at h1; cases h1
          rw [List.getElem?_set_self (by rw [← t.len]; exact kl)] at h2; cases h2
          exact zal
        · rw [List.getElem?_set_ne ej] at h2
          rw [zai (fun z=>ej ((List.getElem?_inj kl nd.2).mp (by rw [hb,h1,z])))]
          exact t.row j c r h1 h2
    · rw [List.getElem?_set_ne ee]
      have w:=I.slot j
      cases q:δ[j]? with
      | none=>trivial
      | some y =>
        rw [q] at w
        cases y with
        | no=>trivial
        | v d=>exact w
        | o d=>obtain ⟨c,w1,w2,w3,w4⟩:=w; exact ⟨c,w1,w2,w3,w4.at (zai (oth j c ee (by rw [q]; rfl) w1))⟩
        | l d=>obtain ⟨c,w1,w2,w3,w4⟩:=w; exact ⟨c,w1,w2,w3,w4.at (zai (oth j c ee (by rw [q]; rfl) w1))⟩
        | p l2=>exact absurd (t5 j l2 q).symm ee
  · have ow:∀ k2:Nat,Sl.own (δ.set i (.p (ll.set k row)))[k2]?=true→Sl.own δ[k2]?=true:=by
      intro k2 h
      by_cases ee:i=k2
      · subst ee; rw [hx]; rfl
      · rw [List.getElem?_set_ne ee] at h; exact h
    exact I.dist j k2 c hjk (ow j g1) (ow k2 g2) g3 g4
  · obtain ⟨⟨d2,g1⟩,g2,g3⟩:=I.lent y hy
    have ne:i ≠ y.1:=by
      intro ee
      rw [← ee,hx] at g1
      cases g1
    exact ⟨⟨d2,by rw [List.getElem?_set_ne ne]; exact g1⟩,g2,by rw [zai (oth y.1 y.2.1 ne (by rw [g1]; rfl) g2)]; exact g3⟩
  · have ji:j=i:=by
      by_cases ee:i=j
      · exact ee.symm
      · rw [List.getElem?_set_ne ee] at g1; exact t5 j l2 g1
    subst ji
    rw [ha] at g2; cases g2
    rw [zai (show a ≠ b from fun z=>nd.1 (z ▸ bm)),t.top] at g3; cases g3
    refine ⟨fun k2 c hk ho hs hc=>?_,fun k2 l3 hk=>?_⟩
    · rw [List.getElem?_set_ne (Ne.symm hk)] at ho
      exact t4 k2 c hk ho hs (List.mem_cons_of_mem _ (refs_mem.mp hc))
    · by_cases ee:j=k2
      · exact ee.symm
      · rw [List.getElem?_set_ne ee] at hk; exact t5 k2 l3 hk
def zfk (i:Nat) (mk:En→R D) (δ:En):O:=match δ[i]? with
  | some (.p ll)=>(mk δ).toO δ fun k=>(match k with
    | .int k=>(match ixN ll.length k with | some k'=>if k' < ll.length then .nx (δ.set i (.p (ll.set k' []))) else .no | none=>.no)
    | _=>.no)
  | _=>.no
theorem zh1 {i:Nat} {tk:TE} {mk:En→R D} (h1:SE K XO E tk mk):SS K XO E (zmk (tBM0 K.f "list" zog (tOp (rIxL K.f) (tVar i) tk))) (zfk i mk):=by
  intro Λ F0 H0 F H σ δ Dn I a
  unfold zfk at a
  split at a
  · rename_i ll q
    obtain ⟨p,bs,s1,s2,s3,_⟩:=I.tab q
    refine ⟨_,s1,h1 Λ F0 H0 F H σ δ _ I ((AftS.of I a).imp fun k F1 H1 e c y ry=>?_)⟩
    have I1:=I.grow e
    have tt:=s2.mono e.hh
    split at c
    · rename_i k
      simp only [Rep] at ry
      subst ry
      cases z:ixN ll.length k with
      | none=>rw [z] at c; exact c.elim
      | some k' =>
        rw [z] at c
        dsimp only at c
        split at c
        · rename_i kl'
          have kl:k' < bs.length:=by rw [s2.len]; exact kl'
          have gb:bs[k']?=some bs[k']:=List.getElem?_eq_getElem kl
          have row:=tt.row k' _ ll[k'] gb (List.getElem?_eq_getElem kl')
          refine ⟨p,bs.map .ref,k,.ref bs[k'],rfl,rfl,.inl (.inl tt.top),?_,?_⟩
          · unfold atI
            rw [List.length_map,s2.len,z]
            show (bs.map V.ref)[k']?=_
            rw [List.getElem?_map,gb]; rfl
          · exact ⟨.inl ⟨rfl,_,.inl (.inl row)⟩,bs[k'],_,rfl,rfl,row,c σ F1 _ (I1.chgP (row:=[]) q s1 tt gb)⟩
        · exact c.elim
    · exact c.elim
  · exact a.elim
end
end PM
namespace L2
open PySem PySem.Spec PyProof.Rows
section
variable {X:Cx} {x:Str} {np hpos pos:Pos} {body:List Stmt} {b₀:Stmt} {suite:List Stmt} {D':Addr} {tb:(St→XK)→TS} {th:TS}
end
end L2
namespace PM
open PySem L2
section
variable {K:Kx} {E:L2.St→XK}
end
end PM
namespace PM
end PM
namespace L2
open PySem PySem.Spec PyProof.Rows
section
variable {prog:Program} {w:World} {A:Around} {E:Value→Shared→Prop} {s:Shared}
end
section
variable {prog:Program} {w:World} {A:Around} {R:Result→Shared→Prop} {I S:Addr} {fp wr:List Addr} {n:Nat} {P:Nat→Value→Prop} {St:Nat→Heap→Prop} {bt:Nat→Nat→Bool}
end
section
variable {prog:Program} {w:World} {A:Around} {E:Value→Shared→Prop} {s:Shared}
end
section
variable {X:Cx}
end
end L2
namespace PM
open PySem L2
section
variable {K:Kx}
end
end PM
namespace L2
open PySem PySem.Spec PyProof.Rows
section
variable {X:Cx}
end
end L2
namespace PM
open PySem L2
section
variable {K:Kx} {XO:XOT} {E:L2.St→XK}
end
end PM
namespace L2
open PySem PySem.Spec PyProof.Rows
section
variable {X:Cx} {a b c:Expr} {ta tb tc:TE} {pos:Pos}
end
end L2
namespace PM
open PySem L2
section
variable {K:Kx} {XO:XOT} {E:L2.St→XK} {ta tb tc:TE} {ma mb mc:En→R D}
end
end PM
namespace L2
open PySem PySem.Spec PyProof.Rows
section
variable {X:Cx} {e st:Expr} {te ts:TE} {p2 pos:Pos}
end
end L2
namespace PM
open PySem L2
section
variable {K:Kx} {XO:XOT} {E:L2.St→XK} {te ts:TE} {me ms:En→R D}
end
end PM
namespace L2
open PySem PySem.Spec PyProof.Rows
section
variable {prog:Program} {w:World} {A:Around} {E:Value→Shared→Prop} {s:Shared}
end
section
variable {prog:Program} {w:World} {A:Around} {E:Value→Shared→Prop} {s:Shared}
end
section
variable {X:Cx} {l:Expr} {tl:TE}
end
end L2
namespace PM
open PySem L2
section
variable {K:Kx} {XO:XOT} {E:L2.St→XK} {te:TE} {me:En→R D}
end
end PM
namespace L2
open PySem PySem.Spec PyProof.Rows Builtin Builtin.ObjectAttr
def zmR:List Value→Bool
  | .ref _ :: r=>zmR r
  | l=>l == [.type "ValueError",.type "Exception",.type "BaseException",.type "object"]
theorem zie (self:Value):∀ {l:List Value},zmR l=true→refuseLoop self "__setattr__" l=pure ()
  | .ref c :: r,e=>by rw [refuseLoop_ref]; exact zie self (l:=r) e
  | [],e=>by cases e
  | .type n :: r,e=>by
    have:(Value.type n :: r) = [.type "ValueError",.type "Exception",.type "BaseException",.type "object"]:=beq_iff_eq.mp (show (Value.type n :: r == _)=true from e)
    rw [this]; exact PySem.F.store_ValueError.passes self
  | .none :: r,e=>by have:=beq_iff_eq.mp (show ((_:Value) :: r == _)=true from e); cases this
  | .bool _ :: r,e=>by have:=beq_iff_eq.mp (show ((_:Value) :: r == _)=true from e); cases this
  | .int _ _ :: r,e=>by have:=beq_iff_eq.mp (show ((_:Value) :: r == _)=true from e); cases this
  | .str _ _ :: r,e=>by have:=beq_iff_eq.mp (show ((_:Value) :: r == _)=true from e); cases this
  | .builtin _ :: r,e=>by have:=beq_iff_eq.mp (show ((_:Value) :: r == _)=true from e); cases this
def znV (K:PySem.W.Frag) (C:Addr):Bool:=(PySem.W.clsIn K C).any fun cd=>zmR cd.mro
section
variable {prog:Program} {w:World} {A:Around} {E:Value→Shared→Prop} {s:Shared} {K:PySem.W.Frag} {x C:Addr} {ox:Obj} {od:Option Obj} {name:Str} {tk:Tok} {v:Value} {R:Result→Shared→Prop}
theorem znw (X:K.In s.heap) (I:PySem.W.InstAt s.heap x ox C od) (hm0:PySem.W.mroIn K C (.type "object")=some true) (hp:znV K C=true) (ht:PySem.W.takerIn K C name=some none)
    (h:∀ b,wpAny (model prog w) A.in1 (storeInOwnDict (.ref x) (.ref C) (.str name tk) name v b)
      (fun fin s'=>match fin with | .done f=>R (.ok f) s' | .again c'=>c'.quiet=true∧codeAny (model prog w) A c' R s') (fun e s'=>R (.error e) s') s) :
    codeAny (model prog w) A (.call (.builtin "object.__setattr__") ⟨[.ref x,.str name tk,v],[]⟩) R s:=by
  have SF:=PySem.F.store_object
  obtain ⟨cd,hc,ho⟩:=PySem.W.any_some hp
  have sub:PySem.W.Looks (model prog w) s.heap (isInstance (.ref x) (.type "object")) true:=I.type.andThen (PySem.W.looks_mroIn X hm0)
  refine codeAny_call_builtin SF.slot.plain SF.entry (@PySem.W.check_slot (model prog w) _ _ s "object.__setattr__" "object" "__setattr__" (.ref x) [.str name tk,v] [] _ SF.kind SF.split sub (SF.args (.ref x) (.str name tk) v) ?_)
  obtain ⟨attr,ha,hr⟩:=Option.bind_eq_some_iff.mp ht
  have hm:PySem.W.Looks (model prog w) s.heap (mroOf (.ref C)) cd.mro:=(PySem.W.looks_clsIn X hc).andThen .now
  have L3:PySem.W.Looks (model prog w) s.heap (storeTaker? attr) none:=by
    cases attr with
    | none=>exact .now
    | some a =>
      obtain ⟨b,hb,hb'⟩:=Option.map_eq_some_iff.mp hr
      refine (PySem.W.looks_takesIn X hb).andThen ?_
      cases b
      · exact .now
      · cases hb'
  rw [PySem.W.osa_eq,refuse_eq]
  refine wpAny_bind (wpAny_bind (I.type.here (wpAny_bind (hm.here ?_))))
  rw [zie _ ho]
  refine wpAny_pure (wpAny_bind (I.type.here (wpAny_bind ((PySem.W.looks_findIn X ha).here (wpAny_bind (L3.here ?_))))))
  exact h _
theorem znB {Q:Unit→Shared→Prop} {vs:Array Value} (X:K.In s.heap) (hx:s.heap.get? x=some ox) (hc:ox.cls = .ref C) (hdn:ox.dict=none) (hdt:ox.data = .fields vs)
    (hs:PySem.W.findIn K (.ref C) "__setattr__"=some (some (.builtin "object.__setattr__"))) (hm0:PySem.W.mroIn K C (.type "object")=some true) (hp:znV K C=true) (ht:PySem.W.takerIn K C name=some none) (hh:PySem.W.hasDictIn K C=true)
    (h:∀ h' tk',(∀ b o,b ≠ x→s.heap.get? b=some o→h'.get? b=some o)→h'.get? x=some { ox with dict:=some s.heap.objs.size }→h'.Ns1 s.heap.objs.size (fun y=>if y=name then some v else none)→s.heap.objs.size + 1 ≤ h'.objs.size→Q () { s with heap:=h',toks:=tk' }) :
    wpAny (model prog w) A (setAttr (.ref x) name v) Q E s:=by
  have I:PySem.W.InstAt s.heap x ox C none:=⟨hx,hc,by unfold PySem.W.notCls; rw [hdt],by rw [hdn]; trivial⟩
  refine PySem.W.set_plain X I hs (znw (s:={ s with toks:=s.toks + 1 }) X I hm0 hp ht fun b=>?_)
  obtain ⟨cd,hcd,hd'⟩:=PySem.W.any_some hh
  obtain ⟨hp,g,d,t,os⟩:=s
  obtain ⟨oc,odi,oda,osl⟩:=ox
  dsimp only at hc hdn hdt hx h X I ⊢
  subst hc hdn hdt
  obtain ⟨nd,end_⟩:∃ nd:Obj,nd = { cls:=.type "dict",data:=.dict #[] }:=⟨_,rfl⟩
  obtain ⟨g1,eg1⟩:∃ g1:Heap,g1=(hp.push nd).update x fun u=>{ u with dict:=some hp.objs.size }:=⟨_,rfl⟩
  have ne:x ≠ hp.objs.size:=fun z=>absurd (Heap.lt_size hx) (by rw [z]; exact Nat.lt_irrefl _)
  have px:(hp.push nd).get? x=some ⟨.ref C,none,.fields vs,osl⟩:=Heap.get?_push_of_some _ hx
  unfold storeInOwnDict ownDictForStores instanceDict
  refine wpAny_bind (wpAny_pure ?_)
  refine wpAny_bind (wpAny_bind (wpAny_loadPart hx (wpAny_bind ((PySem.W.looks_clsIn X hcd).here ?_))))
  rw [hd',if_neg (by decide)]
  dsimp only
  rw [if_neg (by simp [typeHasDict]),← end_]
  refine wpAny_bind (wpAny_alloc' (wpAny_bind (wpAny_update' px (wpAny_pure ?_))))
  have at1:g1.get? hp.objs.size=some nd:=by
    rw [eg1]
    exact (Heap.get?_update_ne _ _ _ _ (Ne.symm ne)).trans (Heap.get?_push_at rfl (by rw [end_]; rfl))
  have none1:g1.Ns1 hp.objs.size (fun _=>none):=Heap.Ns1.of_empty ⟨nd,#[],_,at1,by rw [end_],fun u hu=>absurd hu (by simp),fun _=>rfl⟩
  show wpAny _ _ (storeInDict hp.objs.size (.str name _) name v) _ _ { heap:=(hp.push nd).update x fun u=>{ u with dict:=some hp.objs.size },gens:=g,drawn:=d,toks:=_,os:=os }
  rw [← eg1]
  unfold storeInDict newKeyGuard
  refine wpAny_bind (wpAny_pure (wpAny_bind (wpAny_nsSet1 none1 fun g2 n2 same=>?_)))
  obtain ⟨oD,_,_,atD,dataD,few⟩:=n2.count (Within.cons name v Within.nil)
  refine wpAny_bind (wpAny_lookBehind atD ?_ ?_)
  · rw [dataD]
    refine pastItsLine_dict (Nat.le_trans few ?_)
    rw [sizeLine_eq]; simp
  wp_walk
  have x1:g1.get? x=some ⟨.ref C,some hp.objs.size,.fields vs,osl⟩:=by rw [eg1]; exact Heap.get?_update_self _ px rfl
  refine h g2 _ (fun b u nb e=>?_) ((same.2 x ne).trans x1) n2 (Heap.lt_size atD)
  have nbs:b ≠ hp.objs.size:=fun z=>absurd (Heap.lt_size e) (by rw [z]; exact Nat.lt_irrefl _)
  refine (same.2 b nbs).trans ?_
  rw [eg1]
  exact (Heap.get?_update_ne _ _ _ _ nb).trans (Heap.get?_push_of_some _ e)
set_option maxHeartbeats 4000000 in
theorem getx {Q:Value→Shared→Prop} {vs:Array Value} {dx:Addr} {mA:Str→Option Value} {expr:Bool} (Z:ExcCls K C) (X:K.In s.heap) (hx:s.heap.get? x=some ox) (hc:ox.cls = .ref C) (hdx:ox.dict=some dx) (hdt:ox.data = .fields vs) (hns:s.heap.Ns1 dx mA)
    (na:PySem.W.findIn K (.ref C) name=some none) (hv:mA name=some v) (hh:PySem.W.handedIn v=true) (k:Q v { s with toks:=s.toks + 1 }):wpAny (model prog w) A (getAttr (.ref x) name expr) Q E s:=by
  obtain ⟨oD,ho,hl⟩:=ziW hns
  have I:PySem.W.InstAt s.heap x ox C (some oD):=⟨hx,hc,by unfold PySem.W.notCls; rw [hdt],by rw [hdx]; exact ho⟩
  have hf:PySem.W.findObj K C (some oD) name=some (.value v):=PySem.W.findObj_own Z.hd na rfl (by rw [hl,hv])
  have X':=X
  have I':=I
  have Z':=Z
  obtain ⟨hp,g,d,t,os⟩:=s
  have L0:=I.type (M:=model prog w)
  have L1:=PySem.W.looks_findIn (M:=model prog w) X Z.ga
  have L2:=PySem.W.looks_findIn (M:=model prog w) X Z.gn
  have L3:=PySem.W.looks_find (M:=model prog w) X I hf
  have L4:PySem.W.Looks (model prog w) hp (isInstance (.ref x) (.type "BaseException")) true:=L0.andThen (PySem.W.looks_mroIn X Z.hb)
  have f3:=F.attr_ValueError.ga.bind (.ref x)
  have hx0:(expr && onTheHeap (Value.builtin "BaseException.__getattribute__"))=false:=by cases expr <;> rfl
  have hx2:(Value.builtin "BaseException.__getattribute__" == Value.builtin "object.__getattribute__")=false:=by decide +kernel
  have hx1:(onTheHeap (Value.ref C) && Value.builtin "BaseException.__getattribute__" == Value.builtin "object.__getattribute__")=false:=by rw [hx2]; rfl
  unfold getAttr getAttrBy
  refine wpAny_bind (wpAny_mkText ?_)
  repeat (any_goals (first | assumption | with_reducible refine PySem.W.Looks.at L0 ?_ | with_reducible refine PySem.W.Looks.at L1 ?_ | with_reducible refine PySem.W.Looks.at L2 ?_ | wp_step))
  have hk:builtinKind "BaseException.__getattribute__"=some .slot:=by decide +kernel
  have hsplit:splitId "BaseException.__getattribute__"=some ("BaseException","__getattribute__"):=by decide +kernel
  have har:=F.args_bexc_ga (.ref x) (.str name t)
  refine codeAny_call_builtin F.attr_ValueError.ga.plain F.entry_bexc_ga ?_
  simp only [checkBuiltinCall,hk,hsplit]
  refine wpAny_bind ?_
  refine PySem.W.Looks.at L4 ?_
  repeat (any_goals (first | assumption | with_reducible refine PySem.W.Looks.at L4 ?_ | with_reducible refine PySem.W.Looks.at L0 ?_ | with_reducible refine PySem.W.Looks.at L3 ?_ | wp_step))
  exact PySem.W.handed_on hh k
end
structure ExcA (K:PySem.W.Frag) (C:Addr):Prop where
  z:ExcCls K C
  sa:PySem.W.findIn K (.ref C) "__setattr__"=some (some (.builtin "object.__setattr__"))
  ov:znV K C=true
def excP (C:Addr) (dct:Option Addr) (vs:Array Value) (ea:Addr):HO:=.ext fun h=>∃ ob,h.get? ea=some ob∧ob.cls = .ref C∧ob.dict=dct∧ob.data = .fields vs
theorem zld {P:Program} {w:World} {H:Hp} {h:Heap} {C:Addr} {dct:Option Addr} {vs:Array Value} {ea:Addr} {ob:Obj} (h1:h.get? ea=some ob) (h2:ob.cls = .ref C) (h3:ob.dict=dct) (h4:ob.data = .fields vs):ObjOk P w H h ea (excP C dct vs ea) :=
  ⟨⟨ob,h1,h2,h3,h4⟩,⟨_,h1⟩,fun g1 g2 ⟨ob',e1,e2,e3,e4⟩ k=>⟨ob',k _ e1,e2,e3,e4⟩⟩
def zqW (K:PySem.W.Frag) (ta tv:TE) (f:Str):TS:=fun D σ H=>tv σ H fun y H1=>ta σ H1 fun x H2=>∃ a C vs,x = .ref a∧H2 a=some (excP C none vs a)∧ExcA K C∧NoAttr K C f ∧
  ∀ dx,H2 dx=none→D.nx σ (upd (upd H2 a (excP C (some dx) vs a)) dx (.xd [(f,y)]))
def zp3 (K:PySem.W.Frag) (ta:TE) (f:Str):TE:=fun σ H Q=>ta σ H fun x H1=>∃ a C dx fs v,x = .ref a∧H1 a=some (excO C (some dx) a)∧H1 dx=some (.xd fs)∧ExcCls K C∧NoAttr K C f∧fs.lookup f=some v∧Q v H1
section
variable {X:Cx} {o e value:Expr} {f:Str} {pos pos' tpos:Pos} {ta tv:TE}
theorem zpe (he:PE X e ta) (hb:attributeBase e f X.env (eval e X.env)=eval e X.env):PE X (.Attribute e f pos) (zp3 X.K ta f):=by
  intro pins s σ H Q I h
  refine zl4 hb (thn (he pins s σ H _ I h) fun u s1 ⟨x,H1,I1,rx,a,C,dx,fs,v,ex,ea,ed,c,n,l,q⟩=>?_)
  subst ex
  obtain rfl:u=Value.ref a:=rx
  obtain ⟨⟨ob,h1,h2,h3,vs,h4⟩,_⟩:=I1.hok a _ ea
  obtain ⟨mA,hn,r⟩:=(show ObjOk X.prog X.w H1 s1.heap dx (.xd fs) from I1.hok dx _ ed)
  obtain ⟨u,hu,ru⟩:=RelO.some_of (v:=v) (o:=mA f) (by rw [← l]; exact r f)
  exact getx c I1.kIn h1 h2 h3 h4 hn n hu (ziT ru) ⟨v,H1,I1.tok _,ru,q⟩
theorem zoV (ha:PE X o ta) (hv:PE X value tv) (hs:swapsWith value (some (.Attribute o f pos')) pos.line X.env=pure false):PS X (.Assign [.Attribute o f pos'] value pos) (zqW X.K ta tv f):=by
  intro pins s σ H D I h
  refine plainObj_wpAny_Assign_Attribute (thn (hv pins s σ H _ I h) fun u s1 ⟨y,H1,I1,ry,q⟩=>thn (ha pins s1 σ H1 _ I1 q) fun ov s2 ⟨x,H2,I2,rx,a,C,vs,ex,ea,c,n,q2⟩=>?_) hs
  subst ex
  obtain rfl:ov=Value.ref a:=rx
  obtain ⟨⟨ob,h1,h2,h3,h4⟩,_⟩:=I2.hok a _ ea
  refine znB I2.kIn h1 h2 h3 h4 c.sa c.z.hm c.ov n.taker c.z.hd fun h' tk' hk hx' hn hsz=>?_
  have fr:H2 s2.heap.objs.size=none:=I2.hok.fresh (Nat.le_refl _)
  have nea:s2.heap.objs.size ≠ a:=fun z=>by rw [← z,fr] at ea; cases ea
  have I3:Inv X pins σ (upd H2 a (excP C (some s2.heap.objs.size) vs a)) { s2 with heap:=h',toks:=tk' }:=I2.write (x:=a) (e:=a) (by rw [ea]; exact True.intro) (.inl rfl) hk ⟨_,hx'⟩ (zld hx' h2 rfl h4)
  have old:∀ b,b < s2.heap.objs.size→b ≠ s2.heap.objs.size:=fun b hb z=>absurd hb (by rw [z]; exact Nat.lt_irrefl _)
  refine ⟨σ,_,I3.track (ea:=s2.heap.objs.size) (o:=.xd [(f,y)]) (by rw [zai nea]; exact fr) ?_ ?_ ?_ ?_ ?_,q2 _ fr⟩
  · exact Heap.get?_none_of_le I2.sz
  · exact Nat.ne_of_gt I2.lt
  · intro x c e
    obtain ⟨v,o,ho,_⟩:=I2.cell x c e
    exact Nat.ne_of_lt (Heap.lt_size ho)
  · intro p hp
    exact Nat.ne_of_lt (Heap.lt_size (I2.pin p hp).1)
  · refine ⟨_,hn,fun g=>?_⟩
    show RelO (match g == f with | true=>some y | false=>none) (if g=f then some u else none)
    by_cases z:g=f
    · rw [if_pos z,show (g == f)=true by simpa using z]; exact ry
    · rw [if_neg z,show (g == f)=false by simpa using z]; trivial
end
section
variable {M:Model} {A:Around} {E:Value→Shared→Prop} {s:Shared} {B:Heap} {env:Env} {outer l:List Env} {L e:Addr} {Q:Unit→Shared→Prop}
theorem zmZ {oe:Obj} {vs:Array Value} (hfr:A.frames=some (env :: outer)) (hf:env.frame=some L) (hst:B.StaysIn s.heap) (hl:s.heap.FunFrames B (env :: outer)) (he:s.heap.get? e=some oe) (hd:oe.data = .fields vs) (h1:vs[1]?=some .none) (hen:B.get? e=none)
    (k:∀ h',FlyD B (env :: outer) e oe.cls oe.dict (rawInt L) h'→s.heap.UpToSlots h'→Q () { s with heap:=h' }):wpAny M A (noteFrame (.ref e) env) Q E s:=by
  unfold noteFrame
  simp only [hf]
  refine wpAny_bind (wpAny_field he hd (x:=Value.none) h1 ?_)
  rw [if_neg (by decide)]
  exact zmG hfr hl hf he hd (Array.getElem?_eq_some_iff.mp h1).1 hst hen k
end
def remH (H:Hp) (a:Addr):Hp:=fun b=>if b=a then none else H b
theorem zeM {H:Hp} {a b:Addr} (h:b ≠ a):remH H a b=H b:=by unfold remH; rw [if_neg h]
section
variable {P:Program} {w:World} {K:PySem.W.Frag} {mg:Str→Option Value} {base:Heap} {N:List Str} {qual:Str} {scope:Scope} {f:Addr} {cd:Value} {A:Around} {outer:List Env} {s0:Shared} {H0:Hp} {E:XK}
theorem zms {pins:List (Addr × Obj)} {σ:St} {H:Hp} {s:Shared} {ea C:Addr} {dct:Option Addr} {vs:Array Value} (I:Inv (cx1 P w K mg base N qual scope f cd A outer s0 H0 E) pins σ H s) (he:H ea=some (excP C dct vs ea)) (h0:s0.heap.get? ea=none) (v1:vs[1]?=some .none)
    (q:E (.ref C) dct (remH H ea)):(cx1 P w K mg base N qual scope f cd A outer s0 H0 E).xe (.ref ea) s:=by
  obtain ⟨⟨ob,g1,g2,g3,g4⟩,_⟩:=I.hok ea _ he
  have hin:∀ env ∈ (cx1 P w K mg base N qual scope f cd A outer s0 H0 E).stack,∀ a,env.frame=some a→a ∈ ea :: frs (cx1 P w K mg base N qual scope f cd A outer s0 H0 E).stack:=fun env he a ha=>List.mem_cons_of_mem _ (List.mem_filterMap.mpr ⟨env,he,ha⟩)
  have hstk:=I.stack
  show wpAny (model P w) _ (leaving _ (.ref ea)) _ _ s
  unfold leaving
  refine wpAny_bind (zmZ (B:=PySem.W.hideAll s.heap (ea :: frs (cx1 P w K mg base N qual scope f cd A outer s0 H0 E).stack)) I.ok.frames rfl (fun b o e=>PySem.W.of_hideAll _ e) (PySem.W.funFrames_hide hstk hin) g1 g4 v1 (PySem.W.hideAll_none _ (by simp)) fun h1 F1 up1=>?_)
  refine zmm F1 fun h2 F2 up2=>?_
  have keepS:∀ b o,s.heap.get? b=some o→b ∉ ea :: frs (cx1 P w K mg base N qual scope f cd A outer s0 H0 E).stack→(PySem.W.hideAll s.heap (ea :: frs (cx1 P w K mg base N qual scope f cd A outer s0 H0 E).stack)).get? b=some o:=fun b o e hb=>PySem.W.hideAll_get _ e hb
  have nea:∀ {b:Addr} {u:HO},H b=some u→(∀ φ,u ≠ .ext φ)→b ≠ ea:=fun e n z=>by
    subst z
    rw [he] at e
    exact n _ (Option.some.inj e).symm
  have base':Un (cx1 P w K mg base N qual scope f cd A outer s0 H0 E).fs [] H0 (remH H ea) s0.heap s.heap:=⟨I.base.keep,I.base.slot,fun b o e n hx=>by
      unfold remH
      split
      · rfl
      · exact I.base.free b o e n hx,I.base.there,fun b xs e=>by
      have z:=I.base.tups b xs e
      rw [zeM (nea z (fun _ w=>by cases w))]; exact z,fun b o u e=>by
      have z:=I.base.frzs b o u e
      rw [zeM (nea z (fun _ w=>by cases w))]; exact z,fun b ps e=>by
      obtain ⟨m,z⟩:=I.base.tbls b ps e
      exact ⟨m,by rw [zeM (nea z (fun _ w=>by cases w))]; exact z⟩⟩
  obtain ⟨u,third⟩:=zjL (h1:=s0.heap) (h2:=s.heap) (h3:=h2) (B:=PySem.W.hideAll s.heap (ea :: frs (cx1 P w K mg base N qual scope f cd A outer s0 H0 E).stack)) (fr:=frs (cx1 P w K mg base N qual scope f cd A outer s0 H0 E).stack) Un.refl (base'.mono (fun b hb=>List.mem_cons_of_mem _ hb) (fun b hb=>hb)) I.ok.above I.stkSub
    (fun b hb=>List.mem_cons_of_mem _ hb) I.ok.frf (fun b hb o e=>by
      obtain ⟨_,o',ho',hn⟩:=hstk.mem (List.mem_cons_of_mem _ hb)
      rw [e] at ho'
      cases ho'
      exact hn) (up1.trans up2) F2.stays (fun b o e hb=>by
      obtain ⟨o',e'⟩:=I.base.there b o e (by show b ∉ []; simp)
      have nb:b ≠ ea:=fun z=>by rw [z] at e; rw [h0] at e; cases e
      refine ⟨o',keepS b o' e' (fun z=>(List.mem_cons.mp z).elim nb hb),fun n=>?_⟩
      have k:=I.base.keep b o e n (fun z=>hb (List.mem_cons_of_mem _ z)) (by show b ∉ []; simp)
      rw [e'] at k
      exact Option.some.inj k)
  refine ⟨ea,C,dct,remH H ea,rfl,⟨I.os,I.bare,u,_,by rw [g2,g3] at F2; exact F2.pop,?_,third⟩,q⟩
  intro a o e
  have na:a ≠ ea:=fun z=>by rw [z] at e; unfold remH at e; rw [if_pos rfl] at e; cases e
  rw [zeM na] at e
  refine (I.hok a o e).stay (fun b v hb q=>keepS b v q fun z=>?_) (fun b q=>by rw [zeM (nea q (fun _ w=>by cases w))]; exact q) fun b _ q=>by rw [zeM (nea q (fun _ w=>by cases w))]; exact q
  rcases List.mem_cons.mp z with z | z
  · subst z
    rcases hb with hb | hb
    · exact na hb.symm
    · exact nea hb (fun _ w=>by cases w) rfl
  · have n:=I.stkFree b z
    rcases hb with rfl | hb
    · rw [e] at n; cases n
    · rw [hb] at n; cases n
end
theorem zki {K:PySem.W.Frag} {h:Heap} {N:Addr} {m:Str→Option Value} {n:Str} {v:Value} (X:K.In h) (G:h.Ns N m) (e:PySem.W.nsIn K N n=some (some v)):m n=some v:=by
  obtain ⟨o,es,ep,a1,a2,_,a3⟩:=G
  unfold PySem.W.nsIn at e
  split at e
  · rename_i look
    have eq:=(X _ _ look).symm.trans a1
    cases eq
    cases a2
    split at e
    · rename_i found
      cases e
      refine (a3 n).symm.trans ?_
      simp only [nsFind,findBy]
      rw [← Array.find?_toList,found]; rfl
    · split at e <;> cases e
  · cases e
def zgY (K:PySem.W.Frag) (C:Addr) (bmB:List Value) (newId:String) (fa:Addr):Bool:=match K.lookup C with
  | some ⟨.type "type",_,.cls cd,sl⟩=>(match cd.mro,sl.toList with
    | .ref C' :: bm,[_,_,_,_,some (.builtin n),_]=>C' == C && n == newId && !cd.hasDel && PySem.W.tailIn K bmB bm && PySem.W.nsOkIn K cd.ns && PySem.W.nsIn K cd.ns "__init__" == some (some (.ref fa))
    | _,_=>false)
  | _=>false
theorem zkP {K:PySem.W.Frag} {h:Heap} {C fa:Addr} {bmB:List Value} {newId:String} (X:K.In h) (q:zgY K C bmB newId fa=true) :
    ∃ bm N nm qn bs hdct sn sub ab col dd k0 k1 k2 k3 k5 mN,h.get? C=some (excClassObj nm qn C N bs bm hdct sn sub ab col dd k0 k1 k2 k3 k5 newId)∧h.Ns N mN∧mN "__init__"=some (.ref fa)∧OwnTail h bmB bm:=by
  unfold zgY at q
  split at q
  · rename_i dd cd sl ho
    split at q
    · rename_i C' bm k0 k1 k2 k3 n k5 hm hs
      simp only [Bool.and_eq_true,beq_iff_eq,Bool.not_eq_true'] at q
      obtain ⟨⟨⟨⟨⟨rfl,rfl⟩,hdel⟩,ht⟩,hok⟩,hni⟩:=q
      obtain ⟨nm,bs,mro,ns,qn,hd,sn,sub,ab,col,del⟩:=cd
      dsimp only at hm hdel hok hni
      subst hm hdel
      obtain ⟨sll⟩:=sl
      simp only at hs
      subst hs
      exact ⟨bm,ns,nm,qn,bs,hd,sn,sub,ab,col,dd,k0,k1,k2,k3,k5,_,X _ _ ho,.of_isNs (PySem.W.isNs_of_in X hok),zki X (.of_isNs (PySem.W.isNs_of_in X hok)) hni,PySem.W.tail_of_in X ht⟩
    · cases q
  · cases q
section
variable {M:Model} {A:Around} {E:Value→Shared→Prop} {env:Env}
variable {nm q:Str} {C N:Addr} {bs bm:List Value} {hdct:Bool} {sn:List Str} {sub:List Value} {ab:Bool} {col:Option Bool} {dd:Option Addr} {k0 k1 k2 k3 k5:Option Value} {newId:String}
theorem zgu {s:Shared} {x:Sem Value} {Q:Flow→Shared→Prop} (hbase:bm.contains (.type "BaseException")=true) (hh:A.handled=none)
    (h:wpAny M A x (fun v s₁=>∃ e oe,v = .ref e∧s₁.heap.get? C=some (excClassObj nm q C N bs bm hdct sn sub ab col dd k0 k1 k2 k3 k5 newId) ∧
      s₁.heap.get? e=some oe∧oe.cls = .ref C∧(∃ vs,oe.data = .fields vs∧vs[1]?=some .none)∧E (.ref e) s₁) E s) :
    wpAny M A (raiseStmt env (some x) none) Q E s:=by
  have hcB:(Value.ref C :: bm).contains (.type "BaseException")=true:=by rw [List.contains_cons,hbase,Bool.or_true]
  unfold raiseStmt
  refine wpAny_bind (wpAny_mono h (fun v s₁ h₁=>?_) fun _ _ x=>x)
  obtain ⟨e,oe,rfl,hC,he,hc,⟨vs,hd,hv⟩,hE⟩:=h₁
  obtain ⟨hp,g,d,tk,os⟩:=s₁
  obtain ⟨oc,odi,oda,osl⟩:=oe
  dsimp only at hc hd
  subst hc hd
  repeat (first | with_reducible refine wpAny_loadPart_at he ?_ | with_reducible refine wpAny_loadPart_at hC ?_ | (with_reducible refine wpAny_isSubtype_exc hC ?_; rw [hcB]) | wp_step)
  rw [hv]
  refine wpAny_pure ?_
  rw [if_neg (by decide)]
  refine wpAny_pure ?_
  exact wpAny_raiseNew_none hh hE
end
def zpg (X:Cx) (E:St→XK):Prop:=∀ (pins:List (Addr × Obj)) (σ:St) (H:Hp) (s:Shared) (ea C:Addr) (dct:Option Addr) (vs:Array Value),Inv X pins σ H s→H ea=some (excP C dct vs ea)→X.s₀.heap.get? ea=none→vs[1]?=some .none→E σ (.ref C) dct (remH H ea)→X.xe (.ref ea) s
def ziX (C:Addr) (sp:Sp) (E:St→XK) (t:TA):TS:=fun _ σ H=>t σ H fun vs H1=>vs.length ≤ sizeLine ∧
  ∀ e xs,H1 e=none→sp (.ref e :: vs) (upd H1 e (excP C none xs e)) (fun v H2=>v = .non∧∃ dct,H2 e=some (excP C dct xs e)∧E σ (.ref C) dct (remH H2 e)) E0
section
variable {P:Program} {w:World} {K:PySem.W.Frag} {mg:Str→Option Value} {base:Heap} {N:List Str} {qual:Str} {scope:Scope} {f:Addr} {cd:Value} {A:Around} {outer:List Env} {s0:Shared} {H0:Hp} {E:XK}
theorem zqb:zpg (cx1 P w K mg base N qual scope f cd A outer s0 H0 E) (fun _=>E):=fun _ _ _ _ _ _ _ _ I he h0 v1 q=>zms I he h0 v1 q
end
section
variable {X:Cx} {CX:CXT} {k:Nat} {fa:Addr} {fd:FuncData} {ps:List Str} {sp:Sp} {x:Str} {np cpos pos:Pos} {e₀:Expr} {rest:List Expr} {C:Addr} {bmB bmN:List Value} {newId Bn B nid inN initId:String} {E:St→XK} {t:TA}
theorem zlb (hex:X.ex = []) (hc:X.calm=true) (hg:Gl X x) (hmx:X.mg x=some (.ref C)) (hk:zgY X.K C bmB newId fa=true) (Fn:ExcBaseFacts Bn newId inN bmN) (hBn:bmB.contains (.type Bn)=true) (FB:ExcBaseFacts B nid initId bmB) (hE:zpg X E)
    (F:FnOk X.prog X.w X.K X.mg X.base CX k fa fd ps sp) (hr:Room (k + 1) X.A) (hb:Binds X.K fd ps []) (hfn:PySem.W.isFn X.K (.ref fa)=true) (hx:zdt CX X E0)
    (ha:PA X (e₀ :: rest) t) (he:starEach (e₀ :: rest) X.env=(false,eval e₀ X.env) :: starEach rest X.env:=by rfl) (hplain:(backTo cpos (starEach rest X.env)).any (·.1)=false:=by rfl) (hdb:(x == ("__debug__" : Str))=false:=by decide) :
    PS X (.Raise (some (.Call (.Name x np) (e₀ :: rest) [] cpos)) none pos) (ziX C sp E t):=by
  intro pins s σ H D I h
  obtain ⟨tl,N,nm,qn,bs,hdct,sn,sub,ab,col,dd,k0,k1,k2,k3,k5,mN,hC,hN,hni,T⟩:=zkP I.ok.mod.kin hk
  have hpl:(backTo cpos (starEach (e₀ :: rest) X.env)).any (·.1)=false:=by
    rw [he]; show (false || (backTo cpos (starEach rest X.env)).any (·.1))=false; rw [hplain]; rfl
  rw [arm_exec_Raise]
  refine wpAny_bind (wpAny_standAt (zgu (C:=C) (nm:=nm) (q:=qn) (N:=N) (bs:=bs) (bm:=tl) (hdct:=hdct) (sn:=sn) (sub:=sub) (ab:=ab) (col:=col) (dd:=dd) (k0:=k0) (k1:=k1) (k2:=k2) (k3:=k3) (k5:=k5) (newId:=newId) (T.hasType FB.hasBase) (I.ok.hd hc) ?_))
  refine wpAny_bind (wpAny_mono (wpAny_Call_ofName (zek I hg hmx ?_ hdb)) (fun v s₃ h₃=>wpAny_bind (wpAny_standAt (wpAny_pure h₃))) fun _ _ x=>x)
  unfold callWith
  refine wpAny_bind (wpAny_holding ?_)
  have hA:=ha cpos pins s σ H _ I h
  rw [he] at hA hpl ⊢
  refine Calls.evalArgs_plain (thn hA fun us s1 ⟨vs,H1,I1,r1,z,q⟩=>?_)
  have bk:=I1.bk
  have hC1:=bk _ _ hC
  have hN1:=hN.keeps bk
  have T1:=T.keeps bk
  have fI:∃ fo,s1.heap.get? fa=some fo∧fo.cls = .type "function":=by
    have z:=beq_iff_eq.mp hfn
    unfold PySem.W.typeIn at z
    obtain ⟨fo,e1,e2⟩:=Option.map_eq_some_iff.mp z
    exact ⟨fo,I1.kIn _ _ e1,e2⟩
  obtain ⟨fo,atF,isF⟩:=fI
  obtain ⟨hp,g,d,tk,os⟩:=s1
  refine wpAny_bind (wpAny_standAt ?_)
  simp only [hpl]
  refine wpAny_bind (wpAny_keeperOf_exc hC1 ?_)
  refine wpAny_bind (zku Fn hBn FB T1 hC1 hN1 hni atF isF (fun h' e hm=>?_) (by show us.length ≤ sizeLine; rw [← r1.length]; exact z))
  obtain ⟨t,ht,_,_⟩:=hm.there
  have nw:hp.get? e=none:=hm.new
  have nH:H1 e=none:=I1.hok.none_of nw
  have h0:X.s₀.heap.get? e=none:=by
    cases z:X.s₀.heap.get? e with
    | none=>rfl
    | some o =>
      obtain ⟨o',e'⟩:=I1.base.there e o z (by rw [hex]; simp)
      rw [show hp.get? e=some o' from e'] at nw; cases nw
  have I2:Inv X pins σ H1 { heap:=h',gens:=g,drawn:=d,toks:=tk,os:=os }:=I1.kept hm.keeps
  have I3:=I2.track (ea:=e) (o:=excP C none #[.ref t,.none,.none,.none,.bool false,.none] e) nH h0 (fun z=>by
      obtain ⟨m,⟨o,es,ep,ho,_⟩,_⟩:=I1.loc
      rw [z,show hp.get? X.env.locals=some o from ho] at nw; cases nw) (fun x c ec z=>by
      obtain ⟨v,o,ho,_⟩:=I1.cell x c ec
      rw [z,nw] at ho; cases ho) (fun p hpn z=>by
      have a:=(I1.pin p hpn).1
      rw [z,nw] at a; cases a) (zld ht rfl rfl rfl)
  have hq:=q e #[.ref t,.none,.none,.none,.bool false,.none] nH
  have r2:Vals (V.ref e :: vs) (Value.ref e :: us):=.cons rfl r1
  have hl:(Value.ref e :: us ++ []).length=ps.length:=by
    rw [List.append_nil,← r2.length]
    exact F.len _ _ _ _ hq
  have bb:=hb _ (Value.ref e :: us) I3.kIn hl
  rw [List.append_nil] at bb
  refine wpAny_call (codeAny_mono (F.run _ X.stack _ _ ⟨Value.ref e :: us,[]⟩ (Value.ref e :: us) _ _ E0 (hr.make C us []) (I3.env0.make C us []) bb r2 hq) fun r s' hq'=>?_)
  cases r with
  | error er=>exact hx pins σ _ _ er s' I3 hq'
  | ok fl =>
    cases fl with
    | ret u =>
      obtain ⟨v,H',I4,rv,ev,dct,eH,qE⟩:=I3.after hq'
      subst ev
      obtain ⟨⟨ob,g1,g2,g3,g4⟩,_⟩:=I4.hok e _ eH
      exact ⟨rv,wpAny_bind (wpAny_holding (wpAny_point (wpAny_pure ⟨e,ob,rfl,I4.bk _ _ hC,g1,g2,⟨_,g4,rfl⟩,hE pins σ H' s' e C dct _ I4 eH h0 rfl qE⟩)))⟩
    | next=>exact False.elim hq'
    | brk=>exact False.elim hq'
    | cont=>exact False.elim hq'
end
end L2
namespace PM
open PySem L2
def spI (K:PySem.W.Frag) (attr:Str):Sp:=fun vs H Q _=>∃ (e C:Addr) (xs:Array Value) (n:Int),vs = [.ref e,.int n]∧H e=some (excP C none xs e)∧ExcA K C∧NoAttr K C attr ∧
  ∀ dx,H dx=none→Q .non (upd (upd H e (excP C (some dx) xs e)) dx (.xd [(attr,.int n)]))
theorem zpn {K:PySem.W.Frag} {attr p1 p2:Str} {vs:List V} {H:Hp} {Q:VK} {E:XK} (h:spI K attr vs H Q E):vs.length = [p1,p2].length:=by
  obtain ⟨_,_,_,_,rfl,_⟩:=h
  rfl
def HasI (P:Program) (w:World) (K:PySem.W.Frag) (mg:Str→Option Value) (base:Heap) (fa:Addr) (ps:List Str) (sp:Sp):Prop:=∃ fd,FnOk P w K mg base CX0 1 fa fd ps sp∧Binds K fd ps []
section
variable {X:Cx} {fa:Addr} {ps:List Str} {sp:Sp} {x:Str} {np cpos pos:Pos} {e₀:Expr} {rest:List Expr} {C:Addr} {bmB bmN:List Value} {newId Bn B nid inN initId:String} {E:L2.St→XK} {t:TA}
theorem zlC (hex:X.ex = []) (hc:X.calm=true) (hg:Gl X x) (hmx:X.mg x=some (.ref C)) (hk:zgY X.K C bmB newId fa=true) (Fn:ExcBaseFacts Bn newId inN bmN) (hBn:bmB.contains (.type Bn)=true) (FB:ExcBaseFacts B nid initId bmB) (hE:zpg X E)
    (G:HasI X.prog X.w X.K X.mg X.base fa ps sp) (hr:Room 2 X.A) (hfn:PySem.W.isFn X.K (.ref fa)=true)
    (ha:PA X (e₀ :: rest) t) (he:starEach (e₀ :: rest) X.env=(false,eval e₀ X.env) :: starEach rest X.env:=by rfl) (hplain:(backTo cpos (starEach rest X.env)).any (·.1)=false:=by rfl) (hdb:(x == ("__debug__" : Str))=false:=by decide) :
    PS X (.Raise (some (.Call (.Name x np) (e₀ :: rest) [] cpos)) none pos) (ziX C sp E t):=by
  obtain ⟨fd,F,hb⟩:=G
  exact zlb hex hc hg hmx hk Fn hBn FB hE F hr hb hfn za8 ha he hplain hdb
end
def asI1:List D→Option Int
  | [.int n]=>some n
  | _=>none
theorem zli {l:List D} {n:Int} (h:asI1 l=some n):l = [.int n]:=by
  unfold asI1 at h
  split at h
  · cases h; rfl
  · cases h
def zjc (c0:Nat) (ml:En→R (List D)) (δ:En):O:=(ml δ).toO δ fun l=>match asI1 l with | some n=>ifC (0 ≤ n) (.ex δ ⟨c0 + 16 * (n.toNat + 1)⟩) .no | none=>.no
section
variable {K:Kx} {XO:XOT} {E:L2.St→XK} {ta:TE} {ma:En→R D} {Λ:List (Nat × Addr × HO)} {F0 H0 F H:Hp} {σ:L2.St} {δ:En}
theorem zmN {C:Addr} {c0:Nat} {attr:Str} {tl:TA} {ml:En→R (List D)} (h16:c0 < 16) (hC:∀ k,C=K.ca (c0 + 16 * (k + 1))) (han:∀ k,K.an (c0 + 16 * (k + 1))=attr) (zA:ExcA K.f C) (zN:NoAttr K.f C attr)
    (h:SA K (xoK K) E tl ml):SS K (xoK K) E (ziX C (spI K.f attr) E tl) (zjc c0 ml):=by
  intro Λ F0 H0 F H σ δ Dn I a
  refine h Λ F0 H0 F H σ δ _ I ((AftS.of I a).imp fun l F1 H1 e p vs r=>?_)
  cases q1:asI1 l with
  | none=>rw [q1] at p; exact p.elim
  | some n =>
    rw [q1] at p
    have el:=zli q1
    subst el
    simp only at p
    unfold ifC at p
    split at p
    · rename_i hn
      obtain ⟨v,rfl,rv⟩:=r.one
      simp only [Rep] at rv
      subst rv
      refine ⟨by show 1 ≤ sizeLine; decide,fun ea xs hea=>⟨ea,C,xs,n,rfl,zal,zA,zN,fun dx hdx=>⟨rfl,some dx,?_,?_⟩⟩⟩
      · have ne:ea ≠ dx:=fun z=>by rw [← z,zal] at hdx; cases hdx
        rw [zai ne,zal]
      · have ne:dx ≠ ea:=fun z=>by rw [z,zal] at hdx; cases hdx
        have hd1:H1 dx=none:=by rw [zai ne] at hdx; exact hdx
        have er:remH (upd (upd (upd H1 ea (excP C none xs ea)) ea (excP C (some dx) xs ea)) dx (.xd [(attr,.int n)])) ea=upd H1 dx (.xd [(attr,.int n)]):=by
          funext b
          by_cases hb:b=ea
          · subst hb
            rw [zai (Ne.symm ne),hea]
            unfold remH
            rw [if_pos rfl]
          · rw [zeM hb]
            by_cases hd:b=dx
            · subst hd; rw [zal,zal]
            · rw [zai hd,zai hd,zai hb,zai hb]
        rw [er]
        have x:=Ext.new (o:=.xd [(attr,.int n)]) (I.grow e).same hd1
        refine p σ _ _ _ _ ((I.grow e).grow x) ⟨by rw [hC n.toNat],?_⟩
        show XA K _ (c0 + 16 * (n.toNat + 1)) _
        unfold XA
        rw [if_neg (by omega)]
        refine ⟨dx,rfl,?_⟩
        rw [zal,han]
        have:(((c0 + 16 * (n.toNat + 1)) / 16:Nat):Int) - 1=n:=by omega
        rw [this]
    · exact p.elim
def zmO (tab:Nat→Bool) (d:D):Option D:=match d with | .exc c=>if 16 ≤ c∧tab c=true then some (.int (((c / 16:Nat):Int) - 1)) else none | _=>none
theorem zoE {attr:Str} {tab:Nat→Bool} (hz:∀ c,tab c=true→ExcCls K.f (K.ca c)∧NoAttr K.f (K.ca c) attr∧K.an c=attr) (ha:SEr K XO E ta ma):SE K XO E (zp3 K.f ta attr) (m1 (zmO tab) ma):=by
  intro Λ F0 H0 F H σ δ Q I a
  refine ha Λ F0 H0 F H σ δ _ I (a.bind.imp fun d F1 H1 e1 a1 x rx=>?_)
  cases d with
  | exc c =>
    simp only [Top,Rep] at rx
    obtain ⟨p,dct,rfl,h1,hxa⟩:=rx
    simp only [zmO] at a1
    by_cases hc:16 ≤ c∧tab c=true
    · rw [if_pos hc] at a1
      obtain ⟨z1,z2,z3⟩:=hz c hc.2
      unfold XA at hxa
      rw [if_neg (by omega)] at hxa
      obtain ⟨dx,rfl,h2⟩:=hxa
      rw [z3] at h2
      refine ⟨p,_,dx,_,_,rfl,e1.fh _ _ h1,e1.fh _ _ h2,z1,z2,?_,a1 F1 H1 (.refl e1.fh) (.int (((c / 16:Nat):Int) - 1)) (by simp only [Rep])⟩
      simp [List.lookup]
    · rw [if_neg hc] at a1; exact a1.elim
  | _=>exact a1.elim
end
end PM
namespace L2
open PySem PyProof.Rows
def Lx (ky:Nat→Int) (i j:Nat):Prop:=ky i < ky j∨(ky i=ky j∧i < j)
theorem Lx.trans {ky:Nat→Int} {a b c:Nat} (h:Lx ky a b) (h':Lx ky b c):Lx ky a c:=by unfold Lx at *; omega
theorem Lx.le {ky:Nat→Int} {a b:Nat} (h:Lx ky a b):ky a ≤ ky b:=by unfold Lx at h; omega
abbrev gAr (p:Array Nat) (j:Nat):Nat:=p.getD j 0
theorem zge {p:Array Nat} {i j:Nat} (hj:j ≤ p.size) (k:Nat):gAr (PySem.W.kas_rev p i j) k=if i ≤ k∧k < j then gAr p (i + j - 1 - k) else gAr p k:=by
  unfold gAr PySem.W.kas_rev
  rw [Array.getD_eq_getD_getElem?,getElem?_mirror_all hj,Array.getD_eq_getD_getElem?,Array.getD_eq_getD_getElem?]
  split <;> rfl
theorem zoD {p:Array Nat} {s d:Nat} (hs:s < p.size) (hd:d ≤ s) (k:Nat):gAr (bubble p s d) k=if k=s - d then gAr p s else if s - d < k∧k ≤ s then gAr p (k - 1) else gAr p k:=by
  unfold gAr
  rw [Array.getD_eq_getD_getElem?,getElem?_bubble hs d hd,Array.getD_eq_getD_getElem?,Array.getD_eq_getD_getElem?,Array.getD_eq_getD_getElem?]
  split
  · rfl
  · split <;> rfl
def Arr (N:Nat) (p:Array Nat):Prop:=p.Perm (List.toArray (List.range N))
section
variable {N:Nat} {p:Array Nat}
theorem Arr.list (h:Arr N p):p.toList.Perm (List.range N):=by simpa using Array.perm_iff_toList_perm.mp h
theorem Arr.size (h:Arr N p):p.size=N:=by have:=h.size_eq; simpa using this
theorem Arr.get (h:Arr N p) {i:Nat} (hi:i < N):p.toList[i]?=some (gAr p i):=by
  have:i < p.size:=by rw [h.size]; exact hi
  simp [gAr,Array.getD,this]
theorem Arr.lt (h:Arr N p) {i:Nat} (hi:i < N):gAr p i < N:=by
  have:=h.list.mem_iff.mp (List.mem_of_getElem? (h.get hi))
  simpa using this
theorem Arr.inj (h:Arr N p) {i j:Nat} (hi:i < N) (hj:j < N) (e:gAr p i=gAr p j):i=j:=by
  have nd:p.toList.Nodup:=h.list.nodup_iff.mpr List.nodup_range
  have h1:=h.get hi
  have h2:=h.get hj
  rw [← e] at h2
  have li:i < p.toList.length:=by simpa [h.size] using hi
  exact (List.getElem?_inj li nd).mp (h1.trans h2.symm)
theorem Arr.below (h:Arr N p) {n i:Nat} (hn:∀ j,n ≤ j→j < N→gAr p j=j) (hi:i < n) (hN:n ≤ N):gAr p i < n:=by
  by_cases hlt:gAr p i < n
  · exact hlt
  · exfalso
    have l:=h.lt (show i < N by omega)
    have e:=hn (gAr p i) (by omega) l
    have:=h.inj (show i < N by omega) l e.symm
    omega
theorem Arr.rev (h:Arr N p) (i j:Nat):Arr N (PySem.W.kas_rev p i j):=(mirror_perm p i j _).trans h
theorem Arr.bub (h:Arr N p) (s d:Nat):Arr N (bubble p s d):=(bubble_perm p s d).trans h
end
section
variable {ky:Nat→Int} {N:Nat} {cmp:Nat→Nat→(Bool→Shared→Prop)→Shared→Prop}
def CmpI (ky:Nat→Int) (N:Nat) (cmp:Nat→Nat→(Bool→Shared→Prop)→Shared→Prop):Prop:=∀ i j,i < N→j < N→∀ (C:Bool→Shared→Prop) (s:Shared),C (decide (ky i < ky j)) s→cmp i j C s
structure Pre (ky:Nat→Int) (N:Nat) (p:Array Nat) (n:Nat):Prop where
  arr:Arr N p
  le:n ≤ N
  ord:∀ i j,i < j→j < n→Lx ky (gAr p i) (gAr p j)
  rest:∀ j,n ≤ j→j < N→gAr p j=j
theorem zm2 {g:Nat→Nat} {n:Nat} (h:∀ j,0 < j→j < n→Lx ky (g (j - 1)) (g j)):∀ i j,i < j→j < n→Lx ky (g i) (g j):=by
  intro i j
  induction j with
  | zero=>intro h1; omega
  | succ j ih =>
    intro h1 h2
    have a:=h (j + 1) (by omega) h2
    simp only [Nat.add_sub_cancel] at a
    by_cases e:i=j
    · subst e; exact a
    · exact (ih (by omega) (by omega)).trans a
theorem zop (hc:CmpI ky N cmp) {p:Array Nat} (hA:Arr N p) {G:Nat→Shared→Prop}:∀ (f n:Nat) (s:Shared),1 ≤ n→n + f ≤ N →
    (∀ m,n ≤ m→m ≤ n + f→(∀ j,n ≤ j→j < m→¬ ky (gAr p j) < ky (gAr p (j - 1)))→(m < n + f→ky (gAr p m) < ky (gAr p (m - 1)))→G m s)→(PySem.W.kas_asc p f n).kasWp cmp G s:=by
  intro f
  induction f with
  | zero=>intro n s h1 h2 k; exact k n (Nat.le_refl _) (Nat.le_refl _) (fun j a b=>by omega) (fun a=>by omega)
  | succ f ih =>
    intro n s h1 h2 k
    refine hc (gAr p n) (gAr p (n - 1)) (hA.lt (by omega)) (hA.lt (by omega)) _ s ?_
    by_cases lt:ky (gAr p n) < ky (gAr p (n - 1))
    · rw [decide_eq_true lt]; dsimp only; rw [if_pos rfl]
      exact k n (Nat.le_refl _) (by omega) (fun j a b=>by omega) fun _=>lt
    · rw [decide_eq_false lt]; dsimp only; rw [if_neg (by simp)]
      refine ih (n + 1) s (by omega) (by omega) fun m a b c d=>k m (by omega) (by omega) (fun j e1 e2=>?_) (fun e=>d (by omega))
      by_cases e:j=n
      · subst e; exact lt
      · exact c j (by omega) e2
structure Ds (ky:Nat→Int) (N:Nat) (p:Array Nat) (n q:Nat):Prop where
  arr:Arr N p
  le:n ≤ N
  qn:q < n
  rest:∀ j,n ≤ j→j < N→gAr p j=j
  ord:∀ i j,i < j→j < n - 1 - q→Lx ky (gAr p j) (gAr p i)
  low:∀ i j,i < n - 1 - q→n - 1 - q ≤ j→j < n→ky (gAr p j) < ky (gAr p i)
  blk:∀ i j,n - 1 - q ≤ i→i < j→j < n→ky (gAr p i)=ky (gAr p j)∧gAr p i < gAr p j
theorem Ds.turn {p p':Array Nat} {n q:Nat} (D:Ds ky N p n q) (g':∀ k,gAr p' k=if n - 1 - q ≤ k∧k < n then gAr p (n - 1 - q + n - 1 - k) else gAr p k):∀ i j,i < j→j < n→Lx ky (gAr p' j) (gAr p' i):=by
  intro i j h1 h2
  rw [g',g']
  by_cases a:n - 1 - q ≤ i
  · rw [if_pos ⟨by omega,h2⟩,if_pos ⟨a,by omega⟩]
    have:=D.blk (n - 1 - q + n - 1 - j) (n - 1 - q + n - 1 - i) (by omega) (by omega) (by omega)
    exact .inr this
  · by_cases b:n - 1 - q ≤ j
    · rw [if_pos ⟨b,h2⟩,if_neg (by omega)]
      exact .inl (D.low i _ (by omega) (by omega) (by omega))
    · rw [if_neg (by omega),if_neg (by omega)]
      exact D.ord i j h1 (by omega)
theorem Ds.next {p p':Array Nat} {n q:Nat} (D:Ds ky N p n q) (hn:n < N) (hA:Arr N p') (g':∀ k,gAr p' k=if n - 1 - q ≤ k∧k < n then gAr p (n - 1 - q + n - 1 - k) else gAr p k) (lt:ky (gAr p n) < ky (gAr p (n - 1))):Ds ky N p' (n + 1) 0:=by
  have tn:=D.turn g'
  have hq:=D.qn
  have en:gAr p' n=gAr p n:=by rw [g',if_neg (by omega)]
  refine ⟨hA,hn,by omega,fun j a b=>?_,fun i j a b=>tn i j a (by omega),fun i j a b c=>?_,fun i j a b c=>by omega⟩
  · rw [g',if_neg (by omega)]; exact D.rest j (by omega) b
  · have ej:j=n:=by omega
    subst ej
    rw [en,g']
    by_cases z:j - 1 - q ≤ i
    · rw [if_pos ⟨z,by omega⟩]
      have e:ky (gAr p (j - 1 - q + j - 1 - i))=ky (gAr p (j - 1)):=by
        by_cases y:j - 1 - q + j - 1 - i=j - 1
        · rw [y]
        · exact (D.blk _ (j - 1) (by omega) (by omega) (by omega)).1
      omega
    · rw [if_neg (by omega)]
      have:=D.low i (j - 1) (by omega) (by omega) (by omega)
      omega
theorem zpk (hc:CmpI ky N cmp) {G:Array Nat × Nat × Nat→Shared→Prop} {s:Shared} (k:∀ p m q,Ds ky N p m q→G (p,m,q) s):∀ (f:Nat) (p:Array Nat) (n q:Nat),n + f=N→Ds ky N p n q→(PySem.W.kas_desc f p n q).kasWp cmp G s:=by
  intro f
  induction f with
  | zero=>intro p n q _ D; exact k p n q D
  | succ f ih =>
    intro p n q hn D
    have hq:=D.qn
    refine hc (gAr p n) (gAr p (n - 1)) (D.arr.lt (by omega)) (D.arr.lt (by omega)) _ s ?_
    by_cases lt:ky (gAr p n) < ky (gAr p (n - 1))
    · rw [decide_eq_true lt]; dsimp only; rw [if_pos rfl]
      by_cases q0:q > 0
      · rw [if_pos q0]
        refine ih _ (n + 1) 0 (by omega) (D.next (by omega) (D.arr.rev _ _) (fun k=>?_) lt)
        have e:=zge (p:=p) (i:=n - (q + 1)) (j:=n) (by rw [D.arr.size]; omega) k
        rw [show n - (q + 1)=n - 1 - q by omega] at e ⊢
        exact e
      · rw [if_neg q0]
        refine ih _ (n + 1) 0 (by omega) (D.next (by omega) D.arr (fun k=>?_) lt)
        by_cases z:n - 1 - q ≤ k∧k < n
        · rw [if_pos z]; congr 1; omega
        · rw [if_neg z]
    · rw [decide_eq_false lt]; dsimp only; rw [if_neg (by simp)]
      refine hc (gAr p (n - 1)) (gAr p n) (D.arr.lt (by omega)) (D.arr.lt (by omega)) _ s ?_
      by_cases lt2:ky (gAr p (n - 1)) < ky (gAr p n)
      · rw [decide_eq_true lt2]; dsimp only; rw [if_pos rfl]
        exact k p n q D
      · rw [decide_eq_false lt2]; dsimp only; rw [if_neg (by simp)]
        have en:=D.rest n (Nat.le_refl _) (by omega)
        refine ih p (n + 1) (q + 1) (by omega) ⟨D.arr,by omega,by omega,fun j a b=>D.rest j (by omega) b,fun i j a b=>D.ord i j a (by omega),fun i j a b c=>?_,fun i j a b c=>?_⟩
        · by_cases e:j=n
          · subst e
            have:=D.low i (j - 1) (by omega) (by omega) (by omega)
            omega
          · exact D.low i j (by omega) (by omega) (by omega)
        · by_cases e:j=n
          · subst e
            have l:=D.arr.below (i:=i) D.rest (by omega) (by omega)
            refine ⟨?_,by rw [en]; exact l⟩
            by_cases y:i=j - 1
            · subst y; omega
            · have:=(D.blk i (j - 1) (by omega) (by omega) (by omega)).1
              omega
          · exact D.blk i j (by omega) b (by omega)
theorem zka (hc:CmpI ky N cmp) {p:Array Nat} {n:Nat} {G:Nat × Array Nat→Shared→Prop} {s:Shared} (hA:Arr N p) (h1:1 ≤ n) (hn:n ≤ N) (fall:∀ i j,i < j→j < n→Lx ky (gAr p j) (gAr p i)) (rest:∀ j,n ≤ j→j < N→gAr p j=j)
    (k:∀ m p',1 ≤ m→Pre ky N p' m→G (m,p') s):(PySem.W.kas_tail3 n N p).kasWp cmp G s:=by
  unfold PySem.W.kas_tail3
  rw [PySem.W.KasT.kasWp_bind]
  have g':=zge (p:=p) (i:=0) (j:=n) (by rw [hA.size]; exact hn)
  have rest':∀ j,n ≤ j→j < N→gAr (PySem.W.kas_rev p 0 n) j=j:=fun j a b=>by rw [g',if_neg (by omega)]; exact rest j a b
  refine zop hc (hA.rev 0 n) (N - n) n s h1 (by omega) fun m a b c _=>k m _ (by omega) ⟨hA.rev 0 n,by omega,zm2 fun j j0 jm=>?_,fun j x y=>rest' j (by omega) y⟩
  by_cases jn:j < n
  · rw [g',g',if_pos ⟨by omega,by omega⟩,if_pos ⟨by omega,jn⟩]
    exact fall _ _ (by omega) (by omega)
  · have cj:=c j (by omega) jm
    have ej:=rest' j (by omega) (by omega)
    have lj:gAr (PySem.W.kas_rev p 0 n) (j - 1) < j:=by
      by_cases e:j=n
      · subst e; exact (hA.rev 0 j).below rest' (by omega) hn
      · rw [rest' (j - 1) (by omega) (by omega)]; omega
    unfold Lx
    rw [ej] at cj ⊢
    omega
theorem zgy (hc:CmpI ky N cmp) {p:Array Nat} {n:Nat} {G:Nat × Array Nat→Shared→Prop} {s:Shared} (hn:n < N) (D:Ds ky N p (n + 1) 0)
    (k:∀ m p',1 ≤ m→Pre ky N p' m→G (m,p') s):(PySem.W.kas_descPart n N p).kasWp cmp G s:=by
  unfold PySem.W.kas_descPart
  rw [PySem.W.KasT.kasWp_bind]
  refine zpk hc (fun p' m q D'=>?_) _ p (n + 1) 0 (by omega) D
  have hq:=D'.qn
  have hle:=D'.le
  show PySem.W.KasT.kasWp cmp (if q > 0 then _ else _) G s
  by_cases q0:q > 0
  · rw [if_pos q0]
    have e:m - (q + 1)=m - 1 - q:=by omega
    refine zka (n:=m) hc (D'.arr.rev _ _) (by omega) hle (D'.turn fun k=>?_) (fun j a b=>?_) k
    · have z:=zge (p:=p') (i:=m - (q + 1)) (j:=m) (by rw [D'.arr.size]; exact hle) k
      rw [e] at z ⊢; exact z
    · show gAr (PySem.W.kas_rev p' (m - (q + 1)) m) j=j
      rw [zge (by rw [D'.arr.size]; exact hle),if_neg (by omega)]; exact D'.rest j a b
  · rw [if_neg q0]
    refine zka (n:=m) hc D'.arr (by omega) hle (D'.turn fun k=>?_) D'.rest k
    by_cases z:m - 1 - q ≤ k∧k < m
    · rw [if_pos z]; congr 1; omega
    · rw [if_neg z]
theorem zmY (N:Nat):Arr N (List.toArray (List.range N)):=Array.Perm.refl _
theorem zbe {N j:Nat} (h:j < N):gAr (List.toArray (List.range N)) j=j:=by simp [gAr,Array.getD,h]
theorem zne (hc:CmpI ky N cmp) (hN:1 ≤ N) {G:Nat × Array Nat→Shared→Prop} {s:Shared} (k:∀ m p',1 ≤ m→Pre ky N p' m→G (m,p') s):(PySem.W.kas_count N (List.toArray (List.range N))).kasWp cmp G s:=by
  unfold PySem.W.kas_count
  rw [PySem.W.KasT.kasWp_bind]
  have hA:=zmY N
  refine zop hc hA (N - 1) 1 s (Nat.le_refl _) (by omega) fun n a b c d=>?_
  have up:Pre ky N (List.toArray (List.range N)) n:=⟨hA,by omega,zm2 fun j j0 jm=>by
    have cj:=c j (by omega) jm
    rw [zbe (show j < N by omega),zbe (show j - 1 < N by omega)] at cj ⊢
    unfold Lx; omega,fun j _ y=>zbe y⟩
  by_cases e:n=N
  · rw [if_pos (by simp [e])]
    exact k n _ (by omega) up
  · rw [if_neg (by simp [e])]
    have dn:=d (by omega)
    rw [zbe (show n < N by omega),zbe (show n - 1 < N by omega)] at dn
    by_cases n1:n > 1
    · rw [if_pos n1]
      refine hc _ _ (hA.lt (by omega)) (hA.lt (by omega)) _ s ?_
      rw [zbe (show 0 < N by omega),zbe (show n - 1 < N by omega)]
      by_cases lt:ky 0 < ky (n - 1)
      · rw [decide_eq_true lt]; dsimp only; rw [if_pos rfl]
        exact k n _ (by omega) up
      · rw [decide_eq_false lt]; dsimp only; rw [if_neg (by simp)]
        have all:∀ i,i < n→ky i=ky (n - 1):=fun i hi=>by
          have h0:ky 0 ≤ ky i:=by
            by_cases z:i=0
            · subst z; exact Int.le_refl _
            · have:=(up.ord 0 i (by omega) hi).le
              rwa [zbe (show 0 < N by omega),zbe (show i < N by omega)] at this
          have h2:ky i ≤ ky (n - 1):=by
            by_cases z:i=n - 1
            · subst z; exact Int.le_refl _
            · have:=(up.ord i (n - 1) (by omega) (by omega)).le
              rwa [zbe (show n - 1 < N by omega),zbe (show i < N by omega)] at this
          omega
        have g':∀ k,k < N→gAr (PySem.W.kas_rev (List.toArray (List.range N)) 0 n) k=if k < n then n - 1 - k else k:=fun k hk=>by
          rw [zge (by rw [hA.size]; omega)]
          by_cases z:k < n
          · rw [if_pos ⟨by omega,z⟩,if_pos z,zbe (by omega)]; omega
          · rw [if_neg (by omega),if_neg z,zbe hk]
        refine zgy hc (by omega) ⟨hA.rev 0 n,by omega,by omega,fun j x y=>?_,fun i j x y=>?_,fun i j x y z=>?_,fun i j x y z=>by omega⟩ k
        · rw [g' j y,if_neg (by omega)]
        · rw [g' j (by omega),g' i (by omega),if_pos (by omega),if_pos (by omega)]
          exact .inr ⟨by rw [all (n - 1 - j) (by omega),all (n - 1 - i) (by omega)],by omega⟩
        · have ej:j=n:=by omega
          subst ej
          rw [g' j (by omega),g' i (by omega),if_neg (by omega),if_pos (by omega),all (j - 1 - i) (by omega)]
          exact dn
    · rw [if_neg n1]
      have e1:n=1:=by omega
      subst e1
      refine zgy hc (by omega) ⟨hA,by omega,by omega,fun j x y=>zbe y,fun i j x y=>by omega,fun i j x y z=>?_,fun i j x y z=>by omega⟩ k
      have ej:j=1:=by omega
      have ei:i=0:=by omega
      subst ej ei
      rw [zbe (show 1 < N by omega),zbe (show 0 < N by omega)]
      exact dn
theorem znp (hc:CmpI ky N cmp) {p:Array Nat} {k:Nat} (hp:Pre ky N p k) (hk:k < N) {G:Nat→Shared→Prop} {s:Shared}
    (fin:∀ l,l ≤ k→(∀ j,j < l→ky (gAr p j) ≤ ky (gAr p k))→(∀ j,l ≤ j→j < k→ky (gAr p k) < ky (gAr p j))→G l s):∀ (f l r:Nat),l ≤ r→r ≤ k→r - l ≤ f →
    (∀ j,j < l→ky (gAr p j) ≤ ky (gAr p k))→(∀ j,r ≤ j→j < k→ky (gAr p k) < ky (gAr p j))→(PySem.W.kas_place p k f l r).kasWp cmp G s:=by
  intro f
  induction f with
  | zero =>
    intro l r h1 h2 h3 a b
    have e:r=l:=by omega
    subst e
    exact fin r h2 a b
  | succ f ih =>
    intro l r h1 h2 h3 a b
    unfold PySem.W.kas_place
    by_cases e:l ≥ r
    · rw [if_pos e]
      have e':r=l:=by omega
      subst e'
      exact fin r h2 a b
    · rw [if_neg e]
      refine hc _ _ (hp.arr.lt hk) (hp.arr.lt (by omega)) _ s ?_
      have mono:∀ i j,i ≤ j→j < k→ky (gAr p i) ≤ ky (gAr p j):=fun i j x y=>by
        by_cases z:i=j
        · subst z; exact Int.le_refl _
        · exact (hp.ord i j (by omega) y).le
      by_cases lt:ky (gAr p k) < ky (gAr p ((l + r) / 2))
      · rw [decide_eq_true lt]; dsimp only; rw [if_pos rfl]
        refine ih l ((l + r) / 2) (by omega) (by omega) (by omega) a fun j x y=>?_
        have:=mono ((l + r) / 2) j x y
        omega
      · rw [decide_eq_false lt]; dsimp only; rw [if_neg (by simp)]
        refine ih ((l + r) / 2 + 1) r (by omega) h2 (by omega) (fun j x=>?_) b
        have:=mono j ((l + r) / 2) (by omega) (by omega)
        omega
theorem zqf (hc:CmpI ky N cmp) {G:Array Nat→Shared→Prop} {s:Shared} (fin:∀ p,Pre ky N p N→G p s):∀ (f:Nat) (p:Array Nat) (k:Nat),k + f=N→Pre ky N p k→(PySem.W.kas_bin f p k).kasWp cmp G s:=by
  intro f
  induction f with
  | zero =>
    intro p k e hp
    have e':k=N:=by omega
    subst e'
    exact fin p hp
  | succ f ih =>
    intro p k e hp
    unfold PySem.W.kas_bin
    rw [PySem.W.KasT.kasWp_bind]
    refine znp hc hp (by omega) (fun l hl a b=>ih _ (k + 1) (by omega) ?_) k 0 k (by omega) (Nat.le_refl _) (by omega) (fun j x=>by omega) fun j x y=>by omega
    have g':=zoD (p:=p) (s:=k) (d:=k - l) (by rw [hp.arr.size]; omega) (by omega)
    have ek:=hp.rest k (Nat.le_refl _) (by omega)
    have bl:∀ i,i < k→gAr p i < k:=fun i hi=>hp.arr.below hp.rest hi hp.le
    rw [show k - (k - l)=l by omega] at g'
    refine ⟨hp.arr.bub _ _,by omega,fun i j x y=>?_,fun j x y=>?_⟩
    · rw [g',g']
      by_cases i1:i=l
      · rw [if_pos i1,if_neg (by omega),if_pos ⟨by omega,by omega⟩]
        exact .inl (b (j - 1) (by omega) (by omega))
      · rw [if_neg i1]
        by_cases j1:j=l
        · rw [if_pos j1,if_neg (by omega)]
          have h1:=a i (by omega)
          have h2:=bl i (by omega)
          unfold Lx; rw [ek] at h1 ⊢; omega
        · rw [if_neg j1]
          by_cases i2:l < i∧i ≤ k
          · rw [if_pos i2,if_pos ⟨by omega,by omega⟩]
            exact hp.ord _ _ (by omega) (by omega)
          · rw [if_neg i2]
            by_cases j2:l < j∧j ≤ k
            · rw [if_pos j2]
              exact hp.ord _ _ (by omega) (by omega)
            · rw [if_neg j2]
              exact hp.ord _ _ x (by omega)
    · rw [g',if_neg (by omega),if_neg (by omega)]
      exact hp.rest j (by omega) y
theorem zps (hc:CmpI ky N cmp) (hN:1 ≤ N) {G:Array Nat→Shared→Prop} {s:Shared} (fin:∀ p,Pre ky N p N→G p s):(PySem.W.kas_sort N).kasWp cmp G s:=by
  unfold PySem.W.kas_sort
  rw [PySem.W.KasT.kasWp_bind]
  refine zne hc hN fun m p h1 hp=>?_
  show PySem.W.KasT.kasWp cmp (if m < N then _ else _) G s
  by_cases e:m < N
  · rw [if_pos e]
    have em:max m 1=m:=by omega
    show PySem.W.KasT.kasWp cmp (PySem.W.kas_bin (N - max m 1) p (max m 1)) G s
    rw [em]
    exact zqf hc fin (N - m) p m (by omega) hp
  · rw [if_neg e]
    have e':m=N:=by have:=hp.le; omega
    subst e'
    exact fin p hp
end
def zb8 (ky:Nat→Int) (N:Nat):List Nat:=(List.range N).mergeSort fun i j=>decide (ky i < ky j∨(ky i=ky j∧i ≤ j))
theorem zbO (ky:Nat→Int) (N:Nat):(zb8 ky N).Perm (List.range N):=List.mergeSort_perm ..
theorem zh6 (ky:Nat→Int) (N:Nat):(zb8 ky N).Pairwise (Lx ky):=by
  have h:=List.pairwise_mergeSort (le:=fun i j:Nat=>decide (ky i < ky j∨(ky i=ky j∧i ≤ j))) (fun a b c h1 h2=>by simp at *; omega) (fun a b=>by simp; omega) (List.range N)
  have nd:(zb8 ky N).Nodup:=(zbO ky N).nodup_iff.mpr List.nodup_range
  refine (List.Pairwise.and h nd).imp fun {a b} h=>?_
  have h1:=h.1
  have h2:=h.2
  simp only [decide_eq_true_eq] at h1
  unfold Lx
  omega
theorem zlO {ky:Nat→Int} {N:Nat} {l:List Nat} (hp:l.Perm (List.range N)) (hs:l.Pairwise (Lx ky)):l=zb8 ky N :=
  List.Perm.eq_of_pairwise (fun a b _ _ h1 h2=>by unfold Lx at *; omega) hs (zh6 ky N) (hp.trans (zbO ky N).symm)
theorem zkt {ky:Nat→Int} {N:Nat} {p:Array Nat} (hp:Pre ky N p N):p.toList=zb8 ky N:=by
  refine zlO hp.arr.list ?_
  rw [List.pairwise_iff_getElem]
  intro i j hi hj hij
  have sz:=hp.arr.size
  have hi':i < N:=by simpa [sz] using hi
  have hj':j < N:=by simpa [sz] using hj
  have e1:=hp.arr.get hi'
  have e2:=hp.arr.get hj'
  rw [List.getElem?_eq_getElem hi] at e1
  rw [List.getElem?_eq_getElem hj] at e2
  rw [Option.some.inj e1,Option.some.inj e2]
  exact hp.ord i j hij hj'
end L2
namespace L2
open PySem PySem.Spec PyProof.Rows
section
variable {prog:Program} {w:World} {A:Around} {E:Value→Shared→Prop} {s:Shared}
abbrev Kp (g h:Heap):Prop:=∀ b o,g.get? b=some o→h.get? b=some o
theorem zjn {Q:List Value→Shared→Prop} {r:Addr} {a b c:Int} {t u v:Tok} {n:Nat} (hh:A.handled=none) (hr:IsRange s.heap r a b c t u v) (hs:Builtin.Range.small a b c=true) (hn:Builtin.Range.rangeSize a b c=n) (hl:n ≤ 2 ^ 24)
    (hQ:∀ h' tk acc,Kp s.heap h'→ItemsOf (fun i v=>∃ t,v = .int (a + i * c) t) acc n→Q acc.toList { s with heap:=h',toks:=tk }):wpAny (model prog w) A (collect (.ref r)) Q E s:=by
  have core:∀ R:Result→Shared→Prop,(∀ h' tk acc c',Kp s.heap h'→h'.get? s.heap.objs.size=some (seqObj "list" acc c')→ItemsOf (fun i v=>∃ t,v = .int (a + i * c) t) acc n→R (.ok (.ret (.ref s.heap.objs.size))) { s with heap:=h',toks:=tk }) →
      codeAny (model prog w) A (.builtin "proto.collect" ⟨[.ref r],[]⟩) R s:=by
    intro R hR
    refine codeAny_builtin F.entry_proto_collect ((Around.under_plainId F.plain_proto_collect (A:=A) _).symm ▸ ?_)
    refine wpAny_bind (m:=newList []) (wpAny_newList ?_ (by simp))
    refine wpAny_pure ⟨plainId_quiet F.plain_list_iadd _,codeAny_builtin F.entry_list_iadd ((Around.under_plainId F.plain_list_iadd (A:=A) _).symm ▸ ?_)⟩
    have atS:(s.heap.push (seqObj "list" #[] 0)).get? s.heap.objs.size=some (seqObj "list" #[] 0):=Heap.get?_push_size _ rfl
    show wpAny _ A.in1 (Builtin.List.listExtendWith (.ref s.heap.objs.size) (.ref r) (.ref s.heap.objs.size)) _ _ _
    refine wpAny_extend_range (R:=R) (s:={ s with heap:=s.heap.push (seqObj "list" #[] 0) }) hh (Heap.get?_push_of_some _ hr) hs hn hl _ _ 0 atS fun h' tk acc c' kp at' items=>hR h' tk acc c' (fun b o e=>?_) at' items
    exact kp b o (Nat.ne_of_lt (Heap.lt_size e)) (Heap.get?_push_of_some _ e)
  unfold collect
  refine wpAny_bind (wpAny_runValue (core _ fun h' tk acc c' kp at' items=>?_))
  show wpAny _ A (load s.heap.objs.size >>= _) _ _ _
  exact wpAny_bind (wpAny_load at' (wpAny_pure (hQ h' tk acc kp items)))
theorem znf {env:Env} {x n:Str} {p1 p2 p3 p4:Pos} {cc a:Addr} {m:Str→Option Value} {i z:Int} {t tz:Tok} {its:List Value} {Q:Value→Shared→Prop}
    (hk:env.scope.kind = .function) (hx:env.kindOf x=some .free) (hcx:env.cells.lookup x=some cc) (hcell:s.heap.IsCell cc (some (.ref a))) (hn:env.kindOf n=some .local) (hns:s.heap.Ns env.locals m) (hm:m n=some (.int i t))
    (hl:s.heap.IsList a its.toArray) (h0:0 ≤ i) (h63:i < 2 ^ 63) (hi:its[i.toNat]?=some (.int z tz)) (d1:(x == ("__debug__" : Str))=false) (d2:(x == ("__classdict__" : Str))=false) (d3:(n == ("__debug__" : Str))=false)
    (h:Q (.int (-z) s.toks) { s with toks:=s.toks + 1 }):wpAny (model prog w) A (eval (.UnaryOp .USub (.Subscript (.Name x p1) (.Name n p2) p3) p4) env) Q E s:=by
  refine UnaryOp_ (Subscript_ (wpAny_Name (wpAny_loadName_free hk hx hcx hcell (wpAny_Name (wpAny_loadName_local hk hn hns hm ?_) d3) d2) d1))
  exact item_listR hl h0 h63 (by simpa using hi) (neg_int h) rfl
theorem znm {f cc c a:Addr} {q x n:Str} {params:Arguments} {sc:Scope} {pm ctv:Value} {p1 p2 p3 p4:Pos} {cl:List (Str × Addr)} {i z:Int} {t tz:Tok} {its:List Value} {Q:Value→Shared→Prop} (hr:A.depth < recursionLimit)
    (ho:s.heap.get? f=some (PySem.W.kla_obj "<lambda>" q params (.UnaryOp .USub (.Subscript (.Name x p1) (.Name n p2) p3) p4) sc cl pm c ctv)) (hcd:s.heap.CodeRec (.ref c) q) (lim:s.heap.NoLimit)
    (hb:∀ v:Value,bindArgs (PySem.W.kla_fn "<lambda>" q params (.UnaryOp .USub (.Subscript (.Name x p1) (.Name n p2) p3) p4) sc cl pm (.ref c) ctv) ⟨[v],[]⟩=pure [(n,v)]) (hk:sc.kind = .function) (hco:sc.isCoroutine=false) (hge:sc.isGenerator=false)
    (hnc:∀ y ∈ sc.names,y.2 ≠ .cell) (hn:sc.names.lookup n=some .local) (hx:sc.names.lookup x=some .free) (hcx:cl.lookup x=some cc) (hcell:s.heap.IsCell cc (some (.ref a))) (hl:s.heap.IsList a its.toArray) (h0:0 ≤ i) (h63:i < 2 ^ 63)
    (hi:its[i.toNat]?=some (.int z tz)) (d1:(x == ("__debug__" : Str))=false) (d2:(x == ("__classdict__" : Str))=false) (d3:(n == ("__debug__" : Str))=false)
    (h:∀ h' tk t',Kp s.heap h'→Q (.int (-z) t') { s with heap:=h',toks:=tk }):wpAny (model prog w) A (call (.ref f) [.int i t]) Q E s:=by
  refine wpAny_call (PySem.W.kla_callFunE hr ho rfl hco hge rfl hcd ?_)
  rw [hb]
  refine wpAny_pure (wpAny_newFunctionEnv hnc (fun y hy=>?_) (fun h1 hns hsb=>⟨lim.fresh _ hsb,?_⟩) hk)
  · obtain rfl:y=(n,.int i t):=by simpa using hy
    exact hn
  have kp:Kp s.heap h1:=fun b o e=>hsb.extBut b o (Nat.ne_of_lt (Heap.lt_size e)) (Heap.get?_push_of_some _ e)
  show codeAny _ _ (.expr _ (PySem.W.envX q sc s.heap.objs.size f (.ref c) cl)) _ _
  refine PySem.W.kla_codeExpr (znf (cc:=cc) (a:=a) (i:=i) (t:=t) (its:=its) (z:=z) (tz:=tz) hk hx hcx (hcell.keeps kp) hn hns (by simp) (let ⟨o,e,r⟩:=hl; ⟨o,kp _ _ e,r⟩) h0 h63 hi d1 d2 d3 ?_)
  exact h _ _ _ kp
theorem zhf {g:Heap} {a:Addr} {xs:Array Value} {n:Nat} (e:g.get? a=some (seqObj "list" xs n)) (f:Array Value→Array Value):∃ c,(g.update a (Obj.mapSeq f)).get? a=some (seqObj "list" (f xs) c):=⟨_,get?_update_seq e f⟩
theorem zj8 {g h:Heap} {a:Addr} (k:Kp g h) (na:g.get? a=none) (f:Obj→Obj):Kp g (h.update a f):=fun b o e=>((Heap.SameBut.update h a f).2 b (fun z=>by rw [z,na] at e; cases e)).trans (k b o e)
theorem zig {vs:List Value} {kz:List Int} (h:IntsAre vs kz) {i:Nat} (hi:i < kz.length):∃ t,vs.getD i .none = .int (kz.getD i 0) t:=by
  obtain ⟨t,e⟩:=h.get i (kz.getD i 0) (by simp [hi])
  exact ⟨t,by rw [List.getD_eq_getElem?_getD,e]; rfl⟩
theorem zk7 {a kS:Addr} {vs:List Value} {kz:List Int} {keys:Array Value} {e e1:Nat} {P:PySem.Fin→Shared→Prop} (g0:Heap) (na:g0.get? a=none) (nk:g0.get? kS=none) (hka:kS ≠ a) (K0:Kp g0 s.heap)
    (hk:s.heap.get? kS=some (seqObj "list" keys e)) (ha:s.heap.get? a=some (seqObj "list" #[] e1)) (ik:IntsAre keys.toList kz) (hlen:kz.length=vs.length) (h64:vs.length < 64)
    (fin:∀ h' c,Kp g0 h'→h'.get? a=some (seqObj "list" (List.toArray ((zb8 (fun i=>kz.getD i 0) vs.length).map fun i=>vs.getD i .none)) c)→P (.done (.ret .none)) { s with heap:=h' }) :
    wpAny (model prog w) A (ksk_end a false vs.toArray e1 (.ref kS) keys) P E s:=by
  have szk:keys.size=vs.length:=by
    have:=ik.length
    rw [Array.length_toList] at this
    omega
  have tail:∀ (st:SortSt),(arrOf st).map (·.2)=List.toArray ((zb8 (fun i=>kz.getD i 0) vs.length).map fun i=>vs.getD i .none)→failedOf st=none→wpAny (model prog w) A (ksk_tail a false e1 (.ref kS) st) P E s:=by
    intro st har hf
    obtain ⟨ck,hck⟩:=zhf hk fun _=>#[]
    have K1:=zj8 K0 nk (Obj.mapSeq fun _=>(#[]:Array Value))
    have ha1:(s.heap.update kS (Obj.mapSeq fun _=>(#[]:Array Value))).get? a=some (seqObj "list" #[] e1):=((Heap.SameBut.update s.heap kS _).2 a hka.symm).trans ha
    obtain ⟨ca,hca⟩:=zhf ha1 fun _=>(arrOf st).map (·.2)
    have K2:=zj8 K1 na (Obj.mapSeq fun _=>(arrOf st).map (·.2))
    have ln:((arrOf st).map (·.2)).size=vs.length:=by
      rw [har,List.size_toArray,List.length_map,(zbO _ _).length_eq,List.length_range]
    unfold ksk_tail
    try dsimp only
    refine wpAny_bind (listUpdate_at hk rfl ?_ (by rw [szk,sizeLine_eq]; omega) (Nat.zero_le _))
    refine wpAny_bind (wpAny_letGo (wpAny_bind (seqEpoch_at ha1 rfl (wpAny_bind (listUpdate_at ha1 rfl ?_ (Nat.zero_le _) (Nat.le_trans (Nat.le_of_eq ln) (by rw [sizeLine_eq]; omega)))))))
    rw [hf]
    simp only [bne_self_eq_false,Bool.false_eq_true,if_false]
    refine wpAny_pure (fin _ ca K2 ?_)
    rw [har] at hca ⊢
    exact hca
  unfold ksk_end
  try dsimp only
  simp only [Bool.false_eq_true,if_false]
  by_cases h2:vs.toArray.size < 2
  · rw [if_pos h2,if_pos h2]
    refine wpAny_bind (wpAny_pure ?_)
    rw [StateT.run_pure]
    refine wpAny_bind (wpAny_pure (tail _ ?_ rfl))
    rw [List.size_toArray] at h2
    match vs,h2,hlen,szk with
    | [],_,_,z =>
      have:keys = #[]:=Array.eq_empty_of_size_eq_zero z
      subst this
      have e1:zb8 (fun i=>kz.getD i 0) 0 = []:=by
        have:=zbO (fun i=>kz.getD i 0) 0
        simpa using this
      show (((#[]:Array Value).zip #[]).map (·.2))=List.toArray ((zb8 _ 0).map _)
      rw [e1]; simp
    | [v],_,_,z =>
      have e1:zb8 (fun i=>kz.getD i 0) 1 = [0]:=by
        have:=zbO (fun i=>kz.getD i 0) 1
        simpa using this
      show (((keys.zip #[v])).map (·.2))=List.toArray ((zb8 _ 1).map _)
      rw [e1]
      apply Array.toList_inj.mp
      rw [Array.toList_map,show (#[v]:Array Value)=List.toArray [v] from rfl,ksk_zip]
      have:keys.toList.length=1:=by rw [Array.length_toList]; exact z
      match keys.toList,this with
      | [y],_=>rfl
    | _ :: _ :: _,h,_,_=>simp at h; omega
  · rw [if_neg h2,if_neg h2]
    rw [List.size_toArray] at h2
    rw [ksk_kind ik (by rw [szk]; omega)]
    refine wpAny_bind (wpAny_pure ?_)
    have ek:keys=List.toArray keys.toList:=by simp
    have run:=PySem.W.kat_run (prog:=prog) (w:=w) (A:=A) (E:=E) (s:=s) (vs:=vs) (ks:=keys.toList) (κ:=oneType')
      (Q:=fun st s'=>s'=s∧(arrOf st).map (·.2)=List.toArray ((zb8 (fun i=>kz.getD i 0) vs.length).map fun i=>vs.getD i .none)∧failedOf st=none)
      (G:=fun p s'=>s'=s∧p.toList=zb8 (fun i=>kz.getD i 0) vs.length)
      (by rw [Array.length_toList]; exact szk) (by omega) h64 (fun p st s' q1 q2 q3 q4=>⟨q4.1,by rw [PySem.W.kat_snds (by rw [Array.length_toList]; exact szk) q2,q4.2],q3⟩)
      (zps (ky:=fun i=>kz.getD i 0) (N:=vs.length) (fun i j hi hj C s' hC=>by
        obtain ⟨t,et⟩:=zig ik (i:=i) (by omega)
        obtain ⟨u,eu⟩:=zig ik (i:=j) (by omega)
        unfold PySem.W.kas_ask
        rw [et,eu]
        exact PySem.W.kat_lt_int hC) (by omega) fun p hp=>⟨rfl,zkt hp⟩)
    rw [← ek] at run
    refine wpAny_bind (wpAny_mono run (fun r s' hr=>?_) fun _ _ x=>x)
    obtain ⟨⟨⟩,st⟩:=r
    obtain ⟨rfl,q2,q3⟩:=hr
    exact tail st q2 q3
theorem zkp {a f:Addr} {vs:List Value} {kz:List Int} {n:Nat} {P:PySem.Fin→Shared→Prop} (g0:Heap) (na:g0.get? a=none) (K0:Kp g0 s.heap) (ho:s.heap.get? a=some (seqObj "list" vs.toArray n)) (hlen:kz.length=vs.length) (h64:vs.length < 64)
    (turn:∀ (i:Nat) (v:Value) (k:Int),vs[i]?=some v→kz[i]?=some k→∀ (h:Heap) (tk:Nat),Kp g0 h→∀ Q:Value→Shared→Prop,(∀ h' tk' t',Kp h h'→Q (.int k t') { s with heap:=h',toks:=tk' }) →
      wpAny (model prog w) A (call (.ref f) [v]) Q (fun _ _=>False) { s with heap:=h,toks:=tk })
    (fin:∀ h' tk c,Kp g0 h'→h'.get? a=some (seqObj "list" (List.toArray ((zb8 (fun i=>kz.getD i 0) vs.length).map fun i=>vs.getD i .none)) c)→P (.done (.ret .none)) { s with heap:=h',toks:=tk }) :
    wpAny (model prog w) A (ksk_tree a (.ref f) false) P E s:=by
  have la:=Heap.lt_size ho
  obtain ⟨e1,ho1⟩:=zhf ho fun _=>#[]
  have K1:=zj8 K0 na (Obj.mapSeq fun _=>(#[]:Array Value))
  unfold ksk_tree
  refine wpAny_bind (listItems_at ho rfl ?_)
  refine wpAny_bind (listUpdate_at ho rfl ?_ (by rw [List.size_toArray,sizeLine_eq]; omega) (Nat.zero_le _))
  refine wpAny_bind (seqEpoch_at ho1 rfl ?_)
  refine wpAny_bind (wpAny_newTuple ?_ (by show vs.length ≤ _; rw [sizeLine_eq]; omega))
  refine wpAny_bind (wpAny_newList ?_ (Nat.zero_le _))
  refine wpAny_holding ?_
  obtain ⟨kS,ekS⟩:∃ kS,kS=((s.heap.update a (Obj.mapSeq fun _=>(#[]:Array Value))).push (seqObj "tuple" vs.toArray 0)).objs.size:=⟨_,rfl⟩
  have kS1:kS=s.heap.objs.size + 1:=by rw [ekS,size_push',Heap.size_update]
  have nk:g0.get? kS=none:=by
    cases q:g0.get? kS with
    | none=>rfl
    | some o=>have z:=Heap.lt_size (K0 _ _ q); rw [kS1] at z; exact absurd z (by show ¬ (s.heap.objs.size + 1 < s.heap.objs.size); omega)
  have hka:kS ≠ a:=by
    rw [kS1]
    exact Nat.ne_of_gt (Nat.lt_succ_of_lt la)
  obtain ⟨h2,eh2⟩:∃ h2,h2=((s.heap.update a (Obj.mapSeq fun _=>(#[]:Array Value))).push (seqObj "tuple" vs.toArray 0)).push (seqObj "list" #[] 0):=⟨_,rfl⟩
  have K2:Kp g0 h2:=fun b o e=>by rw [eh2]; exact Heap.get?_push_of_some _ (Heap.get?_push_of_some _ (K1 b o e))
  have ha2:h2.get? a=some (seqObj "list" #[] e1):=by rw [eh2]; exact Heap.get?_push_of_some _ (Heap.get?_push_of_some _ ho1)
  have hk2:h2.get? kS=some (seqObj "list" #[] 0):=by rw [eh2,ekS]; exact Heap.get?_push_size _ rfl
  show wpAny (model prog w) A (ksk_rest a (.ref f) false vs.toArray e1 (.ref ((s.heap.update a (Obj.mapSeq fun _=>(#[]:Array Value))).push (seqObj "tuple" vs.toArray 0)).objs.size)) P E { s with heap:=((s.heap.update a (Obj.mapSeq fun _=>(#[]:Array Value))).push (seqObj "tuple" vs.toArray 0)).push (seqObj "list" #[] 0) }
  rw [← ekS,← eh2]
  unfold ksk_rest
  refine wpAny_bind (wpAny_rule ?_)
  rw [List.forIn_toArray]
  refine wpAny_bind (ksk_fold (fun i s'=>∃ h' tk kA e,s' = { s with heap:=h',toks:=tk }∧Kp g0 h'∧h'.get? kS=some (seqObj "list" kA e)∧h'.get? a=some (seqObj "list" #[] e1)∧IntsAre kA.toList (kz.take i)) vs 0 _
    ⟨h2,s.toks,#[],0,rfl,K2,hk2,ha2,by simpa using IntsAre.nil⟩ ?step ?done)
  case step =>
    rintro j x s' hx ⟨h',tk,kA,e,rfl,kp,hk,ha,ik⟩
    simp only [Nat.zero_add] at ik ⊢
    have hj:j < vs.length:=(List.getElem?_eq_some_iff.mp hx).1
    obtain ⟨k,hkj⟩:∃ k,kz[j]?=some k:=⟨_,List.getElem?_eq_getElem (by omega)⟩
    have hz:kA.size ≤ vs.length:=by
      have h1:=ik.length
      rw [Array.length_toList,List.length_take] at h1
      omega
    refine wpAny_bind (wpAny_attempt (wpAny_mono (turn j x k hx hkj h' tk kp _ fun h3 tk3 t3 k3=>?goal) (fun _ _ z=>z) fun _ _ hF=>hF.elim))
    case goal =>
      obtain ⟨c2,hc2⟩:=zhf (k3 _ _ hk) (·.push (.int k t3))
      have ek:kz.take (j + 1)=kz.take j ++ [k]:=by rw [List.take_add_one,hkj]; simp
      have ea:(kA.push (Value.int k t3)).toList=kA.toList ++ [Value.int k t3]:=by simp
      try dsimp only
      refine wpAny_bind (listUpdate_at (k3 _ _ hk) rfl ?_ (by rw [sizeLine_eq]; omega) (Nat.le_trans (Nat.le_of_eq (Array.size_push ..)) (by rw [sizeLine_eq]; omega)))
      refine wpAny_pure ⟨rfl,_,_,kA.push (.int k t3),c2,rfl,zj8 (fun b o q=>k3 _ _ (kp b o q)) nk _,hc2,?_,by rw [ea,ek]; exact ksk_snoc ik⟩
      exact ((Heap.SameBut.update h3 kS _).2 a hka.symm).trans (k3 _ _ ha)
  case done =>
    rintro s' ⟨h',tk,kA,e,rfl,kp,hk,ha,ik⟩
    have ik':IntsAre kA.toList kz:=by
      rw [show kz.take (0 + vs.length)=kz from List.take_of_length_le (by omega)] at ik
      exact ik
    try dsimp only
    refine wpAny_bind (listItems_at hk rfl ?_)
    exact zk7 g0 na nk hka kp hk ha ik' hlen h64 fun h3 c kp3 q=>fin h3 tk c kp3 q
theorem zkY {r f:Addr} {b:Int} {t u v:Tok} {kz:List Int} {Q:Value→Shared→Prop} (hh:A.handled=none) (hr:IsRange s.heap r 0 b 1 t u v) (hb:b=(kz.length:Nat)) (h64:kz.length < 64)
    (turn:∀ (i:Nat) (t:Tok) (k:Int),kz[i]?=some k→∀ (h:Heap) (tk:Nat),Kp s.heap h→∀ Q:Value→Shared→Prop,(∀ h' tk' t',Kp h h'→Q (.int k t') { s with heap:=h',toks:=tk' }) →
      wpAny (model prog w) A.in1.in1 (call (.ref f) [.int (i:Nat) t]) Q (fun _ _=>False) { s with heap:=h,toks:=tk })
    (fin:∀ D h' tk out c,s.heap.get? D=none→Kp s.heap h'→IntsAre out.toList ((zb8 (fun i=>kz.getD i 0) kz.length).map fun i:Nat=>(i:Int))→h'.get? D=some (seqObj "list" out c)→Q (.ref D) { s with heap:=h',toks:=tk }) :
    wpAny (model prog w) A (call (.builtin "sorted") [.ref r] [(Str.ofString "key",.ref f)]) Q E s:=by
  refine call_function_entry_kw kind_sorted plain_sorted entry_sorted (ksk_s1 _ _) ?_
  unfold Builtin.«sorted»
  refine wpAny_bind (m:=checkCount "sorted" 1 1 _) (wpAny_pure ?_)
  have sz:Builtin.Range.rangeSize 0 b 1=(kz.length:Int):=by rw [rangeSize_one]; split <;> omega
  refine wpAny_bind (zjn (A:=A.in1) hh hr (small_one (by decide) (by decide) (by omega) (by omega)) sz (by omega) fun h1 tk1 acc k1 items=>?_)
  have ln:acc.toList.length=kz.length:=by rw [Array.length_toList]; exact items.1
  have it:∀ i v,acc.toList[i]?=some v→∃ t,v=Value.int (i:Nat) t:=fun i v e=>by
    obtain ⟨t,et⟩:=items.2 i v (by simpa using e)
    exact ⟨t,by rw [et]; simp⟩
  refine wpAny_bind (wpAny_newList ?_ (by rw [ln,sizeLine_eq]; omega))
  obtain ⟨D,eD⟩:∃ D,D=h1.objs.size:=⟨_,rfl⟩
  have hD:(h1.push (seqObj "list" acc.toList.toArray 0)).get? D=some (seqObj "list" acc.toList.toArray 0):=by rw [eD]; exact Heap.get?_push_size _ rfl
  have nD:s.heap.get? D=none:=by
    cases q:s.heap.get? D with
    | none=>rfl
    | some o=>have z:=Heap.lt_size (k1 _ _ q); rw [eD] at z; exact absurd z (Nat.lt_irrefl _)
  show wpAny _ _ _ _ _ { s with heap:=h1.push (seqObj "list" acc.toList.toArray 0),toks:=tk1 }
  rw [← eD]
  refine wpAny_bind (wpAny_holding (wpAny_call_entry_kw slot_list_sort ⟨_,hD,rfl⟩ entry_list_sort ?body (ksk_l1 _ _)))
  case body =>
    show wpAny (model prog w) A.in1.in1 (Builtin.«list.sort» ⟨[.ref D],[(Str.ofString "key",.ref f)]⟩) _ _ _
    rw [ksk_t1]
    refine zkp (s:={ s with heap:=h1.push (seqObj "list" acc.toList.toArray 0),toks:=tk1 }) s.heap nD (fun b o e=>Heap.get?_push_of_some _ (k1 b o e)) hD ln.symm (by omega) (fun i v k hv hk h tk kp Q' hQ=>?_) fun h' tk c kp q=>⟨_,rfl,?_⟩
    · obtain ⟨t,rfl⟩:=it i v hv
      exact turn i t k hk h tk kp Q' hQ
    · refine wpAny_pure ⟨_,rfl,?_⟩
      rw [ln] at q
      refine fin D h' tk _ c nD kp ?_ q
      have all:∀ l:List Nat,(∀ i ∈ l,i < kz.length)→IntsAre (l.map fun i=>acc.toList.getD i .none) (l.map fun i:Nat=>(i:Int)):=fun l=>by
        induction l with
        | nil=>intro _; exact .nil
        | cons i l ih =>
          intro hl
          have hi:i < acc.toList.length:=by rw [ln]; exact hl i List.mem_cons_self
          obtain ⟨t,et⟩:=it i (acc.toList[i]) (List.getElem?_eq_getElem hi)
          have e:acc.toList.getD i .none = .int (i:Nat) t:=by rw [List.getD_eq_getElem?_getD,List.getElem?_eq_getElem hi]; exact et
          rw [List.map_cons,List.map_cons,e]
          exact .cons _ _ (ih fun j hj=>hl j (List.mem_cons_of_mem _ hj))
      simpa using all _ fun i hi=>by
        have:=(zbO _ _).mem_iff.mp hi
        simpa using this
end
section
variable {X:Cx} {pins:List (Addr × Obj)} {σ:St} {H:Hp} {s:Shared} {h':Heap}
theorem Inv.laidN {a:Addr} {o:HO} {t':Nat} (I:Inv X pins σ H s) (k:Kp s.heap h') (n:s.heap.get? a=none) (new:ObjOk X.prog X.w (upd H a o) h' a o):Inv X pins σ (upd H a o) { s with heap:=h',toks:=t' }:=by
  have hn:=I.hok.none_of n
  have ne:∀ b u,s.heap.get? b=some u→b ≠ a:=fun b u e z=>by rw [z,n] at e; cases e
  refine I.un ⟨fun b u q _ _ _=>k b u q,fun b u q _ _ _=>⟨u.slots,k b u q⟩,fun b u q z _=>by rw [zai (ne b u q)]; exact z,fun b u q _=>⟨u,k b u q⟩,fun b xs q=>by rw [zai (zah q hn)]; exact q,fun b u xs q=>by rw [zai (zah q hn)]; exact q,
    fun b ps q=>⟨#[],by rw [zai (zah q hn),q]; simp⟩⟩ fun b u e=>?_
  by_cases hb:b=a
  · subst hb; rw [zal] at e; cases e; exact new
  · rw [zai hb] at e
    exact (I.hok b u e).stay (fun c v _ q=>k c v q) (fun c q=>by rw [zai (zah q hn)]; exact q) fun c xs q=>by rw [zai (zah q hn)]; exact q
theorem Inv.filled {P c:Addr} {ps:Array Value} {t':Nat} (I:Inv X pins σ H s) (hP:H P=some (.tbl ps)) (k:∀ b o,b ≠ P→s.heap.get? b=some o→h'.get? b=some o) (n:s.heap.get? c=none) (ho:∃ o,h'.get? c=some o) (new:TblOk (upd H c (.own P)) h' P ps) :
    Inv X pins σ (upd H c (.own P)) { s with heap:=h',toks:=t' }:=by
  have hn:=I.hok.none_of n
  have ne:∀ b u,s.heap.get? b=some u→b ≠ c:=fun b u e z=>by rw [z,n] at e; cases e
  have nP:∀ b,H b=none→b ≠ P:=fun b e z=>by rw [z,hP] at e; cases e
  have cP:c ≠ P:=nP c hn
  have pt:∃ o,h'.get? P=some o:=let ⟨_,_,_,_,_,_,_,e,_⟩:=new; ⟨_,e⟩
  refine I.un ⟨fun b u q z _ _=>k b u (nP b z) q,fun b u q z _ _=>⟨u.slots,k b u (nP b z) q⟩,fun b u q z _=>by rw [zai (ne b u q)]; exact z,fun b u q _=>?_,fun b xs q=>by rw [zai (zah q hn)]; exact q,fun b u xs q=>by rw [zai (zah q hn)]; exact q,
    fun b ps q=>⟨#[],by rw [zai (zah q hn),q]; simp⟩⟩ fun b u e=>?_
  · by_cases z:b=P
    · subst z; exact pt
    · exact ⟨u,k b u z q⟩
  · by_cases hb:b=c
    · subst hb; rw [zal] at e; cases e; exact ho
    · rw [zai hb] at e
      by_cases z:b=P
      · subst z; rw [hP] at e; cases e; exact new
      · refine (I.hok b u e).stay (fun d v hd q=>k d v ?_ q) (fun d q=>by rw [zai (zah q hn)]; exact q) fun d xs q=>by rw [zai (zah q hn)]; exact q
        rcases hd with rfl | hd
        · exact z
        · rintro rfl; rw [hP] at hd; cases hd
def BmAt (mg:Str→Option Value) (h:Heap):Prop:=∃ bm ob,mg "__builtins__"=some (.ref bm)∧bm ≠ builtinsNs∧h.get? bm=some ob∧ob.cls = .type "module"∧ob.dict=some builtinsNs∧ob.data = .plain
theorem zqi {E:Value→Shared→Prop} {c P:Addr} {params:Arguments} {body:Expr} {sc:Scope} {pos:Pos} {cl:List (Str × Addr)} {Q:Value→Shared→Prop} (I:Inv X pins σ H s) (hT:zhq X.K=some (P,#[.str (X.env.qual ++ "<lambda>") 0,rawInt pos.line,rawInt pos.col])) (hC:PySem.W.codeHdIn X.K c P=true) (hc:X.env.code = .ref c)
    (hcl:closureFor sc X.env=pure cl) (hdef:defaultsOf params X.env=([],[])) (hB:BmAt X.mg X.base)
    (h:∀ (f c':Addr) (pm ctv:Value) (H':Hp) (s':Shared),Same H H'→Inv X pins σ H' s'→s'.heap.get? f=some (PySem.W.kla_obj "<lambda>" (X.env.qual ++ "<lambda>") params body sc cl pm c' ctv)→s'.heap.CodeRec (.ref c') (X.env.qual ++ "<lambda>")→Q (.ref f) s') :
    wpAny (model X.prog X.w) X.A (eval (.Lambda params body sc pos) X.env) Q E s:=by
  refine PySem.W.kla_eval hdef ?_
  obtain ⟨more,hP⟩:=I.ok.tb.grown I.base.tbls _ hT
  have hP:H P=some (.tbl (#[.str (X.env.qual ++ "<lambda>") 0,rawInt pos.line,rawInt pos.col] ++ more)):=hP
  obtain ⟨q,tq,ln,co,mr,real,e1,e2,e3⟩:=I.hok P _ hP
  have e1':Value.str (X.env.qual ++ "<lambda>") 0 :: rawInt pos.line :: rawInt pos.col :: more.toList = .str q tq :: rawInt ln :: rawInt co :: mr:=by rw [← e1]; simp
  have hgs:s.heap.Ns mainGlobals X.mg:=I.mod.glob.keeps I.bk
  have CH:PySem.W.CodeHd s.heap c P:=PySem.W.codeHd_of_K I.kIn hC
  have pne:∀ b o,X.base.get? b=some o→b ≠ P:=fun b o e z=>by
    have:=(I.bs b o e).2
    rw [z,hP] at this; cases this
  have hgP:mainGlobals ≠ P:=by
    obtain ⟨o,es,ep,e,_⟩:=I.mod.glob
    exact pne _ _ e
  have hbA:s.heap.BuiltinsAt X.mg P:=by
    obtain ⟨bm,ob,b1,b2,b3,b4,b5,b6⟩:=hB
    refine ⟨bm,ob,b1,b2,fun z=>?_,pne _ _ b3,I.bk _ _ b3,b4,b5,b6⟩
    obtain ⟨o,es,ep,e,d,_⟩:=I.mod.glob
    rw [z,e] at b3; cases b3; rw [d] at b6; cases b6
  injection e1' with f1 f2
  injection f1 with f3 f4
  injection f2 with f5 f6
  injection f6 with f7 f8
  injection f5 with f5 _
  injection f7 with f7 _
  subst f3 f5 f7
  rcases e3 with rfl | ⟨c',o,vs,u,rfl,r1,r2,r3,r4⟩
  · refine PySem.W.kla_makeFunction (mg:=X.mg) hcl I.ok.glob hgs hc CH e2 trivial rfl hgP hbA fun c' ctv h' tk hx hge hlt hrec htb=>?_
    obtain ⟨_,oc,vs,t,z,hoc,hd,hv⟩:=id hrec
    cases z
    have J:=I.filled (c:=c') (h':=h') (t':=tk) hP (fun b o hb e=>hx b o hb e) (Heap.get?_none_of_le hge) ⟨_,hoc⟩ ⟨_,_,_,_,_,_,e1,htb,.inr ⟨c',oc,vs,t,rfl,zal,hoc,hd,hv⟩⟩
    have kp:Kp h' (h'.push (PySem.W.kla_obj "<lambda>" (X.env.qual ++ "<lambda>") params body sc cl ((X.mg "__name__").getD .none) c' ctv)):=fun b o e=>Heap.get?_push_of_some _ e
    refine h _ c' _ ctv _ _ (Same.upd (I.hok.none_of (Heap.get?_none_of_le hge))) (J.kept (h':=h'.push (PySem.W.kla_obj "<lambda>" (X.env.qual ++ "<lambda>") params body sc cl ((X.mg "__name__").getD .none) c' ctv)) (t':=tk) kp) (Heap.get?_push_size _ rfl) ⟨c',oc,vs,t,rfl,kp _ _ hoc,hd,hv⟩
  · refine PySem.W.kla_makeFunctionHit (cv:=.ref c') (mg:=X.mg) hcl I.ok.glob hgs hc CH e2 trivial (by simp [codeAmong,rawInt]) hbA fun ctv h' tk hk hsz=>?_
    have kp:Kp s.heap (h'.push (PySem.W.kla_obj "<lambda>" (X.env.qual ++ "<lambda>") params body sc cl ((X.mg "__name__").getD .none) c' ctv)):=fun b o e=>Heap.get?_push_of_some _ (hk b o e)
    exact h _ c' _ ctv H _ (Same.refl _) (I.kept (t':=tk) kp) (Heap.get?_push_size _ rfl) ⟨c',o,vs,u,rfl,kp _ _ r2,r3,r4⟩
def zof (ta:TA) (ix:Nat):TE:=fun σ H Q=>ta σ H fun vs H1=>∃ (r a:Addr) (ns:List Int),vs = [.ref r]∧H1 r=some (.rng 0 (ns.length:Nat))∧σ[ix]?=some (some (.ref a))∧Rd H1 a (.lst (ns.map V.int))∧ns.length < 64 ∧
  ∀ H2 D,Same H1 H2→H2 D=none→Q (.ref D) (upd H2 D (.lst ((zb8 (fun i=>-(ns.getD i 0)) ns.length).map fun i:Nat=>V.int (i:Int))))
theorem znh {k ix:Nat} {it:Expr} {ta:TA} {c P:Addr} {x n:Str} {p0 p1 p2 p3 p4 lp kp pos:Pos} {params:Arguments} {sc:Scope} (hc:X.calm=true) (hr:Room k X.A) (hg:Gl X "sorted") (hm:X.mg "sorted"=none) (ha:PA X [it] ta)
    (hT:zhq X.K=some (P,#[.str (X.env.qual ++ "<lambda>") 0,rawInt lp.line,rawInt lp.col])) (hC:PySem.W.codeHdIn X.K c P=true) (hcd:X.env.code = .ref c) (hB:BmAt X.mg X.base)
    (hcl:∀ cc,X.env.cells.lookup x=some cc→closureFor sc X.env=pure [(x,cc)]) (hdef:defaultsOf params X.env=([],[]))
    (hb:∀ (q:Str) (cl:List (Str × Addr)) (pm ctv v:Value) (c:Addr),bindArgs (PySem.W.kla_fn "<lambda>" q params (.UnaryOp .USub (.Subscript (.Name x p1) (.Name n p2) p3) p4) sc cl pm (.ref c) ctv) ⟨[v],[]⟩=pure [(n,v)])
    (hN:X.N[ix]?=some x) (hv:X.env.kindOf x=some .cell) (hk:sc.kind = .function) (hco:sc.isCoroutine=false) (hge:sc.isGenerator=false) (hnc:∀ y ∈ sc.names,y.2 ≠ .cell) (hn:sc.names.lookup n=some .local) (hx:sc.names.lookup x=some .free)
    (d1:(x == ("__debug__" : Str))=false) (d2:(x == ("__classdict__" : Str))=false) (d3:(n == ("__debug__" : Str))=false)
    (he:backTo pos (starEach [it] X.env)=(false,eval it X.env) :: backTo pos (starEach [] X.env):=by rfl) (hpl:(backTo pos (starEach [it] X.env)).any (·.1)=false:=by rfl) :
    PE X (.Call (.Name "sorted" p0) [it] [⟨some "key",.Lambda params (.UnaryOp .USub (.Subscript (.Name x p1) (.Name n p2) p3) p4) sc lp,kp⟩] pos) (zof ta ix):=by
  intro pins s σ H Q I h
  refine wpAny_Call_Name_kw (zeG I hg hm rfl ?_)
  refine callWith_kw (thn (ha pos pins s σ H _ I h) fun us s1 ⟨vs,H1,I1,r1,r,a,ns,e1,hrn,hs,hq,hl,q⟩=>?_) he hpl
  subst e1
  obtain ⟨u,rfl,rx⟩:=zff r1
  cases rx
  obtain ⟨m0,hns0,hlk⟩:=I1.loc
  obtain ⟨u0,ru,lu⟩:=hlk ix x _ hN hs (.inr (.inl hv))
  obtain ⟨cc,ecc⟩:∃ cc,X.env.cells.lookup x=some cc:=by
    rcases lu with ⟨z,_⟩ | ⟨_,cc,e,_⟩
    · rw [hv] at z; cases z
    · exact ⟨cc,e⟩
  show wpAny _ _ (evalAll ((do let v ← eval _ X.env; standAt pos; pure v) :: [])) _ _ s1
  refine wpAny_evalAll_cons (wpAny_bind (zqi I1 hT hC hcd (hcl cc ecc) hdef hB fun f c' pm ctv H2 s2 sm I2 hf hrec=>wpAny_bind (wpAny_standAt (wpAny_pure (wpAny_evalAll_nil ?_)))))
  show wpAny _ _ (call (.builtin "sorted") [.ref r] [(Str.ofString "key",.ref f)]) _ _ s2
  obtain ⟨t,u1,v1,hrr⟩:=I2.hok r _ (sm _ _ hrn)
  have hq2:Rd H2 a (.lst (ns.map V.int)):=hq.elim (fun z=>.inl (sm _ _ z)) fun ⟨o,z⟩=>.inr ⟨o,sm _ _ z⟩
  obtain ⟨z,its,cnt,rv,hat⟩:=hq2.ok I2.hok
  have iv:=zjH rv
  have hcell:s2.heap.IsCell cc (some (.ref a)):=by
    obtain ⟨m,hns,hlk⟩:=I2.loc
    obtain ⟨u0,ru,lu⟩:=hlk ix x _ hN hs (.inr (.inl hv))
    cases ru
    rcases lu with ⟨z,_⟩ | ⟨_,c2,e,q⟩
    · rw [hv] at z; cases z
    · rw [ecc] at e; cases e; exact q
  have lim:=I2.nolimit
  refine zkY (A:=X.A) (kz:=ns.map fun z=>-z) (I2.ok.hd hc) hrr (by rw [List.length_map]) (by rw [List.length_map]; exact hl) (fun i t k hk' h' tk kp Q' hQ=>?_) fun D h' tk out cD nD kp io hD=>?_
  · rw [List.getElem?_map] at hk'
    cases e:ns[i]? with
    | none=>rw [e] at hk'; cases hk'
    | some z =>
      rw [e] at hk'
      have ek : -z=k:=Option.some.inj hk'
      subst ek
      obtain ⟨tz,ez⟩:=iv.get i z e
      exact znm (s:={ s2 with heap:=h',toks:=tk }) (A:=X.A.in1.in1) (its:=its) (tz:=tz) (show X.A.depth < recursionLimit from hr.depth) (kp _ _ hf) (hrec.keeps kp) (lim.keeps kp) (fun v=>hb _ _ _ _ v _) hk hco hge hnc hn hx (by simp) (hcell.keeps kp) ⟨_,kp _ _ hat,rfl,cnt,rfl⟩ (by omega) (by have:=(List.getElem?_eq_some_iff.mp e).1; omega) (by simpa using ez) d1 d2 d3 hQ
  · have eK:(fun i=>(ns.map fun z=>-z).getD i 0)=fun i=>-(ns.getD i 0):=by
      funext i
      rw [List.getD_eq_getElem?_getD,List.getElem?_map,List.getD_eq_getElem?_getD]
      cases ns[i]? <;> rfl
    rw [eK,List.length_map] at io
    refine ⟨.ref D,_,I2.laidN (a:=D) (o:=.lst ((zb8 (fun i=>-(ns.getD i 0)) ns.length).map fun i:Nat=>V.int (i:Int))) kp nD ⟨?_,out.toList,cD,?_,by simpa using hD⟩,rfl,q H2 D sm (I2.hok.none_of nD)⟩
    · rw [List.length_map,(zbO _ _).length_eq,List.length_range]
      exact Nat.le_trans (Nat.le_of_lt hl) (by decide)
    · have:=znG io
      rwa [List.map_map] at this
end
end L2
namespace PM
open PySem L2
section
variable {K:Kx} {XO:XOT} {E:L2.St→XK}
def ordK (ns:List Int):List Int:=(zb8 (fun i=>-(ns.getD i 0)) ns.length).map fun i:Nat=>(i:Int)
def zjf (d:D):Option D:=match d with
  | .lst l=>(asIs l).bind fun ns=>ifC (ns.length < 64) (some (.lst ((ordK ns).map .int))) none
  | _=>none
def zj4 (i:Nat) (δ:En):R D:=match δ[i]? with
  | some (.v d)=>R.of (zjf d)
  | _=>.no
theorem zkR {d d':D} (h:zjf d=some d'):∃ ns:List Int,d = .lst (ns.map .int)∧ns.length < 64∧d' = .lst ((ordK ns).map .int):=by
  unfold zjf at h
  split at h
  · rename_i l
    cases z:asIs l with
    | none=>rw [z] at h; cases h
    | some ns =>
      rw [z] at h
      simp only [Option.bind] at h
      unfold ifC at h
      split at h
      · rename_i hl
        cases h
        exact ⟨ns,by rw [zdp z],hl,rfl⟩
      · cases h
  · cases h
theorem zn3 {ns:List Int} (h:ns.length < 64):zjf (.lst (ns.map .int))=some (.lst ((ordK ns).map .int)):=by
  simp only [zjf,zes,Option.bind,zb7 h]
theorem zlU {i:Nat}:SEo K XO E (zof (zcy (zoU (zcy (tCB (fun xs H Q=>∃ p ys,xs = [.ref p]∧(SqL K.f H p ys∨SqT K.f H p ys)∧Q (.int ys.length) H) (zcy (tVar i) tNil)) tNil)) tNil) i) (zj4 i):=by
  intro Λ F0 H0 F H σ δ Q I a
  have sl:=I.slot i
  unfold zj4 at a
  cases e:δ[i]? with
  | none=>rw [e] at a; exact a.elim
  | some y =>
    cases y with
    | v d =>
      rw [e] at a sl
      dsimp only at a
      cases q:zjf d with
      | none=>rw [q] at a; exact a.elim
      | some d' =>
        rw [q] at a
        obtain ⟨ns,rfl,hl,rfl⟩:=zkR q
        obtain ⟨u,eu,ru⟩:=sl
        simp only [Rep] at ru
        obtain ⟨ad,vs,rfl,rd,rl⟩:=ru
        have evs:vs=ns.map V.int:=zcr rl
        subst evs
        have rdH:Rd H ad (.lst (ns.map V.int)):=PM.Same.rd I.ext.fh rd
        refine ⟨_,eu,ad,ns.map V.int,rfl,.inl (.inl rdH),?_⟩
        refine ⟨_,rfl,fun r hr=>⟨r,ad,ns,rfl,by rw [zal,List.length_map],eu,?_,hl,fun H2 D sm hD=>?_⟩⟩
        · exact PM.Same.rd (Same.upd hr) rdH
        · have s1:Same H H2:=(Same.upd hr).trans sm
          have x1:Ext F H F H2:=⟨.refl _,s1,I.ext.fh.trans s1,fun _ _ h _=>h⟩
          have x2:=x1.trans (.newO (o:=.lst ((zb8 (fun i=>-(ns.getD i 0)) ns.length).map fun i:Nat=>V.int (i:Int))) x1.fh hD)
          have hD1:H D=none:=s1.free hD
          refine a F _ x2 D (I.ext.fh.free hD1) hD1 ⟨_,zal,?_⟩
          have:=RepL.ints (K:=K) (F:=F) (ns:=ordK ns)
          unfold ordK at this
          rw [List.map_map,List.map_map] at this
          unfold ordK
          rw [List.map_map]
          exact this
    | no=>rw [e] at a; exact a.elim
    | o d=>rw [e] at a; exact a.elim
    | l d=>rw [e] at a; exact a.elim
    | p d=>rw [e] at a; exact a.elim
end
end PM
namespace L2
open PySem PySem.Spec PyProof.Rows
theorem zkC {K:PySem.W.Frag} {T:Addr × Array Value} (h:zhq K=some T):∃ (q:Str) (ln cl:Int),T.2 = #[.str q 0,rawInt ln,rawInt cl]:=by
  unfold zhq at h
  obtain ⟨p,_,e⟩:=List.exists_of_findSome?_eq_some h
  split at e
  · split at e
    · obtain ⟨P,_,e⟩:=Option.map_eq_some_iff.mp e
      subst e
      exact ⟨_,_,_,rfl⟩
    · cases e
  · cases e
def zh9 (K:PySem.W.Frag) (P:Addr):Bool :=
  (match zhq K with | some t=>t.1 == P | none=>false) && (K.lookup P).isNone && K.any fun p=>match p.2.data with
    | .func fd=>match fd.code with
      | .ref c=>PySem.W.codeHdIn K c P
      | _=>false
    | _=>false
theorem zlF {K:PySem.W.Frag} {P:Addr} (h:zh9 K P=true):(∃ arr,zhq K=some (P,arr))∧K.lookup P=none∧∃ c,PySem.W.codeHdIn K c P=true:=by
  unfold zh9 at h
  simp only [Bool.and_eq_true] at h
  obtain ⟨⟨h1,h2⟩,h3⟩:=h
  refine ⟨?_,by simpa using h2,?_⟩
  · split at h1
    · rename_i t e
      obtain ⟨x,arr⟩:=t
      have:x=P:=by simpa using h1
      subst this
      exact ⟨arr,e⟩
    · cases h1
  · obtain ⟨p,_,e⟩:=List.any_eq_true.mp h3
    split at e
    · split at e
      · exact ⟨_,e⟩
      · cases e
    · cases e
section
variable {P:Program} {w:World} {K:PySem.W.Frag} {mg mb:Str→Option Value} {CX:CXT} {k:Nat} {fa a tP:Addr} {fd:FuncData} {x:Str} {sp:Sp} {s₁:Shared} {vs:List Value} {ns:List Int}
theorem zl7 (KX:K.In s₁.heap) (hT:zh9 K tP=true) (tT:s₁.heap.get? tP=some (PySem.W.tabObj #[]))
    (hns:s₁.heap.Ns mainGlobals mg) (hb:s₁.heap.Ns builtinsNs mb) (hbb:∀ y:Str,y ≠ "__name__"→mb y=bootBuiltins y) (lim:s₁.heap.NoLimit) (bm:BmAt mg s₁.heap) (hg:s₁.gens = #[])
    (ha:s₁.heap.get? a=some (seqObj "list" vs.toArray 0)) (hi:IntsAre vs ns) (hl:ns.length ≤ sizeLine) (hr:Room k callerA)
    (F:∀ B:Heap,K.In B→B.Ns mainGlobals mg→BmAt mg B→FnOk P w K mg B CX k fa fd [x] sp) (bd:∀ (s:Shared) (u:Value),BindsTo s fd ⟨[u],[]⟩ [(x,u)])
    (hsp:∀ H:Hp,SqL K H a (ns.map V.int)→sp [.ref a] H (fun v _=>v = .bl true) fun _ _ _=>False) (hCX:∀ H e s',CX [] H s₁ (fun _ _ _=>False) e s'→False) :
    codeAny (model P w) callerA (.call (.ref fa) ⟨[.ref a],[]⟩) (fun r s'=>r = .ok (.ret (.bool true))∧OldK s₁.heap s'.heap∧s'.os=s₁.os∧AllBare s'.gens) s₁:=by
  obtain ⟨⟨arr,eT⟩,nT,c,cT⟩:=zlF hT
  obtain ⟨q,ln,cl,earr⟩:=zkC eT
  dsimp only at earr
  have rv:=ziQ hi
  have lenV:=hi.length
  have aP:a ≠ tP:=fun z=>by rw [z,tT] at ha; cases ha
  obtain ⟨H0,eH0⟩:∃ H0:Hp,H0=fun b=>if b=a then (if (K.lookup a).isNone then some (.frz (seqObj "list" vs.toArray 0) (.lst (ns.map V.int))) else none) else none:=⟨_,rfl⟩
  have at0:H0 a=if (K.lookup a).isNone then some (.frz (seqObj "list" vs.toArray 0) (.lst (ns.map V.int))) else none:=by rw [eH0]; exact if_pos rfl
  have ne0:∀ b,b ≠ a→H0 b=none:=fun b hb=>by rw [eH0]; exact if_neg hb
  obtain ⟨H,eH⟩:∃ H,H=upd H0 tP (.tbl arr):=⟨_,rfl⟩
  have HT:H tP=some (.tbl arr):=by rw [eH]; exact zal
  have HA:H a=H0 a:=by rw [eH]; exact zai aP
  have tr:∀ b u,H b=some u→(b=tP∧u = .tbl arr)∨(b=a∧K.lookup a=none∧u = .frz (seqObj "list" vs.toArray 0) (.lst (ns.map V.int))):=fun b u e=>by
    by_cases h1:b=tP
    · subst h1; rw [HT] at e; cases e; exact .inl ⟨rfl,rfl⟩
    · rw [eH,zai h1] at e
      by_cases h2:b=a
      · subst h2
        rw [at0] at e
        split at e
        · rename_i z; cases e; exact .inr ⟨rfl,by simpa using z,rfl⟩
        · cases e
      · rw [ne0 b h2] at e; cases e
  have hok:HOk P w H s₁.heap:=fun b u e=>by
    rcases tr b u e with ⟨rfl,rfl⟩ | ⟨rfl,_,rfl⟩
    · exact ⟨q,0,ln,cl,[],#[],by rw [earr],tT,.inl rfl⟩
    · exact ⟨ha,by rw [List.length_map]; exact hl,vs,_,rv,ha⟩
  have hS:SqL K H a (ns.map V.int):=by
    cases z:K.lookup a with
    | none=>exact .inl (.inr ⟨_,by rw [HA,at0,z]; rfl⟩)
    | some o =>
      have e:=KX a o z
      rw [ha] at e
      cases e
      exact .inr ⟨_,vs.toArray,_,z,rfl,rfl,rfl,by rw [List.size_toArray,lenV]; exact hl,by simpa using rv⟩
  have noA:∀ {b:Addr} {o:Obj} {es:Array DictEntry} {ep:Nat},s₁.heap.get? b=some o→o.data = .dict es ep→H b=none:=fun {b o es ep} e d=>by
    cases z:H b with
    | none=>rfl
    | some u =>
      rcases tr b u z with ⟨rfl,_⟩ | ⟨rfl,_,_⟩
      · rw [tT] at e; cases e; cases d
      · rw [ha] at e; cases e; cases d
  have nsK:∀ {b:Addr} {m:Str→Option Value},s₁.heap.Ns b m→(hidT s₁.heap H).Ns b m:=fun {b m} ⟨o,es,ep,e,d,r⟩=>⟨o,es,ep,zhC e (noA e d),d,r⟩
  have hKb:K.In (hidT s₁.heap H):=fun b o e=>zhC (KX b o e) (by
    cases z:H b with
    | none=>rfl
    | some u =>
      rcases tr b u z with ⟨rfl,_⟩ | ⟨rfl,y,_⟩
      · rw [nT] at e; cases e
      · rw [y] at e; cases e)
  have hM:Mod K mg (hidT s₁.heap H):=⟨hKb,nsK hns,⟨mb,nsK hb,hbb⟩,let ⟨mc,h1,h2⟩:=lim; ⟨mc,nsK h1,h2⟩⟩
  have bm':BmAt mg (hidT s₁.heap H):=by
    obtain ⟨m,o,b1,b2,b3,b4,b5,b6⟩:=bm
    refine ⟨m,o,b1,b2,zhC b3 ?_,b4,b5,b6⟩
    cases z:H m with
    | none=>rfl
    | some u =>
      rcases tr m u z with ⟨rfl,_⟩ | ⟨rfl,_,_⟩
      · rw [tT] at b3; cases b3; cases b4
      · rw [ha] at b3; cases b3; cases b6
  have tb:TbAt K H:=fun t e=>by
    rw [eT] at e; cases e
    exact ⟨#[],by rw [HT]; simp⟩
  have e0:Env0 P w K mg (hidT s₁.heap H) callerA [] s₁ H:=⟨rfl,hM,fun b o e=>zo0 e,Nat.le_of_eq (zlR _ _),trivial,fun b hb=>absurd (show b ∈ ([]:List Addr) from hb) (by simp),hok,.of_eq hg,tb⟩
  refine codeAny_mono ((F _ hKb (nsK hns) bm').run callerA [] s₁ H ⟨[.ref a],[]⟩ [.ref a] [.ref a] _ _ hr e0 (bd s₁ (.ref a)) (.cons rfl .nil) (hsp H hS)) fun r s' h=>?_
  match r,h with
  | .error e,h=>exact (hCX H e s' h).elim
  | .ok (.ret u),h =>
    obtain ⟨v,H',os,bare,un,hok',r',q'⟩:=h
    have q':v = .bl true:=q'
    subst q'
    obtain rfl:u=Value.bool true:=r'
    have tabs:∃ real,s'.heap.get? tP=some (PySem.W.tabObj real):=by
      obtain ⟨more,z⟩:=un.tbls tP _ HT
      obtain ⟨_,_,_,_,_,real,_,e,_⟩:=hok' tP _ z
      exact ⟨real,e⟩
    obtain ⟨real,hreal⟩:=tabs
    have kept:∀ b o,b ≠ tP→s₁.heap.get? b=some o→s'.heap.get? b=some o:=fun b o hb e=>by
      cases z:H b with
      | none=>exact un.keep b o e z (by intro y; exact absurd (show b ∈ ([]:List Addr) from y) (by simp)) (by simp)
      | some u =>
        rcases tr b u z with ⟨rfl,_⟩ | ⟨rfl,_,rfl⟩
        · exact absurd rfl hb
        · obtain ⟨e2,_⟩:=hok' _ _ (un.frzs _ _ _ z)
          rw [ha] at e; cases e
          exact e2
    refine ⟨rfl,⟨fun b o e=>?_,fun b o e=>?_⟩,os,bare⟩
    · by_cases hb:b=tP
      · subst hb
        rw [tT] at e; cases e
        exact .inr (.inl ⟨((PySem.W.codeHd_of_K KX cT).tab tT).isCodeTable,rfl,#[],real,rfl,by rw [hreal]; simp⟩)
      · exact .inl (kept b o hb e)
    · by_cases hb:b=tP
      · subst hb; exact ⟨_,hreal⟩
      · exact ⟨o,kept b o hb e⟩
  | .ok .next,h=>exact False.elim h
  | .ok .brk,h=>exact False.elim h
  | .ok .cont,h=>exact False.elim h
end
theorem walk_ofT {l:PySem.W.OpenLaw} {n k:Nat} {q:Program} {loose:List Str} {XP:(Str→Option Value)→Heap→Prop} {YP:World→Heap→Prop} {d:DefRec} {K:Params→PySem.W.Frag} {CX:World→CXT} {sp:World→Sp} {x:Str} {tP:Addr}
    (hn:l.most=some n) (hn2:n ≤ sizeLine) (hdf:d.params.defaults = []) (hr:Room k callerA) (hY:∀ (w:World) (h:Heap),YP w h→(K w.params).In h) (hY2:∀ (w:World) (h:Heap),YP w h→∀ t ∈ [tP],h.get? t=some (PySem.W.tabObj #[]))
    (hT:∀ w:World,zh9 (K w.params) tP=true)
    (F:∀ (w:World) (mg:Str→Option Value) (fa:Addr) (h:Heap),(K w.params).In h→h.Ns mainGlobals mg→mg d.name=some (.ref fa) →
      ∃ fd:FuncData,(∀ (s:Shared) (u:Value),BindsTo s fd ⟨[u],[]⟩ [(x,u)])∧∀ B:Heap,(K w.params).In B→B.Ns mainGlobals mg→BmAt mg B→FnOk l.prog w (K w.params) mg B (CX w) k fa fd [x] (sp w))
    (hsp:∀ (w:World) (H:Hp) (a:Addr) (ns:List Int),ns.length ≤ n→SqL (K w.params) H a (ns.map V.int)→sp w [.ref a] H (fun v _=>v = .bl true) fun _ _ _=>False)
    (hCX:∀ (w:World) (H:Hp) (s:Shared) (e:Value) (s':Shared),CX w [] H s (fun _ _ _=>False) e s'→False):PySem.W.WalkO q loose XP YP l.row.toRowW d [] (fun f vs=>PySem.call f vs):=by
  refine Att.attach_call hn hdf fun w s₀ s₁ mg mb fa o pm cd doc a vs ns G Y ho hd hcd hmg hobj hints hlen hg=>?_
  obtain ⟨fd,bd,hF⟩:=F w mg fa _ (hY w _ Y) G.T.g hmg
  exact zl7 (hY w _ Y) (hT w) (hY2 w _ Y tP List.mem_cons_self) G.T.g G.T.b G.T.builtins G.T.nolimit G.T.bmain hg hobj hints (Nat.le_trans hlen hn2) hr hF bd (fun H hS=>hsp w H a ns hlen hS) fun H e s'=>hCX w H s₁ e s'
end L2
namespace L2
open PySem PySem.Spec PyProof.Rows
section
variable {X:Cx}
end
end L2
namespace PM
open PySem L2
section
variable {K:Kx} {XO:XOT} {E:L2.St→XK}
end
end PM
namespace PM
open PySem L2
section
variable {K:Kx}
end
end PM
namespace L2
open PySem PySem.Spec PyProof.Rows
section
variable {prog:Program} {w:World} {A:Around} {E:Value→Shared→Prop} {s:Shared}
end
end L2
namespace L2
open PySem PySem.Spec PyProof.Rows
section
variable {prog:Program} {w:World} {A:Around} {E:Value→Shared→Prop} {s:Shared}
end
section
variable {X:Cx} {pins:List (Addr × Obj)} {σ:St} {A:Around} {R:Result→Shared→Prop}
end
end L2
namespace PM
open PySem L2
section
variable {K:Kx} {XO:XOT} {E:L2.St→XK}
end
end PM
namespace L2
open PySem PySem.Spec PyProof.Rows
section
variable {X:Cx} {pins:List (Addr × Obj)} {σ:St} {H:Hp} {s:Shared} {a:Addr} {kvs:List (Key × V)}
end
section
variable {X:Cx}
end
end L2
namespace PM
open PySem L2
section
variable {K:Kx} {XO:XOT} {E:L2.St→XK}
end
end PM
namespace L2
open PySem PySem.Spec PyProof.Rows
section
variable {P:Program} {w:World} {K:PySem.W.Frag} {mg:Str→Option Value} {base:Heap} {CX:CXT} {k:Nat} {x:Str} {ps:List Str} {sp:Sp} {d:V}
end
section
variable {X:Cx} {CX:CXT} {k:Nat} {x:Str} {ps:List Str} {sp:Sp} {E:XK} {p pos:Pos} {a b:Expr} {ta tb:TE} {d:V}
end
section
variable {P:Program} {w:World} {K:PySem.W.Frag} {mg:Str→Option Value} {base:Heap} {d:V}
end
end L2
namespace PM
open PySem L2
def getF:List Str→List D→Str→Option D
  | a :: r,d :: t,f=>if a=f then some d else getF r t f
  | _,_,_=>none
def putN:List Str→Str→List Str
  | [],f=>[f]
  | a :: r,f=>if a=f then a :: r else a :: putN r f
def putV:List Str→List D→Str→D→List D
  | [],_,_,d=>[d]
  | a :: r,l,f,d=>if a=f then d :: l.drop 1 else match l with | x :: t=>x :: putV r t f d | []=>[]
section
variable {K:Kx} {F H:Hp}
theorem zmS {f:Str}:∀ {fs:List (Str × V)} {ks:List Str} {l:List D} {d:D},fs.map (·.1)=ks→RepL K F l (fs.map (·.2))→getF ks l f=some d→∃ v,fs.lookup f=some v∧Rep K F d v
  | [],ks,l,d,h1,h2,h=>by
    subst h1
    cases l <;> cases h
  | (g,x) :: fs,ks,l,d,h1,h2,h=>by
    subst h1
    cases l with
    | nil=>cases h
    | cons y l =>
      simp only [List.map_cons,RepL] at h2
      obtain ⟨v,r,e,r1,r2⟩:=h2
      cases e
      rw [List.map_cons,getF] at h
      by_cases c:g=f
      · rw [if_pos c] at h
        cases h
        exact ⟨x,by rw [List.lookup_cons,show (f == g)=true from beq_iff_eq.mpr c.symm],r1⟩
      · rw [if_neg c] at h
        obtain ⟨v,h3,h4⟩:=zmS rfl r2 h
        exact ⟨v,by rw [List.lookup_cons,show (f == g)=false from beq_eq_false_iff_ne.mpr (Ne.symm c)]; exact h3,h4⟩
theorem zf6 {f:Str}:∀ {fs:List (Str × V)},f ∉ fs.map (·.1)→fs.lookup f=none
  | [],_=>rfl
  | (g,x) :: fs,h=>by
    simp only [List.map_cons,List.mem_cons,not_or] at h
    rw [List.lookup_cons,show (f == g)=false from beq_eq_false_iff_ne.mpr h.1]
    exact zf6 h.2
theorem zhb {f:Str} {v:V} {d:D} (rv:Rep K F d v):∀ {fs:List (Str × V)} {l:List D},RepL K F l (fs.map (·.2))→(putF f v fs).map (·.1)=putN (fs.map (·.1)) f∧RepL K F (putV (fs.map (·.1)) l f d) ((putF f v fs).map (·.2))
  | [],l,_=>⟨rfl,.cons rv .nil⟩
  | (g,x) :: fs,l,h=>by
    cases l with
    | nil=>simp only [List.map_cons,RepL] at h; cases h
    | cons y l =>
      simp only [List.map_cons,RepL] at h
      obtain ⟨u,r,e,r1,r2⟩:=h
      cases e
      unfold putF
      rw [List.map_cons]
      by_cases c:g=f
      · rw [if_pos c]
        refine ⟨by rw [putN,if_pos c]; rfl,?_⟩
        rw [putV,if_pos c]
        exact .cons rv r2
      · rw [if_neg c]
        obtain ⟨a,b⟩:=zhb rv (fs:=fs) r2
        refine ⟨by rw [putN,if_neg c,List.map_cons,a],?_⟩
        rw [putV,if_neg c]
        exact .cons r1 b
end
def oFld (ok:Nat→Bool) (f:Str) (d:D):Option D:=match d with | .obj c ks l=>if ok c=true then getF ks l f else none | _=>none
section
variable {K:Kx} {XO:XOT} {E:L2.St→XK} {ta te:TE} {ma me:En→R D}
theorem zc2 {f:Str} {ok:Nat→Bool} (hc:∀ c,ok c=true→Cls K.f (K.ca c)∧NoAttr K.f (K.ca c) f) (h:SEr K XO E ta ma):SE K XO E (tFld K.f ta f) (m1 (oFld ok f) ma):=by
  intro Λ F0 H0 F H σ δ Q I a
  refine h Λ F0 H0 F H σ δ _ I (a.bind.imp fun d F1 H1 e1 a1 x rx=>?_)
  cases d with
  | obj c ks l =>
    obtain ⟨p,dx,fs,rfl,h1,h2,h3⟩:=rx
    change Aft E XO σ F1 H1 _ (R.of (if ok c=true then getF ks l f else none)) at a1
    by_cases z:ok c=true
    · rw [if_pos z] at a1
      cases q:getF ks l f with
      | none=>rw [q] at a1; exact a1.elim
      | some d =>
        rw [q] at a1
        obtain ⟨v,g1,g2⟩:=zmS h2 h3 q
        exact ⟨p,_,dx,fs,v,rfl,h1,(hc c z).1,(hc c z).2,g1,a1 F1 H1 (.refl e1.fh) _ g2⟩
    · rw [if_neg z] at a1; exact a1.elim
  | _=>exact a1.elim
end
def ValE (δ:En):Prop:=∀ i:Nat,Sl.own δ[i]?=false
section
variable {K:Kx} {XO:XOT} {E:L2.St→XK} {F0 H0 F H:Hp} {σ:L2.St} {δ:En}
theorem EnvOk.poke {x:Addr} {u:HO} (I:EnvOk K [] F0 H0 F H σ δ) (hv:ValE δ) (h0:H0 x=none) (hF:F x=none):EnvOk K [] F0 H0 F (upd H x u) σ δ:=by
  refine ⟨⟨I.ext.ff,fun b o q=>?_,fun b o q=>?_,I.ext.nw⟩,I.len,fun i=>?_,fun i j a _ h1 _ _ _=>?_,fun y hy=>(by cases hy),fun i ll a vs h1=>?_⟩
  · rw [zai (zah q h0)]; exact I.ext.hh _ _ q
  · rw [zai (zah q hF)]; exact I.ext.fh _ _ q
  · have z:=I.slot i
    have o:=hv i
    cases q:δ[i]? with
    | none=>trivial
    | some s =>
      rw [q] at z o
      cases s with
      | no=>trivial
      | v d=>exact z
      | o d=>cases o
      | l d=>cases o
      | p ll=>cases o
  · rw [hv i] at h1; cases h1
  · have:=hv i
    rw [h1] at this; cases this
def iSeq (m1 m2:En→List Str→List D→R (List Str × List D)) (δ:En) (ks:List Str) (l:List D):R (List Str × List D):=(m1 δ ks l).bind fun p=>m2 δ p.1 p.2
def runN (c np:Nat) (m:En→List Str→List D→R (List Str × List D)) (ds:List D):R D:=if ds.length=np then (m (.no :: ds.map .v) [] []).bind fun p=>.ok (.obj c p.1 p.2) else .no
def isObj (c:Nat) (m:Str) (d:D):Option Unit:=match d with | .obj c' ks _=>if c'=c∧m ∉ ks then some () else none | _=>none
def zaT (c:Nat) (m:Str) (f:List D→R D) (ma:En→R D) (ml:En→R (List D)) (δ:En):R D:=(ma δ).bind fun d=>(R.of (isObj c m d)).bind fun _=>(ml δ).bind fun l=>(f (d :: l)).nev
theorem zgZ {c:Nat} {m:Str} {d:D} {u:Unit} (h:isObj c m d=some u):∃ ks l,d = .obj c ks l∧m ∉ ks:=by
  unfold isObj at h
  split at h
  · split at h
    · rename_i z; obtain ⟨rfl,z⟩:=z; exact ⟨_,_,rfl,z⟩
    · cases h
  · cases h
theorem zd2 {c:Nat} {C:Addr} {m:Str} {f:List D→R D} {ta:TE} {ma:En→R D} {tl:TA} {ml:En→R (List D)} {E':XK} (hC:C=K.ca c) (ha:SE K XO E ta ma) (h:SA K XO E tl ml):SE K XO E (zkD C m (spM K XO f) [] E' ta tl) (zaT c m f ma ml):=by
  intro Λ F0 H0 F H σ δ Q I a
  refine ha Λ F0 H0 F H σ δ _ I (a.bind.imp fun d F1 H1 e1 a1 x rx=>?_)
  cases q:isObj c m d with
  | none=>rw [q] at a1; exact a1.elim
  | some u =>
    rw [q,R.of_some,R.bind_ok] at a1
    obtain ⟨ks,l,rfl,hm⟩:=zgZ q
    have rx0:=rx
    simp only [Rep] at rx
    obtain ⟨p,dx,fs,rfl,h1,h2,h3⟩:=rx
    refine ⟨p,dx,fs,rfl,by rw [hC]; exact e1.fh _ _ h1,zf6 (by rw [h2]; exact hm),?_⟩
    refine h Λ F0 H0 F1 H1 σ δ _ (I.grow e1) (a1.bind.imp fun ds F2 H2 e2 a2 vs r=>⟨F2,.obj c ks l :: ds,e2.fh,by rw [List.append_nil]; exact .cons (Rep.mono e2.ff _ rx0) r,?_⟩)
    exact Aft.imp (fun d F3 H3 e3 p v rv=>p v rv) (Aft.any a2)
theorem zbZ {c:Nat} {C:Addr} {m:Str} {f:List D→R D} {ta:TE} {ma:En→R D} {tl:TA} {ml:En→R (List D)} {E':XK} (hC:C=K.ca c) (ha:SE K XO E ta ma) (h:SA K XO E tl ml):SEo K XO E (zkD C m (spO K XO f) [] E' ta tl) (zaT c m f ma ml):=by
  intro Λ F0 H0 F H σ δ Q I a
  refine ha Λ F0 H0 F H σ δ _ I (a.bind.imp fun d F1 H1 e1 a1 x rx=>?_)
  cases q:isObj c m d with
  | none=>rw [q] at a1; exact a1.elim
  | some u =>
    rw [q,R.of_some,R.bind_ok] at a1
    obtain ⟨ks,l,rfl,hm⟩:=zgZ q
    have rx0:=rx
    simp only [Rep] at rx
    obtain ⟨p,dx,fs,rfl,h1,h2,h3⟩:=rx
    refine ⟨p,dx,fs,rfl,by rw [hC]; exact e1.fh _ _ h1,zf6 (by rw [h2]; exact hm),?_⟩
    refine h Λ F0 H0 F1 H1 σ δ _ (I.grow e1) (a1.bind.imp fun ds F2 H2 e2 a2 vs r=>⟨F2,.obj c ks l :: ds,e2.fh,by rw [List.append_nil]; exact .cons (Rep.mono e2.ff _ rx0) r,?_⟩)
    exact Aft.imp (fun d F3 H3 e3 p v h0 h1 o=>p v h0 (e1.hh.free (e2.hh.free h1)) o) (Aft.any a2)
def zhr (tab:Nat→Option Bool) (d:D):Option D:=match d with | .obj c _ _=>(tab c).map .bl | _=>none
theorem zk4 {B:Addr} {tab:Nat→Option Bool} {ta:TE} {ma:En→R D} (ht:∀ c b,tab c=some b→(∀ (H:Hp) (a dx:Addr) (fs:List (Str × V)),H a=some (.ins (K.ca c) dx fs)→TyOf K.f H (.ref a) (.ref (K.ca c)))∧PySem.W.kitOne K.f (.ref (K.ca c)) (.ref B)=some b) (h:SEr K XO E ta ma) :
    SE K XO E (tCB (rIs K.f) (zcy ta (zcy (tC (.ref B)) tNil))) (m1 (zhr tab) ma):=by
  intro Λ F0 H0 F H σ δ Q I a
  refine h Λ F0 H0 F H σ δ _ I (a.bind.imp fun d F1 H1 e1 a1 x rx=>?_)
  cases d with
  | obj c ks l =>
    obtain ⟨p,dx,fs,rfl,h1,h2,h3⟩:=rx
    cases q:tab c with
    | none=>simp only [zhr,q] at a1; exact a1.elim
    | some b =>
      simp only [zhr,q] at a1
      obtain ⟨t1,t2⟩:=ht c b q
      exact ⟨.ref p,.ref B,.ref B,_,b,rfl,rfl,t1 _ _ _ _ h1,t2,a1 F1 H1 (.refl e1.fh) _ (by simp only [Rep])⟩
  | _=>exact a1.elim
end
end PM
namespace L2
open PySem PySem.Spec PyProof.Rows
section
variable {prog:Program} {w:World} {A:Around} {E:Value→Shared→Prop} {s:Shared}
theorem znX {it t:Addr} {i:Nat} {items:Array Value} {x:Value} {Q:Value→Shared→Prop} (hit:s.heap.IsTupleIter it t i) (ht:s.heap.IsTuple t items) (hx:items[i]?=some x)
    (hQ:∀ h',h'.IsTupleIter it t (i + 1)→Heap.SameBut it s.heap h'→Q x { s with heap:=h' }):wpAny (model prog w) A (Builtin.SmallTypes.nextOf (.ref it)) Q E s:=by
  obtain ⟨o,ho,hc,hd⟩:=id hit
  obtain ⟨ol,hol,_,nl,hdl⟩:=ht
  unfold Builtin.SmallTypes.nextOf
  refine wpAny_bind (wpAny_callSpecial?_slot (name:=Str.ofString "__next__") hit.typeIs F.slot_tuple_iterator_next (wpAny_call_entry F.slot_tuple_iterator_next hit.typeIs F.entry_tuple_iterator_next ?_ (F.args_tuple_iterator_next_1 _)))
  show wpAny _ A.in1 (field (.ref it) 0 >>= _) _ _ s
  refine wpAny_bind (wpAny_field ho hd (x:=.ref t) rfl ?_)
  show wpAny _ A.in1 (if (Value.ref t == Value.none)=true then _ else _) _ _ s
  rw [if_neg (fun z:(Value.ref t == Value.none)=true=>Bool.false_ne_true z)]
  show wpAny _ A.in1 (field (.ref it) 1 >>= _) _ _ s
  refine wpAny_bind (wpAny_field ho hd (x:=.int i 0) rfl ?_)
  show wpAny _ A.in1 (seqItems? (.ref t) >>= _) _ _ s
  refine wpAny_bind (wpAny_seqItems hol hdl ?_)
  simp only [Int.toNat_natCast,hx]
  refine wpAny_bind (wpAny_setField ho hd (by simp) (wpAny_pure ⟨x,rfl,wpAny_pure (hQ _ ⟨_,Heap.get?_update_self _ ho (Obj.isFreed_of_fields (Obj.data_mapFields hd _)),(Obj.cls_mapFields ..).trans hc,?_⟩ (Heap.SameBut.update ..))⟩))
  rw [Obj.data_mapFields hd]
  simp [rawInt]
theorem zmv {it t:Addr} {i:Nat} {items:Array Value} {Q:Value→Shared→Prop} (hh:A.handled=none) (hit:s.heap.IsTupleIter it t i) (ht:s.heap.IsTuple t items) (hx:items[i]?=none)
    (hE:∀ h' e,Heap.ExtBut it s.heap h'→(∃ o,h'.get? e=some o∧o.cls = .type "StopIteration")→E (.ref e) { s with heap:=h' }):wpAny (model prog w) A (Builtin.SmallTypes.nextOf (.ref it)) Q E s:=by
  obtain ⟨o,ho,hc,hd⟩:=id hit
  obtain ⟨ol,hol,_,nl,hdl⟩:=ht
  unfold Builtin.SmallTypes.nextOf
  refine wpAny_bind (wpAny_callSpecial?_slot (name:=Str.ofString "__next__") hit.typeIs F.slot_tuple_iterator_next (wpAny_call_entry F.slot_tuple_iterator_next hit.typeIs F.entry_tuple_iterator_next ?_ (F.args_tuple_iterator_next_1 _)))
  show wpAny _ A.in1 (field (.ref it) 0 >>= _) _ _ s
  refine wpAny_bind (wpAny_field ho hd (x:=.ref t) rfl ?_)
  show wpAny _ A.in1 (if (Value.ref t == Value.none)=true then _ else _) _ _ s
  rw [if_neg (fun z:(Value.ref t == Value.none)=true=>Bool.false_ne_true z)]
  show wpAny _ A.in1 (field (.ref it) 1 >>= _) _ _ s
  refine wpAny_bind (wpAny_field ho hd (x:=.int i 0) rfl ?_)
  show wpAny _ A.in1 (seqItems? (.ref t) >>= _) _ _ s
  refine wpAny_bind (wpAny_seqItems hol hdl ?_)
  simp only [Int.toNat_natCast,hx]
  refine wpAny_bind (wpAny_rule (wpAny_bind (wpAny_setField ho hd (by simp) ?_)))
  show wpAny _ A.in1 (newExc (.type "StopIteration") [] >>= _) _ _ _
  refine wpAny_bind ?_
  simp only [newExc,newTuple]
  refine wpAny_bind (wpAny_newObj_type ?_ (by size_fits))
  refine wpAny_bind (m:=firstArgMember _ _) (wpAny_of_eq (a:=Value.none) (by first | rfl | (simp only [firstArgMember]; rfl)) (wpAny_newObj_type ?_ (by size_fits)))
  simp only [raiseNew]
  refine wpAny_bind (wpAny_handled ?_)
  first | rw [show A.in1.handled=none from hh] | rw [hh]
  exact wpAny_bind (wpAny_pure (wpAny_throw (hE _ _ (((Heap.SameBut.update ..).extBut.push _).push _) ⟨_,Heap.get?_push_size _ rfl,rfl⟩)))
end
end L2
namespace L2
open PySem PySem.Spec PyProof.Rows
section
variable {X:Cx}
def zqu (K:PySem.W.Frag):R2:=fun x y H Q=>∃ a b xs ys,x = .ref a∧y = .ref b∧SqT K H a xs∧SqT K H b ys∧xs.length + ys.length ≤ sizeLine ∧
  (xs = []→Q (.ref b) H)∧(xs ≠ []→ys = []→Q (.ref a) H)∧(xs ≠ []→ys ≠ []→∀ p,H p=none→Q (.ref p) (upd H p (.tup (xs ++ ys))))
theorem zpu:OpR X (binaryOp .Add) (zqu X.K):=by
  intro pins s σ H x y v u Q I rx ry h
  obtain ⟨a,b,xs,ys,rfl,rfl,ha,hb,hz,q0,q1,q2⟩:=h
  by_cases hx:xs = []
  · cases rx
    cases ry
    obtain ⟨its,r1,p1,_⟩:=I.tuple ha
    obtain ⟨its2,r2,p2,_⟩:=I.tuple hb
    have e0:its = []:=r1.nil_iff.mpr hx
    obtain ⟨⟨cls,dd,data,sl⟩,ho,hc,n,hd⟩:=id p1
    obtain ⟨⟨cls2,dd2,data2,sl2⟩,ho2,hc2,n2,hd2⟩:=id p2
    simp only at hc hd hc2 hd2
    subst hc hd hc2 hd2
    exact concat_meets ⟨_,ho,rfl⟩ ⟨_,ho2,rfl⟩ noFill_tuple_add seq_tuple_add PySem.F.slot_tuple_add PySem.F.entry_tuple_add (PySem.F.args_tuple_add_2 _ _)
      (tuple_addW0 a b its.toArray its2.toArray n n2 dd dd2 sl sl2 (by simp [e0])) ⟨ho,ho2,⟨.ref b,H,I,rfl,q0 hx⟩⟩
  · exact zpy pins s σ H _ _ v u Q I rx ry ⟨a,b,xs,ys,rfl,rfl,ha,hb,hx,hz,q1 hx,q2 hx⟩
end
end L2
namespace PM
open PySem L2
section
variable {K:Kx} {XO:XOT} {E:L2.St→XK}
def zkg (x y:D):Option D:=match x,y with | .tup l,.tup r=>ifC (l.length + r.length ≤ sizeLine) (some (.tup (l ++ r))) none | _,_=>none
theorem zpK:SR K (zqu K.f) zkg:=by
  intro F H x y dx dy d Q s hx hy e q
  unfold zkg at e
  split at e
  · rename_i l r
    unfold ifC at e
    split at e
    · rename_i hl
      cases e
      simp only [Top,Rep] at hx hy
      obtain ⟨a,vs,rfl,h1,h2⟩:=hx
      obtain ⟨b,ws,rfl,h3,h4⟩:=hy
      have lv:=h2.length
      have lw:=h4.length
      refine ⟨a,b,vs,ws,rfl,rfl,.of (s _ _ h1),.of (s _ _ h3),by omega,fun z=>?_,fun z1 z2=>?_,fun z1 z2 p hp=>?_⟩
      · have:l = []:=List.eq_nil_of_length_eq_zero (by rw [← lv,z]; rfl)
        subst this
        refine q _ F H (.refl s) ?_
        simp only [Rep]
        exact ⟨b,ws,rfl,h3,h4⟩
      · have:r = []:=List.eq_nil_of_length_eq_zero (by rw [← lw,z2]; rfl)
        subst this
        refine q _ F H (.refl s) ?_
        simp only [Rep]
        exact ⟨a,vs,rfl,h1,by rw [List.append_nil]; exact h2⟩
      · have x1:Ext F H (upd F p (.tup (vs ++ ws))) (upd H p (.tup (vs ++ ws))):=.new s hp
        refine q _ _ _ x1 ?_
        simp only [Rep]
        exact ⟨p,_,rfl,zal,(h2.mono x1.ff).append (h4.mono x1.ff)⟩
    · cases e
  · cases e
end
end PM
namespace L2
open PySem PySem.Spec PyProof.Rows
structure HasC (P:Program) (w:World) (K:PySem.W.Frag) (mg:Str→Option Value) (base:Heap) (CX:CXT) (k:Nat) (x:Str) (C:Addr) (ps:List Str) (sp:Sp):Prop where
  ex:∃ (f:Addr) (fd:FuncData),Mk K C f∧FnOk P w K mg base CX k f fd ps sp∧mg x=some (.ref C)∧Binds K fd ps []
structure HasM (P:Program) (w:World) (K:PySem.W.Frag) (mg:Str→Option Value) (base:Heap) (CX:CXT) (k:Nat) (m:Str) (C:Addr) (ps:List Str) (sp:Sp):Prop where
  ex:∃ (f:Addr) (fd:FuncData),Cls K C∧Meth K C m f∧FnOk P w K mg base CX k f fd ps sp∧Binds K fd ps []
section
variable {X:Cx} {CX:CXT} {k:Nat} {x m:Str} {C:Addr} {ps:List Str} {sp:Sp} {E:XK} {p pos apos:Pos} {e o:Expr} {es:List Expr} {t:TA} {ta:TE}
theorem zmt (G:HasC X.prog X.w X.K X.mg X.base CX k x C ps sp) (hr:Room (k + 1) X.A) (hg:Gl X x) (hx:zdt CX X E) (ha:PA X (e :: es) t)
    (hdb:(x == ("__debug__" : Str))=false:=by decide) (he:starEach (e :: es) X.env=(false,eval e X.env) :: starEach es X.env:=by rfl) (hpl:(backTo pos (starEach es X.env)).any (·.1)=false:=by rfl) :
    PE X (.Call (.Name x p) (e :: es) [] pos) (zoR C sp [] E t):=by
  obtain ⟨f,fd,M,F,hm,hb⟩:=G.ex
  exact zoP M F hr hg hm hb .nil hx ha hdb he hpl
theorem zbD {pl:Sem Bool} (G:HasM X.prog X.w X.K X.mg X.base CX k m C ps sp) (hr:Room k X.A) (hx:zdt CX X E) (ho:PE X o ta) (ha:PA X (e :: es) t)
    (hst:starEach (e :: es) X.env=(false,eval e X.env) :: starEach es X.env:=by rfl) (hpl:(backTo pos (starEach es X.env)).any (·.1)=false:=by rfl)
    (ht:eval (.Call (.Attribute o m apos) (e :: es) [] pos) X.env=(eval o X.env >>= fun ov=>standAt apos.atName >>= fun _=>holding [ov] (getMethod ov m pl) >>= fun q=>callWith pos q.1 q.2 (backTo pos (starEach (e :: es) X.env)) (backToKw pos (keywordEach [] X.env))):=by rfl) :
    PE X (.Call (.Attribute o m apos) (e :: es) [] pos) (zkD C m sp [] E ta t):=by
  obtain ⟨f,fd,c,hm,F,hb⟩:=G.ex
  exact zo9 (pl:=pl) ho c hm F hr hb .nil hx ha hst hpl ht
theorem zjT {pl:Sem Bool} (G:HasM X.prog X.w X.K X.mg X.base CX k m C ps sp) (hr:Room k X.A) (hx:zdt CX X E) (ho:PE X o ta)
    (ht:eval (.Call (.Attribute o m apos) [] [] pos) X.env=(eval o X.env >>= fun ov=>standAt apos.atName >>= fun _=>holding [ov] (getMethod ov m pl) >>= fun q=>callWith pos q.1 q.2 (backTo pos (starEach [] X.env)) (backToKw pos (keywordEach [] X.env))):=by rfl) :
    PE X (.Call (.Attribute o m apos) [] [] pos) (zkD C m sp [] E ta tNil):=by
  obtain ⟨f,fd,c,hm,F,hb⟩:=G.ex
  exact zna (pl:=pl) ho c hm F hr hb .nil hx ht
end
end L2
namespace PM
open PySem L2
def allV (δ:En):Bool:=δ.all fun s=>match s with | .no=>true | .v _=>true | _=>false
theorem zhW {δ:En} (h:allV δ=true):ValE δ:=fun i=>by
  cases q:δ[i]? with
  | none=>rfl
  | some s =>
    have:=List.all_eq_true.mp h s (List.mem_of_getElem? q)
    cases s <;> first | rfl | cases this
def thn2:O→(En→O)→O
  | .nx δ,f=>f δ
  | .ct δ,f=>f δ
  | .bk δ,_=>.nx δ
  | r,_=>r
def zpo (i:Nat) (m1 m2:En→R D) (mb:En→O) (δ:En):O :=
  (m1 δ).toO δ fun d1=>(m2 δ).toO δ fun d2=>if allV δ=true∧i < δ.length then thn2 (mb (δ.set i (.o d1))) fun δ1=>if allV (δ1.set i .no)=true∧i < δ1.length then thn2 (mb (δ1.set i (.o d2))) .nx else .no else .no
section
variable {K:Kx} {XO:XOT} {E:L2.St→XK} {F0 H0 F H:Hp} {σ:L2.St} {δ:En}
theorem EnvOk.rebase {Fb Hb Hc:Hp} (I:EnvOk K [] Fb Hb F H σ δ) (e:Ext F0 H0 Fb Hc) (s:Same H0 Hb):EnvOk K [] F0 H0 F H σ δ:=by
  refine ⟨⟨e.ff.trans I.ext.ff,s.trans I.ext.hh,I.ext.fh,fun p o h1 h2=>I.ext.nw p o (e.nw p o h1 h2) (s p o h2)⟩,I.len,fun i=>?_,I.dist,I.lent,I.tabs⟩
  have z:=I.slot i
  cases q:δ[i]? with
  | none=>trivial
  | some x =>
    rw [q] at z
    cases x with
    | no=>trivial
    | v d=>exact z
    | o d=>obtain ⟨a,z1,z2,z3⟩:=z; exact ⟨a,z1,s.free z2,z3⟩
    | l d=>obtain ⟨a,z1,z2,z3⟩:=z; exact ⟨a,z1,s.free z2,z3⟩
    | p ll=>obtain ⟨a,bs,z1,z2,z3⟩:=z; exact ⟨a,bs,z1,z2,fun b hb=>⟨s.free (z3 b hb).1,(z3 b hb).2⟩⟩
theorem ziI {Fb Hb Hc F' H':Hp} (x:Ext Fb Hb F' H') (e:Ext F0 H0 Fb Hc) (s:Same H0 Hb):Ext F0 H0 F' H' :=
  ⟨e.ff.trans x.ff,s.trans x.hh,x.fh,fun p o h1 h2=>x.nw p o (e.nw p o h1 h2) (s p o h2)⟩
open Classical in
def zds (H:Hp) (p:Addr):Hp:=fun b=>if b=p then none else H b
theorem zgS {H:Hp} {p:Addr}:Same (zds H p) H:=fun b o h=>by
  unfold zds at h
  split at h
  · cases h
  · exact h
theorem zhl {H:Hp} {p:Addr}:zds H p p=none:=by unfold zds; rw [if_pos rfl]
theorem zc5 {H:Hp} {p b:Addr} (h:b ≠ p):zds H p b=H b:=by unfold zds; rw [if_neg h]
theorem ziJ {H0 H:Hp} {p:Addr} (s:Same H0 H) (h:H0 p=none):Same H0 (zds H p):=fun b o q=>by
  rw [zc5 (zah q h)]; exact s _ _ q
theorem EnvOk.one {Λ:List (Nat × Addr × HO)} {i:Nat} {d:D} {p:Addr} (I:EnvOk K Λ F0 H0 F H σ δ) (hv:∀ j,j ≠ i→Sl.own δ[j]?=false) (hi:i < δ.length) (hF:F p=none) (o:Own K F H d p):EnvOk K [] F (zds H p) F H (σ.set i (some (.ref p))) (δ.set i (.o d)):=by
  have own1:∀ j:Nat,Sl.own (δ.set i (.o d))[j]?=true→j=i:=fun j h=>by
    apply Classical.byContradiction
    intro z
    rw [List.getElem?_set_ne (Ne.symm z),hv j z] at h
    cases h
  refine ⟨⟨.refl _,zgS,I.ext.fh,fun q u h1 h2=>h1⟩,by simp [I.len],fun j=>?_,fun j k a hjk h1 h2 _ _=>hjk ((own1 j h1).trans (own1 k h2).symm),fun y hy=>(by cases hy),fun j ll a vs h1=>?_⟩
  · by_cases z:i=j
    · subst z
      rw [List.getElem?_set_self hi,List.getElem?_set_self (by rw [I.len]; exact hi)]
      exact ⟨p,rfl,zhl,hF,o⟩
    · rw [List.getElem?_set_ne z,List.getElem?_set_ne z]
      have w:=I.slot j
      have ow:=hv j (Ne.symm z)
      cases q:δ[j]? with
      | none=>trivial
      | some x =>
        rw [q] at w ow
        cases x with
        | no=>trivial
        | v d=>exact w
        | o d=>cases ow
        | l d=>cases ow
        | p ll=>cases ow
  · have:=own1 j (by rw [h1]; rfl)
    subst this
    rw [List.getElem?_set_self hi] at h1
    cases h1
theorem zpD {i:Nat} {t1 t2:TE} {m1 m2:En→R D} {tb:TS} {mb:En→O} (h1:SEo K XO E t1 m1) (h2:SEo K XO E t2 m2) (hb:SS K XO E tb mb):SS K XO E (tFor (zpv K.f (tLst (zcy t1 (zcy t2 tNil)))) (zhi i) tb) (zpo i m1 m2 mb):=by
  intro Λ F0 H0 F H σ δ Dn I a
  refine h1 Λ F0 H0 F H σ δ _ I ((AftS.of I a).imp fun d1 F1 H1 e1 a1 p1 f1 n1 o1=>?_)
  refine h2 Λ F0 H0 F1 H1 σ δ _ (I.grow e1) ((AftS.of (I.grow e1) a1).imp fun d2 F2 H2 e2 a2 p2 f2 n2 o2=>?_)
  refine ⟨by show 2 ≤ sizeLine; decide,fun l hl=>⟨l,rfl,⟨_,.of zal⟩,?_⟩⟩
  by_cases c:allV δ=true∧i < δ.length
  case neg=>rw [if_neg c] at a2; exact a2.elim
  rw [if_pos c] at a2
  have hΛ:Λ = []:=by
    cases Λ with
    | nil=>rfl
    | cons y Λ =>
      obtain ⟨⟨d,hd⟩,_⟩:=I.lent y (by simp)
      have:=zhW c.1 y.1
      rw [hd] at this; cases this
  subst hΛ
  obtain ⟨u1,g1⟩:=o1.obj
  obtain ⟨u2,g2⟩:=o2.obj
  have n12:p2 ≠ p1:=fun z=>by rw [z,g1] at n2; cases n2
  have F2p1:F2 p1=none:=e2.nw p1 _ f1 g1
  have l1:l ≠ p1:=fun z=>by rw [z,e2.hh _ _ g1] at hl; cases hl
  have l2:l ≠ p2:=fun z=>by rw [z,g2] at hl; cases hl
  have H0p1:H0 p1=none:=I.ext.hh.free n1
  have H0p2:H0 p2=none:=(I.grow e1).ext.hh.free n2
  obtain ⟨H3,eH3⟩:∃ H3,H3=upd H2 l (.lst [.ref p1,.ref p2]):=⟨_,rfl⟩
  rw [← eH3]
  have x3:Ext F2 H2 F2 H3:=by rw [eH3]; exact .newO e2.fh hl
  have I3:EnvOk K [] F0 H0 F2 H3 σ δ:=((I.grow e1).grow e2).grow x3
  have O1:Own K F2 H3 d1 p1:=(o1.mono e2.ff e2.hh).mono (.refl _) x3.hh
  have O2:Own K F2 H3 d2 p2:=o2.mono (.refl _) x3.hh
  have H3l:H3 l=some (.lst [.ref p1,.ref p2]):=by rw [eH3]; exact zal
  have E0:=I3.one (fun j _=>zhW c.1 j) c.2 F2p1 O1
  have s0:Same H0 (zds H3 p1):=ziJ I3.ext.hh H0p1
  have x0:=I3.ext
  refine ⟨fun n m σ' H'=>(n=0∧m=2∧σ'=σ∧H'=H3)∨(n=1∧m=1∧∃ δ1 F',(mb (δ.set i (.o d1)) = .nx δ1∨mb (δ.set i (.o d1)) = .ct δ1)∧EnvOk K [] F2 (zds H3 p1) F' H' σ' δ1)∨(n=2∧m=0∧Dn.nx σ' H'∧H' l=some (.lst [.ref p1,.ref p2])),⟨2,.inl ⟨rfl,rfl,rfl,rfl⟩⟩,fun n m σ' H' w=>?_⟩
  rcases w with ⟨rfl,rfl,es,eH⟩ | ⟨rfl,rfl,δ1,F',hq,I'⟩ | ⟨rfl,rfl,hn,hl'⟩
  · rw [es,eH]
    refine .inr ⟨⟨_,.ref p1,.of H3l,rfl⟩,fun σ' H'=>∃ δ1 F',(mb (δ.set i (.o d1)) = .nx δ1∨mb (δ.set i (.o d1)) = .ct δ1)∧EnvOk K [] F2 (zds H3 p1) F' H' σ' δ1,fun σ' H' w=>⟨1,by decide,.inr (.inl ⟨rfl,rfl,w⟩)⟩,fun x H' y=>?_⟩
    obtain ⟨rfl,y⟩:=y
    have ex:=y _ (.of H3l)
    cases ex
    refine hb [] F2 (zds H' p1) F2 H' _ _ _ E0 ?_
    cases q:mb (δ.set i (.o d1)) with
    | no=>rw [q] at a2; exact a2
    | nx δ1=>exact fun σ F H I'=>⟨δ1,F,.inl rfl,I'⟩
    | ct δ1=>exact fun σ F H I'=>⟨δ1,F,.inr rfl,I'⟩
    | bk δ1=>rw [q] at a2; exact fun σ F H I'=>a2 σ F H (I'.rebase x0 s0)
    | rt d=>rw [q] at a2; exact fun v F H e r=>a2 v F H (ziI e x0 s0) r
    | ro d=>rw [q] at a2; exact fun p F H e f n o=>a2 p F H (ziI e x0 s0) f (s0.free n) o
    | ex δ1 xx=>rw [q] at a2; exact fun σ F H C dct I' z=>a2 σ F H C dct (I'.rebase x0 s0) z
  · have a3:AftS K XO E [] F0 H0 Dn (if allV (δ1.set i .no)=true∧i < δ1.length then thn2 (mb (δ1.set i (.o d2))) .nx else .no):=by
      rcases hq with q | q <;> rw [q] at a2 <;> exact a2
    by_cases c1:allV (δ1.set i .no)=true∧i < δ1.length
    case neg=>rw [if_neg c1] at a3; exact a3.elim
    rw [if_pos c1] at a3
    have Hl:H' l=some (.lst [.ref p1,.ref p2]):=I'.ext.hh _ _ (by rw [zc5 l1]; exact H3l)
    have H3p2:zds H3 p1 p2=some u2:=by rw [zc5 n12]; exact x3.hh _ _ g2
    have Fp2:F' p2=none:=I'.ext.nw p2 _ f2 H3p2
    have O2':Own K F' H' d2 p2:=(O2.at (H':=zds H3 p1) (zc5 n12)).mono I'.ext.ff I'.ext.hh
    have E1:=I'.one (fun j hj=>by
      have:=zhW c1.1 j
      rwa [List.getElem?_set_ne (Ne.symm hj)] at this) c1.2 Fp2 O2'
    have s1:Same H0 (zds H' p2):=ziJ (s0.trans I'.ext.hh) H0p2
    have x1:Ext F0 H0 F' H':=ziI I'.ext x0 s0
    refine .inr ⟨⟨_,.ref p2,.of Hl,rfl⟩,fun σ2 H2'=>Dn.nx σ2 H2'∧H2' l=some (.lst [.ref p1,.ref p2]),fun σ2 H2' w=>⟨0,by decide,.inr (.inr ⟨rfl,rfl,w⟩)⟩,fun x H2' y=>?_⟩
    obtain ⟨rfl,y⟩:=y
    have ex:=y _ (.of Hl)
    cases ex
    refine hb [] F' (zds H2' p2) F' H2' _ _ _ E1 ?_
    have keep:∀ {F H:Hp},Ext F' (zds H2' p2) F H→H l=some (.lst [.ref p1,.ref p2]):=fun e=>e.hh _ _ (by rw [zc5 l2]; exact Hl)
    cases q:mb (δ1.set i (.o d2)) with
    | no=>rw [q] at a3; exact a3
    | nx δ2=>rw [q] at a3; exact fun σ F H I''=>⟨a3 σ F H (I''.rebase x1 s1),keep I''.ext⟩
    | ct δ2=>rw [q] at a3; exact fun σ F H I''=>⟨a3 σ F H (I''.rebase x1 s1),keep I''.ext⟩
    | bk δ2=>rw [q] at a3; exact fun σ F H I''=>a3 σ F H (I''.rebase x1 s1)
    | rt d=>rw [q] at a3; exact fun v F H e r=>a3 v F H (ziI e x1 s1) r
    | ro d=>rw [q] at a3; exact fun p F H e f n o=>a3 p F H (ziI e x1 s1) f (s1.free n) o
    | ex δ2 xx=>rw [q] at a3; exact fun σ F H C dct I'' z=>a3 σ F H C dct (I''.rebase x1 s1) z
  · exact .inl ⟨⟨_,.of hl',Nat.le_refl 2⟩,hn⟩
end
end PM
namespace PM
open PySem L2
section
variable {K:Kx} {XO:XOT} {E:L2.St→XK} {F0 H0 F H F1 H1 F' H':Hp}
theorem zf2 {F2:Hp} (s:Same F F2):Same (minH F1 H1 F) (minH F1 H1 F2):=fun b o h=>by
  unfold minH at h ⊢
  split at h
  · cases h
  · rename_i z; rw [if_neg z]; exact s _ _ h
theorem zmh {p:Addr} {vs:List V} (x:Ext F H F' H') (h0:F' p=none) (h1:H p=none) (o:H' p=some (.lst vs)):Ext F H (upd F' p (.lst vs)) H':=by
  refine ⟨fun b u h=>?_,x.hh,fun b u h=>?_,fun q u g1 g2=>?_⟩
  · have:=x.ff b u h
    rw [zai (zah this h0)]; exact this
  · by_cases z:b=p
    · subst z; rw [zal] at h; cases h; exact o
    · rw [zai z] at h; exact x.fh b u h
  · rw [zai (zah g2 h1)]; exact x.nw q u g1 g2
variable (K) in
def SInB (c:Nat) (t:TS) (m:En→List Str→List D→R (List Str × List D)):Prop :=
  ∀ (F1 H1 F H:Hp) (σ:L2.St) (δ:En) (x dx:Addr) (fs:List (Str × V)) (l:List D) (Dn:Ends),ValE δ→EnvOk K [] (zbB F1 H1) H1 F H σ δ→σ[0]?=some (some (.ref x))→H1 x=none→F x=none→H x=some (.ins (K.ca c) dx fs)→RepL K (minH F1 H1 F) l (fs.map (·.2)) →
    (match m δ (fs.map (·.1)) l with
      | .no=>False
      | .ok p=>∀ F' H' fs',EnvOk K [] (zbB F1 H1) H1 F' H' σ δ→F' x=none→H' x=some (.ins (K.ca c) dx fs')→fs'.map (·.1)=p.1→RepL K (minH F1 H1 F') p.2 (fs'.map (·.2))→Dn.nx σ H'
      | .ex _=>False)→t Dn σ H
def zeS (f:Str) (me:En→R D) (δ:En) (ks:List Str) (l:List D):R (List Str × List D):=(me δ).nev.bind fun d=>ifC (ks.length < 1000∧zdn d=true) (.ok (putN ks f,putV ks l f d)) .no
def zgv (f:Str) (me:En→R D) (δ:En) (ks:List Str) (l:List D):R (List Str × List D):=(me δ).nev.bind fun d=>ifC (ks.length < 1000∧∃ r,d = .lst r∧zeE r=true) (.ok (putN ks f,putV ks l f d)) .no
theorem znF {c:Nat} {f:Str} {te:TE} {me:En→R D} (hc:Cls K.f (K.ca c)∧NoAttr K.f (K.ca c) f) (h:SE K XO E te me):SInB K c (sFld K.f (tVar 0) te f) (zeS f me):=by
  intro F1 H1 F H σ δ x dx fs l Dn hv I hx h0 hF hH hl a
  refine h [] _ _ F H σ δ _ I ?_
  unfold zeS at a
  cases q:me δ with
  | no=>rw [q] at a; exact a
  | ex xx=>rw [q] at a; exact a.elim
  | ok d =>
    rw [q] at a
    intro F2 H2 e v r
    simp only [R.nev_ok,R.bind_ok,ifC] at a
    by_cases z:(fs.map (·.1)).length < 1000∧zdn d=true
    · rw [if_pos z] at a
      have x1:=e.hh _ _ hH
      have F2x:F2 x=none:=e.nw x _ hF hH
      have I2:=I.grow e
      obtain ⟨g1,g2⟩:=zhb (f:=f) (zhz I2.ext d z.2 r) (hl.mono (zf2 e.ff))
      refine ⟨_,hx,x,_,dx,fs,rfl,x1,hc.1,hc.2,by simpa using z.1,?_⟩
      exact a F2 _ _ (I2.poke hv h0 F2x) F2x zal g1 g2
    · rw [if_neg z] at a; exact a.elim
theorem znk {c:Nat} {f:Str} {te:TE} {me:En→R D} (hc:Cls K.f (K.ca c)∧NoAttr K.f (K.ca c) f) (h:SEo K XO E te me):SInB K c (sFld K.f (tVar 0) te f) (zgv f me):=by
  intro F1 H1 F H σ δ x dx fs l Dn hv I hx h0 hF hH hl a
  refine h [] _ _ F H σ δ _ I ?_
  unfold zgv at a
  cases q:me δ with
  | no=>rw [q] at a; exact a
  | ex xx=>rw [q] at a; exact a.elim
  | ok d =>
    rw [q] at a
    intro F2 H2 e p hp0 hp1 o
    simp only [R.nev_ok,R.bind_ok,ifC] at a
    by_cases z:(fs.map (·.1)).length < 1000∧∃ r,d = .lst r∧zeE r=true
    · rw [if_pos z] at a
      obtain ⟨z1,r,rfl,z2⟩:=z
      obtain ⟨vs,g1,g2⟩:=o
      have x1:=e.hh _ _ hH
      have F2x:F2 x=none:=e.nw x _ hF hH
      have e3:=zmh e hp0 hp1 g1
      have xp:x ≠ p:=zah hH hp1
      have F3x:upd F2 p (.lst vs) x=none:=by rw [zai xp]; exact F2x
      have I3:=I.grow e3
      have rm:RepL K (minH F1 H1 (upd F2 p (.lst vs))) r vs:=zhS I3.ext r z2 (g2.mono fun b u hb=>by
        rw [zai (zah hb hp0)]; exact hb)
      have H1p:H1 p=none:=I.ext.hh.free hp1
      have rp:Rep K (minH F1 H1 (upd F2 p (.lst vs))) (.lst r) (.ref p):=by
        simp only [Rep]
        refine ⟨p,vs,rfl,.inl ?_,rm⟩
        unfold minH
        rw [if_neg (fun w=>w.2 H1p)]
        exact zal
      obtain ⟨g3,g4⟩:=zhb (f:=f) rp (hl.mono (zf2 e3.ff))
      refine ⟨_,hx,x,_,dx,fs,rfl,x1,hc.1,hc.2,by simpa using z1,?_⟩
      exact a _ _ _ (I3.poke hv h0 F3x) F3x zal g3 g4
    · rw [if_neg z] at a; exact a.elim
theorem zmu {R:D→V→Prop}:∀ {ds:List D} {vs:List V},Prd R ds vs→ds.length=vs.length
  | _,_,.nil=>rfl
  | _,_,.cons _ t=>by rw [List.length_cons,List.length_cons,zmu t]
end
end PM
namespace L2
open PySem PySem.Spec PyProof.Rows
structure MethAt (K:PySem.W.Frag) (C:Addr) (m qual:Str) (st:Stmt) (f:Addr) (fd:FuncData):Prop where
  at_:PySem.W.findIn K (.ref C) m=some (some (.ref f))
  isf:PySem.W.isFn K (.ref f)=true
  fn:Fun K m qual st f fd
theorem methAt_mk {K:PySem.W.Frag} {C:Addr} {m qual:Str} {st:Stmt} {f:Addr} {oc:Value} {od an:Option Addr} {osl:Array (Option Value)} {kV doc pm cdv ct:Value} (a:PySem.W.findIn K (.ref C) m=some (some (.ref f))) (i:PySem.W.isFn K (.ref f)=true)
    (l:K.lookup f=some ⟨oc,od,.func (PySem.W.fnOf m qual (zcz st) (zb6 st) (zaj st) .none kV doc pm an cdv ct),osl⟩) (c:PySem.W.codeIn K cdv qual=true) (k:PySem.W.keepIn K (.ref f)=true):∃ f fd,MethAt K C m qual st f fd :=
  ⟨f,_,a,i,zih l c k⟩
section
variable {P:Program} {w:World} {K:PySem.W.Frag} {mg:Str→Option Value} {base:Heap} {CX:CXT} {k:Nat} {x m qual:Str} {C:Addr} {st:Stmt} {f:Addr} {fd:FuncData} {ps:List Str} {sp:Sp}
theorem MethAt.hasM (D:MethAt K C m qual st f fd) (c:Cls K C) (ok:FnOk P w K mg base CX k f fd ps sp) (b:Binds K fd ps []):HasM P w K mg base CX k m C ps sp:=⟨f,fd,c,⟨D.at_,D.isf,D.fn.kp⟩,ok,b⟩
theorem MethAt.hasC (D:MethAt K C "__init__" qual st f fd) (mk:PySem.W.makesIn K C=true) (kp:PySem.W.keepIn K (.ref C)=true) (hm:mg x=some (.ref C)) (ok:FnOk P w K mg base CX k f fd ps sp) (b:Binds K fd ps []):HasC P w K mg base CX k x C ps sp:=⟨f,fd,⟨mk,D.at_,D.isf,kp⟩,ok,hm,b⟩
end
end L2
namespace L2
open PySem PySem.Spec PyProof.Rows
def zoh (C:Addr) (sp:Sp) (E:St→XK) (t:TA):TE:=fun σ H Q=>t σ H fun vs H1=>∀ x dx,H1 x=none→H1 dx=none→dx ≠ x →
  sp (.ref x :: vs) (upd (upd H1 dx (.own x)) x (.ins C dx [])) (fun v H2=>v = .non∧Q (.ref x) H2) (E σ)
def tAlt (t u:TE):TE:=fun σ H Q=>t σ H Q∨u σ H Q
section
variable {X:Cx} {CX:CXT} {k:Nat} {x:Str} {C:Addr} {ps:List Str} {sp:Sp} {E:St→XK} {p pos:Pos} {e:Expr} {es:List Expr} {t:TA}
theorem zeV {ta tb:TE} (h:PE X e ta) (g:PE X e tb):PE X e (tAlt ta tb):=fun pins s σ H Q I a=>a.elim (h pins s σ H Q I) (g pins s σ H Q I)
theorem znE (G:HasC X.prog X.w X.K X.mg X.base CX k x C ps sp) (hr:Room (k + 1) X.A) (hg:Gl X x) (hx:zhG CX X E) (ha:PA X (e :: es) t)
    (hdb:(x == ("__debug__" : Str))=false:=by decide) (he:starEach (e :: es) X.env=(false,eval e X.env) :: starEach es X.env:=by rfl) (hpl:(backTo pos (starEach es X.env)).any (·.1)=false:=by rfl) :
    PE X (.Call (.Name x p) (e :: es) [] pos) (zoh C sp E t):=by
  obtain ⟨f,fd,M,F,hm,hb⟩:=G.ex
  intro pins s σ H Q I h
  refine wpAny_Call_Name_kw (zek I hg hm ?_ hdb)
  refine PySem.W.callWith_K (h₀:=X.base) I.ok.mod.kin M.kp (thn (ha pos pins s σ H _ I h) fun us s1 ⟨vs,H1,I1,r,q⟩=>⟨I1.kIn,?_⟩) he hpl
  have hq:=q (s1.heap.objs.size + 1) s1.heap.objs.size (I1.hok.fresh (Nat.le_succ _)) (I1.hok.fresh (Nat.le_refl _)) (Nat.ne_of_lt (Nat.lt_succ_self _))
  have J:=Inv.made (C:=C) I1
  have rr:Vals (V.ref (s1.heap.objs.size + 1) :: vs) (Value.ref (s1.heap.objs.size + 1) :: us):=.cons rfl r
  have hl:(Value.ref (s1.heap.objs.size + 1) :: us).length=ps.length:=by rw [← rr.length]; exact F.len _ _ _ _ hq
  have bd:=hb _ (Value.ref (s1.heap.objs.size + 1) :: us) J.kIn (by rw [List.append_nil]; exact hl)
  rw [List.append_nil] at bd
  refine wpAny_call (zjR (f:=f) I1.kIn M.makes M.init (beq_iff_eq.mp M.fn) (codeAny_mono (F.run _ X.stack _ _ ⟨Value.ref (s1.heap.objs.size + 1) :: us,[]⟩ (Value.ref (s1.heap.objs.size + 1) :: us) _ _ (E σ) (hr.make C us []) (J.env0.make C us []) bd rr hq) fun rs s' hz=>?_))
  cases rs with
  | error e'=>exact hx pins σ _ _ e' s' J hz
  | ok fl =>
    cases fl with
    | ret u =>
      obtain ⟨v,H',I3,rv,ev,q3⟩:=J.after hz
      subst ev
      exact ⟨rv,⟨V.ref (s1.heap.objs.size + 1),H',I3,rfl,q3⟩⟩
    | next=>exact False.elim hz
    | brk=>exact False.elim hz
    | cont=>exact False.elim hz
end
end L2
namespace PM
open PySem L2
section
variable {K:Kx} {XO:XOT} {E:L2.St→XK} {F0 H0 F H F1 H1 F' H':Hp}
theorem zp8 {x:Xc} {C:Value} {dct:Option Addr} (e:Ext (zbB F H) H F' H') (h:xoK K x F' H' C dct):xoK K x (minH F H F') H' C dct:=by
  refine ⟨h.1,?_⟩
  have h2:=h.2
  unfold XA at h2 ⊢
  split
  · rename_i c; rw [if_pos c] at h2; exact h2
  · rename_i c
    rw [if_neg c] at h2
    obtain ⟨dx,e1,e2⟩:=h2
    exact ⟨dx,e1,zou e e2 (fun _ z=>by cases z) (fun _ z=>by cases z) (fun _ _ z=>by cases z) (fun _ _ _ z=>by cases z)⟩
variable (K XO E) in
def SInX (c:Nat) (t:TS) (m:En→List Str→List D→R (List Str × List D)):Prop :=
  ∀ (F1 H1 F H:Hp) (σ:L2.St) (δ:En) (x dx:Addr) (fs:List (Str × V)) (l:List D) (Dn:Ends),ValE δ→EnvOk K [] (zbB F1 H1) H1 F H σ δ→σ[0]?=some (some (.ref x))→H1 x=none→F x=none→H x=some (.ins (K.ca c) dx fs)→RepL K (minH F1 H1 F) l (fs.map (·.2)) →
    (match m δ (fs.map (·.1)) l with
      | .no=>False
      | .ok p=>∀ F' H' fs',EnvOk K [] (zbB F1 H1) H1 F' H' σ δ→F' x=none→H' x=some (.ins (K.ca c) dx fs')→fs'.map (·.1)=p.1→RepL K (minH F1 H1 F') p.2 (fs'.map (·.2))→Dn.nx σ H'
      | .ex xx=>∀ C dct F' H',Ext (zbB F1 H1) H1 F' H'→XO xx F' H' C dct→E σ C dct H')→t Dn σ H
theorem zma {f:Str} {me:En→R D} {δ:En} {ks:List Str} {l:List D} {x:Xc}:zeS f me δ ks l ≠ .ex x:=by
  unfold zeS ifC
  cases me δ with
  | ok d=>simp only [R.nev_ok,R.bind_ok]; split <;> exact fun h=>by cases h
  | _=>exact fun h=>by cases h
theorem zlD {f:Str} {me:En→R D} {δ:En} {ks:List Str} {l:List D} {x:Xc}:zgv f me δ ks l ≠ .ex x:=by
  unfold zgv ifC
  cases me δ with
  | ok d=>simp only [R.nev_ok,R.bind_ok]; split <;> exact fun h=>by cases h
  | _=>exact fun h=>by cases h
theorem SInB.x {c:Nat} {t:TS} {m:En→List Str→List D→R (List Str × List D)} (h:SInB K c t m) (hm:∀ δ ks l x,m δ ks l ≠ .ex x):SInX K XO E c t m:=by
  intro F1 H1 F H σ δ x dx fs l Dn hv I hx h0 hF hH hl a
  refine h F1 H1 F H σ δ x dx fs l Dn hv I hx h0 hF hH hl ?_
  cases q:m δ (fs.map (·.1)) l with
  | no=>rw [q] at a; exact a
  | ok p=>rw [q] at a; exact a
  | ex xx=>exact (hm _ _ _ _ q).elim
theorem zf5 {c:Nat} {f:Str} {te:TE} {me:En→R D} (hc:Cls K.f (K.ca c)∧NoAttr K.f (K.ca c) f) (h:SE K XO E te me):SInX K XO E c (sFld K.f (tVar 0) te f) (zeS f me):=(znF hc h).x fun _ _ _ _=>zma
theorem zim {c:Nat} {f:Str} {te:TE} {me:En→R D} (hc:Cls K.f (K.ca c)∧NoAttr K.f (K.ca c) f) (h:SEo K XO E te me):SInX K XO E c (sFld K.f (tVar 0) te f) (zgv f me):=(znk hc h).x fun _ _ _ _=>zlD
def zjw (me:En→R D) (δ:En) (ks:List Str) (l:List D):R (List Str × List D):=(me δ).bind fun _=>.ok (ks,l)
theorem zl2 {c:Nat} {te:TE} {me:En→R D} (h:SE K XO E te me):SInX K XO E c (zmk te) (zjw me):=by
  intro F1 H1 F H σ δ x dx fs l Dn hv I hx h0 hF hH hl a
  refine h [] _ _ F H σ δ _ I ?_
  unfold zjw at a
  cases q:me δ with
  | no=>rw [q] at a; exact a
  | ex xx=>rw [q] at a; exact fun C dct F' H' e z=>a C dct F' H' (I.ext.trans e) z
  | ok d =>
    rw [q] at a
    intro F2 H2 e v r
    exact a F2 H2 fs (I.grow e) (e.nw x _ hF hH) (e.hh _ _ hH) rfl (hl.mono (zf2 e.ff))
theorem zeu {c:Nat} {t u:TS} {m1 m2:En→List Str→List D→R (List Str × List D)} (h1:SInX K XO E c t m1) (h2:SInX K XO E c u m2):SInX K XO E c (tSeq t u) (iSeq m1 m2):=by
  intro F1 H1 F H σ δ x dx fs l Dn hv I hx h0 hF hH hl a
  unfold iSeq at a
  refine h1 F1 H1 F H σ δ x dx fs l { Dn with nx:=u Dn } hv I hx h0 hF hH hl ?_
  cases q:m1 δ (fs.map (·.1)) l with
  | no=>rw [q] at a; exact a
  | ex xx=>rw [q] at a; exact a
  | ok p =>
    rw [q] at a
    intro F' H' fs' I' hF' hH' e1 e2
    refine h2 F1 H1 F' H' σ δ x dx fs' p.2 Dn hv I' hx h0 hF' hH' e2 ?_
    rw [e1]
    exact a
def allI:List D→Bool
  | []=>true
  | .int _ :: l=>allI l
  | _ :: _=>false
theorem zj7 {F F':Hp}:∀ {l:List D} {vs:List V},allI l=true→RepL K F l vs→RepL K F' l vs
  | [],vs,_,h=>by simp only [RepL] at h ⊢; exact h
  | d :: l,vs,c,h=>by
    cases d with
    | int n =>
      simp only [RepL] at h ⊢
      obtain ⟨v,r,h1,h2,h3⟩:=h
      exact ⟨v,r,h1,by simp only [Rep] at h2 ⊢; exact h2,zj7 c h3⟩
    | _=>cases c
theorem zpF:Same (minH F H F') F':=fun b o h=>by
  unfold minH at h
  split at h
  · cases h
  · exact h
def ziq (c:Nat) (f:Str) (me:En→R D) (δ:En) (ks:List Str) (l:List D):R (List Str × List D):=(me (δ.set 0 (.v (.obj c ks l)))).nev.bind fun d=>ifC (ks.length < 1000∧0 < δ.length∧∃ r,d = .lst r∧allI r=true) (.ok (putN ks f,putV ks l f d)) .no
theorem zix {c:Nat} {f:Str} {te:TE} {me:En→R D} (hc:Cls K.f (K.ca c)∧NoAttr K.f (K.ca c) f) (h:SEo K XO E te me):SInX K XO E c (sFld K.f (tVar 0) te f) (ziq c f me):=by
  intro F1 H1 F H σ δ x dx fs l Dn hv I hx h0 hF hH hl a
  have sF:Same F (upd F x (.ins (K.ca c) dx fs)):=fun b o q=>by rw [zai (zah q hF)]; exact q
  have xe:Ext (zbB F1 H1) H1 (upd F x (.ins (K.ca c) dx fs)) H:=by
    refine ⟨I.ext.ff.trans sF,I.ext.hh,fun b o q=>?_,fun q u g1 g2=>?_⟩
    · by_cases z:b=x
      · subst z; rw [zal] at q; cases q; exact hH
      · rw [zai z] at q; exact I.ext.fh _ _ q
    · rw [zai (zah g2 h0)]; exact I.ext.nw q u g1 g2
  have hv':ValE (δ.set 0 (.v (.obj c (fs.map (·.1)) l))):=fun i=>by
    cases i with
    | zero =>
      cases δ with
      | nil=>rfl
      | cons s r=>rfl
    | succ i =>
      rw [List.getElem?_set_ne (by omega)]; exact hv _
  have I':EnvOk K [] (zbB F1 H1) H1 (upd F x (.ins (K.ca c) dx fs)) H σ (δ.set 0 (.v (.obj c (fs.map (·.1)) l))):=by
    refine ⟨xe,by rw [I.len,List.length_set],fun i=>?_,fun i j a _ h1 _ _ _=>(by rw [hv' i] at h1; cases h1),fun y hy=>(by cases hy),fun i ll a vs h1=>(by have:=hv' i; rw [h1] at this; cases this)⟩
    cases i with
    | zero =>
      cases δ with
      | nil=>trivial
      | cons s r =>
        refine ⟨.ref x,hx,?_⟩
        simp only [Rep]
        exact ⟨x,dx,fs,rfl,zal,rfl,(hl.mono zpF).mono sF⟩
    | succ i =>
      rw [List.getElem?_set_ne (by omega)]
      have z:=I.slot (i + 1)
      have ow:=hv (i + 1)
      cases q:δ[i + 1]? with
      | none=>trivial
      | some s =>
        rw [q] at z ow
        cases s with
        | no=>trivial
        | v d=>obtain ⟨v,z1,z2⟩:=z; exact ⟨v,z1,Rep.mono sF _ z2⟩
        | o d=>cases ow
        | l d=>cases ow
        | p ll=>cases ow
  refine h [] _ _ _ H σ _ _ I' ?_
  unfold ziq at a
  cases q:me (δ.set 0 (.v (.obj c (fs.map (·.1)) l))) with
  | no=>rw [q] at a; exact a
  | ex xx=>rw [q] at a; exact a.elim
  | ok d =>
    rw [q] at a
    intro F2 H2 e p hp0 hp1 o
    simp only [R.nev_ok,R.bind_ok,ifC] at a
    by_cases z:(fs.map (·.1)).length < 1000∧0 < δ.length∧∃ r,d = .lst r∧allI r=true
    · rw [if_pos z] at a
      obtain ⟨z1,_,r,rfl,z2⟩:=z
      obtain ⟨vs,g1,g2⟩:=o
      have x1:=e.hh _ _ hH
      have xp:x ≠ p:=zah hH hp1
      have e':Ext F H (zds F2 x) H2:=by
        refine ⟨fun b o q=>?_,e.hh,fun b o q=>e.fh _ _ (zgS b o q),fun b u g1 g2=>?_⟩
        · rw [zc5 (zah q hF)]; exact e.ff _ _ (sF _ _ q)
        · by_cases w:b=x
          · subst w; exact zhl
          · rw [zc5 w]
            exact e.nw b u (by rw [zai w]; exact g1) g2
      have e3:=zmh e' (by rw [zc5 (Ne.symm xp)]; exact hp0) hp1 g1
      have F3x:upd (zds F2 x) p (.lst vs) x=none:=by rw [zai xp]; exact zhl
      have I3:=I.grow e3
      have H1p:H1 p=none:=I.ext.hh.free hp1
      have rp:Rep K (minH F1 H1 (upd (zds F2 x) p (.lst vs))) (.lst r) (.ref p):=by
        simp only [Rep]
        refine ⟨p,vs,rfl,.inl ?_,zj7 z2 g2⟩
        unfold minH
        rw [if_neg (fun w=>w.2 H1p)]
        exact zal
      obtain ⟨g3,g4⟩:=zhb (f:=f) rp (hl.mono (zf2 e3.ff))
      refine ⟨_,hx,x,_,dx,fs,rfl,x1,hc.1,hc.2,by simpa using z1,?_⟩
      exact a _ _ _ (I3.poke hv h0 F3x) F3x zal g3 g4
    · rw [if_neg z] at a; exact a.elim
def spX (K:Kx) (c:Nat) (f:List D→R D):Sp:=fun vs H Q E=>∃ (x dx:Addr) (us:List V) (F Hb:Hp) (ds:List D),vs = .ref x :: us∧H=upd (upd Hb dx (.own x)) x (.ins (K.ca c) dx [])∧Hb x=none∧Hb dx=none∧dx ≠ x∧Same F Hb∧Prd (Bor K F Hb) ds us ∧
  Aft (fun _=>E) (xoK K) [] F Hb (fun d F' H'=>F' x=none→Own K F' H' d x→Q .non H') (f ds)
theorem zlw {c np:Nat} {m:En→List Str→List D→R (List Str × List D)} {vs:List V} {Q:VK} {E:XK} {ps:List Str} (hp:ps.length=np + 1) (h:spX K c (runN c np m) vs H Q E):vs.length=ps.length:=by
  obtain ⟨x,dx,us,F,Hb,ds,rfl,rfl,_,_,_,_,r,a⟩:=h
  unfold runN at a
  split at a
  · rename_i hl
    have:=zmu r
    simp only [List.length_cons]
    omega
  · exact a.elim
theorem zow {c np:Nat} {N:List Str} {vs:List V} {Q:VK} {E:XK} {t:TS} {m:En→List Str→List D→R (List Str × List D)} (h:SInX K (xoK K) (fun _=>E) c t m) (hn:N.length=np + 1) (sp:spX K c (runN c np m) vs H Q E) :
    t { nx:=fun _ H'=>Q .non H',rt:=Q } (L2.start N vs) H:=by
  obtain ⟨x,dx,us,F,Hb,ds,rfl,rfl,x0,d0,ne,s,r0,a⟩:=sp
  unfold runN at a
  split at a
  case isFalse=>exact a.elim
  case isTrue hl =>
    have r:=zhJ s r0
    have s':=zhp s
    have ul:=r.length
    have st:L2.start N (.ref x :: us)=some (.ref x) :: us.map some:=by
      unfold L2.start
      rw [show N.length - (V.ref x :: us).length=0 by simp only [List.length_cons]; omega]
      simp
    rw [st]
    have hF:zbB F Hb x=none:=s'.free x0
    have hv:ValE (.no :: ds.map .v):=fun i=>by
      cases i with
      | zero=>rfl
      | succ i =>
        rw [List.getElem?_cons_succ,List.getElem?_map]
        cases ds[i]? <;> rfl
    have I0:EnvOk K [] (zbB F Hb) Hb (zbB F Hb) Hb (some (V.ref x) :: us.map some) (.no :: ds.map .v):=by
      refine ⟨.refl s',by simp [ul],fun i=>?_,fun i j a _ h1 _ _ _=>(by rw [hv i] at h1; cases h1),fun y hy=>(by cases hy),fun i ll a vs h1=>(by have:=hv i; rw [h1] at this; cases this)⟩
      cases i with
      | zero=>trivial
      | succ i =>
        rw [List.getElem?_cons_succ,List.getElem?_map,List.getElem?_cons_succ,List.getElem?_map]
        cases q:ds[i]? with
        | none=>trivial
        | some d =>
          obtain ⟨v,hv',rv⟩:=r.get q
          exact ⟨v,by rw [hv']; rfl,rv⟩
    have I1:=(I0.poke (u:=.own x) hv d0 (s'.free d0)).poke (x:=x) (u:=.ins (K.ca c) dx []) hv x0 hF
    refine h F Hb (zbB F Hb) _ _ _ x dx [] [] _ hv I1 rfl x0 hF zal .nil ?_
    rw [List.map_nil]
    cases q:m (.no :: ds.map .v) [] [] with
    | no=>rw [q] at a; exact a
    | ex xx=>rw [q] at a; exact fun C dct F' H' e z=>a C dct _ H' (zhD e) (zp8 e z)
    | ok p =>
      rw [q] at a
      intro F' H' fs' I' hF' hH' e1 e2
      refine a _ H' (zhD I'.ext) ?_ ⟨dx,fs',hH',e1,e2⟩
      unfold minH
      split
      · rfl
      · exact hF'
def ziu (f:List D→R D) (ml:En→R (List D)) (δ:En):R D:=(ml δ).bind fun l=>f l
theorem zml {c:Nat} {C:Addr} {f:List D→R D} {tl:TA} {ml:En→R (List D)} (hC:C=K.ca c) (h:SAb K (xoK K) E tl ml):SEo K (xoK K) E (zoh C (spX K c f) E tl) (ziu f ml):=by
  intro Λ F0 H0 F H σ δ Q I a
  refine h Λ F0 H0 F H σ δ _ I (a.bind.imp fun ds F1 H1 e1 a1 vs r x dx hx hdx ne=>⟨x,dx,vs,F1,H1,ds,rfl,by rw [hC],hx,hdx,ne,e1.fh,r,?_⟩)
  cases q:f ds with
  | no=>rw [q] at a1; exact a1.elim
  | ex xx=>rw [q] at a1; exact a1
  | ok d=>rw [q] at a1; exact fun F2 H2 e2 hF o=>⟨rfl,a1 F2 H2 e2 x hF (e1.hh.free hx) o⟩
theorem zgU {c:Nat} {C:Addr} {f:List D→R D} {tl:TA} {ml:En→R (List D)} {E':XK} (hC:C=K.ca c) (h:SAb K (xoK K) E tl ml):SEo K (xoK K) E (zoR C (spX K c f) [] E' tl) (zak f ml):=by
  intro Λ F0 H0 F H σ δ Q I a
  refine h Λ F0 H0 F H σ δ _ I (a.bind.imp fun ds F1 H1 e1 a1 vs r x dx hx hdx ne=>⟨x,dx,vs,F1,H1,ds,by rw [List.append_nil],by rw [hC],hx,hdx,ne,e1.fh,r,?_⟩)
  cases q:f ds with
  | no=>rw [q] at a1; exact a1.elim
  | ex xx=>rw [q] at a1; exact a1.elim
  | ok d=>rw [q] at a1; exact fun F2 H2 e2 hF o=>⟨rfl,a1 F2 H2 e2 x hF (e1.hh.free hx) o⟩
def mAlt (i c1:Nat) (m1 m2:En→R D) (δ:En):R D:=match δ[i]? with | some (.v (.obj c _ _))=>if c=c1 then m1 δ else m2 δ | _=>.no
theorem zjO {i c1:Nat} {t1 t2:TE} {m1 m2:En→R D} (h1:SE K XO E t1 m1) (h2:SE K XO E t2 m2):SE K XO E (tAlt t1 t2) (mAlt i c1 m1 m2):=by
  intro Λ F0 H0 F H σ δ Q I a
  unfold mAlt at a
  split at a
  · split at a
    · exact .inl (h1 Λ F0 H0 F H σ δ Q I a)
    · exact .inr (h2 Λ F0 H0 F H σ δ Q I a)
  · exact a.elim
theorem zgf {i c1:Nat} {t1 t2:TE} {m1 m2:En→R D} (h1:SEo K XO E t1 m1) (h2:SEo K XO E t2 m2):SEo K XO E (tAlt t1 t2) (mAlt i c1 m1 m2):=by
  intro Λ F0 H0 F H σ δ Q I a
  unfold mAlt at a
  split at a
  · split at a
    · exact .inl (h1 Λ F0 H0 F H σ δ Q I a)
    · exact .inr (h2 Λ F0 H0 F H σ δ Q I a)
  · exact a.elim
def mRow (i:Nat) (mk:En→R D) (δ:En):R D:=match δ[i]? with
  | some (.p ll)=>(mk δ).bind fun k=>(match k with
    | .int k=>(match ixN ll.length k with | some k'=>(match ll[k']? with | some row=>.ok (iL row) | none=>.no) | none=>.no)
    | _=>.no)
  | _=>.no
theorem zk8 {i:Nat} {tk:TE} {mk:En→R D} {tr:TA} {mr:En→R (List D)} (h1:SE K XO E tk mk) (hr:SAb K XO E tr mr):SAb K XO E (zcy (tOp (rIxL K.f) (tVar i) tk) tr) (zaa (mRow i mk) mr):=by
  intro Λ F0 H0 F H σ δ Q I a
  unfold zaa mRow at a
  cases q:δ[i]? with
  | none=>rw [q] at a; exact a.elim
  | some s =>
    rw [q] at a
    cases s with
    | p ll =>
      dsimp only at a
      obtain ⟨p,bs,s1,s2,s3,_⟩:=I.tab q
      cases qk:mk δ with
      | no=>rw [qk] at a; exact a.elim
      | ex xx =>
        rw [qk] at a
        refine ⟨_,s1,h1 Λ F0 H0 F H σ δ _ I ?_⟩
        rw [qk]
        exact a
      | ok k =>
        rw [qk] at a
        refine ⟨_,s1,h1 Λ F0 H0 F H σ δ _ I ?_⟩
        rw [qk]
        intro F1 H1 e y ry
        have I1:=I.grow e
        have tt:=s2.mono e.hh
        simp only [R.bind_ok] at a
        cases k with
        | int k =>
          simp only [Rep] at ry
          subst ry
          dsimp only at a
          cases z:ixN ll.length k with
          | none=>rw [z] at a; exact a.elim
          | some k' =>
            rw [z] at a
            dsimp only at a
            cases z2:ll[k']? with
            | none=>rw [z2] at a; exact a.elim
            | some row =>
              rw [z2] at a
              dsimp only at a
              have kl:k' < bs.length:=by rw [s2.len]; exact (List.getElem?_eq_some_iff.mp z2).1
              have gb:bs[k']?=some bs[k']:=List.getElem?_eq_getElem kl
              have rw1:=tt.row k' _ row gb z2
              refine ⟨p,bs.map .ref,k,.ref bs[k'],rfl,rfl,.inl (.inl tt.top),?_,?_⟩
              · unfold atI
                rw [List.length_map,s2.len,z]
                show (bs.map V.ref)[k']?=_
                rw [List.getElem?_map,gb]; rfl
              · rw [R.bind_ok] at a
                refine hr Λ F0 H0 F1 H1 σ δ _ I1 ?_
                have b:Bor K F1 H1 (iL row) (.ref bs[k']):=.inr ⟨_,rfl,row.map .int,rw1,RepL.ints⟩
                refine Aft.imp ?_ (Aft.bind (Aft.mono e a))
                intro dy F2 H2 e2 a2 y ry
                exact a2 F2 H2 (.refl e2.fh) _ (.cons (b.mono e2) ry)
        | _=>exact a.elim
    | _=>exact a.elim
end
end PM
namespace L2
open PySem PySem.Spec PyProof.Rows
section
variable {prog:Program} {w:World} {A:Around} {E:Value→Shared→Prop} {s:Shared}
theorem zmT {z ti tu i j l t:Addr} {k m:Nat} {xs ys:Array Value} {x y p q:Value} {Q:Value→Shared→Prop} (D:ZipApart z ti tu i j l t)
    (hz:IsZip s.heap z ti tu .none) (h3:IsPair s.heap ti (.ref i) (.ref j)) (h4:IsPair s.heap tu p q)
    (h1:s.heap.IsListIter i l k) (h2:s.heap.IsTupleIter j t m) (hl:s.heap.IsList l xs) (ht:s.heap.IsTuple t ys) (hx:xs[k]?=some x) (hy:ys[m]?=some y)
    (hQ:∀ h',IsZip h' z ti tu (rawInt s.heap.objs.size)→IsPair h' tu x y→h'.IsListIter i l (k + 1)→h'.IsTupleIter j t (m + 1)→IsPair h' s.heap.objs.size x y →
      (∀ c o,c ≠ z→c ≠ tu→c ≠ i→c ≠ j→s.heap.get? c=some o→h'.get? c=some o)→Q (.ref s.heap.objs.size) { s with heap:=h' }) :
    wpAny (model prog w) A (Builtin.«zip.__next__» ⟨[.ref z],[]⟩) (fun fin s'=>∃ v,fin = .done (.ret v)∧Q v s') E s:=by
  show wpAny _ A (field (.ref z) 2 >>= _) _ _ s
  refine wpAny_bind (wpAny_field hz rfl (x:=.bool false) rfl ?_)
  show wpAny _ A (field (.ref z) 3 >>= _) _ _ s
  refine wpAny_bind (wpAny_field hz rfl (x:=.ref ti) rfl ?_)
  refine wpAny_bind (wpAny_seqItems h3 rfl ?_)
  show wpAny _ A (Builtin.SmallTypes.ownedTupleIsFree (.ref z) >>= _) _ _ s
  refine wpAny_bind ?_
  unfold Builtin.SmallTypes.ownedTupleIsFree
  refine wpAny_bind (wpAny_field hz rfl (x:=.none) rfl (wpAny_pure ?_))
  simp only [if_true]
  refine wpAny_bind (wpAny_rule ?_)
  refine wpAny_bind (wpAny_field hz rfl (x:=.ref tu) rfl ?_)
  refine wpAny_bind (wpAny_setField_rec hz (by simp) fun g1 z1 s1=>?_)
  replace z1:IsZip g1 z ti tu .ellipsis:=z1
  refine wpAny_bind ?_
  simp only [List.zipIdx_cons,List.zipIdx_nil,List.forIn_cons,List.forIn_nil]
  refine wpAny_bind (wpAny_bind (wpAny_onRaise ?_))
  show wpAny _ A (Builtin.SmallTypes.nextOf (.ref i) >>= _) _ _ _
  refine wpAny_bind (wpAny_nextOf_list_item (h1.extBut s1.extBut D.i1z) (hl.extBut s1.extBut D.l1z) hx fun g2 p2 s2=>wpAny_pure ?_)
  have u2:IsPair g2 tu p q:=s2.extBut _ _ D.TOi1 (s1.extBut _ _ D.TOz h4)
  refine wpAny_bind (wpAny_seqItems u2 rfl ?_)
  refine wpAny_bind (wpAny_updateSeq_pair u2 fun g3 u3 s3=>?_)
  replace u3:IsPair g3 tu x q:=u3
  refine wpAny_bind (wpAny_letGo (wpAny_pure ?_))
  refine wpAny_bind (wpAny_bind (wpAny_onRaise ?_))
  show wpAny _ A (Builtin.SmallTypes.nextOf (.ref j) >>= _) _ _ _
  refine wpAny_bind (znX (((h2.extBut s1.extBut D.i2z).extBut s2.extBut D.i12.symm).extBut s3.extBut D.TOi2.symm) (((ht.extBut s1.extBut D.l2z).extBut s2.extBut D.l2i1).extBut s3.extBut D.l2TO) hy fun g4 p4 s4=>wpAny_pure ?_)
  have u4:IsPair g4 tu x q:=s4.extBut _ _ D.TOi2 u3
  refine wpAny_bind (wpAny_seqItems u4 rfl ?_)
  refine wpAny_bind (wpAny_updateSeq_pair u4 fun g5 u5 s5=>?_)
  replace u5:IsPair g5 tu x y:=u5
  refine wpAny_bind (wpAny_letGo (wpAny_pure (wpAny_pure ?_)))
  refine wpAny_bind (wpAny_seqItems u5 rfl ?_)
  refine wpAny_bind (wpAny_newTuple (hsz:=by show 2 ≤ sizeLine; decide) ?_)
  have sz:g5.objs.size=s.heap.objs.size:=by rw [s5.1,s4.1,s3.1,s2.1,s1.1]
  have z5:IsZip g5 z ti tu .ellipsis:=s5.extBut _ _ D.TOz.symm (s4.extBut _ _ D.i2z.symm (s3.extBut _ _ D.TOz.symm (s2.extBut _ _ D.i1z.symm z1)))
  have k5:∀ c o,c ≠ z→c ≠ tu→c ≠ i→c ≠ j→s.heap.get? c=some o→g5.get? c=some o:=fun c o c1 c2 c3 c4 e=>s5.extBut _ _ c2 (s4.extBut _ _ c4 (s3.extBut _ _ c2 (s2.extBut _ _ c3 (s1.extBut _ _ c1 e))))
  have i5:g5.IsListIter i l (k + 1):=((p2.extBut s3.extBut D.TOi1.symm).extBut s4.extBut D.i12).extBut s5.extBut D.TOi1.symm
  have j5:g5.IsTupleIter j t (m + 1):=p4.extBut s5.extBut D.TOi2.symm
  have zl:z < g5.objs.size:=Heap.lt_size z5
  show wpAny _ A (Builtin.SmallTypes.ownedTupleHandOut (.ref z) (.ref g5.objs.size) >>= _) _ _ _
  refine wpAny_bind ?_
  unfold Builtin.SmallTypes.ownedTupleHandOut
  have z6:IsZip (g5.push { cls:=.type "tuple",data:=.seq #[x,y] }) z ti tu .ellipsis:=Heap.get?_push_of_some _ z5
  refine wpAny_bind (wpAny_setField_rec z6 (by simp) fun g7 z7 s7=>?_)
  replace z7:IsZip g7 z ti tu (rawInt g5.objs.size):=z7
  refine wpAny_setField_rec z7 (by simp) fun g8 z8 s8=>?_
  replace z8:IsZip g8 z ti tu (rawInt g5.objs.size):=z8
  have up:∀ c o,c ≠ z→g5.get? c=some o→g8.get? c=some o:=fun c o c1 e=>s8.extBut _ _ c1 (s7.extBut _ _ c1 (Heap.get?_push_of_some _ e))
  have t8:IsPair g8 g5.objs.size x y:=s8.extBut _ _ (Nat.ne_of_gt zl) (s7.extBut _ _ (Nat.ne_of_gt zl) (Heap.get?_push_size _ rfl))
  rw [sz] at z8 t8
  refine wpAny_pure ⟨_,rfl,?_⟩
  show Q (.ref g5.objs.size) _
  rw [sz]
  exact hQ g8 z8 (up _ _ D.TOz u5) (i5.at fun o e=>up _ o D.i1z e) (j5.at fun o e=>up _ o D.i2z e) t8 fun c o c1 c2 c3 c4 e=>up c o c1 (k5 c o c1 c2 c3 c4 e)
theorem znH {z ti tu i j l t:Addr} {k m:Nat} {xs ys:Array Value} {p q:Value} {Q:Fin→Shared→Prop} (hh:A.handled=none) (D:ZipApart z ti tu i j l t)
    (hz:IsZip s.heap z ti tu .none) (h3:IsPair s.heap ti (.ref i) (.ref j)) (h4:IsPair s.heap tu p q)
    (h1:s.heap.IsListIter i l k) (h2:s.heap.IsTupleIter j t m) (hl:s.heap.IsList l xs) (ht:s.heap.IsTuple t ys) (he:xs[k]?=none∨ys[m]?=none)
    (hE:∀ h' e,(∀ c o,c ≠ z→c ≠ tu→c ≠ i→c ≠ j→s.heap.get? c=some o→h'.get? c=some o)→(∃ o,h'.get? e=some o∧o.cls = .type "StopIteration")→E (.ref e) { s with heap:=h' }) :
    wpAny (model prog w) A (Builtin.«zip.__next__» ⟨[.ref z],[]⟩) Q E s:=by
  show wpAny _ A (field (.ref z) 2 >>= _) _ _ s
  refine wpAny_bind (wpAny_field hz rfl (x:=.bool false) rfl ?_)
  show wpAny _ A (field (.ref z) 3 >>= _) _ _ s
  refine wpAny_bind (wpAny_field hz rfl (x:=.ref ti) rfl ?_)
  refine wpAny_bind (wpAny_seqItems h3 rfl ?_)
  show wpAny _ A (Builtin.SmallTypes.ownedTupleIsFree (.ref z) >>= _) _ _ s
  refine wpAny_bind ?_
  unfold Builtin.SmallTypes.ownedTupleIsFree
  refine wpAny_bind (wpAny_field hz rfl (x:=.none) rfl (wpAny_pure ?_))
  simp only [if_true]
  refine wpAny_bind (wpAny_rule ?_)
  refine wpAny_bind (wpAny_field hz rfl (x:=.ref tu) rfl ?_)
  refine wpAny_bind (wpAny_setField_rec hz (by simp) fun g1 z1 s1=>?_)
  replace z1:IsZip g1 z ti tu .ellipsis:=z1
  refine wpAny_bind ?_
  simp only [List.zipIdx_cons,List.zipIdx_nil,List.forIn_cons,List.forIn_nil]
  refine wpAny_bind (wpAny_bind (wpAny_onRaise ?_))
  show wpAny _ A (Builtin.SmallTypes.nextOf (.ref i) >>= _) _ _ _
  cases hx:xs[k]? with
  | none =>
    refine wpAny_bind (wpAny_nextOf_list_end hh (h1.extBut s1.extBut D.i1z) (hl.extBut s1.extBut D.l1z) hx fun g2 e s2 ⟨oe,ho,hc⟩=>?_)
    have z2:IsZip g2 z ti tu .ellipsis:=s2 _ _ D.i1z.symm z1
    have ez:e ≠ z:=fun r=>by rw [r,z2] at ho; cases ho; simp at hc
    exact wpAny_setField_rec z2 (by simp) fun g3 _ s3=>hE g3 e (fun c o c1 _ c3 _ r=>s3.extBut _ _ c1 (s2 _ _ c3 (s1.extBut _ _ c1 r))) ⟨oe,s3.extBut _ _ ez ho,hc⟩
  | some x =>
    have hy:ys[m]?=none:=he.resolve_left (by rw [hx]; simp)
    refine wpAny_bind (wpAny_nextOf_list_item (h1.extBut s1.extBut D.i1z) (hl.extBut s1.extBut D.l1z) hx fun g2 p2 s2=>wpAny_pure ?_)
    have u2:IsPair g2 tu p q:=s2.extBut _ _ D.TOi1 (s1.extBut _ _ D.TOz h4)
    refine wpAny_bind (wpAny_seqItems u2 rfl ?_)
    refine wpAny_bind (wpAny_updateSeq_pair u2 fun g3 u3 s3=>?_)
    refine wpAny_bind (wpAny_letGo (wpAny_pure ?_))
    refine wpAny_bind (wpAny_bind (wpAny_onRaise ?_))
    show wpAny _ A (Builtin.SmallTypes.nextOf (.ref j) >>= _) _ _ _
    refine wpAny_bind (zmv hh (((h2.extBut s1.extBut D.i2z).extBut s2.extBut D.i12.symm).extBut s3.extBut D.TOi2.symm) (((ht.extBut s1.extBut D.l2z).extBut s2.extBut D.l2i1).extBut s3.extBut D.l2TO) hy fun g4 e s4 ⟨oe,ho,hc⟩=>?_)
    have z4:IsZip g4 z ti tu .ellipsis:=s4 _ _ D.i2z.symm (s3.extBut _ _ D.TOz.symm (s2.extBut _ _ D.i1z.symm z1))
    have ez:e ≠ z:=fun r=>by rw [r,z4] at ho; cases ho; simp at hc
    exact wpAny_setField_rec z4 (by simp) fun g5 _ s5=>hE g5 e (fun c o c1 c2 c3 c4 r=>s5.extBut _ _ c1 (s4 _ _ c4 (s3.extBut _ _ c2 (s2.extBut _ _ c3 (s1.extBut _ _ c1 r))))) ⟨oe,s5.extBut _ _ ez ho,hc⟩
end
def zpT (h:Heap) (l t:Addr):Heap:=((((h.push { cls:=.type "list_iterator",data:=.fields #[.ref l,.int 0 0] }).push { cls:=.type "tuple_iterator",data:=.fields #[.ref t,.int 0 0] }).push { cls:=.type "tuple",data:=.seq #[.ref h.objs.size,.ref (h.objs.size + 1)] }).push
  { cls:=.type "tuple",data:=.seq #[.none,.none] }).push { cls:=.type "zip",data:=.fields #[.none,.bool false,.bool false,.ref (h.objs.size + 2),.ref (h.objs.size + 3)] }
theorem zkB (l t:Addr) (xs ys:Array Value):Meets (Builtin.«zip.__new__» ⟨[.type "zip",.ref l,.ref t],[]⟩) (fun _ R s=>s.heap.IsList l xs∧s.heap.IsTuple t ys∧R (.ok (.ret (.ref (s.heap.objs.size + 4)))) { s with heap:=zpT s.heap l t }) :=
  .of_wp fun prog w A R s h=>by
    obtain ⟨hp,g,d,tk,os⟩:=s
    obtain ⟨a1,a2,h⟩:=h
    have hsub:=sub_zip
    have b1:Heap.IsList (Shared.heap ⟨hp,g,d,tk,os⟩) l xs:=a1
    have b2:IsTup (Shared.heap ⟨hp.push { cls:=.type "list_iterator",data:=.fields #[.ref l,.int 0 0] },g,d,tk,os⟩) t ys:=IsTup.push a2 _
    wp_walk using wpAny_pyIter_list b1,iter_tuple b2
    refine ⟨_,rfl,?_⟩
    have e1:(hp.push { cls:=.type "list_iterator",data:=.fields #[.ref l,.int 0 0] }).objs.size=hp.objs.size + 1:=Heap.size_push ..
    simp only [Heap.size_push] at h ⊢
    exact h
theorem zm0 {prog:Program} {w:World} {A:Around} {E:Value→Shared→Prop} {s:Shared} {l t:Addr} {xs ys:Array Value} {Q:Value→Shared→Prop} (hl:s.heap.IsList l xs) (ht:s.heap.IsTuple t ys)
    (h:∀ h',IsZip h' (s.heap.objs.size + 4) (s.heap.objs.size + 2) (s.heap.objs.size + 3) .none→IsPair h' (s.heap.objs.size + 2) (.ref s.heap.objs.size) (.ref (s.heap.objs.size + 1))→IsPair h' (s.heap.objs.size + 3) .none .none →
      h'.IsListIter s.heap.objs.size l 0→h'.IsTupleIter (s.heap.objs.size + 1) t 0→(∀ c o,s.heap.get? c=some o→h'.get? c=some o)→Q (.ref (s.heap.objs.size + 4)) { s with heap:=h' }) :
    wpAny (model prog w) A (call (.type "zip") [.ref l,.ref t]) Q E s:=by
  refine callType_new F.called_zip (by decide) (F.typeCall_zip_2 _ _) (F.newCall_zip_2 _ _) (fun obj=>F.args_object_init_3 obj _ _) F.entry_zip_new (zkB l t xs ys) ⟨hl,ht,?_⟩
  obtain ⟨n,en⟩:∃ n,n=s.heap.objs.size:=⟨_,rfl⟩
  have at_:∀ (h:Heap) (o:Obj) (m:Nat),h.objs.size=m→o.isFreed=false→(h.push o).get? m=some o:=fun h o m e f=>by rw [← e]; exact Heap.get?_push_size _ f
  have g5:IsZip (zpT s.heap l t) (n + 4) (n + 2) (n + 3) .none:=by rw [en]; exact at_ _ _ _ (by simp only [Heap.size_push]) rfl
  have g4:IsPair (zpT s.heap l t) (n + 3) .none .none:=by rw [en]; exact Heap.get?_push_of_some _ (at_ _ _ _ (by simp only [Heap.size_push]) rfl)
  have g3:IsPair (zpT s.heap l t) (n + 2) (.ref n) (.ref (n + 1)):=by rw [en]; exact Heap.get?_push_of_some _ (Heap.get?_push_of_some _ (at_ _ _ _ (by simp only [Heap.size_push]) rfl))
  have g2:(zpT s.heap l t).get? (n + 1)=some { cls:=.type "tuple_iterator",data:=.fields #[.ref t,.int 0 0] }:=by rw [en]; exact Heap.get?_push_of_some _ (Heap.get?_push_of_some _ (Heap.get?_push_of_some _ (at_ _ _ _ (by simp only [Heap.size_push]) rfl)))
  have g1:(zpT s.heap l t).get? n=some { cls:=.type "list_iterator",data:=.fields #[.ref l,.int 0 0] }:=by rw [en]; exact Heap.get?_push_of_some _ (Heap.get?_push_of_some _ (Heap.get?_push_of_some _ (Heap.get?_push_of_some _ (at_ _ _ _ rfl rfl))))
  rw [← en] at h ⊢
  show _∧_
  exact ⟨⟨_,g5,rfl⟩,h _ g5 g3 g4 ⟨_,g1,rfl,rfl⟩ ⟨_,g2,rfl,rfl⟩ fun c o x=>Heap.get?_push_of_some _ (Heap.get?_push_of_some _ (Heap.get?_push_of_some _ (Heap.get?_push_of_some _ (Heap.get?_push_of_some _ x))))⟩
theorem zg9 {h:Heap} {z ti tu i j a b:Addr} {f0 u v:Value} {k m:Nat} {xs ys:Array Value} (hd : [z,ti,tu,i,j].Nodup) (h1:IsZip h z ti tu f0) (h3:IsPair h tu u v) (h4:h.IsListIter i a k) (h5:h.IsTupleIter j b m) (p:PlainL h a xs) (p':h.IsTuple b ys) (bt:b ≠ tu):ZipApart z ti tu i j a b:=by
  obtain ⟨o,n,e,c,_⟩:=p
  obtain ⟨o',e',c',_⟩:=p'
  obtain ⟨j1,g1,d1,_⟩:=h4
  obtain ⟨j2,g2,d2,_⟩:=h5
  simp only [List.nodup_cons,List.mem_cons,List.not_mem_nil,or_false,not_or,List.nodup_nil,and_true,not_false_eq_true] at hd
  obtain ⟨⟨z1,z2,z3,z4⟩,⟨y1,y2,y3⟩,⟨x1,x2⟩,w1⟩:=hd
  refine ⟨Ne.symm z1,Ne.symm z2,Ne.symm z3,Ne.symm z4,y1,y2,y3,x1,x2,w1,fun r=>?_,fun r=>?_,fun r=>?_,fun r=>?_,fun r=>?_,bt,fun r=>?_,fun r=>?_⟩
  · subst r; rw [h1] at e; cases e; simp at c
  · subst r; rw [h3] at e; cases e; simp at c
  · subst r; rw [g1] at e; cases e; rw [d1] at c; simp at c
  · subst r; rw [g2] at e; cases e; rw [d2] at c; simp at c
  · subst r; rw [h1] at e'; cases e'; simp at c'
  · subst r; rw [g1] at e'; cases e'; rw [d1] at c'; simp at c'
  · subst r; rw [g2] at e'; cases e'; rw [d2] at c'; simp at c'
def ItzT (K:PySem.W.Frag) (a b:Addr):It :=
  ⟨fun i H=>∃ xs ys x y,SqL K H a xs∧H b=some (.tup ys)∧xs[i]?=some x∧ys[i]?=some y,
   fun i H v H'=>∃ p x y,v = .ref p∧H p=none∧H'=upd H p (.tup [x,y])∧(∀ xs,SqL K H a xs→xs[i]?=some x)∧∀ ys,H b=some (.tup ys)→ys[i]?=some y,
   fun i H=>∃ xs ys,SqL K H a xs∧H b=some (.tup ys)∧(xs.length ≤ i∨ys.length ≤ i)⟩
theorem zlu {P:Program} {w:World} {K:PySem.W.Frag} {es:List Expr} {k} {pos:Pos} (a b z ti tu i j:Addr) (hd : [z,ti,tu,i,j].Nodup) :
    Turn P w K (.Tuple es k pos) (ItzT K a b) [z,ti,tu,i,j] z (fun n h=>IsZip h z ti tu .none∧IsPair h ti (.ref i) (.ref j)∧(∃ u v,IsPair h tu u v)∧h.IsListIter i a n∧h.IsTupleIter j b n) where
  mem:=by simp
  obj:=fun n h st c hc=>by
    obtain ⟨h1,h2,⟨u,v,h3⟩,⟨o1,h4,c1,d1⟩,o2,h5,c2,d2⟩:=st
    simp only [List.mem_cons,List.not_mem_nil,or_false] at hc
    rcases hc with rfl | rfl | rfl | rfl | rfl
    · exact ⟨_,h1,fun v z=>by cases (show Data.fields _=Data.cell v from z)⟩
    · exact ⟨_,h2,fun v z=>by cases (show Data.seq _=Data.cell v from z)⟩
    · exact ⟨_,h3,fun v z=>by cases (show Data.seq _=Data.cell v from z)⟩
    · exact ⟨o1,h4,fun v z=>by rw [d1] at z; cases z⟩
    · exact ⟨o2,h5,fun v z=>by rw [d2] at z; cases z⟩
  keep:=fun n h h' st q=>by
    obtain ⟨h1,h2,⟨u,v,h3⟩,h4,h5⟩:=st
    exact ⟨q z (by simp) _ h1,q ti (by simp) _ h2,⟨u,v,q tu (by simp) _ h3⟩,h4.at fun o e=>q i (by simp) o e,h5.at fun o e=>q j (by simp) o e⟩
  item:=by
    intro X hP hw hK hc n pins s σ H E I hf st hg
    subst hP hw hK
    obtain ⟨xs,ys,x,y,q1,q2,hx,hy⟩:=hg
    obtain ⟨its,rv,p,hz⟩:=I.list q1
    obtain ⟨_,its',rv',p'⟩:=I.hok b _ q2
    have pT:s.heap.IsTuple b its'.toArray:=p'
    obtain ⟨u,hu,ru⟩:=rv.get hx
    obtain ⟨u',hu',ru'⟩:=rv'.get hy
    obtain ⟨h1,h2,⟨f,g,h3⟩,h4,h5⟩:=st
    have bt:b ≠ tu:=fun r=>by
      obtain ⟨f0,_⟩:=hf tu (by simp)
      rw [r,f0] at q2; cases q2
    have D:=zg9 hd h1 h3 h4 h5 p pT bt
    have hT:H s.heap.objs.size=none:=I.hok.fresh (Nat.le_refl _)
    have nT:∀ c o,s.heap.get? c=some o→c ≠ s.heap.objs.size:=fun c o e=>Nat.ne_of_lt (Heap.lt_size e)
    have tz:s.TypeIs (.ref z) "zip":=⟨_,h1,rfl⟩
    unfold pyNext
    refine wpAny_bind (wpAny_attempt (wpAny_callSpecial?_slot (name:=Str.ofString "__next__") tz F.slot_zip_next (wpAny_call_entry F.slot_zip_next tz F.entry_zip_next ?_ (F.args_zip_next_1 _))))
    refine zmT D h1 h2 h3 h4 h5 p.isList pT (x:=u) (y:=u') (by simpa using hu) (by simpa using hu') fun h' a1 a2 a3 a4 a5 hk=>wpAny_pure ⟨_,rfl,?_⟩
    refine wpAny_letOwnedTupleGo_zip a1 fun h'' b1 hs''=>?_
    have hs2:Heap.SameBut z h' h'':=hs''
    have nzT:=nT z _ h1
    have hk2:∀ c o,c ∉ [z,ti,tu,i,j]→s.heap.get? c=some o→h''.get? c=some o:=fun c o hc q=>by
      simp only [List.mem_cons,List.not_mem_nil,or_false,not_or] at hc
      exact (hs2.2 c hc.1).trans (hk c o hc.1 hc.2.2.1 hc.2.2.2.1 hc.2.2.2.2 q)
    refine ⟨.ref s.heap.objs.size,upd H s.heap.objs.size (.tup [x,y]),?_,rfl,⟨_,x,y,rfl,hT,rfl,fun xs' h=>by rw [I.list_inj h q1]; exact hx,fun ys' h=>by rw [q2] at h; cases h; exact hy⟩,
      ⟨b1,(hs2.2 _ D.TIz).trans (hk _ _ D.TIz D.TITO D.TIi1 D.TIi2 h2),⟨u,u',(hs2.2 _ D.TOz).trans a2⟩,a3.at fun o e=>(hs2.2 _ D.i1z).trans e,a4.at fun o e=>(hs2.2 _ D.i2z).trans e⟩,fun c hc=>?_⟩
    · exact I.laidT (t':=s.toks) [z,ti,tu,i,j] hf hk2 (by show 2 ≤ sizeLine; decide) (.cons ru (.cons ru' .nil)) ((hs2.2 _ (Ne.symm nzT)).trans a5)
    · obtain ⟨f0,_⟩:=hf c hc
      rw [zai]
      · exact f0
      · obtain ⟨o1,e4,_⟩:=h4
        obtain ⟨o2,e5,_⟩:=h5
        simp only [List.mem_cons,List.not_mem_nil,or_false] at hc
        rcases hc with rfl | rfl | rfl | rfl | rfl
        · exact nT _ _ h1
        · exact nT _ _ h2
        · exact nT _ _ h3
        · exact nT _ _ e4
        · exact nT _ _ e5
  done:=by
    intro X hP hw hK hc n pins s σ H E I hf st hg
    subst hP hw hK
    obtain ⟨xs,ys,q1,q2,he⟩:=hg
    obtain ⟨its,rv,p,hz⟩:=I.list q1
    obtain ⟨_,its',rv',p'⟩:=I.hok b _ q2
    have pT:s.heap.IsTuple b its'.toArray:=p'
    obtain ⟨h1,h2,⟨f,g,h3⟩,h4,h5⟩:=st
    have bt:b ≠ tu:=fun r=>by
      obtain ⟨f0,_⟩:=hf tu (by simp)
      rw [r,f0] at q2; cases q2
    have D:=zg9 hd h1 h3 h4 h5 p pT bt
    have l1:=rv.length
    have l2:=rv'.length
    have tz:s.TypeIs (.ref z) "zip":=⟨_,h1,rfl⟩
    unfold pyNext
    refine wpAny_bind (wpAny_attempt (wpAny_callSpecial?_slot (name:=Str.ofString "__next__") tz F.slot_zip_next (wpAny_call_entry F.slot_zip_next tz F.entry_zip_next ?_ (F.args_zip_next_1 _))))
    refine znH (I.ok.hd hc) D h1 h2 h3 h4 h5 p.isList pT (he.imp (fun z=>by simp; omega) fun z=>by simp; omega) fun h' e hk ⟨oe,ho,hce⟩=>?_
    refine wpAny_bind (wpAny_isInstance (T:="StopIteration") (b:=true) ⟨oe,ho,hce⟩ isSubtype_stop (wpAny_pure ⟨rfl,?_⟩))
    exact I.turnedL (t':=s.toks) [z,ti,tu,i,j] hf fun c o hc q=>by
      simp only [List.mem_cons,List.not_mem_nil,or_false,not_or] at hc
      exact hk c o hc.1 hc.2.2.1 hc.2.2.2.1 hc.2.2.2.2 q
  self:=fun _ _ _ _ _ st h=>wpAny_pyIter_zip st.1 h
section
variable {X:Cx}
def zqp (K:PySem.W.Frag) (ta:TA):TI:=fun σ H R=>ta σ H fun vs H1=>∃ a b,vs = [.ref a,.ref b]∧(∃ xs,SqL K H1 a xs)∧(∃ ys,H1 b=some (.tup ys))∧R (ItzT K a b) H1
theorem zfz {es:List Expr} {k} {tp:Pos} {l l':Expr} {ta:TA} {p pos:Pos} (hg:Gl X "zip") (hm:X.mg "zip"=none) (ha:PA X [l,l'] ta) (hs:starEach [l,l'] X.env=(false,eval l X.env) :: starEach [l'] X.env:=by rfl) (hs2:(backTo pos (starEach [l'] X.env)).any (·.1)=false:=by rfl) :
    PI X (.Tuple es k tp) (.Call (.Name "zip" p) [l,l'] [] pos) (zqp X.K ta):=by
  intro pins s σ H R I h
  refine Call_ (zeG I hg hm PyProof.Rows.boot_zip (PyProof.Rows.callWith_type1 (thn (ha pos pins s σ H _ I h) fun us s1 ⟨vs,H1,I1,r1,q1⟩=>?_) hs hs2))
  obtain ⟨a,b,e,⟨xs,hq⟩,⟨ys,hq'⟩,q⟩:=q1
  subst e
  obtain ⟨u,v,rfl,rx,ry⟩:=zkS r1
  cases rx
  cases ry
  obtain ⟨its,rv,pl,hz⟩:=I1.list hq
  obtain ⟨_,its',rv',pl'⟩:=I1.hok b _ hq'
  refine zm0 pl.isList pl' fun h' c1 c2 c3 c4 c5 hk=>?_
  have I2:Inv X pins σ H1 { s1 with heap:=h' }:=I1.kept (t':=s1.toks) hk
  obtain ⟨m,em⟩:∃ m,m=s1.heap.objs.size:=⟨_,rfl⟩
  have hnd : [m + 4,m + 2,m + 3,m,m + 1].Nodup:=by simp
  rw [← em] at c1 c2 c3 c4 c5 ⊢
  refine wpAny_pyIter_zip c1 ⟨m + 4,[m + 4,m + 2,m + 3,m,m + 1],_,_,H1,rfl,I2,zlu a b _ _ _ _ _ hnd,⟨c1,c2,⟨_,_,c3⟩,c4,c5⟩,fun d hd=>?_,q⟩
  have hd':s1.heap.objs.size ≤ d:=by
    simp only [List.mem_cons,List.not_mem_nil,or_false] at hd
    rcases hd with rfl | rfl | rfl | rfl | rfl <;> omega
  exact I1.fpOk hd' (I1.hok.fresh hd')
end
end L2
namespace PM
open PySem L2
section
variable {K:Kx} {XO:XOT} {E:L2.St→XK}
def zkT:List D→Option (List D)
  | [.lst x,.tup y]=>some (zipD x y)
  | _=>none
def zfy (ml:En→R (List D)) (δ:En):R (List D):=(ml δ).bind fun l=>R.of (zkT l)
theorem zke {l r:List D} (h:zkT l=some r):∃ x y,l = [.lst x,.tup y]∧r=zipD x y:=by
  unfold zkT at h
  split at h
  · cases h; exact ⟨_,_,rfl,rfl⟩
  · cases h
theorem zlj {a b:Addr} {ds es:List D} {vs ws:List V} {F1:Hp} {P:Hp→Hp→Prop} (r:RepL K F1 ds vs) (r':RepL K F1 es ws) (h:∀ F2 H2,P F2 H2→Same F1 F2∧Same F2 H2∧SqL K.f H2 a vs∧H2 b=some (.tup ws)):IsIt K (ItzT K.f a b) P (zipD ds es):=by
  intro F2 H2 p i
  obtain ⟨s1,s2,q,q'⟩:=h F2 H2 p
  unfold zipD
  rw [List.getElem?_zipWith]
  refine ⟨fun d hd=>?_,fun hn=>?_⟩
  · cases e:ds[i]? with
    | none=>rw [e] at hd; cases hd
    | some x =>
      cases e':es[i]? with
      | none=>rw [e,e'] at hd; cases hd
      | some y =>
        rw [e,e'] at hd
        cases hd
        obtain ⟨v,hv,rv⟩:=r.get e
        obtain ⟨w,hw,rw'⟩:=r'.get e'
        refine ⟨⟨vs,ws,v,w,q,q',hv,hw⟩,fun x' H' y=>?_⟩
        obtain ⟨p',x1,y1,rfl,hp,rfl,z1,z2⟩:=y
        have z:=z1 vs q
        rw [hv] at z; cases z
        have z:=z2 ws q'
        rw [hw] at z; cases z
        refine ⟨_,.new s2 hp,?_⟩
        simp only [Rep]
        have m:=s1.trans (Same.upd (u:=.tup [v,w]) (s2.free hp))
        exact ⟨p',_,rfl,zal,.cons (Rep.mono m _ rv) (.cons (Rep.mono m _ rw') .nil)⟩
  · cases e:ds[i]? with
    | none=>exact ⟨vs,ws,q,q',.inl (by rw [r.length]; exact List.getElem?_eq_none_iff.mp e)⟩
    | some x =>
      cases e':es[i]? with
      | none=>exact ⟨vs,ws,q,q',.inr (by rw [r'.length]; exact List.getElem?_eq_none_iff.mp e')⟩
      | some y=>rw [e,e'] at hn; cases hn
theorem zfr {tl:TA} {ml:En→R (List D)} (h:SA K XO E tl ml):SI K XO E (zqp K.f tl) (zfy ml):=by
  intro Λ F0 H0 F H σ δ R I a
  refine h Λ F0 H0 F H σ δ _ I (a.bind.imp fun ds F1 H1 e1 a1 vs r=>?_)
  cases q:zkT ds with
  | none=>rw [q] at a1; exact a1.elim
  | some z =>
    rw [q] at a1
    obtain ⟨l,l',rfl,rfl⟩:=zke q
    obtain ⟨v,w,rfl,r1,r2⟩:=RepL.two r
    simp only [Rep] at r1 r2
    obtain ⟨a,vs,rfl,h1,h2⟩:=r1
    obtain ⟨b,ws,rfl,h3,h4⟩:=r2
    exact ⟨a,b,rfl,⟨vs,.inl (PM.Same.rd e1.fh h1)⟩,⟨ws,e1.fh _ _ h3⟩,a1 F1 H1 (.refl e1.fh) _ (zlj h2 h4 fun F2 H2 x=>⟨x.1,x.2,.inl (PM.Same.rd x.2 (PM.Same.rd x.1 h1)),x.2 _ _ (x.1 _ _ h3)⟩)⟩
def zcl:List D→Option D
  | [.tup l]=>(asIs l).bind fun ns=>ifC (ns.length < 4000) (some (.int (uniq ns).length)) none
  | _=>none
theorem zhV {ds:List D} {d:D} (h:zcl ds=some d):∃ ns:List Int,ds = [.tup (ns.map .int)]∧ns.length < 4000∧d = .int (uniq ns).length:=by
  unfold zcl at h
  split at h
  · rename_i l
    cases z:asIs l with
    | none=>rw [z] at h; cases h
    | some ns =>
      rw [z] at h
      simp only [Option.bind] at h
      unfold ifC at h
      split at h
      · rename_i hl
        cases h
        exact ⟨ns,by rw [zdp z],hl,rfl⟩
      · cases h
  · cases h
end
end PM
namespace L2
open PySem PySem.Spec PyProof.Rows
theorem zkK:isSubtype (.type "tuple") (.type "set")=pure false:=by rw [isSubtype_type]; kernel_rfl
theorem zhc:isSubtype (.type "tuple") (.type "frozenset")=pure false:=by rw [isSubtype_type]; kernel_rfl
abbrev zgl (b:Bool):Obj:={ cls:=.type "set",dict:=none,data:=.set #[] 0 (.fresh 0 0 b) }
section
variable {prog:Program} {w:World} {A:Around} {E:Value→Shared→Prop} {s:Shared}
abbrev zmU (prog:Program) (w:World) (s:Shared) (vs:Array Value) (ns:List Int) (h':Heap):Prop :=
  h'.SetOf (intKind prog w) s.heap.objs.size (fun k'=>(firstMet (fun i=>ns.getD i 0) vs.size).any (· == k')) (firstMet (fun i=>ns.getD i 0) vs.size).length∧∀ b o,b < s.heap.objs.size→s.heap.get? b=some o→h'.get? b=some o
set_option maxHeartbeats 8000000 in
theorem zkL {t:Addr} {vs:Array Value} {ns:List Int} {Q:Value→Shared→Prop} (hh:A.handled=none) (ht:s.heap.IsTuple t vs) (hi:IntsAre vs.toList ns) (hb:vs.size + 1 < scanBound)
    (h:∀ (h':Heap) (tk:Nat),zmU prog w s vs ns h'→Q (.ref s.heap.objs.size) { s with heap:=h',toks:=tk }):wpAny (model prog w) A (call (.type "set") [.ref t]) Q E s:=by
  obtain ⟨c,tl,m1⟩:=F.called_set.mro
  have m2:=F.called_set.made
  have m3:=F.called_set.sub
  refine wpAny_call (codeAny_of_tree ?_)
  show wpAny _ A.in1 (callAny (.type "set") _) _ _ s
  refine wpAny_pure ⟨Code.quiet_builtin _ (by decide +kernel),codeAny_builtin F.entry_type_call ?_⟩
  rw [Around.under_plain (weight_type_call_type "set" [.ref t] []) rfl]
  have m4:=F.called_set.notType
  have m5:=F.called_set.canCreate
  have m6:=F.typeCall_set_1 (.ref t)
  repeat (any_goals (first | assumption | wp_step))
  refine codeAny_mono (code_set_new_1 (.ref t) (E:=E) (Q₁:=fun ob s₁=>∃ b:Bool,ob = .ref s.heap.objs.size∧s₁ = { s with heap:=s.heap.push (zgl b) }) fun b=>⟨b,rfl,rfl⟩) fun r s₁ hr=>?_
  cases r with
  | error e=>exact hr
  | ok fl =>
    cases fl with
    | ret ob =>
      obtain ⟨b,rfl,rfl⟩:=hr
      have gS:(s.heap.push (zgl b)).get? s.heap.objs.size=some (zgl b):=Heap.get?_push_size _ rfl
      have tS:Shared.TypeIs { s with heap:=s.heap.push (zgl b) } (.ref s.heap.objs.size) "set":=⟨_,gS,rfl⟩
      have n1:=F.called_set.init.lookup
      have n2:=F.called_set.init.bind (.ref s.heap.objs.size)
      repeat (any_goals (first | assumption | wp_step))
      refine codeAny_mono (codeAny_call_builtin (R:=wants (fun r s₂=>r = .none∧∃ h' tk,s₂ = { s with heap:=h',toks:=tk }∧zmU prog w s vs ns h') E) F.called_set.init.plain F.entry_set_init (check_set_init_1 tS ?_)) fun r₂ s₂ hr₂=>?_
      · obtain ⟨ot,et,ct,nt,dt⟩:=ht
        obtain ⟨oc,od,oda,osl⟩:=ot
        simp only at ct dt
        subst ct; subst dt
        have et':(s.heap.push (zgl b)).get? t=some { cls:=.type "tuple",dict:=od,data:=.seq vs nt,slots:=osl }:=Heap.get?_push_of_some _ et
        have p1:=zkK
        have p2:=zhc
        have p3:(Value.type "tuple" == Value.type "dict")=false:=by decide
        have tT:(s.heap.push (zgl b)).IsTuple t vs:=⟨_,et',rfl,nt,rfl⟩
        unfold Builtin.«set.__init__» noKeywords Builtin.Frozenset.updateFrom
        generalize hPI:pyIter=PI
        wp_walk
        subst hPI
        refine iter_tuple tT ?_
        refine wpAny_bind (wpAny_runValue ?_)
        have lt:t < s.heap.objs.size:=Heap.lt_size et
        have h3:A.in1.in1.in1.handled=none:=by simp [hh]
        have sz:(s.heap.push (zgl b)).objs.size=s.heap.objs.size + 1:=Heap.size_push ..
        have ne:t ≠ (s.heap.push (zgl b)).objs.size:=by rw [sz]; exact Nat.ne_of_lt (Nat.lt_succ_of_lt lt)
        have nS:s.heap.objs.size ∉ [(s.heap.push (zgl b)).objs.size,t]:=by
          rw [sz]; simp only [List.mem_cons,List.not_mem_nil,or_false,not_or]
          exact ⟨Nat.ne_of_lt (Nat.lt_succ_self _),Nat.ne_of_gt lt⟩
        have hv:∀ (i:Nat) (v:Value),vs[i]?=some v→∃ u,v = .int ((fun i=>ns.getD i 0) i) u:=fun i v hv=>IntsAre.int_at hi i v (by rw [Array.getElem?_toList]; exact hv)
        refine codeAny_set_update_loopS ((Walks.tuple h3 _ t ne vs).toS) s.heap.objs.size nS (fun i=>ns.getD i 0) hv hb (vs.size - 0) 0 _ (by omega) (Nat.zero_le _) ⟨⟨_,Heap.get?_push_size _ rfl,rfl,rfl⟩,tT.push _⟩ ?first ?last
        case first =>
          have g:((s.heap.push (zgl b)).push { cls:=.type "tuple_iterator",data:=.fields #[.ref t,.int 0 0] }).get? s.heap.objs.size=some (zgl b):=Heap.get?_push_of_some _ gS
          exact SetOf_congr ((setObjOf_fresh (knd:=intKind prog w) b).setOf g (by unfold scanBound; omega)) (fun _=>rfl) rfl
        case last =>
          intro s' mv hS
          obtain ⟨h',g',d',tk',os'⟩:=s'
          have eg:g'=s.gens:=mv.gens
          have ed:d'=s.drawn:=mv.drawn
          have eo:os'=s.os:=mv.os
          subst eg; subst ed; subst eo
          show wpAny _ _ _ _ _ _
          refine wpAny_pure ?_
          show wpAny _ _ (ret Value.none) _ _ _
          refine wpAny_pure ⟨rfl,h',tk',rfl,hS,fun q o hq e=>?_⟩
          refine mv.heap q o ?_ (Heap.get?_push_of_some _ (Heap.get?_push_of_some _ e))
          simp only [List.mem_cons,List.not_mem_nil,or_false,not_or]
          exact ⟨Nat.ne_of_lt hq,by rw [sz]; exact Nat.ne_of_lt (Nat.lt_succ_of_lt hq)⟩
      · cases r₂ with
        | error e=>exact hr₂
        | ok fl₂ =>
          cases fl₂ with
          | ret r =>
            obtain ⟨rfl,h',tk,rfl,hS'⟩:=hr₂
            repeat (any_goals (first | assumption | wp_step))
            exact h _ _ hS'
          | _=>exact hr₂.elim
    | _=>exact hr.elim
end
section
variable {X:Cx}
def zqw:List V→Hp→VK→Prop:=fun xs H Q=>∃ (p:Addr) (ns:List Int),xs = [.ref p]∧H p=some (.tup (ns.map V.int))∧ns.length < 4000∧∀ a,H a=none→Q (.ref a) (upd H a (.set (fun k=>(uniq ns).any (· == k)) (uniq ns).length))
theorem zh2 (hc:X.calm=true):ze3 X (.type "set") zqw:=by
  intro pins s σ H xs us Q I r h
  obtain ⟨p,ns,rfl,hq,hl,q⟩:=h
  obtain ⟨u,rfl,rx⟩:=zff r
  cases rx
  obtain ⟨z,its,rv,e⟩:=I.hok p _ hq
  have len:=rv.length
  rw [List.length_map] at len
  have esz:its.toArray.size=ns.length:=by simp [← len]
  refine zkL (vs:=its.toArray) (ns:=ns) (I.ok.hd hc) e (by simpa using zjH rv) (by rw [esz]; unfold scanBound; omega) fun h' tk hS=>?_
  obtain ⟨hS,hk⟩:=hS
  rw [esz,zqB] at hS
  refine ⟨.ref s.heap.objs.size,_,?_,rfl,q _ (I.hok.fresh (Nat.le_refl _))⟩
  exact I.laid (fun b o hb=>hk b o (Heap.lt_size hb) hb) (Nat.le_refl _) hS
end
end L2
namespace PM
open PySem L2
section
variable {K:Kx} {XO:XOT} {E:L2.St→XK}
theorem zg8 {tl:TA} {ml:En→R (List D)} (h:SA K XO E tl ml):SE K XO E (tCB zpL (zcy (tCB zqw tl) tNil)) (mCB zcl ml):=by
  intro Λ F0 H0 F H σ δ Q I a
  refine h Λ F0 H0 F H σ δ _ I (a.bind.imp fun ds F1 H1 e1 a1 vs r=>?_)
  cases q:zcl ds with
  | none=>rw [q] at a1; exact a1.elim
  | some d =>
    rw [q] at a1
    obtain ⟨ns,rfl,hl,rfl⟩:=zhV q
    obtain ⟨v,rfl,r1⟩:=RepL.one r
    simp only [Rep] at r1
    obtain ⟨p,ws,rfl,h1,h2⟩:=r1
    have ei:=zcr h2
    subst ei
    refine ⟨p,ns,rfl,e1.fh _ _ h1,hl,fun b hb=>⟨b,_,_,rfl,zal,?_⟩⟩
    exact a1 F1 _ (.newO e1.fh hb) _ (by simp only [Rep])
end
end PM
namespace My
open PySem L2 PM
def zdS:Nat→Bool
  | 1=>true
  | 2=>true
  | _=>false
def zbL (c:Nat):Bool:=zdS (c % 16)
def zgs:Nat→Option Bool
  | 1=>some false
  | 2=>some true
  | _=>none
def zen (c:Nat):Option Bool:=zgs (c % 16)
def zin:Nat→Bool
  | 2=>true
  | _=>false
def ze9 (c:Nat):Bool:=zin (c % 16)
def zaX:Nat→Bool
  | 4=>true
  | 5=>true
  | _=>false
def zfW:Nat→Bool
  | 4=>true
  | _=>false
def zf9:Nat→Bool
  | 4=>true
  | _=>false
def zbU:Nat→Bool
  | 4=>true
  | 5=>true
  | _=>false
def zeN:Nat→Bool
  | 5=>true
  | _=>false
def zbM:Nat→Option Bool
  | 4=>some true
  | 5=>some true
  | _=>none
def zkW:Nat→Option Bool
  | 4=>some true
  | 5=>some false
  | _=>none
def zlV:Nat→Option Bool
  | 4=>some false
  | 5=>some true
  | _=>none
def zd3:En→O:=(mRet (m2 oMod (m2 oMul (m2 oAdd (m2 oAdd (m2 oMod (mRd 0) (m2 oPow (mC (.int 10)) (mC (.int 20)))) (m2 oMul (mRd 1) (mRd 1))) (mC (.int 3))) (m2 oAdd (mC (.int 39373)) (m2 oMul (mC (.int 2)) (mRd 1)))) (mC (.int 2147483647))))
def zbQ:List D→R D:=runF 2 0 zd3
def zg6:En→O:=(mSeq (mAsg (zak zbQ (zaa (mVar 0) (zaa (mVar 1) mNil))) (zat 2))
  (mSeq (mAsg (m2 oDiv (mRd 2) (mC (.int 4))) (zat 3))
  (mRet (m2 oAdd (mC (.int 1)) (m2 oIxL (mLst (zaa (m2 oMod (mRd 3) (mC (.int 6))) (zaa (m2 oMod (mRd 3) (mC (.int 60))) (zaa (mC (.int 7)) (zaa (m2 oMod (mRd 0) (m2 oPow (mC (.int 10)) (mC (.int 18)))) mNil))))) (m2 oMod (mRd 2) (mC (.int 4))))))))
def zcg:List D→R D:=runF 2 2 zg6
def zcI:En→O:=(mSeq (mIfS (zaF (m2 oLt (mRd 1) (mCB fLen (zaa (mRd 0) mNil))))
  (mRet (m2 oIxL (mRd 0) (mRd 1)))
  zbp)
  (mRet (mC (.int 0))))
def zaI:List D→R D:=runF 2 0 zcI
def zdN:En→O:=(zcu (zj4 0))
def zaM:List D→R D:=runO 1 0 zdN
def zci:En→R Bool:=(zaF (m2 oGt (mRd 3) (mC (.int 0))))
def zcf:En→O:=(mSeq (mAsg (m2 oMod (mRd 2) (mRd 3)) (zat 4))
  (mSeq (mAsg (mVar 3) (zat 2))
  (mAsg (mVar 4) (zat 3))))
def zdR:En→O:=zgR zci zcf
def zcN:En→O:=(mSeq (mAsg (mCB fAbs (zaa (mRd 0) mNil)) (zat 2))
  (mSeq (mAsg (mCB fAbs (zaa (mRd 1) mNil)) (zat 3))
  (mSeq zdR
  (mRet (mVar 2)))))
def zbR:List D→R D:=runF 2 3 zcN
def zjb:En→O:=(mSeq (mIfS (zaF (m2 oEq (mRd 1) (mC (.int 0))))
  (zoy 1 (zaa (mC (.str "no fraction has nought for its bottom")) mNil))
  zbp)
  (mSeq (mAsg (zak zbR (zaa (mVar 0) (zaa (mVar 1) mNil))) (zat 2))
  (mSeq (mIfS (zaF (m2 oLt (mRd 1) (mC (.int 0))))
  (mAsg (m1 oNeg (mRd 2)) (zat 2))
  zbp)
  (mRet (mTup (zaa (m2 oDiv (mRd 0) (mRd 2)) (zaa (m2 oDiv (mRd 1) (mRd 2)) mNil)))))))
def zcj:List D→R D:=runF 2 1 zjb
def zd4:En→O:=(mRet (m1 oNeg (m2 oDiv (m1 oNeg (m2 oIxT (mRd 0) (mC (.int 0)))) (m2 oIxT (mRd 0) (mC (.int 1))))))
def zba:List D→R D:=runF 1 0 zd4
def zbl:En→R D:=zdi (mItL (m1 (oFld zbU "order") (mRd 0))) [1] 1 (za0 1) none (m2 oIxL (mRd 0) (mRd 1))
def zbc:En→List Str→List D→R (List Str × List D):=(iSeq (zeS "many" (mVar 2))
  (iSeq (zgv "order" (zak zaM (zaa (mVar 1) mNil)))
  (iSeq (ziq 4 "falling" zbl)
  (zeS "least" (zak zba (zaa (zfS zcj (zaa (mCB fSum (zaa (mRd 1) mNil)) (zaa (mVar 2) mNil))) mNil))))))
def zaR:List D→R D:=runN 4 2 zbc
def zaH:En→O:=(mIfS (zaF (m2 oGt (mRd 3) (mRd 1)))
  (zjc 2 (zaa (mVar 2) mNil))
  zbp)
def zb4:En→O:=mFor (zfq (zaa (mVar 0) mNil)) (bTup 2 (za1 (zat 2) (za1 (zat 3) bNil))) zaH
def zbk:En→O:=zb4
def zaQ:List D→R D:=runF 2 2 zbk
def zbu:En→R D:=zdi (mItL (m1 (oFld zbU "order") (mRd 0))) [1] 1 (za0 1) none (m2 oIxL (mRd 0) (mRd 1))
def zaW:En→List Str→List D→R (List Str × List D):=(iSeq (zjw (zfS zaQ (zaa (mVar 1) (zaa (mVar 2) mNil))))
  (iSeq (zeS "room" (mVar 2))
  (iSeq (zgv "order" (zak zaM (zaa (mVar 1) mNil)))
  (ziq 5 "falling" zbu))))
def zay:List D→R D:=runN 5 2 zaW
def zeg:En→R D:=zdi (mItL (mRd 0)) [] 1 (za0 0) none (mC (.int 0))
def zec:En→R D:=zdi (zfq (zaa (mRd 0) mNil)) [3,2] 2 (bTup 2 (za1 (za0 2) (za1 (za0 3) bNil))) (some (mOr (zaF (m2 oGt (mRd 3) (mRd 0))) (mAnd (zaF (m2 oEq (mRd 3) (mRd 0))) (zaF (m2 oLt (mRd 2) (mRd 1)))))) (mVar 2)
def ze1:En→O:=(mSeq (mAsg zec (zat 4))
  (zgI 1 (mCB fLen (zaa (mRd 4) mNil)) (mVar 2)))
def zfI:En→O:=mFor (zfq (zaa (mVar 0) mNil)) (bTup 2 (za1 (zat 2) (za1 (zat 3) bNil))) ze1
def zgk:En→O:=(mSeq (mAsg zeg (bNew 1))
  (mSeq zfI
  (zlr 1)))
def zcd:List D→R D:=runO 1 4 zgk
def zjK:En→O:=(mSeq (mIfS (zaF (m2 oLe (mRd 0) (mC (.int 0))))
  (mRet (mC (.int 0)))
  zbp)
  (mRet (m2 oAdd (m2 oDiv (m2 oSub (mRd 0) (mC (.int 1))) (mRd 1)) (mC (.int 1)))))
def zc8:List D→R D:=runF 2 0 zjK
def zfA:En→R D:=zdi (mRng (zaa (mVar 2) mNil)) [] 1 (za0 0) none (mC (.int 0))
def ze0:En→O:=(zgI 4 (mVar 6) (m2 oAdd (m2 oIxL (mRd 4) (mRd 6)) (m2 oIxL (mRd 0) (mRd 5))))
def zfO:En→O:=mFor (zfy (zaa (mVar 1) (zaa (mVar 3) mNil))) (bTup 2 (za1 (zat 5) (za1 (zat 6) bNil))) ze0
def zd7:En→R D:=zdi (mItL (mRd 4)) [] 1 (za0 0) (some (zaF (m2 oGt (mRd 0) (mC (.int 0))))) (mVar 0)
def zfD:En→R D:=zdi (mRng (zaa (mVar 2) mNil)) [7] 1 (za0 1) (some (zaF (m2 oLe (mRd 1) (mRd 0)))) (mVar 1)
def zf4:En→O:=(mSeq (mAsg zfA (bNew 4))
  (mSeq zfO
  (mSeq (mAsg (mCB fLen (zaa zd7 mNil)) (zat 7))
  (zcu (mLst (zaa zfD (zaa (mCB zh5 (zaa (mCB (zii maxI) (zaa (mRd 4) mNil)) (zaa (zak zc8 (zaa (mCB fSum (zaa (mRd 0) mNil)) (zaa (mVar 2) mNil))) mNil))) mNil)))))))
def zck:List D→R D:=runO 4 4 zf4
def zgt:En→O:=(mSeq (mIfS (zaF (m2 oEq (mRd 6) (mCB fLen (zaa (mRd 4) mNil))))
  (zdj 4 (mC (.int 0)))
  zbp)
  (zgI 4 (mVar 6) (m2 oAdd (m2 oIxL (mRd 4) (mRd 6)) (m2 oIxL (mRd 0) (mRd 5)))))
def zgX:En→O:=mFor (zfy (zaa (mVar 1) (zaa (mVar 3) mNil))) (bTup 2 (za1 (zat 5) (za1 (zat 6) bNil))) zgt
def zfh:En→R D:=zdi (mItL (mSl (mRd 1) (zeO (mCB fLen (zaa (mRd 3) mNil))) mNoP)) [0] 1 (za0 1) none (m2 oIxL (mRd 0) (mRd 1))
def zfl:En→R D:=zdi (mRng (zaa (mCB fLen (zaa (mRd 4) mNil)) mNil)) [2,4,0,1,3] 1 (za0 5) (some (zaF (m2 oLe (m2 oAdd (m2 oIxL (mRd 1) (mRd 5)) (m2 oIxL (mRd 2) (m2 oIxL (mRd 3) (mCB fLen (zaa (mRd 4) mNil))))) (mRd 0)))) (mVar 5)
def zia:En→O:=(mSeq (mAsg (mLst mNil) (bNew 4))
  (mSeq zgX
  (mSeq (mAsg (mCB fSum (zaa zfh mNil)) (zat 7))
  (mSeq (mAsg (m2 oAdd (mCB fLen (zaa (mRd 4) mNil)) (zak zc8 (zaa (m2 oAdd (m2 oSub (mRd 7) (m2 oMul (mCB fLen (zaa (mRd 4) mNil)) (mRd 2))) (mCB fSum (zaa (mRd 4) mNil))) (zaa (mVar 2) mNil)))) (zat 8))
  (mSeq (mIfS (zaF (m2 oEq (mCB fLen (zaa (mRd 3) mNil)) (mCB fLen (zaa (mRd 1) mNil))))
  (zcu (mLst (zaa (mLst mNil) (zaa (mVar 8) mNil))))
  zbp)
  (mSeq (mAsg zfl (zat 9))
  (zcu (mLst (zaa (m2 oCat (mRd 9) (mLst (zaa (mCB fLen (zaa (mRd 4) mNil)) mNil))) (zaa (mVar 8) mNil))))))))))
def zel:List D→R D:=runO 4 6 zia
def zis:En→O:=(mSeq (mIfS (zaF (m2 oEq (mRd 0) (mC (.int 0))))
  (zcu (zak zck (zaa (mVar 1) (zaa (mVar 2) (zaa (mVar 3) (zaa (mVar 4) mNil))))))
  zbp)
  (zcu (zak zel (zaa (mVar 1) (zaa (mVar 2) (zaa (mVar 3) (zaa (mVar 4) mNil)))))))
def zbq:List D→R D:=runO 5 0 zis
def zcC:En→O:=(mSeq (mAsg (mCB zcl (zaa (mVar 1) mNil)) (zat 2))
  (zcu (zpc (zaa (mCB zi5 (zaa (m2 oAdd (mRd 2) (mC (.int 1))) (zaa (m1 (oFld zf9 "many") (mRd 0)) mNil))) mNil))))
def zaC:List D→R D:=runO 2 1 zcC
def zb1:En→R D:=zdi (mRng (zaa (mCB zcl (zaa (mVar 1) mNil)) mNil)) [0] 1 (za0 1) none (m1 (oFld zeN "room") (mRd 0))
def zcG:En→O:=(zkE (fun i j=>i - j) 2 (mVar 4) (mVar 3))
def zcY:En→O:=mFor (zfy (zaa (m1 (oFld zaX "falling") (mRd 0)) (zaa (mVar 1) mNil))) (bTup 2 (za1 (zat 3) (za1 (zat 4) bNil))) zcG
def zc3:En→O:=(mSeq (mAsg zb1 (bNew 2))
  (mSeq zcY
  (zlr 2)))
def zaP:List D→R D:=runO 2 3 zc3
def zcM:En→R D:=zdi (zfq (zaa (mRd 2) mNil)) [3] 2 (bTup 2 (za1 (za0 1) (za1 (za0 2) bNil))) (some (zaF (m2 oLe (mRd 0) (mRd 2)))) (mVar 1)
def zc6:En→O:=(mSeq (mAsg (zaT 5 "free" zaP (mVar 0) (zaa (mVar 1) mNil)) (zat 2))
  (mSeq (mAsg (m2 oIxL (m1 (oFld zaX "falling") (mRd 0)) (mCB fLen (zaa (mRd 1) mNil))) (zat 3))
  (zcu (m2 oCat zcM (mLst (zaa (mCB fLen (zaa (mRd 2) mNil)) mNil))))))
def zaG:List D→R D:=runO 2 2 zc6
def zkb:En→O:=(mRet (zi1 (m1 (oIsi "int") (mRd 0)) (zi1 (zpx (m1 (oIsi "bool") (mRd 0))) (m2 oEq (mRd 0) (mRd 1)))))
def zbd:List D→R D:=runF 2 0 zkb
def zcO:En→O:=(mIfS (mNot (zaF (zak zbd (zaa (mVar 2) (zaa (mVar 3) mNil)))))
  (mRet (mC (.bl false)))
  zbp)
def zeB:En→O:=mFor (mZip (zaa (mVar 0) (zaa (mVar 1) mNil))) (bTup 2 (za1 (zat 2) (za1 (zat 3) bNil))) zcO
def ze7:En→O:=(mSeq (mIfS (mOr (mNot (zaF (m1 (oIsi "list") (mRd 0)))) (zaF (m2 oNe (mCB fLen (zaa (mRd 0) mNil)) (mCB fLen (zaa (mRd 1) mNil)))))
  (mRet (mC (.bl false)))
  zbp)
  (mSeq zeB
  (mRet (mC (.bl true)))))
def zaL:List D→R D:=runF 2 2 ze7
def zbG:En→O:=(mSeq (mIfS (mNot (zaF (zdm zaL (zaa (mRd 3) (zaa (mVar 2) mNil)))))
  (mRet (mC (.bl false)))
  zbp)
  (zdj 3 (mC (.int 7))))
def zcc:En→O:=zpo 3 (mAlt 0 4 (zaT 4 "ways" zaC (mVar 0) (zaa (mVar 1) mNil)) (zaT 5 "ways" zaG (mVar 0) (zaa (mVar 1) mNil))) (mAlt 0 4 (zaT 4 "ways" zaC (mVar 0) (zaa (mVar 1) mNil)) (zaT 5 "ways" zaG (mVar 0) (zaa (mVar 1) mNil))) zbG
def zdO:En→O:=(mSeq zcc
  (mRet (mC (.bl true))))
def zbj:List D→R D:=runF 3 1 zdO
def zf7:En→R D:=zdi (mRng (zaa (mVar 1) mNil)) [] 1 (za0 0) none (mC (.int 0))
def zfG:En→O:=(zkE (fun i j=>i + j) 3 (mVar 5) (mVar 4))
def zgh:En→O:=mFor (zfy (zaa (mVar 0) (zaa (mVar 2) mNil))) (bTup 2 (za1 (zat 4) (za1 (zat 5) bNil))) zfG
def zgV:En→O:=(mSeq (mAsg zf7 (bNew 3))
  (mSeq zgh
  (mRet (mCB (zii maxI) (zaa (mRd 3) mNil)))))
def zdo:List D→R D:=runF 3 3 zgV
def zcV:En→O:=(mSeq (mAsg (mSl (m1 (oFld zaX "falling") (mRd 0)) mNoP (zeO (mCB fLen (zaa (mRd 1) mNil)))) (zat 2))
  (mRet (mCB zh5 (zaa (m1 (oFld zfW "least") (mRd 0)) (zaa (zak zdo (zaa (mVar 2) (zaa (m1 (oFld zf9 "many") (mRd 0)) (zaa (mVar 1) mNil)))) mNil)))))
def zam:List D→R D:=runF 2 1 zcV
def zdq:En→O:=(mSeq (mAsg (zaT 5 "free" zaP (mVar 0) (zaa (mVar 1) mNil)) (zat 2))
  (mSeq (mAsg (m2 oSub (mCB fSum (zaa (mSl (m1 (oFld zaX "falling") (mRd 0)) (zeO (mCB fLen (zaa (mRd 1) mNil))) mNoP) mNil)) (mCB fSum (zaa (mRd 2) mNil))) (zat 3))
  (mRet (m2 oAdd (mCB fLen (zaa (mRd 2) mNil)) (mCB zh5 (zaa (mC (.int 0)) (zaa (zak zba (zaa (zfS zcj (zaa (mVar 3) (zaa (m1 (oFld zeN "room") (mRd 0)) mNil))) mNil)) mNil)))))))
def zas:List D→R D:=runF 2 2 zdq
def zgW:En→O:=(mRet (mTup (zaa (m2 oIxL (mRd 2) (m2 oMod (m2 oDiv (zak zaI (zaa (mVar 0) (zaa (mVar 1) mNil))) (mC (.int 7))) (mCB fLen (zaa (mRd 2) mNil)))) mNil)))
def zcK:List D→R D:=runF 3 0 zgW
def zeD:En→R D:=zdi (mItL (mRd 0)) [] 1 (za0 0) none (mC (.int 0))
def zed:En→O:=(zgI 2 (mVar 3) (mVar 4))
def zeH:En→O:=mFor (zfy (zaa (mVar 0) (zaa (mVar 1) mNil))) (bTup 2 (za1 (zat 3) (za1 (zat 4) bNil))) zed
def zfd:En→O:=(mSeq (mAsg zeD (bNew 2))
  (mSeq zeH
  (zlr 2)))
def zbs:List D→R D:=runO 2 3 zfd
def zcb:En→O:=(zcu (zak zbs (zaa (m1 (oFld zbU "order") (mRd 0)) (zaa (mVar 1) mNil))))
def zaB:List D→R D:=runO 2 0 zcb
def zcF:En→O:=(zcu (zak zbs (zaa (m1 (oFld zbU "order") (mRd 0)) (zaa (mVar 1) mNil))))
def zaE:List D→R D:=runO 2 0 zcF
def zcq:En→O:=(mRet (mCB fLen (zaa (m1 (oFld zaX "falling") (mRd 0)) mNil)))
def zaK:List D→R D:=runF 1 0 zcq
def zc1:En→O:=(mRet (mCB fLen (zaa (m1 (oFld zaX "falling") (mRd 0)) mNil)))
def zaS:List D→R D:=runF 1 0 zc1
def zdI:En→O:=(mSeq (mAsg (zak zbq (zaa (mVar 1) (zaa (mVar 2) (zaa (mVar 5) (zaa (mVar 3) (zaa (mVar 6) mNil)))))) (zat 9))
  (mSeq (mAsg (mAlt 4 4 (zaT 4 "ways" zaC (mVar 4) (zaa (mVar 6) mNil)) (zaT 5 "ways" zaG (mVar 4) (zaa (mVar 6) mNil))) (zat 10))
  (mSeq (mIfS (mOr (mNot (zaF (zak zbj (zaa (mVar 4) (zaa (mVar 6) (zaa (m2 oIxL (mRd 9) (mC (.int 0))) mNil)))))) (mNot (zaF (zak zaL (zaa (mVar 10) (zaa (m2 oIxL (mRd 9) (mC (.int 0))) mNil))))))
  (mRet (mC (.bl false)))
  zbp)
  (mSeq (mIfS (mOr (mNot (zaF (zak zbd (zaa (mAlt 4 4 (zaT 4 "low" zam (mVar 4) (zaa (mVar 6) mNil)) (zaT 5 "low" zas (mVar 4) (zaa (mVar 6) mNil))) (zaa (m2 oIxL (mRd 9) (mC (.int 1))) mNil))))) (zaF (m2 oLt (m2 oIxL (mRd 9) (mC (.int 1))) (mRd 7))))
  (mRet (mC (.bl false)))
  zbp)
  (mSeq (mAsg (m2 oIxL (mRd 9) (mC (.int 1))) (zat 7))
  (mAsg (m2 zkg (mRd 6) (zak zcK (zaa (mVar 0) (zaa (m2 oAdd (mC (.int 2)) (mRd 8)) (zaa (mVar 10) mNil))))) (zat 6)))))))
def zfH:En→O:=mFor (mRng (zaa (mCB fLen (zaa (mRd 2) mNil)) mNil)) (zat 8) zdI
def zfL:En→R D:=zdi (mItL (mRd 2)) [] 1 (za0 0) none (mC (.int 0))
def ze5:En→O:=(zgI 11 (mVar 12) (mVar 13))
def zfB:En→O:=mFor (zfy (zaa (mVar 5) (zaa (mVar 6) mNil))) (bTup 2 (za1 (zat 12) (za1 (zat 13) bNil))) ze5
def zgi:En→O:=(mSeq (mAsg (zak zcd (zaa (mVar 2) mNil)) (zat 5))
  (mSeq (mAsg (mTup mNil) (zat 6))
  (mSeq (mAsg (mC (.int 0)) (zat 7))
  (mSeq zfH
  (mSeq (mAsg (zak zbq (zaa (mVar 1) (zaa (mVar 2) (zaa (mVar 5) (zaa (mVar 3) (zaa (mVar 6) mNil)))))) (zat 9))
  (mSeq (mIfS (mOr (mNot (zaF (zak zbd (zaa (mAlt 4 4 (zaT 4 "low" zam (mVar 4) (zaa (mVar 6) mNil)) (zaT 5 "low" zas (mVar 4) (zaa (mVar 6) mNil))) (zaa (m2 oIxL (mRd 9) (mC (.int 1))) mNil))))) (zaF (m2 oLt (m2 oIxL (mRd 9) (mC (.int 1))) (mRd 7))))
  (mRet (mC (.bl false)))
  zbp)
  (mSeq (mIfS (mNot (zaF (zak zbd (zaa (mAlt 4 4 (zaT 4 "low" zam (mVar 4) (zaa (mTup mNil) mNil)) (zaT 5 "low" zas (mVar 4) (zaa (mTup mNil) mNil))) (zaa (m2 oIxL (zak zbq (zaa (mVar 1) (zaa (mVar 2) (zaa (mVar 5) (zaa (mVar 3) (zaa (mTup mNil) mNil)))))) (mC (.int 1))) mNil)))))
  (mRet (mC (.bl false)))
  zbp)
  (mSeq (mAsg zfL (bNew 11))
  (mSeq zfB
  (mSeq (mAsg (mAlt 4 4 (zaT 4 "answer" zaB (mVar 4) (zaa (mVar 6) mNil)) (zaT 5 "answer" zaE (mVar 4) (zaa (mVar 6) mNil))) (bNew 14))
  (mSeq (mIfS (mOr (mNot (zaF (zdm zaL (zaa (mRd 14) (zaa (mRd 11) mNil))))) (mNot (zaF (zak zbd (zaa (mAlt 4 4 (zaT 4 "steps" zaK (mVar 4) mNil) (zaT 5 "steps" zaS (mVar 4) mNil)) (zaa (mCB fLen (zaa (mRd 2) mNil)) mNil))))))
  (mRet (mC (.bl false)))
  zbp)
  (mSeq (zdj 14 (mC (.int 7)))
  (mRet (zdm zaL (zaa (mAlt 4 4 (zaT 4 "answer" zaB (mVar 4) (zaa (mVar 6) mNil)) (zaT 5 "answer" zaE (mVar 4) (zaa (mVar 6) mNil))) (zaa (mRd 11) mNil))))))))))))))))
def zbK:List D→R D:=runF 5 10 zgi
def zeR:En→O:=(mSeq (mAsg (mC .non) (zat 2))
  (mSeq (mTry (mDo (ziu zay (zaa (m2 oCat (mRd 0) (mLst (zaa (m2 oAdd (mRd 1) (mC (.int 1))) (zaa (m2 oAdd (mRd 1) (mC (.int 2))) mNil)))) (zaa (mVar 1) mNil)))) zbL 3 (mAsg (mVar 3) (zat 2)))
  (mRet (zi1 (m2 zmc (mRd 2) (mC .non)) (zi1 (m1 (zls zen) (mRd 2)) (zak zbd (zaa (m1 (zmO ze9) (mRd 2)) (zaa (mCB fLen (zaa (mRd 0) mNil)) mNil))))))))
def zbS:List D→R D:=runF 2 2 zeR
def zos:En→R D:=zdi (zfq (zaa (mSl (mRd 0) (zeO (mC (.int 2))) (zeO (mC (.int 26)))) mNil)) [] 2 (bTup 2 (za1 (za0 0) (za1 (za0 1) bNil))) none (zak zcg (zaa (mVar 1) (zaa (mVar 0) mNil)))
def zqK:En→O:=(mSeq (mAsg zos (zat 1))
  (mSeq (mAsg (m2 oMod (zak zaI (zaa (mVar 0) (zaa (mC (.int 0)) mNil))) (m2 oPow (mC (.int 10)) (mC (.int 12)))) (zat 2))
  (mSeq (mAsg (m2 oAdd (mC (.int 1)) (m2 oMod (m2 oDiv (mRd 2) (mC (.int 4))) (m2 oIxL (mLst (zaa (mC (.int 5)) (zaa (mC (.int 20)) mNil))) (m2 oDiv (m2 oMod (mRd 2) (mC (.int 4))) (mC (.int 3)))))) (zat 3))
  (mSeq (mAsg (zkx (zaa (mRd 1) mNil) (mC (.int 1))) (zat 4))
  (mSeq (mAsg (m2 oIxL (mLst (zaa (mC (.int 0)) (zaa (m2 oMod (m2 oDiv (mRd 2) (mC (.int 80))) (mRd 4)) (zaa (m2 oMod (m2 oDiv (mRd 2) (mC (.int 80))) (mC (.int 4))) (zaa (mCB fSum (zaa (mRd 1) mNil)) mNil))))) (m2 oMod (zak zaI (zaa (mVar 0) (zaa (mC (.int 1)) mNil))) (mC (.int 4)))) (zat 5))
  (mSeq (mAsg (mCB zi5 (zaa (m2 oPow (mC (.int 10)) (mC (.int 18))) (zaa (m2 oAdd (mRd 4) (mRd 5)) mNil))) (zat 6))
  (mSeq (znt (zmy (mCB zgJ (zaa (mRd 1) mNil)) (mCB zgJ (zaa (mRd 1) mNil))) 7)
  (mSeq (mAsg (zak zaR (zaa (mRow 7 (mC (.int 0))) (zaa (mVar 3) mNil))) (zat 8))
  (mSeq (mAsg (zak zay (zaa (mRow 7 (mC (.int 1))) (zaa (mVar 6) mNil))) (zat 9))
  (mSeq (mIfS (mOr (mNot (zaF (m1 (zhr zbM) (mRd 8)))) (mOr (mNot (zaF (m1 (zhr zbM) (mRd 9)))) (zaF (zkM (m2 oNeD (mRd 7) (mLst (zaa (mVar 1) (zaa (mVar 1) mNil))))))))
  (mRet (mC (.bl false)))
  zbp)
  (mSeq (zfk 7 (mC (.int 0)))
  (mSeq (zfk 7 (mC (.int 1)))
  (mSeq (mIfS (mOr (mNot (zaF (zak zbK (zaa (mVar 0) (zaa (mC (.int 0)) (zaa (mVar 1) (zaa (mVar 3) (zaa (mVar 8) mNil)))))))) (mNot (zaF (zak zbK (zaa (mVar 0) (zaa (mC (.int 1)) (zaa (mVar 1) (zaa (mVar 6) (zaa (mVar 9) mNil)))))))))
  (mRet (mC (.bl false)))
  zbp)
  (mRet (mOrV (m2 oGe (mRd 6) (m2 oSub (m2 oPow (mC (.int 10)) (mC (.int 18))) (mC (.int 1)))) (zak zbS (zaa (mVar 1) (zaa (mVar 6) mNil))))))))))))))))))
def zqE:List D→R D:=runF 1 9 zqK
end My
namespace My
open PySem L2 PM
def upt (n:Nat):List Int:=(List.range n).map fun (k:Nat)=>(k:Int)
theorem mem_upt {n:Nat} {t:Int}:t ∈ upt n ↔ 0 ≤ t∧t < (n:Int):=by
  unfold upt
  rw [List.mem_map]
  constructor
  · rintro ⟨a,h,rfl⟩
    have:=List.mem_range.mp h
    omega
  · rintro ⟨h0,h1⟩
    exact ⟨t.toNat,List.mem_range.mpr (by omega),by omega⟩
theorem zaU {n:Nat}:(upt n).length=n:=by simp [upt]
theorem zh7 (n:Nat):(upt n).Nodup:=List.Pairwise.map _ (fun a b h e=>h (Int.ofNat.inj e)) List.nodup_range
theorem rngT {n:Nat} (h:n ≤ 1000):rng [.int (n:Int)]=some ((upt n).map .int):=by
  rw [rng1 (by omega) (by omega),Int.toNat_natCast,zpI,upt,List.map_map]; rfl
def gA (L:List Int) (i:Int):Int:=L.getD i.toNat 0
theorem zfM {L:List Int} {i:Int} (h:i.toNat < L.length):L[i.toNat]?=some (gA L i):=by simp [gA,List.getD_eq_getElem?_getD,h]
theorem zn6 {α:Type} {f g:α→Int}:∀ {l:List α},(∀ x ∈ l,f x ≤ g x)→(l.map f).sum ≤ (l.map g).sum
  | [],_=>by simp
  | a :: l,h=>by
    have h1:=h a (by simp)
    have h2:=zn6 (f:=f) (g:=g) (l:=l) fun x hx=>h x (by simp [hx])
    simp only [List.map_cons,List.sum_cons]; omega
theorem zi2 {α:Type} {f g:α→Int}:∀ {l:List α},(l.map fun x=>f x + g x).sum=(l.map f).sum + (l.map g).sum
  | []=>by simp
  | a :: l=>by
    have h2:=zi2 (f:=f) (g:=g) (l:=l)
    simp only [List.map_cons,List.sum_cons]; omega
theorem zj5 {α:Type}:∀ {l:List α},(l.map fun _=>(0:Int)).sum=0
  | []=>by simp
  | a :: l=>by simp [zj5 (l:=l)]
theorem ziC {α:Type} {c:Int}:∀ {l:List α},(l.map fun _=>c).sum=(l.length:Int) * c
  | []=>by simp
  | a :: l=>by
    rw [List.map_cons,List.sum_cons,ziC (l:=l),List.length_cons,Int.natCast_add,Int.add_mul]
    omega
theorem zd1 {α:Type} {f:D→R (Option D)} (enc:α→D) (p:α→Bool) (g:α→D) (l:List α) (h:∀ x ∈ l,f (enc x) = .ok (if p x=true then some (g x) else none)):zcD f (l.map enc) = .ok ((l.filter p).map g):=by
  induction l with
  | nil=>rfl
  | cons a l ih =>
    have h1:=h a (by simp)
    have h2:=ih fun x hx=>h x (by simp [hx])
    rw [List.map_cons,zcD,h1,R.bind_ok,h2,R.bind_ok]
    by_cases e:p a=true
    · simp [e]
    · simp [e]
theorem zeK (ns:List Int):fSum [iL ns]=some (.int ns.sum):=by simp [fSum,iL,zes]
theorem zdF {L:List Int} {k:Int} (h0:0 ≤ k) (h1:k.toNat < L.length):oIxL (iL L) (.int k)=some (.int (gA L k)) :=
  zqh h0 (by simp [zfM h1])
theorem zkc {f:Int→Int→Int} {i:Nat} {mi me:En→R D} {δ:En} {L:List Int} {k y:Int} (h:δ[i]?=some (.o (iL L))) (hk:mi δ = .ok (.int k)) (h0:0 ≤ k) (h1:k.toNat < L.length) (hy:me δ = .ok (.int y)) :
    zkE f i mi me δ = .nx (δ.set i (.o (iL (L.set k.toNat (f (gA L k) y))))):=by
  have e1:ixN (L.map D.int).length k=some k.toNat:=by unfold ixN; rw [if_pos h0,if_pos (by rw [List.length_map]; omega)]
  have e2:(L.map D.int)[k.toNat]?=some (.int (gA L k)):=by simp [zfM h1]
  unfold zkE
  rw [h]
  simp only [iL,hk,R.toO_ok,e1,e2,hy]
  rw [← List.map_set]
theorem zfj {i:Nat} {me:En→R D} {δ:En} {L:List Int} {y:Int} (h:δ[i]?=some (.o (iL L))) (hy:me δ = .ok (.int y)) (hl:L.length ≤ 100000):zdj i me δ = .nx (δ.set i (.o (iL (L ++ [y])))):=by
  unfold zdj
  rw [h]
  simp only [iL,hy,R.toO_ok]
  rw [zb7 (by rw [List.length_map]; exact Nat.lt_of_le_of_lt hl (by decide))]
  simp
theorem zlS {α:Type} {f:α→Int} {l:List α} (h:∀ x ∈ l,0 ≤ f x):0 ≤ (l.map f).sum:=by
  have:=zn6 (f:=fun _=>(0:Int)) (g:=f) (l:=l) h
  rw [zj5] at this; exact this
end My
namespace My
open PySem L2 PM
theorem p20:oPow (.int 10) (.int 20)=some (.int 100000000000000000000):=zmX ⟨by decide,by decide,by decide⟩
theorem p18:oPow (.int 10) (.int 18)=some (.int 1000000000000000000):=zmX ⟨by decide,by decide,by decide⟩
theorem zfo (ns:List Int) (k:Nat):zaI [.scr ns,.int k] = .ok (.int (ns.getD k 0)):=by
  by_cases h:k < ns.length
  · have e:oIxL (.scr ns) (.int (k:Int))=some (.int (ns.getD k 0)):=by
      show (atI ns (k:Int)).map D.int=_
      rw [atI_nat (d:=ns.getD k 0) (by simp [h,List.getD_eq_getElem?_getD])]; rfl
    simp [zaI,runF,zcE,zcI,mSeq,mIfS,zaF,mRet,mRd,mC,mCB,zaa,mNil,fLen,h,e]
  · have e:ns.getD k 0=0:=by simp [List.getD_eq_getElem?_getD,List.getElem?_eq_none_iff.mpr (Nat.le_of_not_lt h)]
    rw [e]
    simp [zaI,runF,zcE,zcI,mSeq,mIfS,zaF,mRet,mRd,mC,mCB,zaa,mNil,fLen,h,zbp]
theorem zmK (ns:List Int) {k:Int} (h:0 ≤ k):zaI [.scr ns,.int k] = .ok (.int (ns.getD k.toNat 0)):=by
  have:=zfo ns k.toNat
  rwa [show ((k.toNat:Nat):Int)=k by omega] at this
theorem zfE (a:Int) {b:Int} (h:0 < b):0 ≤ a % b:=Int.emod_nonneg _ (by omega)
theorem ziD (a:Int) {b:Int} (h:0 < b):a % b < b:=Int.emod_lt_of_pos _ h
end My
namespace My
open PySem L2 PM
theorem zkF (i:Int):zbd [.int i,.int i] = .ok (.bl true):=by
  refine zb3 ?_
  have i1:oIsi "int" (.int i)=some (.bl true):=rfl
  have i2:oIsi "bool" (.int i)=some (.bl false):=rfl
  show mRet _ [.v (.int i),.v (.int i)]=_
  simp [mRet,zi1,zpx,mRd,i1,i2]
theorem zfu (l:List Int) (hl:l.length ≤ 1000):zaL [iL l,iL l] = .ok (.bl true):=by
  have z:zipD (l.map D.int) (l.map D.int)=l.map fun x=>D.tup [.int x,.int x]:=by
    unfold zipD
    induction l with
    | nil=>rfl
    | cons a l ih=>simp only [List.map_cons,List.zipWith_cons_cons,ih (by simp at hl; omega)]
  obtain ⟨δ,h1,o2,o3,rfl⟩:=zco (b:=bTup 2 (za1 (zat 2) (za1 (zat 3) bNil))) (m:=zcO) (fun x:Int=>D.tup [.int x,.int x]) (fun _ δ=>∃ o2 o3,δ = [.v (iL l),.v (iL l),sv o2,sv o3]) l
    (by
      rintro pre x post δ hall ⟨o2,o3,rfl⟩
      refine ⟨[.v (iL l),.v (iL l),.v (.int x),.v (.int x)],[.v (iL l),.v (iL l),.v (.int x),.v (.int x)],?_,.inl ?_,some _,some _,rfl⟩
      · rcases o2 with _ | o2 <;> rcases o3 with _ | o3 <;> rfl
      · simp [zcO,mIfS,mNot,zaF,zak,zaa,mNil,mVar,zkF,zbp])
    [.v (iL l),.v (iL l),.no,.no] ⟨none,none,rfl⟩
  refine zb3 ?_
  show mSeq _ _ [.v (iL l),.v (iL l),.no,.no]=_
  have il:oIsi "list" (iL l)=some (.bl true):=rfl
  have q1:mIfS (mOr (mNot (zaF (m1 (oIsi "list") (mRd 0)))) (zaF (m2 oNe (mCB fLen (zaa (mRd 0) mNil)) (mCB fLen (zaa (mRd 1) mNil))))) (mRet (mC (.bl false))) zbp [.v (iL l),.v (iL l),.no,.no] = .nx [.v (iL l),.v (iL l),.no,.no]:=by simp [mIfS,mOr,mNot,zaF,mRd,mCB,zaa,mNil,il,zbp]
  have q2:zeB [.v (iL l),.v (iL l),.no,.no] = .nx [.v (iL l),.v (iL l),sv o2,sv o3]:=by
    refine (zcZ ?_).trans h1
    simp only [mZip,zaa,mNil,mVar,List.getElem?_cons_succ,List.getElem?_cons_zero,R.bind_ok]
    show R.of (some (zipD (l.map D.int) (l.map D.int)))=_
    rw [z]; rfl
  exact (zaq q1).trans ((zaq q2).trans rfl)
end My
namespace My
open PySem L2 PM
theorem zeX {i:Nat} {mi me:En→R D} {δ:En} {L:List Int} {k y:Int} (h:δ[i]?=some (.o (iL L))) (hk:mi δ = .ok (.int k)) (h0:0 ≤ k) (h1:k.toNat < L.length) (hy:me δ = .ok (.int y)):zgI i mi me δ = .nx (δ.set i (.o (iL (L.set k.toNat y)))):=by
  have e1:ixN (L.map D.int).length k=some k.toNat:=by unfold ixN; rw [if_pos h0,if_pos (by rw [List.length_map]; omega)]
  unfold zgI
  rw [h]
  simp only [iL,hk,R.toO_ok,e1,hy]
  rw [← List.map_set]
theorem zf0 {l:List Int} {δ:En} {mi:En→R (List D)} (hi:mi δ = .ok (l.map .int)) (hl:l.length ≤ 1000):zdi mi [] 1 (za0 0) none (mC (.int 0)) δ = .ok (iL (List.replicate l.length 0)):=by
  refine Eq.trans (zcm (l:=l.map .int) (r:=l.map fun _=>.int 0) hi (by rw [List.length_map]; omega) ?_) (by simp [iL,List.map_const'])
  exact zdv .int (fun _=>.int 0) _ fun k hk=>by simp [zdy,za9,za0,mC]
theorem zqD {n:Nat} (h:n ≤ 1000):lstR [.int (n:Int)]=some (iL (upt n)):=by
  have:lstR [.int (n:Int)]=ifC (0 ≤ (n:Int)∧(n:Int) ≤ 100000) (some (.lst ((List.range (n:Int).toNat).map fun k:Nat=>.int (k:Int)))) none:=rfl
  rw [this,zb7 ⟨by omega,by omega⟩,Int.toNat_natCast]
  simp [iL,upt,Function.comp_def]
end My
namespace My
open PySem L2 PM
theorem zgr {ws:List Int} (h:ws.length < 64):zaM [iL ws] = .ok (iL (ordK ws)):=by
  refine zcA ?_
  show zcu _ [.v (iL ws)]=_
  have e:zjf (iL ws)=some (iL (ordK ws)):=zn3 h
  simp [zcu,zj4,e]
theorem zfa (ws:List Int):(ordK ws).Perm (upt ws.length):=(zbO _ _).map _
theorem zdf {ws:List Int}:∀ x ∈ ordK ws,0 ≤ x∧x < ws.length:=fun x hx=>mem_upt.mp ((zfa ws).mem_iff.mp hx)
theorem zlP (ws:List Int):(ordK ws).Nodup:=(zfa ws).nodup_iff.mpr (zh7 _)
theorem zpY (ws:List Int):(ordK ws).Pairwise (fun a b=>gA ws b < gA ws a∨(gA ws a=gA ws b∧a < b)):=by
  unfold ordK
  rw [List.pairwise_map]
  refine (zh6 _ _).imp fun {a b} h=>?_
  unfold Lx at h
  dsimp only at h
  have ea:gA ws (a:Int)=ws.getD a 0:=by simp [gA]
  have eb:gA ws (b:Int)=ws.getD b 0:=by simp [gA]
  rw [ea,eb]
  omega
end My
namespace My
open PySem L2 PM
def encC (cs:List Int):D:=.tup (cs.map .int)
theorem zhn {m k:Nat} (h:k < m):(upt m)[k]?=some (k:Int):=by
  unfold upt; rw [List.getElem?_map,List.getElem?_range h]; rfl
theorem zeq (n:Nat):upt (n + 1)=upt n ++ [(n:Int)]:=by simp [upt,List.range_succ]
theorem zoz {n:Nat} {pre post:List Int} {x:Int} (h:upt n=pre ++ x :: post):x=(pre.length:Int)∧pre.length < n:=by
  have hl:=congrArg List.length h
  rw [zaU,List.length_append,List.length_cons] at hl
  have e:(upt n)[pre.length]?=some x:=by rw [h]; simp
  rw [zhn (by omega)] at e
  exact ⟨(Option.some.inj e).symm,by omega⟩
theorem zho (ws:List Int):zgL (ws.map .int)=(upt ws.length).map fun k=>D.tup [.int k,.int (gA ws k)]:=by
  rw [zf3]
  apply List.ext_getElem (by simp [upt])
  intro i h1 h2
  simp at h1
  simp [upt,gA,h1]
def Ah (ws:List Int) (k j:Int):Bool:=decide (gA ws k < gA ws j∨gA ws j=gA ws k∧j < k)
theorem zpA {ws:List Int} {i:Nat} {k:Int} (h:(ordK ws)[i]?=some k):((upt ws.length).filter (Ah ws k)).length=i:=by
  rw [((zfa ws).symm.filter (Ah ws k)).length_eq]
  obtain ⟨hi,hk⟩:=List.getElem?_eq_some_iff.mp h
  have sp:ordK ws=(ordK ws).take i ++ k :: (ordK ws).drop (i + 1):=by
    rw [← hk,← List.drop_eq_getElem_cons hi,List.take_append_drop]
  have pw:=zpY ws
  rw [sp] at pw
  obtain ⟨_,p2,p3⟩:=List.pairwise_append.mp pw
  have p4:=(List.pairwise_cons.mp p2).1
  rw [sp,List.filter_append]
  have e1:((ordK ws).take i).filter (Ah ws k)=(ordK ws).take i:=List.filter_eq_self.mpr fun a ha=>by
    have:=p3 a ha k List.mem_cons_self
    unfold Ah; rw [decide_eq_true_eq]; omega
  have e2:(k :: (ordK ws).drop (i + 1)).filter (Ah ws k) = []:=List.filter_eq_nil_iff.mpr fun a ha=>by
    unfold Ah; rw [decide_eq_true_eq]
    rcases List.mem_cons.mp ha with rfl | ha
    · omega
    · have:=p4 a ha
      omega
  rw [e1,e2,List.append_nil,List.length_take]
  omega
theorem zde (ws:List Int):(ordK ws).length=ws.length:=by rw [(zfa ws).length_eq,zaU]
theorem zm7 {ws:List Int} (hl:ws.length ≤ 100):zcd [iL ws] = .ok (iL (ordK ws)):=by
  obtain ⟨W,eW⟩:∃ W,W=iL ws:=⟨_,rfl⟩
  have k2:∀ (L:List Int) (k:Int) (s:Sl),zec [.v W,.o (iL L),.v (.int k),.v (.int (gA ws k)),s] = .ok (iL ((upt ws.length).filter (Ah ws k))):=by
    intro L k s
    refine zcm (l:=(upt ws.length).map fun k=>D.tup [.int k,.int (gA ws k)]) ?_ (by rw [List.length_map,zaU]; omega) ?_
    · rw [eW]; simp [zfq,zaa,mNil,mRd,zhQ,asL',iL,zho]
    · refine zd1 (fun j=>D.tup [.int j,.int (gA ws j)]) (Ah ws k) .int _ fun j _=>?_
      by_cases c1:gA ws k < gA ws j
      · simp [zdy,za9,zfb,bTup,za1,bNil,za0,zaF,mRd,mVar,mOr,Ah,c1]
      · by_cases c2:gA ws j=gA ws k <;> by_cases c3:j < k <;> simp [zdy,za9,zfb,bTup,za1,bNil,za0,zaF,mRd,mVar,mOr,mAnd,Ah,c1,c2,c3]
  have k1:zeg [.v W,.no,.no,.no,.no] = .ok (iL (List.replicate ws.length 0)):=by
    refine zf0 (l:=ws) ?_ (by omega)
    rw [eW]; simp [mItL,mRd,iL]
  obtain ⟨δ,h1,o2,o3,o4,rfl⟩:=zco (b:=bTup 2 (za1 (zat 2) (za1 (zat 3) bNil))) (m:=ze1) (fun k=>D.tup [.int k,.int (gA ws k)])
    (fun pre δ=>∃ o2 o3 o4,δ = [.v W,.o (iL ((ordK ws).map fun x=>if x < (pre.length:Int) then x else 0)),sv o2,sv o3,sv o4]) (upt ws.length)
    (by
      rintro pre x post δ hall ⟨o2,o3,o4,rfl⟩
      obtain ⟨hx,hlt⟩:=zoz hall
      have xm:x ∈ ordK ws:=(zfa ws).mem_iff.mpr (mem_upt.mpr (by omega))
      obtain ⟨i,hi,ei⟩:=List.getElem_of_mem xm
      have gi:(ordK ws)[i]?=some x:=by rw [List.getElem?_eq_getElem hi,ei]
      have ps:=zpA gi
      have q0:mAsg zec (zat 4) [.v W,.o (iL ((ordK ws).map fun x=>if x < (pre.length:Int) then x else 0)),.v (.int x),.v (.int (gA ws x)),sv o4] = .nx [.v W,.o (iL ((ordK ws).map fun x=>if x < (pre.length:Int) then x else 0)),.v (.int x),.v (.int (gA ws x)),.v (iL ((upt ws.length).filter (Ah ws x)))] :=
        zaN (k2 _ x _) (by rcases o4 with _ | o4 <;> rfl)
      have le:fLen [iL ((upt ws.length).filter (Ah ws x))]=some (.int (i:Nat)):=by rw [← ps]; simp [iL]
      have q1:=zeX (i:=1) (mi:=mCB fLen (zaa (mRd 4) mNil)) (me:=mVar 2) (δ:=[.v W,.o (iL ((ordK ws).map fun x=>if x < (pre.length:Int) then x else 0)),.v (.int x),.v (.int (gA ws x)),.v (iL ((upt ws.length).filter (Ah ws x)))]) (k:=(i:Int)) (y:=x) rfl
        (by simp [mCB,zaa,mNil,mRd,le]) (by omega) (by rw [List.length_map]; omega) rfl
      have es:((ordK ws).map fun y=>if y < (pre.length:Int) then y else 0).set (i:Int).toNat x=(ordK ws).map fun y=>if y < ((pre ++ [x]).length:Int) then y else 0:=by
        apply List.ext_getElem?
        intro j
        rw [Int.toNat_natCast,List.length_append]
        by_cases e:i=j
        · subst e
          rw [List.getElem?_set_self (by rw [List.length_map]; exact hi),List.getElem?_map,gi]
          simp only [Option.map_some,List.length_singleton]
          rw [if_pos (by omega)]
        · rw [List.getElem?_set_ne e,List.getElem?_map,List.getElem?_map]
          cases g:(ordK ws)[j]? with
          | none=>rfl
          | some y =>
            have:y ≠ x:=fun z=>by
              subst z
              exact e ((List.getElem?_inj hi (zlP ws)).mp (gi.trans g.symm))
            simp only [Option.map_some,List.length_singleton]
            congr 1
            by_cases c:y < (pre.length:Int)
            · rw [if_pos c,if_pos (by omega)]
            · rw [if_neg c,if_neg (by omega)]
      rw [es] at q1
      refine ⟨[.v W,.o (iL ((ordK ws).map fun x=>if x < (pre.length:Int) then x else 0)),.v (.int x),.v (.int (gA ws x)),sv o4],_,?_,.inl ((zaq q0).trans q1),some (.int x),some (.int (gA ws x)),some (iL ((upt ws.length).filter (Ah ws x))),rfl⟩
      rcases o2 with _ | o2 <;> rcases o3 with _ | o3 <;> rfl)
    [.v W,.o (iL (List.replicate ws.length 0)),.no,.no,.no] ⟨none,none,none,by
      have:((ordK ws).map fun x=>if x < (([]:List Int).length:Int) then x else 0)=List.replicate ws.length 0:=by
        rw [← zde ws,← List.map_const']
        refine List.map_congr_left fun x hx=>?_
        have:=zdf x hx
        rw [if_neg (by simp; omega)]
      rw [this]; rfl⟩
  have fin:((ordK ws).map fun x=>if x < ((upt ws.length).length:Int) then x else 0)=ordK ws:=by
    conv=>rhs; rw [← List.map_id (ordK ws)]
    refine List.map_congr_left fun x hx=>?_
    have:=zdf x hx
    rw [if_pos (by rw [zaU]; omega)]; rfl
  rw [fin] at h1
  refine zcA ?_
  show mSeq _ _ [.v (iL ws),.no,.no,.no,.no]=_
  rw [← eW]
  have q0:mAsg zeg (bNew 1) [.v W,.no,.no,.no,.no] = .nx [.v W,.o (iL (List.replicate ws.length 0)),.no,.no,.no]:=zaN k1 rfl
  have q1:zfI [.v W,.o (iL (List.replicate ws.length 0)),.no,.no,.no] = .nx [.v W,.o (iL (ordK ws)),sv o2,sv o3,sv o4]:=by
    refine (zcZ ?_).trans h1
    rw [eW]; simp [zfq,zaa,mNil,mVar,zhQ,asL',iL,zho]
  exact (zaq q0).trans ((zaq q1).trans rfl)
theorem zfX (l:List Int) (x:Int):uniq (l ++ [x])=if x ∈ uniq l then uniq l else uniq l ++ [x]:=by
  have h:uniq (l ++ [x])=PyProof.Rows.step_dedup (uniq l) x:=by unfold uniq; rw [List.foldl_append]; rfl
  rw [h]
  generalize uniq l=u
  unfold PyProof.Rows.step_dedup
  have:(u.any (· == x))=true ↔ x ∈ u:=by simp
  by_cases c:x ∈ u
  · rw [if_pos (this.mpr c),if_pos c]
  · rw [if_neg (fun z=>c (this.mp z)),if_neg c]
theorem zi0 {P:List Int→Prop} (h0:P []) (h1:∀ l x,P l→P (l ++ [x])) (l:List Int):P l:=by
  have:∀ n (l:List Int),l.length=n→P l:=by
    intro n
    induction n with
    | zero=>intro l hl; rw [List.length_eq_zero_iff.mp hl]; exact h0
    | succ n ih =>
      intro l hl
      have ne:l ≠ []:=fun z=>by rw [z] at hl; simp at hl
      rw [← List.dropLast_concat_getLast ne]
      exact h1 _ _ (ih _ (by rw [List.length_dropLast,hl]; omega))
  exact this _ l rfl
theorem zjv (l:List Int):(uniq l).Nodup∧∀ x,x ∈ uniq l ↔ x ∈ l:=by
  refine zi0 (P:=fun l=>(uniq l).Nodup∧∀ x,x ∈ uniq l ↔ x ∈ l) ⟨by simp [uniq],fun x=>by simp [uniq]⟩ (fun l x ih=>?_) l
  rw [zfX]
  by_cases c:x ∈ uniq l
  · rw [if_pos c]
    refine ⟨ih.1,fun y=>?_⟩
    rw [ih.2,List.mem_append,List.mem_singleton]
    refine ⟨.inl,fun h=>h.elim id fun z=>?_⟩
    rw [z]; exact (ih.2 x).mp c
  · rw [if_neg c]
    refine ⟨List.nodup_append.mpr ⟨ih.1,by simp,fun a ha b hb=>?_⟩,fun y=>?_⟩
    · rw [List.mem_singleton.mp hb]; exact fun z=>c (z ▸ ha)
    · rw [List.mem_append,List.mem_append,ih.2]
theorem znM (l:List Int):(uniq l).length ≤ l.length:=by
  refine zi0 (P:=fun l=>(uniq l).length ≤ l.length) (by simp [uniq]) (fun l x ih=>?_) l
  rw [zfX]
  split <;> simp <;> omega
theorem zks {m:Nat} {cs:List Int} (h:∀ c ∈ cs,0 ≤ c∧c < m):(uniq cs).length=((upt m).filter fun b=>decide (b ∈ cs)).length:=by
  refine List.Perm.length_eq ((List.perm_ext_iff_of_nodup (zjv cs).1 ((zh7 m).filter _)).mpr fun x=>?_)
  rw [(zjv cs).2,List.mem_filter,mem_upt,decide_eq_true_eq]
  exact ⟨fun z=>⟨h x z,z⟩,fun z=>z.2⟩
theorem ziw {cs:List Int} (h:cs.length ≤ 100):zcl [encC cs]=some (.int (uniq cs).length):=by
  unfold zcl encC
  simp only [zes,Option.bind]
  exact zb7 (p:=cs.length < 4000) (by omega)
end My
namespace My
open PySem L2 PM
def lo1 (t b:Int):Int:=t / (Int.gcd t b:Int)
def lo2 (t b:Int):Int:=b / (Int.gcd t b:Int)
theorem zhA {t b:Int} (h:0 < b):(0:Int) < Int.gcd t b:=by
  have:0 < Int.gcd t b:=Int.gcd_pos_of_ne_zero_right _ (by omega)
  omega
theorem zoX {t b:Int}:lo1 t b * (Int.gcd t b:Int)=t:=Int.ediv_mul_cancel (Int.gcd_dvd_left ..)
theorem zjy {t b:Int}:lo2 t b * (Int.gcd t b:Int)=b:=Int.ediv_mul_cancel (Int.gcd_dvd_right ..)
theorem zoY {t b:Int} (h:0 < b):0 < lo2 t b:=by
  have h1:=zhA (t:=t) h
  have h2:=zjy (t:=t) (b:=b)
  rcases Int.lt_trichotomy (lo2 t b) 0 with z | z | z
  · have:=Int.mul_neg_of_neg_of_pos z h1; omega
  · rw [z] at h2; omega
  · exact z
theorem zo2 {t b:Int} (h:0 < b):(lo2 t b).natAbs ≤ b.natAbs:=by
  have h1:=zhA (t:=t) h
  have e:=zjy (t:=t) (b:=b)
  have:b.natAbs=(lo2 t b).natAbs * (Int.gcd t b):=by
    conv=>lhs; rw [← e]
    rw [Int.natAbs_mul]; simp
  rw [this]
  exact Nat.le_mul_of_pos_right _ (by omega)
theorem zfU (a b:Int):zbR [.int a,.int b] = .ok (.int (Int.gcd a b)):=by
  have ab:∀ z:Int,(if z < 0 then -z else z)=(z.natAbs:Int):=fun z=>by split <;> omega
  let env:Nat × Nat × Option D→En:=fun p=>[.v (.int a),.v (.int b),.v (.int p.1),.v (.int p.2.1),sv p.2.2]
  obtain ⟨⟨x,y,r⟩,h1,h2,h3,_⟩:=zmn (c:=zci) (m:=zcf) env (fun p=>decide (0 < p.2.1)) (fun p=>(p.2.1,p.1 % p.2.1,some (.int ((p.1 % p.2.1:Nat):Int)))) (fun p=>Nat.gcd p.1 p.2.1=Int.gcd a b) (fun p=>p.2.1)
    (fun p _=>by simp [env,zci,zaF,mRd,mC]) (fun p hp hg=>by
      have hy:0 < p.2.1:=by simpa using hg
      refine ⟨?_,?_,Nat.mod_lt _ hy⟩
      · have e:oMod (.int (p.1:Int)) (.int (p.2.1:Int))=some (.int ((p.1 % p.2.1:Nat):Int)):=by rw [ze8 (by omega)]; simp
        have b4:∀ d,zat 4 d (env p)=some ((env p).set 4 (.v d)):=fun d=>znu rfl
        simp only [zcf,mSeq,mAsg,zqS,show mRd 2 (env p) = .ok (.int p.1) from rfl,show mRd 3 (env p) = .ok (.int p.2.1) from rfl,R.bind_ok,e,R.of_some,R.toO_ok,b4,O.of_some]
        rfl
      · rw [Nat.gcd_comm,← hp,Nat.gcd_comm p.1,Nat.gcd_rec p.2.1 p.1]) (a.natAbs,b.natAbs,none) rfl
  have y0:y=0:=by simpa using h2
  subst y0
  have ex:(x:Int)=Int.gcd a b:=by
    have:Nat.gcd x 0=Int.gcd a b:=h1
    rw [Nat.gcd_zero_right] at this
    omega
  refine zb3 ?_
  have e3:zdR [.v (.int a),.v (.int b),.v (.int a.natAbs),.v (.int b.natAbs),.no] = .nx [.v (.int a),.v (.int b),.v (.int x),.v (.int 0),sv r]:=h3
  simp [zcN,zcE,mSeq,mAsg,mCB,zaa,mNil,mRd,fAbs,ab,zat,e3,mRet,mVar,ex]
theorem zn2 {t b:Int} (hb:0 < b) (h1:b.natAbs ≤ 10 ^ 1000):zcj [.int t,.int b] = .ok (.tup [.int (lo1 t b),.int (lo2 t b)]):=by
  have g:=zhA (t:=t) hb
  have gl:Int.gcd t b ≤ b.natAbs:=Nat.le_of_dvd (by omega) (by
    have:=Int.gcd_dvd_right (a:=t) (b:=b)
    exact Int.natAbs_dvd_natAbs.mpr (by simpa using this))
  have f:Fit (Int.gcd t b:Int):=fitN (10 ^ 1000) (by rw [Int.natAbs_natCast]; omega)
  have c:=zfU t b
  have nb:¬ b=0:=by omega
  have nl:¬ b < 0:=by omega
  simp [zcj,runF,zcE,zjb,mSeq,mIfS,zaF,mRd,mC,nb,zbp,mAsg,zak,zaa,mNil,mVar,c,zat,nl,mRet,mTup,zgp g f,sizeLine,lo1,lo2]
end My
namespace My
open PySem L2 PM
def cdiv (t b:Int):Int:=-((-t) / b)
theorem zqI {t b:Int} (hb:0 < b) : -((-lo1 t b) / lo2 t b)=cdiv t b:=by
  have g:=zhA (t:=t) hb
  have h1:=zoX (t:=t) (b:=b)
  have h2:=zjy (t:=t) (b:=b)
  unfold cdiv
  have:(-t) / b=(-lo1 t b) / lo2 t b:=by
    have e : -t=(-lo1 t b) * (Int.gcd t b:Int):=by rw [Int.neg_mul,h1]
    have e2:=Int.mul_ediv_mul_of_pos_left (-lo1 t b) (lo2 t b) g
    rw [h2,← e] at e2
    exact e2
  rw [this]
theorem zmg {t b R:Int} (hb:0 < b) (h:t ≤ b * R):cdiv t b ≤ R:=by
  unfold cdiv
  have : -R ≤ (-t) / b:=by
    rw [Int.le_ediv_iff_mul_le hb,Int.neg_mul,Int.mul_comm]
    omega
  omega
theorem zl3 {t b:Int} (hb:0 < b):t ≤ b * cdiv t b:=by
  unfold cdiv
  have:=Int.ediv_mul_le (-t) (show b ≠ 0 by omega)
  rw [Int.mul_neg,Int.mul_comm b]
  omega
theorem zha {a b:Int} (hb:0 < b) (fb:Fit b):zba [.tup [.int a,.int b]] = .ok (.int (-((-a) / b))):=by
  simp [zba,runF,zcE,zd4,mRet,mRd,mC,zgp hb fb]
end My
namespace My
open PySem L2 PM
def sumB (z:List (Int × Int)) (b:Int):Int:=((z.filter fun x=>decide (x.2=b)).map (·.1)).sum
theorem zer (z:List (Int × Int)) (x:Int × Int) (b:Int):sumB (z ++ [x]) b=sumB z b + (if x.2=b then x.1 else 0):=by
  unfold sumB
  rw [List.filter_append,List.map_append,List.sum_append]
  by_cases h:x.2=b
  · rw [List.filter_cons_of_pos (by simpa using h),if_pos h]; simp
  · rw [List.filter_cons_of_neg (by simpa using h),if_neg h]; simp
def mxL:List Int→Int
  | []=>0
  | a :: l=>maxI l a
theorem zjV {S:List Int} (h:S ≠ []):mxL S ∈ S∧∀ x ∈ S,x ≤ mxL S:=by
  cases S with
  | nil=>exact absurd rfl h
  | cons a l =>
    obtain ⟨h1,h2,h3⟩:=L2.maxI_ge l a
    refine ⟨?_,fun b hb=>?_⟩
    · rcases h3 with z | z
      · show maxI l a ∈ _; rw [z]; simp
      · exact List.mem_cons_of_mem _ z
    · rcases List.mem_cons.mp hb with z | z
      · rw [z]; exact h1
      · exact h2 b z
theorem zom {S:List Int} (h:S ≠ []):zii maxI [iL S]=some (.int (mxL S)):=by
  cases S with
  | nil=>exact absurd rfl h
  | cons a l=>simp [zii,iL,zes,mxL]
def hvy (m:Nat) (ws put:List Int):Int:=mxL ((upt m).map (sumB (ws.zip put)))
theorem ziA {m:Nat} (h:0 < m) {f:Int→Int}:(upt m).map f ≠ []:=fun e=>by
  have:=congrArg List.length e
  rw [List.length_map,zaU] at this; simp at this; omega
theorem zo3 {l r:List Int}:zipD (l.map .int) (r.map .int)=(l.zip r).map fun x=>D.tup [.int x.1,.int x.2]:=by
  unfold zipD
  rw [List.zipWith_map,List.zip,List.map_zipWith]
theorem zhH {m:Nat} {z:List (Int × Int)} {b:Int} (h0:0 ≤ b) (h1:b < m) {f:Int→Int}:gA ((upt m).map f) b=f b:=by
  unfold gA
  rw [List.getD_eq_getElem?_getD,List.getElem?_map,zhn (show b.toNat < m by omega)]
  simp [show ((b.toNat:Nat):Int)=b by omega]
theorem set_map {m:Nat} {f g:Int→Int} {b y:Int} (h0:0 ≤ b) (h1:b < m) (hb:g b=y) (hn:∀ c,c ≠ b→g c=f c):((upt m).map f).set b.toNat y=(upt m).map g:=by
  apply List.ext_getElem?
  intro i
  by_cases hi:i < m
  · rw [List.getElem?_map,zhn hi]
    by_cases e:b.toNat=i
    · subst e
      rw [List.getElem?_set_self (by rw [List.length_map,zaU]; exact hi)]
      rw [Option.map_some,show ((b.toNat:Nat):Int)=b by omega,hb]
    · rw [List.getElem?_set_ne e,List.getElem?_map,zhn hi,Option.map_some,Option.map_some,hn _ (by omega)]
  · rw [List.getElem?_eq_none_iff.mpr (by rw [List.length_set,List.length_map,zaU]; omega),List.getElem?_eq_none_iff.mpr (by rw [List.length_map,zaU]; omega)]
theorem zi7 {m:Nat} {z:List (Int × Int)} {w b:Int} (h0:0 ≤ b) (h1:b < m):((upt m).map (sumB z)).set b.toNat (gA ((upt m).map (sumB z)) b + w)=(upt m).map (sumB (z ++ [(w,b)])):=by
  refine set_map h0 h1 ?_ fun c hc=>?_
  · rw [zhH (z:=z) h0 h1,zer,if_pos rfl]
  · rw [zer,if_neg (Ne.symm hc),Int.add_zero]
theorem sum0 (m:Nat):(upt m).map (sumB [])=List.replicate m 0:=by
  have h2:(upt m).map (sumB [])=(upt m).map fun _=>(0:Int):=List.map_congr_left fun _ _=>rfl
  rw [h2,List.map_const',zaU]
theorem zep {l cs:List Int}:zkT [iL l,encC cs]=some ((l.zip cs).map fun x=>D.tup [.int x.1,.int x.2]):=by
  unfold zkT iL encC
  simp only
  rw [zo3]
theorem zlG {m:Nat} {δ:En} {i:Nat} (hm:m ≤ 100) (h:mVar i δ = .ok (.int m)):zdi (mRng (zaa (mVar i) mNil)) [] 1 (za0 0) none (mC (.int 0)) δ = .ok (iL (List.replicate m 0)):=by
  have:=zf0 (l:=upt m) (δ:=δ) (mi:=mRng (zaa (mVar i) mNil)) (by simp [mRng,zaa,mNil,h,rngT (show m ≤ 1000 by omega)]) (by rw [zaU]; omega)
  rw [zaU] at this; exact this
theorem zjx {m:Nat} {ws cs:List Int} (hm:0 < m) (hm1:m ≤ 100) (hp:∀ b ∈ cs,0 ≤ b∧b < m):zdo [iL ws,.int m,encC cs] = .ok (.int (hvy m ws cs)):=by
  obtain ⟨C,eC⟩:∃ C,C=encC cs:=⟨_,rfl⟩
  obtain ⟨δ,h1,o4,o5,rfl⟩:=zco (b:=bTup 2 (za1 (zat 4) (za1 (zat 5) bNil))) (m:=zfG) (fun x:Int × Int=>D.tup [.int x.1,.int x.2]) (fun pre δ=>∃ o4 o5,δ = [.v (iL ws),.v (.int m),.v C,.o (iL ((upt m).map (sumB pre))),sv o4,sv o5]) (ws.zip cs)
    (by
      rintro pre ⟨w,b⟩ post δ hall ⟨o4,o5,rfl⟩
      have bm:=hp b (List.of_mem_zip (show (w,b) ∈ ws.zip cs by rw [hall]; simp)).2
      have bl:b.toNat < ((upt m).map (sumB pre)).length:=by rw [List.length_map,zaU]; omega
      have q:=zkc (f:=fun i j=>i + j) (i:=3) (mi:=mVar 5) (me:=mVar 4) (δ:=[.v (iL ws),.v (.int m),.v C,.o (iL ((upt m).map (sumB pre))),.v (.int w),.v (.int b)]) (k:=b) (y:=w) rfl rfl bm.1 bl rfl
      rw [zi7 bm.1 bm.2] at q
      refine ⟨[.v (iL ws),.v (.int m),.v C,.o (iL ((upt m).map (sumB pre))),.v (.int w),.v (.int b)],_,?_,.inl q,some (.int w),some (.int b),rfl⟩
      rcases o4 with _ | o4 <;> rcases o5 with _ | o5 <;> rfl)
    [.v (iL ws),.v (.int m),.v C,.o (iL (List.replicate m 0)),.no,.no] ⟨none,none,by rw [sum0]; rfl⟩
  refine zb3 ?_
  show mSeq _ _ [.v (iL ws),.v (.int m),.v (encC cs),.no,.no,.no]=_
  rw [← eC]
  have q1:mAsg zf7 (bNew 3) [.v (iL ws),.v (.int m),.v C,.no,.no,.no] = .nx [.v (iL ws),.v (.int m),.v C,.o (iL (List.replicate m 0)),.no,.no]:=zaN (zlG hm1 rfl) rfl
  have q2:zgh [.v (iL ws),.v (.int m),.v C,.o (iL (List.replicate m 0)),.no,.no] = .nx [.v (iL ws),.v (.int m),.v C,.o (iL ((upt m).map (sumB (ws.zip cs)))),sv o4,sv o5]:=by
    refine (zcZ ?_).trans h1
    rw [eC]
    simp [zfy,zaa,mNil,mVar,zep]
  refine (zaq q1).trans ((zaq q2).trans ?_)
  simp [mRet,mCB,zaa,mNil,mRd,zom (ziA hm),hvy]
theorem zqC {t b:Int} (hb:0 < b):(t - 1) / b + 1=cdiv t b:=by
  unfold cdiv
  have e:=Int.emod_add_mul_ediv (-t) b
  have r0:=Int.emod_nonneg (-t) (show b ≠ 0 by omega)
  have r1:=Int.emod_lt_of_pos (-t) hb
  generalize (-t) / b=q at *
  generalize (-t) % b=r at *
  have:(t - 1) / b = -q - 1:=by
    have u:=(Int.ediv_emod_unique (a:=t - 1) (b:=b) (r:=b - r - 1) (q:=-q - 1) hb).mpr ⟨by
      have:b * (-q - 1) = -(b * q) - b:=by rw [Int.mul_sub,Int.mul_neg,Int.mul_one]
      rw [this]; omega,by omega,by omega⟩
    exact u.1
  omega
def up (t b:Int):Int:=if t ≤ 0 then 0 else cdiv t b
theorem zqG {t b:Int} (hb:0 < b) (fb:Fit b):zc8 [.int t,.int b] = .ok (.int (up t b)):=by
  refine zb3 ?_
  show mSeq _ _ [.v (.int t),.v (.int b)]=_
  by_cases c:t ≤ 0
  · simp [mSeq,mIfS,zaF,mRd,mC,mRet,c,up]
  · simp [mSeq,mIfS,zaF,mRd,mC,mRet,zbp,c,up,zgp hb fb,zqC hb]
theorem zob {t b:Int} (hb:0 < b) (h1:b ≤ 1000000000000000000):(zcj [.int t,.int b]).bind (fun d=>zba [d]) = .ok (.int (cdiv t b)):=by
  have h2:=zn2 (t:=t) hb (Nat.le_trans (show b.natAbs ≤ 1000000000000000000 by omega) (by decide))
  rw [h2,R.bind_ok]
  have l2:=zoY (t:=t) hb
  have l3:=zo2 (t:=t) hb
  rw [zha l2 (fitN 1000000000000000000 (by omega)),zqI hb]
theorem zjE {t b:Int} (hb:0 < b):up t b=(if 0 < cdiv t b then cdiv t b else 0):=by
  unfold up
  by_cases c:t ≤ 0
  · rw [if_pos c,if_neg]
    have:=zmg (R:=0) hb (show t ≤ b * 0 by omega)
    omega
  · rw [if_neg c,if_pos]
    have:=zl3 (t:=t) hb
    apply Classical.byContradiction
    intro z
    have:b * cdiv t b ≤ 0:=Int.mul_nonpos_of_nonneg_of_nonpos (by omega) (by omega)
    omega
theorem znv {fl cs:List Int} {b:Int} (hp:∀ w ∈ fl,0 < w) (hl:cs.length ≤ fl.length):0 < sumB (fl.zip cs) b ↔ b ∈ cs:=by
  induction cs generalizing fl with
  | nil=>simp [sumB]
  | cons c cs ih =>
    cases fl with
    | nil=>simp at hl
    | cons w fl =>
      have ih':=ih (fl:=fl) (fun x hx=>hp x (List.mem_cons_of_mem _ hx)) (by simpa using hl)
      have nn:0 ≤ sumB (fl.zip cs) b:=zlS fun x hx=>by
        have:=(List.of_mem_zip (List.mem_filter.mp hx).1).1
        exact Int.le_of_lt (hp x.1 (List.mem_cons_of_mem _ this))
      have w0:=hp w List.mem_cons_self
      have e:sumB ((w :: fl).zip (c :: cs)) b=(if c=b then w else 0) + sumB (fl.zip cs) b:=by
        unfold sumB
        rw [List.zip_cons_cons,List.filter_cons]
        by_cases z:c=b <;> simp [z]
      rw [e,List.mem_cons]
      by_cases z:c=b
      · rw [if_pos z]; exact ⟨fun _=>.inl z.symm,fun _=>by omega⟩
      · rw [if_neg z,Int.zero_add,ih']
        exact ⟨.inr,fun h=>h.resolve_left (Ne.symm z)⟩
theorem zo5 {m:Nat} {fl cs:List Int} (hp:∀ w ∈ fl,0 < w) (hl:cs.length ≤ fl.length) (hc:∀ c ∈ cs,0 ≤ c∧c < m):(((upt m).map (sumB (fl.zip cs))).filter fun x=>decide (0 < x)).length=(uniq cs).length:=by
  rw [zks hc,List.filter_map,List.length_map]
  congr 1
  refine List.filter_congr fun b _=>?_
  show decide (0 < sumB (fl.zip cs) b)=_
  exact decide_eq_decide.mpr (znv hp hl)
theorem zqg {m u:Nat}:(upt m).filter (fun k=>decide (k ≤ (u:Int)))=upt (if u + 1 < m then u + 1 else m):=by
  induction m with
  | zero=>simp [upt]
  | succ m ih =>
    rw [zeq,List.filter_append,ih]
    by_cases c:m ≤ u
    · rw [List.filter_cons_of_pos (by simp; omega),if_neg (by omega),if_neg (by omega),zeq]; simp
    · rw [List.filter_cons_of_neg (by simp; omega)]
      simp only [List.filter_nil,List.append_nil]
      by_cases d:u + 1 < m
      · rw [if_pos d,if_pos (by omega)]
      · rw [if_neg d,if_pos (by omega)]
        congr 1; omega
def wayB (m:Nat) (cs:List Int):List Int:=upt (if (uniq cs).length + 1 < m then (uniq cs).length + 1 else m)
def fal (ws:List Int):List Int:=(ordK ws).map (gA ws)
theorem zcS (ws:List Int):(fal ws).length=ws.length:=by unfold fal; rw [List.length_map,zde]
theorem zlx {ws:List Int}:∀ x ∈ fal ws,x ∈ ws:=fun x hx=>by
  obtain ⟨k,hk,rfl⟩:=List.mem_map.mp hx
  have:=zdf k hk
  exact List.mem_of_getElem? (zfM (by omega))
def lowB (m:Nat) (ws cs:List Int):Int:=if cdiv ws.sum m < hvy m (fal ws) cs then hvy m (fal ws) cs else cdiv ws.sum m
theorem zipF (ws cs:List Int):((ordK ws).zip cs).map (fun x=>(gA ws x.1,x.2))=(fal ws).zip cs:=by
  unfold fal; rw [List.zip_map_left]; rfl
end My
namespace My
open PySem L2 PM
theorem ziG {m:Nat} {ws cs:List Int} (hm:0 < m) (hm1:m ≤ 100) (hp:∀ w ∈ ws,0 < w) (hl:ws.length ≤ 100) (hcl:cs.length ≤ ws.length) (hc:∀ c ∈ cs,0 ≤ c∧c < m) :
    zck [iL ws,iL (ordK ws),.int m,encC cs] = .ok (.lst [iL (wayB m cs),.int (lowB m ws cs)]):=by
  obtain ⟨C,eC⟩:∃ C,C=encC cs:=⟨_,rfl⟩
  obtain ⟨W,eW⟩:∃ W,W=iL ws:=⟨_,rfl⟩
  obtain ⟨Od,eO⟩:∃ Od,Od=iL (ordK ws):=⟨_,rfl⟩
  have iW:∀ k:Int,0 ≤ k→k < ws.length→oIxL W (.int k)=some (.int (gA ws k)):=fun k h0 h1=>by rw [eW]; exact zdF h0 (by omega)
  obtain ⟨δ,h1,o5,o6,rfl⟩:=zco (b:=bTup 2 (za1 (zat 5) (za1 (zat 6) bNil))) (m:=ze0) (fun x:Int × Int=>D.tup [.int x.1,.int x.2])
    (fun pre δ=>∃ o5 o6,δ = [.v W,.v Od,.v (.int m),.v C,.o (iL ((upt m).map (sumB (pre.map fun x=>(gA ws x.1,x.2))))),sv o5,sv o6,.no]) ((ordK ws).zip cs)
    (by
      rintro pre ⟨a,b⟩ post δ hall ⟨o5,o6,rfl⟩
      have mm:=List.of_mem_zip (show (a,b) ∈ (ordK ws).zip cs by rw [hall]; simp)
      have bm:=hc b mm.2
      have am:=zdf a mm.1
      have bl:b.toNat < ((upt m).map (sumB (pre.map fun x=>(gA ws x.1,x.2)))).length:=by rw [List.length_map,zaU]; omega
      have q:=zeX (i:=4) (mi:=mVar 6) (me:=m2 oAdd (m2 oIxL (mRd 4) (mRd 6)) (m2 oIxL (mRd 0) (mRd 5))) (δ:=[.v W,.v Od,.v (.int m),.v C,.o (iL ((upt m).map (sumB (pre.map fun x=>(gA ws x.1,x.2))))),.v (.int a),.v (.int b),.no]) (k:=b)
        (y:=gA ((upt m).map (sumB (pre.map fun x=>(gA ws x.1,x.2)))) b + gA ws a) rfl rfl bm.1 bl (by simp [mRd,iW a am.1 am.2,zdF bm.1 bl])
      rw [zi7 bm.1 bm.2] at q
      have e:(pre ++ [(a,b)]).map (fun x=>(gA ws x.1,x.2))=pre.map (fun x=>(gA ws x.1,x.2)) ++ [(gA ws a,b)]:=by rw [List.map_append]; rfl
      rw [← e] at q
      refine ⟨[.v W,.v Od,.v (.int m),.v C,.o (iL ((upt m).map (sumB (pre.map fun x=>(gA ws x.1,x.2))))),.v (.int a),.v (.int b),.no],[.v W,.v Od,.v (.int m),.v C,.o (iL ((upt m).map (sumB ((pre ++ [(a,b)]).map fun x=>(gA ws x.1,x.2))))),.v (.int a),.v (.int b),.no],?_,.inl ?_,some (.int a),some (.int b),rfl⟩
      rotate_left
      · exact q
      rcases o5 with _ | o5 <;> rcases o6 with _ | o6 <;> rfl)
    [.v W,.v Od,.v (.int m),.v C,.o (iL (List.replicate m 0)),.no,.no,.no] ⟨none,none,by rw [List.map_nil,sum0]; rfl⟩
  rw [zipF] at h1
  obtain ⟨SS,eSS⟩:∃ SS,SS=(upt m).map (sumB ((fal ws).zip cs)):=⟨_,rfl⟩
  rw [← eSS] at h1
  have sl:SS.length=m:=by rw [eSS,List.length_map,zaU]
  refine zcA ?_
  show mSeq _ _ [.v (iL ws),.v (iL (ordK ws)),.v (.int m),.v (encC cs),.no,.no,.no,.no]=_
  rw [← eC,← eW,← eO]
  have q1:mAsg zfA (bNew 4) [.v W,.v Od,.v (.int m),.v C,.no,.no,.no,.no] = .nx [.v W,.v Od,.v (.int m),.v C,.o (iL (List.replicate m 0)),.no,.no,.no]:=zaN (zlG hm1 rfl) rfl
  have q2:zfO [.v W,.v Od,.v (.int m),.v C,.o (iL (List.replicate m 0)),.no,.no,.no] = .nx [.v W,.v Od,.v (.int m),.v C,.o (iL SS),sv o5,sv o6,.no]:=by
    refine (zcZ ?_).trans h1
    rw [eC,eO]
    simp [zfy,zaa,mNil,mVar,zep]
  have k2:zd7 [.v W,.v Od,.v (.int m),.v C,.o (iL SS),sv o5,sv o6,.no] = .ok (iL (SS.filter fun x=>decide (0 < x))):=by
    refine zcm (l:=SS.map .int) (by simp [mItL,mRd,iL]) (by rw [List.length_map,sl]; omega) ?_
    refine zd1 .int _ .int _ fun x _=>?_
    by_cases c:0 < x <;> simp [zdy,za9,zfb,za0,zaF,mRd,mVar,mC,c]
  have u:(SS.filter fun x=>decide (0 < x)).length=(uniq cs).length:=by
    rw [eSS]; exact zo5 (fun w hw=>hp w (zlx w hw)) (by rw [zcS]; exact hcl) hc
  have lu:fLen [iL (SS.filter fun x=>decide (0 < x))]=some (.int (uniq cs).length):=by rw [← u]; simp [iL]
  have q3:mAsg (mCB fLen (zaa zd7 mNil)) (zat 7) [.v W,.v Od,.v (.int m),.v C,.o (iL SS),sv o5,sv o6,.no] = .nx [.v W,.v Od,.v (.int m),.v C,.o (iL SS),sv o5,sv o6,.v (.int (uniq cs).length)] :=
    zaN (d:=.int (uniq cs).length) (by simp [mCB,zaa,mNil,k2,lu]) rfl
  have k3:zfD [.v W,.v Od,.v (.int m),.v C,.o (iL SS),sv o5,sv o6,.v (.int (uniq cs).length)] = .ok (iL (wayB m cs)):=by
    unfold wayB
    rw [← zqg]
    refine zcm (l:=(upt m).map .int) (by simp [mRng,zaa,mNil,mVar,rngT (show m ≤ 1000 by omega)]) (by rw [List.length_map,zaU]; omega) ?_
    refine zd1 .int _ .int _ fun x _=>?_
    by_cases c:x ≤ ((uniq cs).length:Int) <;> simp [zdy,za9,zfb,za0,zaF,mRd,mVar,c]
  have mx:zii maxI [iL SS]=some (.int (hvy m (fal ws) cs)):=by rw [eSS,zom (ziA hm)]; rfl
  have sw:fSum [W]=some (.int ws.sum):=by rw [eW,zeK]
  have fm:Fit (m:Int):=fitN 100 (by omega)
  have ue:=zqG (t:=ws.sum) (b:=m) (by omega) fm
  have uc:up ws.sum m=cdiv ws.sum m:=by
    unfold up
    split
    · rename_i z
      have s0:0 ≤ ws.sum:=by
        have:=zlS (f:=id) (l:=ws) fun x hx=>Int.le_of_lt (hp x hx)
        simpa using this
      have:ws.sum=0:=by omega
      rw [this]; simp [cdiv]
    · rfl
  rw [uc] at ue
  refine (zaq q1).trans ((zaq q2).trans ((zaq q3).trans ?_))
  have mm:zh5 [.int (hvy m (fal ws) cs),.int (cdiv ws.sum m)]=some (.int (lowB m ws cs)):=by
    show some (D.int (if hvy m (fal ws) cs < cdiv ws.sum m then cdiv ws.sum m else hvy m (fal ws) cs))=_
    congr 2
    unfold lowB
    split <;> split <;> omega
  simp [zcu,mLst,zaa,mNil,k3,mCB,mRd,mx,zak,mVar,sw,ue,mm,sizeLine]
def zby (m:Int) (ws:List Int):D:=.obj 4 ["many","order","falling","least"] [.int m,iL (ordK ws),iL (fal ws),.int (cdiv ws.sum m)]
theorem n1:¬ (("many" : Str) = "order"):=by decide
theorem n2:¬ (("many" : Str) = "falling"):=by decide
theorem n3:¬ (("many" : Str) = "least"):=by decide
theorem n4:¬ (("order" : Str) = "falling"):=by decide
theorem n5:¬ (("order" : Str) = "least"):=by decide
theorem n6:¬ (("falling" : Str) = "least"):=by decide
theorem n7:¬ (("room" : Str) = "order"):=by decide
theorem n8:¬ (("room" : Str) = "falling"):=by decide
theorem zjP (l:List Int):zeE (l.map .int)=true:=by
  induction l with
  | nil=>rfl
  | cons a l ih=>simp [zeE,zdn,ih]
theorem zov (l:List Int):allI (l.map .int)=true:=by
  induction l with
  | nil=>rfl
  | cons a l ih=>simp [allI,ih]
theorem zk3 {ws:List Int} {c:Nat} {ks:List Str} {l:List D} {s:Sl} (hl:ws.length ≤ 63) (h:oFld zbU "order" (.obj c ks l)=some (iL (ordK ws))) :
    zdi (mItL (m1 (oFld zbU "order") (mRd 0))) [1] 1 (za0 1) none (m2 oIxL (mRd 0) (mRd 1)) [.v (.obj c ks l),.v (iL ws),s] = .ok (iL (fal ws)):=by
  have ol:=zde ws
  refine Eq.trans (zcm (l:=(ordK ws).map .int) (r:=(ordK ws).map fun k=>.int (gA ws k)) (by simp [mItL,mRd,h,iL]) (by rw [List.length_map]; omega) ?_) (by simp [iL,fal])
  refine zdv .int (fun k=>.int (gA ws k)) _ fun k hk=>?_
  have:=zdf k hk
  have ix:=zdF (L:=ws) (k:=k) this.1 (by omega)
  simp [zdy,za9,zfb,za0,mRd,ix]
theorem zkq {m:Nat} {ws:List Int} (hm:0 < m) (hm1:m ≤ 100) (hl:ws.length ≤ 63):zaR [iL ws,.int m] = .ok (zby m ws):=by
  have h:zbc [.no,.v (iL ws),.v (.int m)] [] [] = .ok (["many","order","falling","least"],[.int m,iL (ordK ws),iL (fal ws),.int (cdiv ws.sum m)]):=by
    unfold zbc iSeq
    have e1:zeS "many" (mVar 2) [.no,.v (iL ws),.v (.int m)] [] [] = .ok (["many"],[.int m]):=by
      simp [zeS,mVar,ifC,zdn,putN,putV]
    have g:zak zaM (zaa (mVar 1) mNil) [.no,.v (iL ws),.v (.int m)] = .ok (iL (ordK ws)):=by simp [zak,zaa,mNil,mVar,zgr (show ws.length < 64 by omega)]
    have e2:zgv "order" (zak zaM (zaa (mVar 1) mNil)) [.no,.v (iL ws),.v (.int m)] ["many"] [.int m] = .ok (["many","order"],[.int m,iL (ordK ws)]):=by
      have c2:∃ r',iL (ordK ws)=D.lst r'∧zeE r'=true:=⟨_,rfl,zjP _⟩
      simp [zgv,g,ifC,c2,putN,putV,n1]
    have e3:ziq 4 "falling" zbl [.no,.v (iL ws),.v (.int m)] ["many","order"] [.int m,iL (ordK ws)] = .ok (["many","order","falling"],[.int m,iL (ordK ws),iL (fal ws)]):=by
      have f:=zk3 (ws:=ws) (c:=4) (ks:=["many","order"]) (l:=[.int m,iL (ordK ws)]) (s:=.v (.int m)) hl (by simp [oFld,zbU,getF,n1])
      have c2:∃ r',iL (fal ws)=D.lst r'∧allI r'=true:=⟨_,rfl,zov _⟩
      unfold ziq
      rw [show zbl (List.set [.no,.v (iL ws),.v (.int m)] 0 (.v (.obj 4 ["many","order"] [.int m,iL (ordK ws)]))) = .ok (iL (fal ws)) from f]
      simp [ifC,c2,putN,putV,n2,n4]
    have r:=zob (t:=ws.sum) (b:=m) (by omega) (by omega)
    have e4:zeS "least" (zak zba (zaa (zfS zcj (zaa (mCB fSum (zaa (mRd 1) mNil)) (zaa (mVar 2) mNil))) mNil)) [.no,.v (iL ws),.v (.int m)] ["many","order","falling"] [.int m,iL (ordK ws),iL (fal ws)] = .ok (["many","order","falling","least"],[.int m,iL (ordK ws),iL (fal ws),.int (cdiv ws.sum m)]):=by
      have s:zak zba (zaa (zfS zcj (zaa (mCB fSum (zaa (mRd 1) mNil)) (zaa (mVar 2) mNil))) mNil) [.no,.v (iL ws),.v (.int m)] = .ok (.int (cdiv ws.sum m)):=by
        cases q:zcj [.int ws.sum,.int m] with
        | ok d =>
          rw [q,R.bind_ok] at r
          simp [zak,zfS,zaa,mNil,mVar,mCB,mRd,zeK,q,r]
        | _=>rw [q] at r; cases r
      simp [zeS,s,ifC,zdn,putN,putV,n3,n5,n6]
    rw [e1]; simp only [R.bind_ok]
    rw [e2]; simp only [R.bind_ok]
    rw [e3]; simp only [R.bind_ok]
    rw [e4]
  show R.bind _ _=_
  simp only [List.map_cons,List.map_nil]
  rw [h]; rfl
section
variable {m:Int} {ws:List Int}
theorem zly:oFld zf9 "many" (zby m ws)=some (.int m):=by simp [oFld,zby,zf9,getF]
theorem zm5:oFld zbU "order" (zby m ws)=some (iL (ordK ws)):=by simp [oFld,zby,zbU,getF,n1]
theorem zg7:oFld zaX "falling" (zby m ws)=some (iL (fal ws)):=by simp [oFld,zby,zaX,getF,n2,n4]
theorem zng:oFld zfW "least" (zby m ws)=some (.int (cdiv ws.sum m)):=by simp [oFld,zby,zfW,getF,n3,n5,n6]
end
theorem zi4 {m:Int} {ws:List Int}:zaK [zby m ws] = .ok (.int ws.length):=by
  refine zb3 ?_
  show mRet _ [.v (zby m ws)]=_
  have le:fLen [iL (fal ws)]=some (.int ws.length):=by rw [← zcS ws]; simp [iL]
  simp [mRet,mCB,zaa,mNil,mRd,zg7,le]
theorem zkj {m:Nat} {ws cs:List Int} (hm1:m ≤ 100) (hc:cs.length ≤ 100):zaC [zby m ws,encC cs] = .ok (iL (wayB m cs)):=by
  refine zcA ?_
  show mSeq _ _ [.v (zby m ws),.v (encC cs),.no]=_
  have q1:mAsg (mCB zcl (zaa (mVar 1) mNil)) (zat 2) [.v (zby m ws),.v (encC cs),.no] = .nx [.v (zby m ws),.v (encC cs),.v (.int (uniq cs).length)]:=zaN (d:=.int (uniq cs).length) (by simp [mCB,zaa,mNil,mVar,ziw hc]) rfl
  refine (zaq q1).trans ?_
  have mn:zi5 [.int ((uniq cs).length + 1:Int),.int m]=some (.int ((if (uniq cs).length + 1 < m then (uniq cs).length + 1 else m:Nat):Int)):=by
    show some (D.int (if (m:Int) < (uniq cs).length + 1 then (m:Int) else (uniq cs).length + 1))=_
    congr 2
    split <;> split <;> omega
  have lr:=zqD (n:=if (uniq cs).length + 1 < m then (uniq cs).length + 1 else m) (by split <;> omega)
  simp [zcu,zpc,zaa,mNil,mCB,mRd,mC,zly,mn,lr,wayB]
theorem znz {δ:En} {ma:En→R D} {mh:En→R D} {l:List Int} {k:Nat} (h:ma δ = .ok (iL l)) (hk:mh δ = .ok (.int k)) (hl:k ≤ l.length):mSl ma mNoP (zeO mh) δ = .ok (iL (l.take k)):=by
  have e:=zn1 (l:=l.map D.int) (k:=k) (by rw [List.length_map]; exact hl)
  simp only [mSl,h,mNoP,zeO,hk,R.bind_ok,zoH,R.of_some,asL,iL,e,List.map_take]
theorem zjJ {δ:En} {ma:En→R D} {mh:En→R D} {l:List Int} {k:Nat} (h:ma δ = .ok (iL l)) (hk:mh δ = .ok (.int k)) (hl:k ≤ l.length):mSl ma (zeO mh) mNoP δ = .ok (iL (l.drop k)):=by
  have e:=zm9 (l:=l.map D.int) (k:=k) (by rw [List.length_map]; exact hl)
  simp only [mSl,h,mNoP,zeO,hk,R.bind_ok,zoH,R.of_some,asL,iL,e,List.map_drop]
theorem znq (l cs:List Int):(l.take cs.length).zip cs=l.zip cs:=by
  induction cs generalizing l with
  | nil=>simp
  | cons c cs ih=>cases l with
    | nil=>rfl
    | cons a l=>simp [ih]
theorem zlz {m:Nat} {ws cs:List Int} (hm:0 < m) (hm1:m ≤ 100) (hcl:cs.length ≤ ws.length) (hc:∀ c ∈ cs,0 ≤ c∧c < m):zam [zby m ws,encC cs] = .ok (.int (lowB m ws cs)):=by
  refine zb3 ?_
  show mSeq _ _ [.v (zby m ws),.v (encC cs),.no]=_
  have le:fLen [encC cs]=some (.int cs.length):=by simp [encC]
  have q1:mAsg (mSl (m1 (oFld zaX "falling") (mRd 0)) mNoP (zeO (mCB fLen (zaa (mRd 1) mNil)))) (zat 2) [.v (zby m ws),.v (encC cs),.no] = .nx [.v (zby m ws),.v (encC cs),.v (iL ((fal ws).take cs.length))] :=
    zaN (znz (by simp [mRd,zg7]) (by simp [mCB,zaa,mNil,mRd,le]) (by rw [zcS]; exact hcl)) rfl
  refine (zaq q1).trans ?_
  have hv:=zjx (ws:=(fal ws).take cs.length) hm hm1 hc
  have he:hvy m ((fal ws).take cs.length) cs=hvy m (fal ws) cs:=by unfold hvy; rw [znq]
  rw [he] at hv
  have mm:zh5 [.int (cdiv ws.sum m),.int (hvy m (fal ws) cs)]=some (.int (lowB m ws cs)):=by
    show some (D.int (if cdiv ws.sum m < hvy m (fal ws) cs then hvy m (fal ws) cs else cdiv ws.sum m))=_
    rfl
  simp [mRet,mCB,zaa,mNil,mRd,zng,zly,zak,mVar,hv,mm]
def putL (n:Nat) (z:List (Int × Int)):List Int:=z.foldl (fun L x=>L.set x.1.toNat x.2) (List.replicate n 0)
theorem zhY (n:Nat) (z:List (Int × Int)):(putL n z).length=n:=by
  unfold putL
  have:∀ (z:List (Int × Int)) (L:List Int),(z.foldl (fun L x=>L.set x.1.toNat x.2) L).length=L.length:=by
    intro z
    induction z with
    | nil=>intro L; rfl
    | cons a z ih=>intro L; rw [List.foldl_cons,ih,List.length_set]
  rw [this,List.length_replicate]
theorem zkd (n:Nat) (z:List (Int × Int)) (x:Int × Int):putL n (z ++ [x])=(putL n z).set x.1.toNat x.2:=by simp [putL]
theorem zjS {ws cs:List Int} (hl:ws.length ≤ 100):zbs [iL (ordK ws),encC cs] = .ok (iL (putL ws.length ((ordK ws).zip cs))):=by
  obtain ⟨C,eC⟩:∃ C,C=encC cs:=⟨_,rfl⟩
  obtain ⟨Od,eO⟩:∃ Od,Od=iL (ordK ws):=⟨_,rfl⟩
  have ol:=zde ws
  obtain ⟨δ,h1,o3,o4,rfl⟩:=zco (b:=bTup 2 (za1 (zat 3) (za1 (zat 4) bNil))) (m:=zed) (fun x:Int × Int=>D.tup [.int x.1,.int x.2])
    (fun pre δ=>∃ o3 o4,δ = [.v Od,.v C,.o (iL (putL ws.length pre)),sv o3,sv o4]) ((ordK ws).zip cs)
    (by
      rintro pre ⟨a,b⟩ post δ hall ⟨o3,o4,rfl⟩
      have am:=zdf a (List.of_mem_zip (show (a,b) ∈ (ordK ws).zip cs by rw [hall]; simp)).1
      have q:=zeX (i:=2) (mi:=mVar 3) (me:=mVar 4) (δ:=[.v Od,.v C,.o (iL (putL ws.length pre)),.v (.int a),.v (.int b)]) (k:=a) (y:=b) rfl rfl am.1 (by rw [zhY]; omega) rfl
      refine ⟨[.v Od,.v C,.o (iL (putL ws.length pre)),.v (.int a),.v (.int b)],_,?_,.inl q,some (.int a),some (.int b),by rw [zkd]; rfl⟩
      rcases o3 with _ | o3 <;> rcases o4 with _ | o4 <;> rfl)
    [.v Od,.v C,.o (iL (List.replicate ws.length 0)),.no,.no] ⟨none,none,rfl⟩
  refine zcA ?_
  show mSeq _ _ [.v (iL (ordK ws)),.v (encC cs),.no,.no,.no]=_
  rw [← eC,← eO]
  have q1:mAsg zeD (bNew 2) [.v Od,.v C,.no,.no,.no] = .nx [.v Od,.v C,.o (iL (List.replicate ws.length 0)),.no,.no]:=by
    refine zaN (d:=iL (List.replicate ws.length 0)) ?_ rfl
    rw [← ol]
    refine zf0 (l:=ordK ws) ?_ (by omega)
    rw [eO]; simp [mItL,mRd,iL]
  have q2:zeH [.v Od,.v C,.o (iL (List.replicate ws.length 0)),.no,.no] = .nx [.v Od,.v C,.o (iL (putL ws.length ((ordK ws).zip cs))),sv o3,sv o4]:=by
    refine (zcZ ?_).trans h1
    rw [eC,eO]
    simp [zfy,zaa,mNil,mVar,zep]
  exact (zaq q1).trans ((zaq q2).trans rfl)
theorem zh3 {m:Int} {ws cs:List Int} (hl:ws.length ≤ 100):zaB [zby m ws,encC cs] = .ok (iL (putL ws.length ((ordK ws).zip cs))):=by
  refine zcA ?_
  show zcu _ [.v (zby m ws),.v (encC cs)]=_
  simp [zcu,zak,zaa,mNil,mVar,mRd,zm5,zjS hl]
end My
namespace My
open PySem L2 PM
def nB (cs:List Int):Nat:=(uniq cs).length
def Cn (cs:List Int):Prop:=∀ p c q,cs=p ++ c :: q→0 ≤ c∧c ≤ (nB p:Int)
theorem zn7 {p q:List Int} (h:Cn (p ++ q)):Cn p:=fun p' c q' e=>h p' c (q' ++ q) (by rw [e]; simp)
theorem zmV (cs:List Int):Cn cs→uniq cs=upt (nB cs):=by
  refine zi0 (P:=fun cs=>Cn cs→uniq cs=upt (nB cs)) (fun _=>by simp [nB,uniq,upt]) (fun l x ih h=>?_) cs
  have e:=ih (zn7 h)
  have hx:=h l x [] rfl
  unfold nB at e hx ⊢
  rw [zfX]
  by_cases c:x ∈ uniq l
  · rw [if_pos c]; exact e
  · rw [if_neg c,List.length_append,List.length_singleton,zeq,← e]
    rw [e,mem_upt] at c
    congr 2
    omega
theorem zlm {cs:List Int} (h:Cn cs):∀ c ∈ cs,0 ≤ c∧c < (nB cs:Int):=fun c hc=>by
  have:=((zjv cs).2 c).mpr hc
  rw [zmV cs h] at this
  exact mem_upt.mp this
theorem zok {cs:List Int} {c:Int} (h:Cn cs):nB (cs ++ [c])=if 0 ≤ c∧c < (nB cs:Int) then nB cs else nB cs + 1:=by
  have e:=zmV cs h
  have:c ∈ uniq cs ↔ 0 ≤ c∧c < (nB cs:Int):=by rw [e]; exact mem_upt
  unfold nB at *
  rw [zfX]
  by_cases z:c ∈ uniq cs
  · rw [if_pos z,if_pos (this.mp z)]
  · rw [if_neg z,if_neg (fun w=>z (this.mpr w)),List.length_append]; rfl
theorem zqk {cs:List Int} {c:Int} (h:Cn cs) (h0:0 ≤ c) (h1:c ≤ (nB cs:Int)):Cn (cs ++ [c]):=by
  intro p c' q e
  rcases List.eq_nil_or_concat q with z | ⟨q',x,z⟩
  · subst z
    obtain ⟨e1,e2⟩:=List.append_inj' e rfl
    cases e2
    rw [← e1]
    exact ⟨h0,h1⟩
  · subst z
    have e':cs ++ [c]=(p ++ c' :: q') ++ [x]:=by rw [e]; simp
    obtain ⟨e1,_⟩:=List.append_inj' e' rfl
    exact h p c' q' e1
theorem zlH {m n:En→O} {δ:En} {d:D} (h:m δ = .ro d):mSeq m n δ = .ro d:=by unfold mSeq; rw [h]
theorem ziP (cs:List Int):nB cs ≤ cs.length:=znM cs
theorem zlc {z:List (Int × Int)} {b:Int} (h:b ∉ z.map (·.2)):sumB z b=0:=by
  unfold sumB
  rw [List.filter_eq_nil_iff.mpr]
  · rfl
  · intro x hx e
    exact h (List.mem_map.mpr ⟨x,hx,by simpa using e⟩)
theorem zl9 {l cs:List Int} (h:cs.length ≤ l.length):(l.zip cs).map (·.2)=cs:=by
  induction cs generalizing l with
  | nil=>simp
  | cons c cs ih=>cases l with
    | nil=>simp at h
    | cons a l=>simp at h; simp [ih h]
def lowN (r:Int) (ws cs:List Int):Int:=(nB cs:Int) + up (((fal ws).drop cs.length).sum - (nB cs:Int) * r + ((upt (nB cs)).map (sumB ((fal ws).zip cs))).sum) r
def wayN (r:Int) (ws cs:List Int):List Int:=((upt (nB cs)).filter fun k=>decide (sumB ((fal ws).zip cs) k + gA (fal ws) cs.length ≤ r)) ++ [(nB cs:Int)]
theorem zp0 {ws:List Int} {k:Nat} (h:k < ws.length):gA ws (gA (ordK ws) k)=gA (fal ws) k∧0 ≤ gA (ordK ws) k∧gA (ordK ws) k < ws.length:=by
  have hl:k < (ordK ws).length:=by rw [zde]; exact h
  have e:(ordK ws)[k]?=some (gA (ordK ws) k):=zfM (i:=(k:Int)) (by simpa using hl)
  have m:=zdf _ (List.mem_of_getElem? e)
  refine ⟨?_,m⟩
  unfold fal
  conv=>rhs; unfold gA
  rw [List.getD_eq_getElem?_getD,List.getElem?_map,Int.toNat_natCast,e]; rfl
theorem zkO {r:Int} {ws cs:List Int} (hr:0 < r) (hr1:r ≤ 1000000000000000000) (hl:ws.length ≤ 100) (hcl:cs.length ≤ ws.length) (hc:Cn cs) :
    zel [iL ws,iL (ordK ws),.int r,encC cs] = .ok (.lst [iL (if cs.length=ws.length then [] else wayN r ws cs),.int (lowN r ws cs)]):=by
  obtain ⟨C,eC⟩:∃ C,C=encC cs:=⟨_,rfl⟩
  obtain ⟨W,eW⟩:∃ W,W=iL ws:=⟨_,rfl⟩
  obtain ⟨Od,eO⟩:∃ Od,Od=iL (ordK ws):=⟨_,rfl⟩
  have iW:∀ k:Int,0 ≤ k→k < ws.length→oIxL W (.int k)=some (.int (gA ws k)):=fun k h0 h1=>by rw [eW]; exact zdF h0 (by omega)
  have zs:((ordK ws).zip cs).map (·.2)=cs:=zl9 (by rw [zde]; exact hcl)
  obtain ⟨f,ef⟩:∃ f:Int × Int→Int × Int,f=fun x=>(gA ws x.1,x.2):=⟨_,rfl⟩
  have f2:∀ l:List (Int × Int),(l.map f).map (·.2)=l.map (·.2):=fun l=>by rw [ef,List.map_map]; rfl
  obtain ⟨δ,h1,o5,o6,rfl⟩:=zco (b:=bTup 2 (za1 (zat 5) (za1 (zat 6) bNil))) (m:=zgt) (fun x:Int × Int=>D.tup [.int x.1,.int x.2])
    (fun pre δ=>∃ o5 o6,δ = [.v W,.v Od,.v (.int r),.v C,.o (iL ((upt (nB (pre.map (·.2)))).map (sumB (pre.map f)))),sv o5,sv o6,.no,.no,.no]) ((ordK ws).zip cs)
    (by
      rintro pre ⟨a,b⟩ post δ hall ⟨o5,o6,rfl⟩
      have am:=zdf a (List.of_mem_zip (show (a,b) ∈ (ordK ws).zip cs by rw [hall]; simp)).1
      obtain ⟨p2,ep⟩:∃ p2,p2=pre.map (·.2):=⟨_,rfl⟩
      have csp:cs=p2 ++ b :: post.map (·.2):=by rw [← zs,hall,ep]; simp
      have cp:Cn p2:=zn7 (q:=b :: post.map (·.2)) (by rw [← csp]; exact hc)
      have bb:=hc p2 b _ csp
      have pl:=ziP p2
      have pl2:p2.length ≤ cs.length:=by rw [csp]; simp
      have nb:=zok (c:=b) cp
      have ea:(pre ++ [(a,b)]).map (·.2)=p2 ++ [b]:=by rw [ep]; simp
      have ez:(pre ++ [(a,b)]).map f=pre.map f ++ [(gA ws a,b)]:=by rw [ef]; simp
      have fin:∀ (n:Nat) (s:Sl),0 ≤ b→b < (n:Int)→nB (p2 ++ [b])=n→zgI 4 (mVar 6) (m2 oAdd (m2 oIxL (mRd 4) (mRd 6)) (m2 oIxL (mRd 0) (mRd 5))) [.v W,.v Od,.v (.int r),.v C,.o (iL ((upt n).map (sumB (pre.map f)))),.v (.int a),.v (.int b),.no,.no,.no] =
          .nx [.v W,.v Od,.v (.int r),.v C,.o (iL ((upt (nB ((pre ++ [(a,b)]).map (·.2)))).map (sumB ((pre ++ [(a,b)]).map f)))),.v (.int a),.v (.int b),.no,.no,.no]:=by
        intro n s b0 b1 hn
        have bl:b.toNat < ((upt n).map (sumB (pre.map f))).length:=by rw [List.length_map,zaU]; omega
        have q:=zeX (i:=4) (mi:=mVar 6) (me:=m2 oAdd (m2 oIxL (mRd 4) (mRd 6)) (m2 oIxL (mRd 0) (mRd 5))) (δ:=[.v W,.v Od,.v (.int r),.v C,.o (iL ((upt n).map (sumB (pre.map f)))),.v (.int a),.v (.int b),.no,.no,.no]) (k:=b)
          (y:=gA ((upt n).map (sumB (pre.map f))) b + gA ws a) rfl rfl b0 bl (by simp [mRd,iW a am.1 am.2,zdF b0 bl])
        rw [zi7 b0 b1,← ez] at q
        rw [ea,hn]
        exact q
      have le:fLen [iL ((upt (nB p2)).map (sumB (pre.map f)))]=some (.int (nB p2)):=by simp [iL,zaU]
      refine ⟨[.v W,.v Od,.v (.int r),.v C,.o (iL ((upt (nB (pre.map (·.2)))).map (sumB (pre.map f)))),.v (.int a),.v (.int b),.no,.no,.no],[.v W,.v Od,.v (.int r),.v C,.o (iL ((upt (nB ((pre ++ [(a,b)]).map (·.2)))).map (sumB ((pre ++ [(a,b)]).map f)))),.v (.int a),.v (.int b),.no,.no,.no],?_,.inl ?_,some (.int a),some (.int b),rfl⟩
      · rcases o5 with _ | o5 <;> rcases o6 with _ | o6 <;> rfl
      · rw [← ep]
        by_cases z:b=(nB p2:Int)
        · have q1 : mIfS (zaF (m2 oEq (mRd 6) (mCB fLen (zaa (mRd 4) mNil)))) (zdj 4 (mC (.int 0))) zbp [.v W, .v Od, .v (.int r), .v C, .o (iL ((upt (nB p2)).map (sumB (pre.map f)))), .v (.int a), .v (.int b), .no, .no, .no] =
              .nx [.v W,.v Od,.v (.int r),.v C,.o (iL ((upt (nB p2 + 1)).map (sumB (pre.map f)))),.v (.int a),.v (.int b),.no,.no,.no]:=by
            rw [zjZ (by simp [zaF,mRd,mCB,zaa,mNil,le,z])]
            have q:=zfj (i:=4) (me:=mC (.int 0)) (δ:=[.v W,.v Od,.v (.int r),.v C,.o (iL ((upt (nB p2)).map (sumB (pre.map f)))),.v (.int a),.v (.int b),.no,.no,.no]) (y:=0) rfl rfl (by rw [List.length_map,zaU]; omega)
            have e0:sumB (pre.map f) (nB p2:Int)=0:=zlc (by
              rw [f2,← ep]
              intro w
              have:=zlm cp _ w
              omega)
            have e1:(upt (nB p2)).map (sumB (pre.map f)) ++ [0]=(upt (nB p2 + 1)).map (sumB (pre.map f)):=by rw [zeq,List.map_append,List.map_singleton,e0]
            rw [e1] at q
            exact q
          exact (zaq q1).trans (fin _ .no bb.1 (by omega) (by rw [nb,if_neg (by omega)]))
        · have q1 : mIfS (zaF (m2 oEq (mRd 6) (mCB fLen (zaa (mRd 4) mNil)))) (zdj 4 (mC (.int 0))) zbp [.v W, .v Od, .v (.int r), .v C, .o (iL ((upt (nB p2)).map (sumB (pre.map f)))), .v (.int a), .v (.int b), .no, .no, .no] =
              .nx [.v W,.v Od,.v (.int r),.v C,.o (iL ((upt (nB p2)).map (sumB (pre.map f)))),.v (.int a),.v (.int b),.no,.no,.no]:=by
            rw [zeU (by simp [zaF,mRd,mCB,zaa,mNil,le,z])]; rfl
          exact (zaq q1).trans (fin _ .no bb.1 (by omega) (by rw [nb,if_pos (by omega)])))
    [.v W,.v Od,.v (.int r),.v C,.o (iL []),.no,.no,.no,.no,.no] ⟨none,none,rfl⟩
  rw [zs,ef,zipF] at h1
  obtain ⟨SS,eSS⟩:∃ SS,SS=(upt (nB cs)).map (sumB ((fal ws).zip cs)):=⟨_,rfl⟩
  rw [← eSS] at h1
  have sl:SS.length=nB cs:=by rw [eSS,List.length_map,zaU]
  have bl:=ziP cs
  refine zcA ?_
  show mSeq _ _ [.v (iL ws),.v (iL (ordK ws)),.v (.int r),.v (encC cs),.no,.no,.no,.no,.no,.no]=_
  rw [← eC,← eW,← eO]
  have q1:mAsg (mLst mNil) (bNew 4) [.v W,.v Od,.v (.int r),.v C,.no,.no,.no,.no,.no,.no] = .nx [.v W,.v Od,.v (.int r),.v C,.o (iL []),.no,.no,.no,.no,.no]:=zaN (d:=iL []) (by simp [mLst,mNil,sizeLine,iL]) rfl
  have q2:zgX [.v W,.v Od,.v (.int r),.v C,.o (iL []),.no,.no,.no,.no,.no] = .nx [.v W,.v Od,.v (.int r),.v C,.o (iL SS),sv o5,sv o6,.no,.no,.no]:=by
    refine (zcZ ?_).trans h1
    rw [eC,eO]
    simp [zfy,zaa,mNil,mVar,zep]
  have lC:fLen [C]=some (.int cs.length):=by rw [eC]; simp [encC]
  have lS:fLen [iL SS]=some (.int (nB cs)):=by rw [← sl]; simp [iL]
  have lO:fLen [Od]=some (.int ws.length):=by rw [eO,← zde ws]; simp [iL]
  have k1:zfh [.v W,.v Od,.v (.int r),.v C,.o (iL SS),sv o5,sv o6,.no,.no,.no] = .ok (iL ((fal ws).drop cs.length)):=by
    have ed:(fal ws).drop cs.length=((ordK ws).drop cs.length).map (gA ws):=by unfold fal; rw [List.map_drop]
    rw [ed]
    refine Eq.trans (zcm (l:=((ordK ws).drop cs.length).map .int) (r:=((ordK ws).drop cs.length).map fun k=>.int (gA ws k)) ?_ (by rw [List.length_map,List.length_drop,zde]; omega) ?_) (by simp only [iL,List.map_map]; rfl)
    · have s:=zjJ (δ:=[.v W,.v Od,.v (.int r),.v C,.o (iL SS),sv o5,sv o6,.no,.no,.no]) (ma:=mRd 1) (mh:=mCB fLen (zaa (mRd 3) mNil)) (l:=ordK ws) (k:=cs.length) (by rw [eO]; rfl) (by simp [mCB,zaa,mNil,mRd,lC]) (by rw [zde]; exact hcl)
      unfold mItL
      rw [s]; rfl
    · refine zdv .int (fun k=>.int (gA ws k)) _ fun k hk=>?_
      have:=zdf k (List.mem_of_mem_drop hk)
      simp [zdy,za9,zfb,za0,mRd,iW k this.1 this.2]
  obtain ⟨R0,eR⟩:∃ R0,R0=((fal ws).drop cs.length).sum:=⟨_,rfl⟩
  have q3:mAsg (mCB fSum (zaa zfh mNil)) (zat 7) [.v W,.v Od,.v (.int r),.v C,.o (iL SS),sv o5,sv o6,.no,.no,.no] = .nx [.v W,.v Od,.v (.int r),.v C,.o (iL SS),sv o5,sv o6,.v (.int R0),.no,.no] :=
    zaN (d:=.int R0) (by simp [mCB,zaa,mNil,k1,zeK,eR]) rfl
  have fr:Fit r:=fitN 1000000000000000000 (by omega)
  have fn:Fit (nB cs:Int):=fitN 1000 (by omega)
  have ue:=zqG (t:=R0 - (nB cs:Int) * r + SS.sum) (b:=r) hr fr
  have lw:(nB cs:Int) + up (R0 - (nB cs:Int) * r + SS.sum) r=lowN r ws cs:=by rw [eR,eSS]; rfl
  have q4:mAsg (m2 oAdd (mCB fLen (zaa (mRd 4) mNil)) (zak zc8 (zaa (m2 oAdd (m2 oSub (mRd 7) (m2 oMul (mCB fLen (zaa (mRd 4) mNil)) (mRd 2))) (mCB fSum (zaa (mRd 4) mNil))) (zaa (mVar 2) mNil)))) (zat 8) [.v W,.v Od,.v (.int r),.v C,.o (iL SS),sv o5,sv o6,.v (.int R0),.no,.no] =
      .nx [.v W,.v Od,.v (.int r),.v C,.o (iL SS),sv o5,sv o6,.v (.int R0),.v (.int (lowN r ws cs)),.no]:=by
    refine zaN (d:=.int (lowN r ws cs)) ?_ rfl
    rw [← lw]
    simp [mCB,zak,zaa,mNil,mRd,mVar,lS,zon fn fr,zeK,ue]
  refine (zaq q1).trans ((zaq q2).trans ((zaq q3).trans ((zaq q4).trans ?_)))
  by_cases z:cs.length=ws.length
  · rw [if_pos z]
    refine (zlH (d:=.lst [iL [],.int (lowN r ws cs)]) ?_)
    rw [zjZ (by simp [zaF,mRd,mCB,zaa,mNil,lC,lO,z])]
    simp [zcu,mLst,zaa,mNil,mVar,sizeLine,iL]
  · rw [if_neg z]
    have q5:mIfS (zaF (m2 oEq (mCB fLen (zaa (mRd 3) mNil)) (mCB fLen (zaa (mRd 1) mNil)))) (zcu (mLst (zaa (mLst mNil) (zaa (mVar 8) mNil)))) zbp [.v W,.v Od,.v (.int r),.v C,.o (iL SS),sv o5,sv o6,.v (.int R0),.v (.int (lowN r ws cs)),.no] =
        .nx [.v W,.v Od,.v (.int r),.v C,.o (iL SS),sv o5,sv o6,.v (.int R0),.v (.int (lowN r ws cs)),.no]:=by
      rw [zeU (by simp [zaF,mRd,mCB,zaa,mNil,lC,lO,show ¬ ((cs.length:Int)=ws.length) by omega])]; rfl
    obtain ⟨fa,fb,fc⟩:=zp0 (ws:=ws) (k:=cs.length) (by omega)
    have iO:oIxL Od (.int cs.length)=some (.int (gA (ordK ws) cs.length)):=by rw [eO]; exact zdF (by omega) (by rw [zde]; omega)
    have k2:zfl [.v W,.v Od,.v (.int r),.v C,.o (iL SS),sv o5,sv o6,.v (.int R0),.v (.int (lowN r ws cs)),.no] = .ok (iL ((upt (nB cs)).filter fun k=>decide (sumB ((fal ws).zip cs) k + gA (fal ws) cs.length ≤ r))):=by
      refine zcm (l:=(upt (nB cs)).map .int) (by simp [mRng,mCB,zaa,mNil,mRd,lS,rngT (show nB cs ≤ 1000 by omega)]) (by rw [List.length_map,zaU]; omega) ?_
      refine zd1 .int _ .int _ fun k hk=>?_
      obtain ⟨k0,kn⟩:=mem_upt.mp hk
      have ix:oIxL (iL SS) (.int k)=some (.int (sumB ((fal ws).zip cs) k)):=by
        rw [zdF k0 (by rw [sl]; omega),eSS,zhH (z:=[]) k0 kn]
      have iw:=iW _ fb fc
      rw [fa] at iw
      by_cases c:sumB ((fal ws).zip cs) k + gA (fal ws) cs.length ≤ r <;> simp [zdy,za9,zfb,za0,zaF,mRd,mVar,mCB,zaa,mNil,ix,lC,iO,iw,c]
    have q6:mAsg zfl (zat 9) [.v W,.v Od,.v (.int r),.v C,.o (iL SS),sv o5,sv o6,.v (.int R0),.v (.int (lowN r ws cs)),.no] = .nx [.v W,.v Od,.v (.int r),.v C,.o (iL SS),sv o5,sv o6,.v (.int R0),.v (.int (lowN r ws cs)),.v (iL ((upt (nB cs)).filter fun k=>decide (sumB ((fal ws).zip cs) k + gA (fal ws) cs.length ≤ r)))]:=zaN k2 rfl
    refine (zaq q5).trans ((zaq q6).trans ?_)
    have fl:((upt (nB cs)).filter fun k=>decide (sumB ((fal ws).zip cs) k + gA (fal ws) cs.length ≤ r)).length ≤ 100:=by
      have:=List.length_filter_le (fun k=>decide (sumB ((fal ws).zip cs) k + gA (fal ws) cs.length ≤ r)) (upt (nB cs))
      rw [zaU] at this; omega
    unfold wayN
    generalize ((upt (nB cs)).filter fun k=>decide (sumB ((fal ws).zip cs) k + gA (fal ws) cs.length ≤ r))=Y at fl ⊢
    have cat:oCat (iL Y) (.lst [.int (nB cs:Int)])=some (iL (Y ++ [(nB cs:Int)])):=by
      refine (zlJ (by rw [List.length_map]; simp; omega)).trans ?_
      simp [iL]
    simp [zcu,mLst,zaa,mNil,mRd,mVar,mCB,lS,sizeLine,cat]
end My
namespace My
open PySem L2 PM
def binD (r:Int) (ws:List Int):D:=.obj 5 ["room","order","falling"] [.int r,iL (ordK ws),iL (fal ws)]
theorem zk9 {ws:List Int} {r:Int} (h:∀ w ∈ ws,w ≤ r):zaQ [iL ws,.int r] = .ok .non:=by
  obtain ⟨W,eW⟩:∃ W,W=iL ws:=⟨_,rfl⟩
  obtain ⟨δ,h1,o2,o3,rfl⟩:=zco (b:=bTup 2 (za1 (zat 2) (za1 (zat 3) bNil))) (m:=zaH) (fun k=>D.tup [.int k,.int (gA ws k)]) (fun pre δ=>∃ o2 o3,δ = [.v W,.v (.int r),sv o2,sv o3]) (upt ws.length)
    (by
      rintro pre k post δ hall ⟨o2,o3,rfl⟩
      have km:k ∈ upt ws.length:=by rw [hall]; simp
      obtain ⟨k0,k1⟩:=mem_upt.mp km
      have:=h _ (List.mem_of_getElem? (zfM (L:=ws) (i:=k) (by omega)))
      have c:¬ r < gA ws k:=by omega
      refine ⟨[.v W,.v (.int r),.v (.int k),.v (.int (gA ws k))],[.v W,.v (.int r),.v (.int k),.v (.int (gA ws k))],?_,.inl ?_,some (.int k),some (.int (gA ws k)),rfl⟩
      · rcases o2 with _ | o2 <;> rcases o3 with _ | o3 <;> rfl
      · show mIfS _ _ _ _=_
        rw [zeU (by simp [zaF,mRd,c])]; rfl)
    [.v W,.v (.int r),.no,.no] ⟨none,none,rfl⟩
  have q:zb4 [.v W,.v (.int r),.no,.no] = .nx [.v W,.v (.int r),sv o2,sv o3]:=by
    refine (zcZ ?_).trans h1
    rw [eW]; simp [zfq,zaa,mNil,mVar,zhQ,asL',iL,zho]
  have:zaQ [W,.int r] = .ok .non:=by
    show runF 2 2 zbk _=_
    unfold runF
    rw [if_pos (show [W,D.int r].length=2 from rfl)]
    have e:zbk (zcE 2 [W,.int r]) = .nx [.v W,.v (.int r),sv o2,sv o3]:=q
    rw [e]
  rw [← eW]; exact this
theorem zm6 {r:Int} {ws:List Int} (hl:ws.length ≤ 63) (hw:∀ w ∈ ws,w ≤ r):zay [iL ws,.int r] = .ok (binD r ws):=by
  have h:zaW [.no,.v (iL ws),.v (.int r)] [] [] = .ok (["room","order","falling"],[.int r,iL (ordK ws),iL (fal ws)]):=by
    unfold zaW iSeq
    have e0:zjw (zfS zaQ (zaa (mVar 1) (zaa (mVar 2) mNil))) [.no,.v (iL ws),.v (.int r)] [] [] = .ok ([],[]):=by
      simp [zjw,zfS,zaa,mNil,mVar,zk9 hw]
    have e1:zeS "room" (mVar 2) [.no,.v (iL ws),.v (.int r)] [] [] = .ok (["room"],[.int r]):=by
      simp [zeS,mVar,ifC,zdn,putN,putV]
    have g:zak zaM (zaa (mVar 1) mNil) [.no,.v (iL ws),.v (.int r)] = .ok (iL (ordK ws)):=by simp [zak,zaa,mNil,mVar,zgr (show ws.length < 64 by omega)]
    have e2:zgv "order" (zak zaM (zaa (mVar 1) mNil)) [.no,.v (iL ws),.v (.int r)] ["room"] [.int r] = .ok (["room","order"],[.int r,iL (ordK ws)]):=by
      have c2:∃ r',iL (ordK ws)=D.lst r'∧zeE r'=true:=⟨_,rfl,zjP _⟩
      simp [zgv,g,ifC,c2,putN,putV,n7]
    have e3:ziq 5 "falling" zbu [.no,.v (iL ws),.v (.int r)] ["room","order"] [.int r,iL (ordK ws)] = .ok (["room","order","falling"],[.int r,iL (ordK ws),iL (fal ws)]):=by
      have f:=zk3 (ws:=ws) (c:=5) (ks:=["room","order"]) (l:=[.int r,iL (ordK ws)]) (s:=.v (.int r)) hl (by simp [oFld,zbU,getF,n7])
      have c2:∃ r',iL (fal ws)=D.lst r'∧allI r'=true:=⟨_,rfl,zov _⟩
      unfold ziq
      rw [show zbu (List.set [.no,.v (iL ws),.v (.int r)] 0 (.v (.obj 5 ["room","order"] [.int r,iL (ordK ws)]))) = .ok (iL (fal ws)) from f]
      simp [ifC,c2,putN,putV,n8,n4]
    rw [e0]; simp only [R.bind_ok]
    rw [e1]; simp only [R.bind_ok]
    rw [e2]; simp only [R.bind_ok]
    rw [e3]
  show R.bind _ _=_
  simp only [List.map_cons,List.map_nil]
  rw [h]; rfl
section
variable {r:Int} {ws:List Int}
theorem zmx:oFld zeN "room" (binD r ws)=some (.int r):=by simp [oFld,binD,zeN,getF]
theorem znW:oFld zbU "order" (binD r ws)=some (iL (ordK ws)):=by simp [oFld,binD,zbU,getF,n7]
theorem zem:oFld zaX "falling" (binD r ws)=some (iL (fal ws)):=by simp [oFld,binD,zaX,getF,n8,n4]
end
theorem zlL {r:Int} {ws:List Int}:zaS [binD r ws] = .ok (.int ws.length):=by
  refine zb3 ?_
  show mRet _ [.v (binD r ws)]=_
  have le:fLen [iL (fal ws)]=some (.int ws.length):=by rw [← zcS ws]; simp [iL]
  simp [mRet,mCB,zaa,mNil,mRd,zem,le]
theorem zkX {r:Int} {ws cs:List Int} (hl:ws.length ≤ 100):zaE [binD r ws,encC cs] = .ok (iL (putL ws.length ((ordK ws).zip cs))):=by
  refine zcA ?_
  show zcu _ [.v (binD r ws),.v (encC cs)]=_
  simp [zcu,zak,zaa,mNil,mVar,mRd,znW,zjS hl]
theorem znc {n:Nat} {r:Int} {f:Int→Int}:((upt n).map fun b=>r - f b).sum=(n:Int) * r - ((upt n).map f).sum:=by
  have h:=zi2 (f:=fun b=>r - f b) (g:=f) (l:=upt n)
  have e:(upt n).map (fun x=>(r - f x) + f x)=(upt n).map fun _=>r:=List.map_congr_left fun x _=>by omega
  rw [e,ziC,zaU] at h
  omega
theorem zk6 {r:Int} {ws cs:List Int} (hl:cs.length ≤ 100) (hc:Cn cs):zaP [binD r ws,encC cs] = .ok (iL ((upt (nB cs)).map fun b=>r - sumB ((fal ws).zip cs) b)):=by
  obtain ⟨C,eC⟩:∃ C,C=encC cs:=⟨_,rfl⟩
  obtain ⟨B,eB⟩:∃ B,B=binD r ws:=⟨_,rfl⟩
  have bl:=ziP cs
  have f1:oFld zaX "falling" B=some (iL (fal ws)):=by rw [eB]; exact zem
  have f2:oFld zeN "room" B=some (.int r):=by rw [eB]; exact zmx
  have ls:zcl [C]=some (.int (nB cs)):=by rw [eC]; exact ziw hl
  obtain ⟨δ,h1,o3,o4,rfl⟩:=zco (b:=bTup 2 (za1 (zat 3) (za1 (zat 4) bNil))) (m:=zcG) (fun x:Int × Int=>D.tup [.int x.1,.int x.2])
    (fun pre δ=>∃ o3 o4,δ = [.v B,.v C,.o (iL ((upt (nB cs)).map fun c=>r - sumB pre c)),sv o3,sv o4]) ((fal ws).zip cs)
    (by
      rintro pre ⟨w,b⟩ post δ hall ⟨o3,o4,rfl⟩
      have bm:=zlm hc b (List.of_mem_zip (show (w,b) ∈ (fal ws).zip cs by rw [hall]; simp)).2
      have bl2:b.toNat < ((upt (nB cs)).map fun c=>r - sumB pre c).length:=by rw [List.length_map,zaU]; omega
      have q:=zkc (f:=fun i j=>i - j) (i:=2) (mi:=mVar 4) (me:=mVar 3) (δ:=[.v B,.v C,.o (iL ((upt (nB cs)).map fun c=>r - sumB pre c)),.v (.int w),.v (.int b)]) (k:=b) (y:=w) rfl rfl bm.1 bl2 rfl
      have es:((upt (nB cs)).map fun c=>r - sumB pre c).set b.toNat (gA ((upt (nB cs)).map fun c=>r - sumB pre c) b - w)=(upt (nB cs)).map fun c=>r - sumB (pre ++ [(w,b)]) c:=by
        refine set_map (f:=fun c=>r - sumB pre c) (g:=fun c=>r - sumB (pre ++ [(w,b)]) c) bm.1 bm.2 ?_ fun c hc=>?_
        · rw [zhH (z:=[]) bm.1 bm.2]
          show r - sumB (pre ++ [(w,b)]) b=r - sumB pre b - w
          rw [zer,if_pos rfl]; show r - (sumB pre b + w)=_; omega
        · show r - sumB (pre ++ [(w,b)]) c=r - sumB pre c
          rw [zer,if_neg (Ne.symm hc),Int.add_zero]
      rw [es] at q
      refine ⟨[.v B,.v C,.o (iL ((upt (nB cs)).map fun c=>r - sumB pre c)),.v (.int w),.v (.int b)],[.v B,.v C,.o (iL ((upt (nB cs)).map fun c=>r - sumB (pre ++ [(w,b)]) c)),.v (.int w),.v (.int b)],?_,.inl ?_,some (.int w),some (.int b),rfl⟩
      · rcases o3 with _ | o3 <;> rcases o4 with _ | o4 <;> rfl
      · exact q)
    [.v B,.v C,.o (iL (List.replicate (nB cs) r)),.no,.no] ⟨none,none,by
      have:(upt (nB cs)).map (fun c=>r - sumB [] c)=List.replicate (nB cs) r:=by
        have h2:(upt (nB cs)).map (fun c=>r - sumB [] c)=(upt (nB cs)).map fun _=>r:=List.map_congr_left fun c _=>by show r - 0=r; omega
        rw [h2,List.map_const',zaU]
      rw [this]; rfl⟩
  refine zcA ?_
  show mSeq _ _ [.v (binD r ws),.v (encC cs),.no,.no,.no]=_
  rw [← eC,← eB]
  have k1:zb1 [.v B,.v C,.no,.no,.no] = .ok (iL (List.replicate (nB cs) r)):=by
    refine Eq.trans (zcm (l:=(upt (nB cs)).map .int) (r:=(upt (nB cs)).map fun _=>.int r) ?_ (by rw [List.length_map,zaU]; omega) ?_) ?_
    · simp [mRng,mCB,zaa,mNil,mVar,ls,rngT (show nB cs ≤ 1000 by omega)]
    · refine zdv .int (fun _=>.int r) _ fun k _=>?_
      simp [zdy,za9,zfb,za0,mRd,f2]
    · rw [List.map_const',zaU]; simp [iL]
  have q1:mAsg zb1 (bNew 2) [.v B,.v C,.no,.no,.no] = .nx [.v B,.v C,.o (iL (List.replicate (nB cs) r)),.no,.no]:=zaN k1 rfl
  have q2:zcY [.v B,.v C,.o (iL (List.replicate (nB cs) r)),.no,.no] = .nx [.v B,.v C,.o (iL ((upt (nB cs)).map fun c=>r - sumB ((fal ws).zip cs) c)),sv o3,sv o4]:=by
    refine (zcZ ?_).trans h1
    have:=zep (l:=fal ws) (cs:=cs)
    rw [← eC] at this
    simp [zfy,zaa,mNil,mVar,mRd,f1,this]
  exact (zaq q1).trans ((zaq q2).trans rfl)
theorem zg3 {r:Int} {ws:List Int} {m:Str} (hm:m ∉ (["room","order","falling"]:List Str)):PM.isObj 5 m (binD r ws)=some ():=by
  show (if (5:Nat)=5∧m ∉ (["room","order","falling"]:List Str) then some () else none)=some ()
  rw [if_pos ⟨rfl,hm⟩]
theorem zfZ {m:Int} {ws:List Int} {n:Str} (hm:n ∉ (["many","order","falling","least"]:List Str)):PM.isObj 4 n (zby m ws)=some ():=by
  show (if (4:Nat)=4∧n ∉ (["many","order","falling","least"]:List Str) then some () else none)=some ()
  rw [if_pos ⟨rfl,hm⟩]
theorem zm8 {r:Int} {ws cs:List Int} (hl:ws.length ≤ 100) (hcl:cs.length < ws.length) (hc:Cn cs):zaG [binD r ws,encC cs] = .ok (iL (wayN r ws cs)):=by
  have fe:=zk6 (r:=r) (ws:=ws) (show cs.length ≤ 100 by omega) hc
  obtain ⟨C,eC⟩:∃ C,C=encC cs:=⟨_,rfl⟩
  obtain ⟨B,eB⟩:∃ B,B=binD r ws:=⟨_,rfl⟩
  have bl:=ziP cs
  have io:PM.isObj 5 "free" B=some ():=by rw [eB]; exact zg3 (by decide)
  have f1:oFld zaX "falling" B=some (iL (fal ws)):=by rw [eB]; exact zem
  have lC:fLen [C]=some (.int cs.length):=by rw [eC]; simp [encC]
  rw [← eC,← eB] at fe
  obtain ⟨L,eL⟩:∃ L,L=(upt (nB cs)).map fun b=>r - sumB ((fal ws).zip cs) b:=⟨_,rfl⟩
  rw [← eL] at fe
  have ll:L.length=nB cs:=by rw [eL,List.length_map,zaU]
  refine zcA ?_
  show mSeq _ _ [.v (binD r ws),.v (encC cs),.no,.no]=_
  rw [← eC,← eB]
  have q1:mAsg (zaT 5 "free" zaP (mVar 0) (zaa (mVar 1) mNil)) (zat 2) [.v B,.v C,.no,.no] = .nx [.v B,.v C,.v (iL L),.no]:=zaN (d:=iL L) (by simp [zaT,mVar,zaa,mNil,io,fe]) rfl
  have ix:oIxL (iL (fal ws)) (.int cs.length)=some (.int (gA (fal ws) cs.length)):=zdF (by omega) (by rw [zcS]; omega)
  have q2:mAsg (m2 oIxL (m1 (oFld zaX "falling") (mRd 0)) (mCB fLen (zaa (mRd 1) mNil))) (zat 3) [.v B,.v C,.v (iL L),.no] = .nx [.v B,.v C,.v (iL L),.v (.int (gA (fal ws) cs.length))]:=zaN (d:=.int (gA (fal ws) cs.length)) (by simp [mRd,mCB,zaa,mNil,f1,lC,ix]) rfl
  have k1:zcM [.v B,.v C,.v (iL L),.v (.int (gA (fal ws) cs.length))] = .ok (iL ((upt (nB cs)).filter fun k=>decide (sumB ((fal ws).zip cs) k + gA (fal ws) cs.length ≤ r))):=by
    refine zcm (l:=(upt (nB cs)).map fun k=>D.tup [.int k,.int (gA L k)]) ?_ (by rw [List.length_map,zaU]; omega) ?_
    · have:=zho L
      rw [ll] at this
      simp [zfq,zaa,mNil,mRd,zhQ,asL',iL,this]
    · refine zd1 (fun k=>D.tup [.int k,.int (gA L k)]) _ .int _ fun k hk=>?_
      obtain ⟨k0,kn⟩:=mem_upt.mp hk
      have g:gA L k=r - sumB ((fal ws).zip cs) k:=by rw [eL,zhH (z:=[]) k0 kn]
      by_cases c:sumB ((fal ws).zip cs) k + gA (fal ws) cs.length ≤ r
      · have c':gA (fal ws) cs.length ≤ gA L k:=by omega
        simp [zdy,za9,zfb,bTup,za1,bNil,za0,zaF,mRd,mVar,c,c']
      · have c':¬ gA (fal ws) cs.length ≤ gA L k:=by omega
        simp [zdy,za9,zfb,bTup,za1,bNil,za0,zaF,mRd,mVar,c,c']
  refine (zaq q1).trans ((zaq q2).trans ?_)
  have lL:fLen [iL L]=some (.int (nB cs)):=by rw [← ll]; simp [iL]
  have fl:((upt (nB cs)).filter fun k=>decide (sumB ((fal ws).zip cs) k + gA (fal ws) cs.length ≤ r)).length ≤ 100:=by
    have:=List.length_filter_le (fun k=>decide (sumB ((fal ws).zip cs) k + gA (fal ws) cs.length ≤ r)) (upt (nB cs))
    rw [zaU] at this; omega
  unfold wayN
  generalize ((upt (nB cs)).filter fun k=>decide (sumB ((fal ws).zip cs) k + gA (fal ws) cs.length ≤ r))=Y at fl k1 ⊢
  have cat:oCat (iL Y) (.lst [.int (nB cs:Int)])=some (iL (Y ++ [(nB cs:Int)])):=by
    refine (zlJ (by rw [List.length_map]; simp; omega)).trans ?_
    simp [iL]
  simp [zcu,mLst,zaa,mNil,mRd,mCB,k1,lL,sizeLine,cat]
theorem zqV {ma:En→R D} {δ:En} {l:List Int} (h:ma δ = .ok (iL l)):mCB fSum (zaa ma mNil) δ = .ok (.int l.sum):=by
  unfold mCB zaa
  rw [h]
  simp [mNil,zeK]
theorem zpE {r:Int} {ws cs:List Int} (hr:0 < r) (hr1:r ≤ 1000000000000000000) (hl:ws.length ≤ 100) (hcl:cs.length ≤ ws.length) (hc:Cn cs):zas [binD r ws,encC cs] = .ok (.int (lowN r ws cs)):=by
  have fe:=zk6 (r:=r) (ws:=ws) (show cs.length ≤ 100 by omega) hc
  obtain ⟨C,eC⟩:∃ C,C=encC cs:=⟨_,rfl⟩
  obtain ⟨B,eB⟩:∃ B,B=binD r ws:=⟨_,rfl⟩
  have io:PM.isObj 5 "free" B=some ():=by rw [eB]; exact zg3 (by decide)
  have f1:oFld zaX "falling" B=some (iL (fal ws)):=by rw [eB]; exact zem
  have f2:oFld zeN "room" B=some (.int r):=by rw [eB]; exact zmx
  have lC:fLen [C]=some (.int cs.length):=by rw [eC]; simp [encC]
  rw [← eC,← eB] at fe
  obtain ⟨L,eL⟩:∃ L,L=(upt (nB cs)).map fun b=>r - sumB ((fal ws).zip cs) b:=⟨_,rfl⟩
  rw [← eL] at fe
  have ll:L.length=nB cs:=by rw [eL,List.length_map,zaU]
  have sL:L.sum=(nB cs:Int) * r - ((upt (nB cs)).map (sumB ((fal ws).zip cs))).sum:=by rw [eL]; exact znc
  refine zb3 ?_
  show mSeq _ _ [.v (binD r ws),.v (encC cs),.no,.no]=_
  rw [← eC,← eB]
  have q1:mAsg (zaT 5 "free" zaP (mVar 0) (zaa (mVar 1) mNil)) (zat 2) [.v B,.v C,.no,.no] = .nx [.v B,.v C,.v (iL L),.no]:=zaN (d:=iL L) (by simp [zaT,mVar,zaa,mNil,io,fe]) rfl
  have sd:=zjJ (δ:=[.v B,.v C,.v (iL L),.no]) (ma:=m1 (oFld zaX "falling") (mRd 0)) (mh:=mCB fLen (zaa (mRd 1) mNil)) (l:=fal ws) (k:=cs.length) (by simp [mRd,f1]) (by simp [mCB,zaa,mNil,mRd,lC]) (by rw [zcS]; exact hcl)
  have q2:mAsg (m2 oSub (mCB fSum (zaa (mSl (m1 (oFld zaX "falling") (mRd 0)) (zeO (mCB fLen (zaa (mRd 1) mNil))) mNoP) mNil)) (mCB fSum (zaa (mRd 2) mNil))) (zat 3) [.v B,.v C,.v (iL L),.no] = .nx [.v B,.v C,.v (iL L),.v (.int (((fal ws).drop cs.length).sum - L.sum))]:=by
    refine zaN (d:=.int (((fal ws).drop cs.length).sum - L.sum)) ?_ rfl
    have e1:=zqV sd
    have e2:mCB fSum (zaa (mRd 2) mNil) [.v B,.v C,.v (iL L),.no] = .ok (.int L.sum):=by simp [mCB,zaa,mNil,mRd,zeK]
    simp [e1,e2]
  refine (zaq q1).trans ((zaq q2).trans ?_)
  have lL:fLen [iL L]=some (.int (nB cs)):=by rw [← ll]; simp [iL]
  have rr:=zob (t:=((fal ws).drop cs.length).sum - L.sum) hr hr1
  have lw:(nB cs:Int) + (if 0 < cdiv (((fal ws).drop cs.length).sum - L.sum) r then cdiv (((fal ws).drop cs.length).sum - L.sum) r else 0)=lowN r ws cs:=by
    rw [← zjE hr]
    unfold lowN
    rw [sL]
    congr 2
    omega
  have mx:zh5 [.int 0,.int (cdiv (((fal ws).drop cs.length).sum - L.sum) r)]=some (.int (if 0 < cdiv (((fal ws).drop cs.length).sum - L.sum) r then cdiv (((fal ws).drop cs.length).sum - L.sum) r else 0)):=rfl
  cases q:zcj [.int (((fal ws).drop cs.length).sum - L.sum),.int r] with
  | ok d =>
    rw [q,R.bind_ok] at rr
    rw [← lw]
    simp [mRet,mCB,zaa,mNil,mRd,mC,lL,zak,zfS,mVar,f2,q,rr,mx]
  | _=>rw [q] at rr; cases rr
end My
namespace My
open PySem L2 PM
theorem zk0 {f:List D→R D} {m1 m2:En→R D} {δ:En} {x y:D} (h1:m1 δ = .ok x) (h2:m2 δ = .ok y):zak f (zaa m1 (zaa m2 mNil)) δ=(f [x,y]).nev:=by
  unfold zak zaa
  rw [h1]
  simp [h2,mNil]
theorem zp4 {f:List D→R D} {m1 m2:En→R D} {δ:En} {x y d:D} (h1:m1 δ = .ok x) (h2:m2 δ = .ok y) (h:f [x,y] = .ok d) (hc:zdn d=true):zdm f (zaa m1 (zaa m2 mNil)) δ = .ok d:=by
  unfold zdm zaa
  rw [h1]
  simp [h2,mNil,h,hc]
structure Qn (ws:List Int) (kd bd:Int) (S:D) (Ok:List Int→Prop) (way dw:List Int→List Int) (low:List Int→Int):Prop where
  due:∀ cs,Ok cs→cs.length ≤ ws.length→zbq [.int kd,iL ws,iL (ordK ws),.int bd,encC cs] = .ok (.lst [iL (dw cs),.int (low cs)])
  dwe:∀ cs:List Int,cs.length < ws.length→dw cs=way cs
  ways:∀ cs,Ok cs→cs.length < ws.length→∀ (δ:En) (i j:Nat),δ[i]?=some (.v S)→δ[j]?=some (.v (encC cs))→(mAlt i 4 (zaT 4 "ways" zaC (mVar i) (zaa (mVar j) mNil)) (zaT 5 "ways" zaG (mVar i) (zaa (mVar j) mNil))) δ = .ok (iL (way cs))
  lows:∀ cs,Ok cs→cs.length ≤ ws.length→∀ (δ:En) (i:Nat) (ma:En→R D),δ[i]?=some (.v S)→ma δ = .ok (encC cs)→(mAlt i 4 (zaT 4 "low" zam (mVar i) (zaa ma mNil)) (zaT 5 "low" zas (mVar i) (zaa ma mNil))) δ = .ok (.int (low cs))
  answer:∀ (cs:List Int) (δ:En) (i j:Nat),δ[i]?=some (.v S)→δ[j]?=some (.v (encC cs))→(mAlt i 4 (zaT 4 "answer" zaB (mVar i) (zaa (mVar j) mNil)) (zaT 5 "answer" zaE (mVar i) (zaa (mVar j) mNil))) δ = .ok (iL (putL ws.length ((ordK ws).zip cs)))
  steps:∀ (δ:En) (i:Nat),δ[i]?=some (.v S)→(mAlt i 4 (zaT 4 "steps" zaK (mVar i) mNil) (zaT 5 "steps" zaS (mVar i) mNil)) δ = .ok (.int ws.length)
  ok0:Ok []
  low0:0 ≤ low []
  go:∀ cs,Ok cs→cs.length < ws.length→way cs ≠ []∧(way cs).length ≤ 200∧∀ c ∈ way cs,Ok (cs ++ [c])∧low cs ≤ low (cs ++ [c])
section
variable {ws:List Int} {kd bd:Int} {S:D} {Ok:List Int→Prop} {way dw:List Int→List Int} {low:List Int→Int}
theorem zpj (q:Qn ws kd bd S Ok way dw low) {cs:List Int} (ok:Ok cs) (hl:cs.length < ws.length):zbj [S,encC cs,iL (way cs)] = .ok (.bl true):=by
  obtain ⟨C,eC⟩:∃ C,C=encC cs:=⟨_,rfl⟩
  obtain ⟨_,dl,_⟩:=q.go cs ok hl
  have w:∀ s,(mAlt 0 4 (zaT 4 "ways" zaC (mVar 0) (zaa (mVar 1) mNil)) (zaT 5 "ways" zaG (mVar 0) (zaa (mVar 1) mNil))) [.v S,.v C,.v (iL (way cs)),s] = .ok (iL (way cs)):=fun s=>q.ways cs ok hl _ 0 1 rfl (by rw [eC]; rfl)
  generalize way cs=due at dl w ⊢
  refine zb3 ?_
  show mSeq _ _ [.v S,.v (encC cs),.v (iL due),.no]=_
  rw [← eC]
  have b:zbG [.v S,.v C,.v (iL due),.o (iL due)] = .nx [.v S,.v C,.v (iL due),.o (iL (due ++ [7]))]:=by
    have q1:mIfS (mNot (zaF (zdm zaL (zaa (mRd 3) (zaa (mVar 2) mNil))))) (mRet (mC (.bl false))) zbp [.v S,.v C,.v (iL due),.o (iL due)] = .nx [.v S,.v C,.v (iL due),.o (iL due)]:=by
      simp [mIfS,mNot,zaF,zdm,zaa,mNil,mRd,mVar,zfu due (by omega),zdn,zbp]
    exact (zaq q1).trans (zfj rfl rfl (by omega))
  have l:zcc [.v S,.v C,.v (iL due),.no] = .nx [.v S,.v C,.v (iL due),.o (iL (due ++ [7]))]:=by
    unfold zcc zpo
    rw [w]
    simp only [R.toO_ok]
    rw [if_pos ⟨rfl,by simp⟩]
    show thn2 (zbG [.v S,.v C,.v (iL due),.o (iL due)]) _=_
    rw [b]
    simp only [thn2]
    rw [if_pos ⟨rfl,by simp⟩]
    show thn2 (zbG [.v S,.v C,.v (iL due),.o (iL due)]) _=_
    rw [b]
    rfl
  exact (zaq l).trans rfl
theorem zpa (ns:List Int) {k:Int} {l:List Int} (h0:0 ≤ k) (hl:l ≠ []) (hn:l.length ≤ 200):∃ c ∈ l,zcK [.scr ns,.int k,iL l] = .ok (.tup [.int c]):=by
  have lp:(0:Int) < l.length:=by have:=List.length_pos_iff.mpr hl; omega
  obtain ⟨cell,ec⟩:∃ cell,cell=ns.getD k.toNat 0:=⟨_,rfl⟩
  have hc:zaI [.scr ns,.int k] = .ok (.int cell):=by rw [ec]; exact zmK ns h0
  obtain ⟨i,ei⟩:∃ i,i=cell / 7 % (l.length:Int):=⟨_,rfl⟩
  have i0:=zfE (cell / 7) lp
  have i1:=ziD (cell / 7) lp
  rw [← ei] at i0 i1
  have ix:=zdF (L:=l) (k:=i) i0 (by omega)
  refine ⟨gA l i,List.mem_of_getElem? (zfM (by omega)),?_⟩
  refine zb3 ?_
  show mRet _ [.v (.scr ns),.v (.int k),.v (iL l)]=_
  have le:fLen [iL l]=some (.int l.length):=by simp [iL]
  have f7:Fit 7:=fitN 1000 (by decide)
  simp [mRet,mTup,zaa,mNil,mRd,zak,mVar,mC,mCB,hc,zgp,f7,le,ze8 lp,← ei,ix,sizeLine]
theorem turn (q:Qn ws kd bd S Ok way dw low) (ns:List Int) {W Od:D} (eW:W=iL ws) (eO:Od=iL (ordK ws)) (hn:ws.length ≤ 63) {cs:List Int} (ok:Ok cs) (hl:cs.length < ws.length) {lw:Int} (hlw:lw ≤ low cs) {o9 o10:Option D} :
    ∃ (c:Int) (p9 p10:Option D),Ok (cs ++ [c])∧low cs ≤ low (cs ++ [c])∧zdI [.v (.scr ns),.v (.int kd),.v W,.v (.int bd),.v S,.v Od,.v (encC cs),.v (.int lw),.v (.int cs.length),sv o9,sv o10,.no,.no,.no,.no] = .nx [.v (.scr ns),.v (.int kd),.v W,.v (.int bd),.v S,.v Od,.v (encC (cs ++ [c])),.v (.int (low cs)),.v (.int cs.length),sv p9,sv p10,.no,.no,.no,.no]:=by
  obtain ⟨Du,eD⟩:∃ Du,Du=D.lst [iL (way cs),.int (low cs)]:=⟨_,rfl⟩
  have hd:=q.due cs ok (by omega)
  rw [q.dwe cs hl,← eD,← eW,← eO] at hd
  obtain ⟨wn,wl,wg⟩:=q.go cs ok hl
  have ht:=zpj q ok hl
  have hnum:=zfu (way cs) (by omega)
  obtain ⟨c,cm,hx⟩:=zpa ns (k:=2 + (cs.length:Int)) (by omega) wn wl
  obtain ⟨C,eC⟩:∃ C,C=encC cs:=⟨_,rfl⟩
  have d0:oIxL Du (.int 0)=some (iL (way cs)):=by rw [eD]; rfl
  have d1:oIxL Du (.int 1)=some (.int (low cs)):=by rw [eD]; rfl
  have cat:zkg C (.tup [.int c])=some (encC (cs ++ [c])):=by
    rw [eC]
    unfold zkg encC ifC
    simp only
    rw [if_pos (by simp [sizeLine]; omega)]
    simp
  rw [← eC] at hd ht ⊢
  refine ⟨c,some Du,some (iL (way cs)),(wg c cm).1,(wg c cm).2,?_⟩
  have q0:mAsg (zak zbq (zaa (mVar 1) (zaa (mVar 2) (zaa (mVar 5) (zaa (mVar 3) (zaa (mVar 6) mNil)))))) (zat 9) [.v (.scr ns),.v (.int kd),.v W,.v (.int bd),.v S,.v Od,.v C,.v (.int lw),.v (.int cs.length),sv o9,sv o10,.no,.no,.no,.no] = .nx [.v (.scr ns),.v (.int kd),.v W,.v (.int bd),.v S,.v Od,.v C,.v (.int lw),.v (.int cs.length),.v Du,sv o10,.no,.no,.no,.no]:=by
    refine zaN (d:=Du) ?_ ?_
    · simp [zak,zaa,mNil,mVar,hd]
    · rcases o9 with _ | o9 <;> rfl
  have q1:mAsg (mAlt 4 4 (zaT 4 "ways" zaC (mVar 4) (zaa (mVar 6) mNil)) (zaT 5 "ways" zaG (mVar 4) (zaa (mVar 6) mNil))) (zat 10) [.v (.scr ns),.v (.int kd),.v W,.v (.int bd),.v S,.v Od,.v C,.v (.int lw),.v (.int cs.length),.v Du,sv o10,.no,.no,.no,.no] = .nx [.v (.scr ns),.v (.int kd),.v W,.v (.int bd),.v S,.v Od,.v C,.v (.int lw),.v (.int cs.length),.v Du,.v (iL (way cs)),.no,.no,.no,.no]:=by
    refine zaN (d:=iL (way cs)) (q.ways cs ok hl _ 4 6 rfl (by rw [eC]; rfl)) ?_
    rcases o10 with _ | o10 <;> rfl
  have q2:mIfS (mOr (mNot (zaF (zak zbj (zaa (mVar 4) (zaa (mVar 6) (zaa (m2 oIxL (mRd 9) (mC (.int 0))) mNil)))))) (mNot (zaF (zak zaL (zaa (mVar 10) (zaa (m2 oIxL (mRd 9) (mC (.int 0))) mNil)))))) (mRet (mC (.bl false))) zbp [.v (.scr ns),.v (.int kd),.v W,.v (.int bd),.v S,.v Od,.v C,.v (.int lw),.v (.int cs.length),.v Du,.v (iL (way cs)),.no,.no,.no,.no] = .nx [.v (.scr ns),.v (.int kd),.v W,.v (.int bd),.v S,.v Od,.v C,.v (.int lw),.v (.int cs.length),.v Du,.v (iL (way cs)),.no,.no,.no,.no]:=by
    simp [mIfS,mOr,mNot,zaF,zak,zaa,mNil,mVar,mRd,mC,d0,ht,hnum,zbp]
  have lo:(mAlt 4 4 (zaT 4 "low" zam (mVar 4) (zaa (mVar 6) mNil)) (zaT 5 "low" zas (mVar 4) (zaa (mVar 6) mNil))) [.v (.scr ns),.v (.int kd),.v W,.v (.int bd),.v S,.v Od,.v C,.v (.int lw),.v (.int cs.length),.v Du,.v (iL (way cs)),.no,.no,.no,.no] = .ok (.int (low cs)):=q.lows cs ok (by omega) _ 4 _ rfl (by rw [eC]; rfl)
  have nl:¬ low cs < lw:=by omega
  have q3:mIfS (mOr (mNot (zaF (zak zbd (zaa (mAlt 4 4 (zaT 4 "low" zam (mVar 4) (zaa (mVar 6) mNil)) (zaT 5 "low" zas (mVar 4) (zaa (mVar 6) mNil))) (zaa (m2 oIxL (mRd 9) (mC (.int 1))) mNil))))) (zaF (m2 oLt (m2 oIxL (mRd 9) (mC (.int 1))) (mRd 7)))) (mRet (mC (.bl false))) zbp [.v (.scr ns),.v (.int kd),.v W,.v (.int bd),.v S,.v Od,.v C,.v (.int lw),.v (.int cs.length),.v Du,.v (iL (way cs)),.no,.no,.no,.no] = .nx [.v (.scr ns),.v (.int kd),.v W,.v (.int bd),.v S,.v Od,.v C,.v (.int lw),.v (.int cs.length),.v Du,.v (iL (way cs)),.no,.no,.no,.no]:=by
    have i1:zak zbd (zaa (mAlt 4 4 (zaT 4 "low" zam (mVar 4) (zaa (mVar 6) mNil)) (zaT 5 "low" zas (mVar 4) (zaa (mVar 6) mNil))) (zaa (m2 oIxL (mRd 9) (mC (.int 1))) mNil)) [.v (.scr ns),.v (.int kd),.v W,.v (.int bd),.v S,.v Od,.v C,.v (.int lw),.v (.int cs.length),.v Du,.v (iL (way cs)),.no,.no,.no,.no] = .ok (.bl true):=by
      have l2:m2 oIxL (mRd 9) (mC (.int 1)) [.v (.scr ns),.v (.int kd),.v W,.v (.int bd),.v S,.v Od,.v C,.v (.int lw),.v (.int cs.length),.v Du,.v (iL (way cs)),.no,.no,.no,.no] = .ok (.int (low cs)):=by simp [mRd,mC,d1]
      rw [zk0 lo l2,zkF]; rfl
    rw [zeU]
    · rfl
    · unfold mOr mNot zaF
      rw [i1]
      simp [mRd,mC,d1,nl]
  have q4:mAsg (m2 oIxL (mRd 9) (mC (.int 1))) (zat 7) [.v (.scr ns),.v (.int kd),.v W,.v (.int bd),.v S,.v Od,.v C,.v (.int lw),.v (.int cs.length),.v Du,.v (iL (way cs)),.no,.no,.no,.no] = .nx [.v (.scr ns),.v (.int kd),.v W,.v (.int bd),.v S,.v Od,.v C,.v (.int (low cs)),.v (.int cs.length),.v Du,.v (iL (way cs)),.no,.no,.no,.no]:=zaN (d:=.int (low cs)) (by simp [mRd,mC,d1]) rfl
  have q5:mAsg (m2 zkg (mRd 6) (zak zcK (zaa (mVar 0) (zaa (m2 oAdd (mC (.int 2)) (mRd 8)) (zaa (mVar 10) mNil))))) (zat 6) [.v (.scr ns),.v (.int kd),.v W,.v (.int bd),.v S,.v Od,.v C,.v (.int (low cs)),.v (.int cs.length),.v Du,.v (iL (way cs)),.no,.no,.no,.no] = .nx [.v (.scr ns),.v (.int kd),.v W,.v (.int bd),.v S,.v Od,.v (encC (cs ++ [c])),.v (.int (low cs)),.v (.int cs.length),.v Du,.v (iL (way cs)),.no,.no,.no,.no]:=zaN (d:=encC (cs ++ [c])) (by simp [mRd,zak,zaa,mNil,mVar,mC,hx,cat]) rfl
  exact (zaq q0).trans ((zaq q1).trans ((zaq q2).trans ((zaq q3).trans ((zaq q4).trans q5))))
theorem zjQ (q:Qn ws kd bd S Ok way dw low) (ns:List Int) (hn:ws.length ≤ 63):zbK [.scr ns,.int kd,iL ws,.int bd,S] = .ok (.bl true):=by
  obtain ⟨W,eW⟩:∃ W,W=iL ws:=⟨_,rfl⟩
  obtain ⟨Od,eO⟩:∃ Od,Od=iL (ordK ws):=⟨_,rfl⟩
  have lW:fLen [W]=some (.int ws.length):=by rw [eW]; simp [iL]
  have ho:=zm7 (ws:=ws) (by omega)
  rw [← eW,← eO] at ho
  refine zb3 ?_
  show mSeq _ _ [.v (.scr ns),.v (.int kd),.v (iL ws),.v (.int bd),.v S,.no,.no,.no,.no,.no,.no,.no,.no,.no,.no]=_
  rw [← eW]
  have q0:mAsg (zak zcd (zaa (mVar 2) mNil)) (zat 5) [.v (.scr ns),.v (.int kd),.v W,.v (.int bd),.v S,.no,.no,.no,.no,.no,.no,.no,.no,.no,.no] = .nx [.v (.scr ns),.v (.int kd),.v W,.v (.int bd),.v S,.v Od,.no,.no,.no,.no,.no,.no,.no,.no,.no]:=zaN (d:=Od) (by simp [zak,zaa,mNil,mVar,ho]) rfl
  have q1:mAsg (mTup mNil) (zat 6) [.v (.scr ns),.v (.int kd),.v W,.v (.int bd),.v S,.v Od,.no,.no,.no,.no,.no,.no,.no,.no,.no] = .nx [.v (.scr ns),.v (.int kd),.v W,.v (.int bd),.v S,.v Od,.v (encC []),.no,.no,.no,.no,.no,.no,.no,.no]:=zaN (d:=encC []) (by simp [mTup,mNil,sizeLine,encC]) rfl
  have q2:mAsg (mC (.int 0)) (zat 7) [.v (.scr ns),.v (.int kd),.v W,.v (.int bd),.v S,.v Od,.v (encC []),.no,.no,.no,.no,.no,.no,.no,.no] = .nx [.v (.scr ns),.v (.int kd),.v W,.v (.int bd),.v S,.v Od,.v (encC []),.v (.int 0),.no,.no,.no,.no,.no,.no,.no]:=zaN (d:=.int 0) rfl rfl
  obtain ⟨δ,h1,cs,lw,o8,o9,o10,ok,csl,hlw,rfl⟩:=zco (b:=zat 8) (m:=zdI) D.int (fun pre δ=>∃ (cs:List Int) (lw:Int) (o8 o9 o10:Option D),Ok cs∧cs.length=pre.length∧lw ≤ low cs∧δ = [.v (.scr ns),.v (.int kd),.v W,.v (.int bd),.v S,.v Od,.v (encC cs),.v (.int lw),sv o8,sv o9,sv o10,.no,.no,.no,.no]) (upt ws.length)
    (by
      rintro pre x post δ hall ⟨cs,lw,o8,o9,o10,ok,csl,hlw,rfl⟩
      obtain ⟨hx,hlt⟩:=zoz hall
      rw [← csl] at hx hlt
      obtain ⟨c,p9,p10,ok',lo',ht⟩:=turn q ns eW eO hn ok hlt hlw (o9:=o9) (o10:=o10)
      refine ⟨[.v (.scr ns),.v (.int kd),.v W,.v (.int bd),.v S,.v Od,.v (encC cs),.v (.int lw),.v (.int cs.length),sv o9,sv o10,.no,.no,.no,.no],_,?_,.inl ht,cs ++ [c],low cs,some (.int cs.length),p9,p10,ok',by simp [csl],lo',rfl⟩
      rw [hx]
      rcases o8 with _ | o8 <;> rfl)
    [.v (.scr ns),.v (.int kd),.v W,.v (.int bd),.v S,.v Od,.v (encC []),.v (.int 0),.no,.no,.no,.no,.no,.no,.no] ⟨[],0,none,none,none,q.ok0,rfl,q.low0,rfl⟩
  rw [zaU] at csl
  obtain ⟨C,eC⟩:∃ C,C=encC cs:=⟨_,rfl⟩
  rw [← eC] at h1
  have q3:zfH [.v (.scr ns),.v (.int kd),.v W,.v (.int bd),.v S,.v Od,.v (encC []),.v (.int 0),.no,.no,.no,.no,.no,.no,.no] = .nx [.v (.scr ns),.v (.int kd),.v W,.v (.int bd),.v S,.v Od,.v C,.v (.int lw),sv o8,sv o9,sv o10,.no,.no,.no,.no]:=by
    refine (zcZ ?_).trans h1
    simp [mRng,mCB,zaa,mNil,mRd,lW,rngT (show ws.length ≤ 1000 by omega)]
  obtain ⟨Du,eD⟩:∃ Du,Du=D.lst [iL (dw cs),.int (low cs)]:=⟨_,rfl⟩
  have hd:=q.due cs ok (by omega)
  rw [← eD,← eW,← eO,← eC] at hd
  have d1:oIxL Du (.int 1)=some (.int (low cs)):=by rw [eD]; rfl
  have q4:mAsg (zak zbq (zaa (mVar 1) (zaa (mVar 2) (zaa (mVar 5) (zaa (mVar 3) (zaa (mVar 6) mNil)))))) (zat 9) [.v (.scr ns),.v (.int kd),.v W,.v (.int bd),.v S,.v Od,.v C,.v (.int lw),sv o8,sv o9,sv o10,.no,.no,.no,.no] = .nx [.v (.scr ns),.v (.int kd),.v W,.v (.int bd),.v S,.v Od,.v C,.v (.int lw),sv o8,.v Du,sv o10,.no,.no,.no,.no]:=by
    refine zaN (d:=Du) ?_ ?_
    · simp [zak,zaa,mNil,mVar,hd]
    · rcases o9 with _ | o9 <;> rfl
  have lo:(mAlt 4 4 (zaT 4 "low" zam (mVar 4) (zaa (mVar 6) mNil)) (zaT 5 "low" zas (mVar 4) (zaa (mVar 6) mNil))) [.v (.scr ns),.v (.int kd),.v W,.v (.int bd),.v S,.v Od,.v C,.v (.int lw),sv o8,.v Du,sv o10,.no,.no,.no,.no] = .ok (.int (low cs)):=q.lows cs ok (by omega) _ 4 _ rfl (by rw [eC]; rfl)
  have nl:¬ low cs < lw:=by omega
  have q5:mIfS (mOr (mNot (zaF (zak zbd (zaa (mAlt 4 4 (zaT 4 "low" zam (mVar 4) (zaa (mVar 6) mNil)) (zaT 5 "low" zas (mVar 4) (zaa (mVar 6) mNil))) (zaa (m2 oIxL (mRd 9) (mC (.int 1))) mNil))))) (zaF (m2 oLt (m2 oIxL (mRd 9) (mC (.int 1))) (mRd 7)))) (mRet (mC (.bl false))) zbp [.v (.scr ns),.v (.int kd),.v W,.v (.int bd),.v S,.v Od,.v C,.v (.int lw),sv o8,.v Du,sv o10,.no,.no,.no,.no] = .nx [.v (.scr ns),.v (.int kd),.v W,.v (.int bd),.v S,.v Od,.v C,.v (.int lw),sv o8,.v Du,sv o10,.no,.no,.no,.no]:=by
    have i1:zak zbd (zaa (mAlt 4 4 (zaT 4 "low" zam (mVar 4) (zaa (mVar 6) mNil)) (zaT 5 "low" zas (mVar 4) (zaa (mVar 6) mNil))) (zaa (m2 oIxL (mRd 9) (mC (.int 1))) mNil)) [.v (.scr ns),.v (.int kd),.v W,.v (.int bd),.v S,.v Od,.v C,.v (.int lw),sv o8,.v Du,sv o10,.no,.no,.no,.no] = .ok (.bl true):=by
      have l2:m2 oIxL (mRd 9) (mC (.int 1)) [.v (.scr ns),.v (.int kd),.v W,.v (.int bd),.v S,.v Od,.v C,.v (.int lw),sv o8,.v Du,sv o10,.no,.no,.no,.no] = .ok (.int (low cs)):=by simp [mRd,mC,d1]
      rw [zk0 lo l2,zkF]; rfl
    rw [zeU]
    · rfl
    · unfold mOr mNot zaF
      rw [i1]
      simp [mRd,mC,d1,nl]
  have hd0:=q.due [] q.ok0 (by simp)
  rw [← eW,← eO] at hd0
  have tn:mTup mNil [.v (.scr ns),.v (.int kd),.v W,.v (.int bd),.v S,.v Od,.v C,.v (.int lw),sv o8,.v Du,sv o10,.no,.no,.no,.no] = .ok (encC []):=by simp [mTup,mNil,sizeLine,encC]
  have lo0:(mAlt 4 4 (zaT 4 "low" zam (mVar 4) (zaa (mTup mNil) mNil)) (zaT 5 "low" zas (mVar 4) (zaa (mTup mNil) mNil))) [.v (.scr ns),.v (.int kd),.v W,.v (.int bd),.v S,.v Od,.v C,.v (.int lw),sv o8,.v Du,sv o10,.no,.no,.no,.no] = .ok (.int (low [])):=q.lows [] q.ok0 (by simp) _ 4 _ rfl tn
  have q6:mIfS (mNot (zaF (zak zbd (zaa (mAlt 4 4 (zaT 4 "low" zam (mVar 4) (zaa (mTup mNil) mNil)) (zaT 5 "low" zas (mVar 4) (zaa (mTup mNil) mNil))) (zaa (m2 oIxL (zak zbq (zaa (mVar 1) (zaa (mVar 2) (zaa (mVar 5) (zaa (mVar 3) (zaa (mTup mNil) mNil)))))) (mC (.int 1))) mNil))))) (mRet (mC (.bl false))) zbp [.v (.scr ns),.v (.int kd),.v W,.v (.int bd),.v S,.v Od,.v C,.v (.int lw),sv o8,.v Du,sv o10,.no,.no,.no,.no] = .nx [.v (.scr ns),.v (.int kd),.v W,.v (.int bd),.v S,.v Od,.v C,.v (.int lw),sv o8,.v Du,sv o10,.no,.no,.no,.no]:=by
    have l2:m2 oIxL (zak zbq (zaa (mVar 1) (zaa (mVar 2) (zaa (mVar 5) (zaa (mVar 3) (zaa (mTup mNil) mNil)))))) (mC (.int 1)) [.v (.scr ns),.v (.int kd),.v W,.v (.int bd),.v S,.v Od,.v C,.v (.int lw),sv o8,.v Du,sv o10,.no,.no,.no,.no] = .ok (.int (low [])):=by
      have hh:zbq [.int kd,W,Od,.int bd,.tup []] = .ok (.lst [iL (dw []),.int (low [])]):=hd0
      have ix:oIxL (.lst [iL (dw []),.int (low [])]) (.int 1)=some (.int (low [])):=rfl
      simp [zak,zaa,mNil,mVar,mC,mTup,sizeLine,hh,ix]
    have i1:zak zbd (zaa (mAlt 4 4 (zaT 4 "low" zam (mVar 4) (zaa (mTup mNil) mNil)) (zaT 5 "low" zas (mVar 4) (zaa (mTup mNil) mNil))) (zaa (m2 oIxL (zak zbq (zaa (mVar 1) (zaa (mVar 2) (zaa (mVar 5) (zaa (mVar 3) (zaa (mTup mNil) mNil)))))) (mC (.int 1))) mNil)) [.v (.scr ns),.v (.int kd),.v W,.v (.int bd),.v S,.v Od,.v C,.v (.int lw),sv o8,.v Du,sv o10,.no,.no,.no,.no] = .ok (.bl true):=by
      rw [zk0 lo0 l2,zkF]; rfl
    rw [zeU]
    · rfl
    · unfold mNot zaF
      rw [i1]
      simp
  have q7:mAsg zfL (bNew 11) [.v (.scr ns),.v (.int kd),.v W,.v (.int bd),.v S,.v Od,.v C,.v (.int lw),sv o8,.v Du,sv o10,.no,.no,.no,.no] = .nx [.v (.scr ns),.v (.int kd),.v W,.v (.int bd),.v S,.v Od,.v C,.v (.int lw),sv o8,.v Du,sv o10,.o (iL (List.replicate ws.length 0)),.no,.no,.no]:=by
    refine zaN (d:=iL (List.replicate ws.length 0)) ?_ rfl
    refine zf0 (l:=ws) ?_ (by omega)
    rw [eW]; simp [mItL,mRd,iL]
  obtain ⟨Pu,eP⟩:∃ Pu,Pu=putL ws.length ((ordK ws).zip cs):=⟨_,rfl⟩
  have pl:Pu.length=ws.length:=by rw [eP,zhY]
  obtain ⟨δ,h2,o12,o13,rfl⟩:=zco (b:=bTup 2 (za1 (zat 12) (za1 (zat 13) bNil))) (m:=ze5) (fun x:Int × Int=>D.tup [.int x.1,.int x.2])
    (fun pre δ=>∃ o12 o13,δ = [.v (.scr ns),.v (.int kd),.v W,.v (.int bd),.v S,.v Od,.v C,.v (.int lw),sv o8,.v Du,sv o10,.o (iL (putL ws.length pre)),sv o12,sv o13,.no]) ((ordK ws).zip cs)
    (by
      rintro pre ⟨a,b⟩ post δ hall ⟨o12,o13,rfl⟩
      have am:=zdf a (List.of_mem_zip (show (a,b) ∈ (ordK ws).zip cs by rw [hall]; simp)).1
      have z:=zeX (i:=11) (mi:=mVar 12) (me:=mVar 13) (δ:=[.v (.scr ns),.v (.int kd),.v W,.v (.int bd),.v S,.v Od,.v C,.v (.int lw),sv o8,.v Du,sv o10,.o (iL (putL ws.length pre)),.v (.int a),.v (.int b),.no]) (k:=a) (y:=b) rfl rfl am.1 (by rw [zhY]; omega) rfl
      have e:=zkd ws.length pre (a,b)
      rw [show (putL ws.length pre).set a.toNat b=putL ws.length (pre ++ [(a,b)]) from e.symm] at z
      refine ⟨[.v (.scr ns),.v (.int kd),.v W,.v (.int bd),.v S,.v Od,.v C,.v (.int lw),sv o8,.v Du,sv o10,.o (iL (putL ws.length pre)),.v (.int a),.v (.int b),.no],[.v (.scr ns),.v (.int kd),.v W,.v (.int bd),.v S,.v Od,.v C,.v (.int lw),sv o8,.v Du,sv o10,.o (iL (putL ws.length (pre ++ [(a,b)]))),.v (.int a),.v (.int b),.no],?_,.inl ?_,some (.int a),some (.int b),rfl⟩
      · rcases o12 with _ | o12 <;> rcases o13 with _ | o13 <;> rfl
      · exact z)
    [.v (.scr ns),.v (.int kd),.v W,.v (.int bd),.v S,.v Od,.v C,.v (.int lw),sv o8,.v Du,sv o10,.o (iL (List.replicate ws.length 0)),.no,.no,.no] ⟨none,none,rfl⟩
  rw [← eP] at h2
  have q8:zfB [.v (.scr ns),.v (.int kd),.v W,.v (.int bd),.v S,.v Od,.v C,.v (.int lw),sv o8,.v Du,sv o10,.o (iL (List.replicate ws.length 0)),.no,.no,.no] = .nx [.v (.scr ns),.v (.int kd),.v W,.v (.int bd),.v S,.v Od,.v C,.v (.int lw),sv o8,.v Du,sv o10,.o (iL Pu),sv o12,sv o13,.no]:=by
    refine (zcZ ?_).trans h2
    have z:=zep (l:=ordK ws) (cs:=cs)
    rw [← eO,← eC] at z
    simp [zfy,zaa,mNil,mVar,z]
  have an:=q.answer cs
  rw [← eC,← eP] at an
  have q9:mAsg (mAlt 4 4 (zaT 4 "answer" zaB (mVar 4) (zaa (mVar 6) mNil)) (zaT 5 "answer" zaE (mVar 4) (zaa (mVar 6) mNil))) (bNew 14) [.v (.scr ns),.v (.int kd),.v W,.v (.int bd),.v S,.v Od,.v C,.v (.int lw),sv o8,.v Du,sv o10,.o (iL Pu),sv o12,sv o13,.no] = .nx [.v (.scr ns),.v (.int kd),.v W,.v (.int bd),.v S,.v Od,.v C,.v (.int lw),sv o8,.v Du,sv o10,.o (iL Pu),sv o12,sv o13,.o (iL Pu)]:=zaN (d:=iL Pu) (an _ 4 6 rfl rfl) rfl
  have hnum:=zfu Pu (by omega)
  have q10:mIfS (mOr (mNot (zaF (zdm zaL (zaa (mRd 14) (zaa (mRd 11) mNil))))) (mNot (zaF (zak zbd (zaa (mAlt 4 4 (zaT 4 "steps" zaK (mVar 4) mNil) (zaT 5 "steps" zaS (mVar 4) mNil)) (zaa (mCB fLen (zaa (mRd 2) mNil)) mNil)))))) (mRet (mC (.bl false))) zbp [.v (.scr ns),.v (.int kd),.v W,.v (.int bd),.v S,.v Od,.v C,.v (.int lw),sv o8,.v Du,sv o10,.o (iL Pu),sv o12,sv o13,.o (iL Pu)] = .nx [.v (.scr ns),.v (.int kd),.v W,.v (.int bd),.v S,.v Od,.v C,.v (.int lw),sv o8,.v Du,sv o10,.o (iL Pu),sv o12,sv o13,.o (iL Pu)]:=by
    have st:=q.steps [.v (.scr ns),.v (.int kd),.v W,.v (.int bd),.v S,.v Od,.v C,.v (.int lw),sv o8,.v Du,sv o10,.o (iL Pu),sv o12,sv o13,.o (iL Pu)] 4 rfl
    have i1:zak zbd (zaa (mAlt 4 4 (zaT 4 "steps" zaK (mVar 4) mNil) (zaT 5 "steps" zaS (mVar 4) mNil)) (zaa (mCB fLen (zaa (mRd 2) mNil)) mNil)) [.v (.scr ns),.v (.int kd),.v W,.v (.int bd),.v S,.v Od,.v C,.v (.int lw),sv o8,.v Du,sv o10,.o (iL Pu),sv o12,sv o13,.o (iL Pu)] = .ok (.bl true):=by
      have l2:mCB fLen (zaa (mRd 2) mNil) [.v (.scr ns),.v (.int kd),.v W,.v (.int bd),.v S,.v Od,.v C,.v (.int lw),sv o8,.v Du,sv o10,.o (iL Pu),sv o12,sv o13,.o (iL Pu)] = .ok (.int ws.length):=by simp [mCB,zaa,mNil,mRd,lW]
      rw [zk0 st l2,zkF]; rfl
    have i2:zdm zaL (zaa (mRd 14) (zaa (mRd 11) mNil)) [.v (.scr ns),.v (.int kd),.v W,.v (.int bd),.v S,.v Od,.v C,.v (.int lw),sv o8,.v Du,sv o10,.o (iL Pu),sv o12,sv o13,.o (iL Pu)] = .ok (.bl true):=by simp [zdm,zaa,mNil,mRd,hnum,zdn]
    rw [zeU]
    · rfl
    · unfold mOr mNot zaF
      rw [i1,i2]
      simp
  have q11:zdj 14 (mC (.int 7)) [.v (.scr ns),.v (.int kd),.v W,.v (.int bd),.v S,.v Od,.v C,.v (.int lw),sv o8,.v Du,sv o10,.o (iL Pu),sv o12,sv o13,.o (iL Pu)] = .nx [.v (.scr ns),.v (.int kd),.v W,.v (.int bd),.v S,.v Od,.v C,.v (.int lw),sv o8,.v Du,sv o10,.o (iL Pu),sv o12,sv o13,.o (iL (Pu ++ [7]))]:=zfj rfl rfl (by omega)
  have q12:mRet (zdm zaL (zaa (mAlt 4 4 (zaT 4 "answer" zaB (mVar 4) (zaa (mVar 6) mNil)) (zaT 5 "answer" zaE (mVar 4) (zaa (mVar 6) mNil))) (zaa (mRd 11) mNil))) [.v (.scr ns),.v (.int kd),.v W,.v (.int bd),.v S,.v Od,.v C,.v (.int lw),sv o8,.v Du,sv o10,.o (iL Pu),sv o12,sv o13,.o (iL (Pu ++ [7]))] = .rt (.bl true):=by
    have a2:=an [.v (.scr ns),.v (.int kd),.v W,.v (.int bd),.v S,.v Od,.v C,.v (.int lw),sv o8,.v Du,sv o10,.o (iL Pu),sv o12,sv o13,.o (iL (Pu ++ [7]))] 4 6 rfl rfl
    have i2:zdm zaL (zaa (mAlt 4 4 (zaT 4 "answer" zaB (mVar 4) (zaa (mVar 6) mNil)) (zaT 5 "answer" zaE (mVar 4) (zaa (mVar 6) mNil))) (zaa (mRd 11) mNil)) [.v (.scr ns),.v (.int kd),.v W,.v (.int bd),.v S,.v Od,.v C,.v (.int lw),sv o8,.v Du,sv o10,.o (iL Pu),sv o12,sv o13,.o (iL (Pu ++ [7]))] = .ok (.bl true):=by
      exact zp4 a2 (y:=iL Pu) rfl hnum rfl
    unfold mRet
    rw [i2]; rfl
  exact (zaq q0).trans ((zaq q1).trans ((zaq q2).trans ((zaq q3).trans ((zaq q4).trans ((zaq q5).trans ((zaq q6).trans ((zaq q7).trans ((zaq q8).trans ((zaq q9).trans ((zaq q10).trans ((zaq q11).trans (q12))))))))))))
end
end My
namespace My
open PySem L2 PM
theorem zfe {m:Int} {ws:List Int} {i:Nat} {m1 m2:En→R D} {δ:En} (h:δ[i]?=some (.v (zby m ws))):mAlt i 4 m1 m2 δ=m1 δ:=by unfold mAlt; rw [h]; rfl
theorem zhP {r:Int} {ws:List Int} {i:Nat} {m1 m2:En→R D} {δ:En} (h:δ[i]?=some (.v (binD r ws))):mAlt i 4 m1 m2 δ=m2 δ:=by unfold mAlt; rw [h]; rfl
theorem zkw {c:Nat} {m:Str} {f:List D→R D} {i:Nat} {ma:En→R D} {δ:En} {S x d:D} (h:δ[i]?=some (.v S)) (io:PM.isObj c m S=some ()) (hx:ma δ = .ok x) (hf:f [S,x] = .ok d):zaT c m f (mVar i) (zaa ma mNil) δ = .ok d:=by
  unfold zaT zaa
  simp only [mVar,h,R.bind_ok,io,R.of_some,hx,mNil,hf,R.nev_ok]
theorem zqz {c:Nat} {m:Str} {f:List D→R D} {i:Nat} {δ:En} {S d:D} (h:δ[i]?=some (.v S)) (io:PM.isObj c m S=some ()) (hf:f [S] = .ok d):zaT c m f (mVar i) mNil δ = .ok d:=by
  unfold zaT
  simp only [mVar,h,R.bind_ok,io,R.of_some,mNil,hf,R.nev_ok]
theorem zj2 {i:Nat} {δ:En} {d:D} (h:δ[i]?=some (.v d)):mVar i δ = .ok d:=by unfold mVar; rw [h]
theorem zk2 {fl cs:List Int} {c:Int} (h:cs.length < fl.length):fl.zip (cs ++ [c])=fl.zip cs ++ [(gA fl cs.length,c)]:=by
  induction cs generalizing fl with
  | nil=>cases fl with
    | nil=>simp at h
    | cons a fl=>simp [gA]
  | cons x cs ih=>cases fl with
    | nil=>simp at h
    | cons a fl =>
      simp at h
      have e:gA (a :: fl) ((x :: cs).length:Int)=gA fl cs.length:=by simp [gA]
      rw [e,List.cons_append,List.zip_cons_cons,List.zip_cons_cons,List.cons_append,ih h]
theorem zoJ {ws:List Int} (hp:∀ w ∈ ws,0 < w) {k:Nat} (h:k < ws.length):0 < gA (fal ws) k:=by
  refine hp _ (zlx _ (List.mem_of_getElem? (zfM (i:=(k:Int)) ?_)))
  rw [zcS]; simpa using h
theorem znS {m:Nat} (hm:0 < m) {z z':List (Int × Int)} (h:∀ b,sumB z b ≤ sumB z' b):mxL ((upt m).map (sumB z)) ≤ mxL ((upt m).map (sumB z')):=by
  obtain ⟨b,hb,e⟩:=List.mem_map.mp (zjV (ziA hm (f:=sumB z))).1
  rw [← e]
  exact Int.le_trans (h b) ((zjV (ziA hm (f:=sumB z'))).2 _ (List.mem_map.mpr ⟨b,hb,rfl⟩))
theorem zoN {m:Nat} {ws:List Int} (hm:0 < m) (hm1:m ≤ 100) (hp:∀ w ∈ ws,0 < w) (hl:ws.length ≤ 63) :
    Qn ws 0 m (zby m ws) (fun cs=>∀ c ∈ cs,0 ≤ c∧c < (m:Int)) (wayB m) (wayB m) (lowB m ws) where
  due:=fun cs ok h=>by
    refine zcA ?_
    show mSeq _ _ [.v (.int 0),.v (iL ws),.v (iL (ordK ws)),.v (.int m),.v (encC cs)]=_
    have e:=ziG hm hm1 hp (show ws.length ≤ 100 by omega) h ok
    refine zlH ?_
    rw [zjZ (by simp [zaF,mRd,mC])]
    simp [zcu,zak,zaa,mNil,mVar,e]
  dwe:=fun _ _=>rfl
  ways:=fun cs ok h δ i j hi hj=>by
    rw [zfe hi]
    exact zkw hi (zfZ (by decide)) (zj2 hj) (zkj hm1 (by omega))
  lows:=fun cs ok h δ i ma hi ha=>by
    rw [zfe hi]
    exact zkw hi (zfZ (by decide)) ha (zlz hm hm1 h ok)
  answer:=fun cs δ i j hi hj=>by
    rw [zfe hi]
    exact zkw hi (zfZ (by decide)) (zj2 hj) (zh3 (by omega))
  steps:=fun δ i hi=>by
    rw [zfe hi]
    exact zqz hi (zfZ (by decide)) zi4
  ok0:=fun c hc=>by cases hc
  low0:=by
    have h0:0 ≤ hvy m (fal ws) []:=by
      unfold hvy
      obtain ⟨b,hb,e⟩:=List.mem_map.mp (zjV (ziA hm (f:=sumB ((fal ws).zip [])))).1
      rw [← e]; simp [sumB]
    unfold lowB
    split <;> omega
  go:=fun cs ok h=>by
    have wl:(wayB m cs).length ≤ m:=by unfold wayB; rw [zaU]; split <;> omega
    refine ⟨fun e=>?_,by omega,fun c hc=>?_⟩
    · have:=congrArg List.length e
      unfold wayB at this
      rw [zaU] at this
      simp at this
      split at this <;> omega
    · have cm:0 ≤ c∧c < (m:Int):=by
        unfold wayB at hc
        have:=mem_upt.mp hc
        split at this <;> omega
      refine ⟨fun x hx=>?_,?_⟩
      · rcases List.mem_append.mp hx with z | z
        · exact ok x z
        · rw [List.mem_singleton.mp z]; exact cm
      · have hf:=zoJ hp h
        have mono:hvy m (fal ws) cs ≤ hvy m (fal ws) (cs ++ [c]):=by
          unfold hvy
          refine znS hm fun b=>?_
          rw [zk2 (by rw [zcS]; exact h),zer]
          dsimp only
          split <;> omega
        unfold lowB
        split <;> split <;> omega
theorem zoC {n:Nat} {c s:Int}:((upt n).map fun b=>if c=b then s else 0).sum=if 0 ≤ c∧c < (n:Int) then s else 0:=by
  induction n with
  | zero=>rw [if_neg (by omega)]; rfl
  | succ n ih =>
    rw [zeq,List.map_append,List.sum_append,ih]
    by_cases z:c=(n:Int)
    · rw [if_neg (by omega),if_pos (by omega)]; simp [z]
    · by_cases w:0 ≤ c∧c < (n:Int)
      · rw [if_pos w,if_pos (by omega)]; simp [z]
      · rw [if_neg w,if_neg (by omega)]; simp [z]
theorem zmp {n:Nat} {z:List (Int × Int)} {s c:Int}:((upt n).map (sumB (z ++ [(s,c)]))).sum=((upt n).map (sumB z)).sum + if 0 ≤ c∧c < (n:Int) then s else 0:=by
  rw [← zoC,← zi2]
  congr 1
  refine List.map_congr_left fun b _=>?_
  rw [zer]
theorem znn {l:List Int} {k:Nat} (h:k < l.length):(l.drop k).sum=gA l k + (l.drop (k + 1)).sum:=by
  rw [List.drop_eq_getElem_cons h,List.sum_cons]
  congr 1
  simp [gA,List.getD_eq_getElem?_getD,h]
theorem zo7 {x r:Int} (hr:0 < r):up x r ≤ 1 + up (x - r) r:=by
  have h1:=zjE (t:=x) hr
  have h2:=zjE (t:=x - r) hr
  have h3:=zl3 (t:=x - r) hr
  have h4:cdiv (x - r) r ≤ up (x - r) r:=by rw [h2]; split <;> omega
  have h5:0 ≤ up (x - r) r:=by rw [h2]; split <;> omega
  have h6:r * cdiv (x - r) r ≤ r * up (x - r) r:=Int.mul_le_mul_of_nonneg_left h4 (by omega)
  have h7:cdiv x r ≤ 1 + up (x - r) r:=zmg hr (by rw [Int.mul_add,Int.mul_one]; omega)
  rw [h1]
  split <;> omega
theorem zq7 {x r:Int} (hr:0 < r):0 ≤ up x r:=by rw [zjE hr]; split <;> omega
theorem zqP {r:Int} {ws:List Int} (hr:0 < r) (hr1:r ≤ 1000000000000000000) (hl:ws.length ≤ 63) :
    Qn ws 1 r (binD r ws) Cn (wayN r ws) (fun cs=>if cs.length=ws.length then [] else wayN r ws cs) (lowN r ws) where
  due:=fun cs ok h=>by
    refine zcA ?_
    show mSeq _ _ [.v (.int 1),.v (iL ws),.v (iL (ordK ws)),.v (.int r),.v (encC cs)]=_
    have e:=zkO hr hr1 (show ws.length ≤ 100 by omega) h ok
    have q1:mIfS (zaF (m2 oEq (mRd 0) (mC (.int 0)))) (zcu (zak zck (zaa (mVar 1) (zaa (mVar 2) (zaa (mVar 3) (zaa (mVar 4) mNil)))))) zbp [.v (.int 1),.v (iL ws),.v (iL (ordK ws)),.v (.int r),.v (encC cs)] = .nx [.v (.int 1),.v (iL ws),.v (iL (ordK ws)),.v (.int r),.v (encC cs)]:=by
      rw [zeU (by simp [zaF,mRd,mC])]; rfl
    refine (zaq q1).trans ?_
    simp [zcu,zak,zaa,mNil,mVar,e]
  dwe:=fun cs h=>by rw [if_neg (by omega)]
  ways:=fun cs ok h δ i j hi hj=>by
    rw [zhP hi]
    exact zkw hi (zg3 (by decide)) (zj2 hj) (zm8 (by omega) h ok)
  lows:=fun cs ok h δ i ma hi ha=>by
    rw [zhP hi]
    exact zkw hi (zg3 (by decide)) ha (zpE hr hr1 (by omega) h ok)
  answer:=fun cs δ i j hi hj=>by
    rw [zhP hi]
    exact zkw hi (zg3 (by decide)) (zj2 hj) (zkX (by omega))
  steps:=fun δ i hi=>by
    rw [zhP hi]
    exact zqz hi (zg3 (by decide)) zlL
  ok0:=fun p c q e=>by cases p <;> cases e
  low0:=by
    have:=zq7 (x:=(((fal ws).drop ([]:List Int).length).sum - (nB []:Int) * r + ((upt (nB [])).map (sumB ((fal ws).zip []))).sum)) hr
    unfold lowN
    omega
  go:=fun cs ok h=>by
    have bl:=ziP cs
    have fl:=List.length_filter_le (fun k=>decide (sumB ((fal ws).zip cs) k + gA (fal ws) cs.length ≤ r)) (upt (nB cs))
    rw [zaU] at fl
    refine ⟨by unfold wayN; simp,by unfold wayN; rw [List.length_append]; simp; omega,fun c hc=>?_⟩
    have cm:0 ≤ c∧c ≤ (nB cs:Int):=by
      unfold wayN at hc
      rcases List.mem_append.mp hc with z | z
      · have:=mem_upt.mp (List.mem_filter.mp z).1
        omega
      · rw [List.mem_singleton.mp z]; omega
    refine ⟨zqk ok cm.1 cm.2,?_⟩
    have nb:=zok (c:=c) ok
    have sd:=znn (l:=fal ws) (k:=cs.length) (by rw [zcS]; exact h)
    have za:=zk2 (fl:=fal ws) (cs:=cs) (c:=c) (by rw [zcS]; exact h)
    have ll:(cs ++ [c]).length=cs.length + 1:=by simp
    unfold lowN
    rw [za,ll]
    obtain ⟨s,es⟩:∃ s,s=gA (fal ws) cs.length:=⟨_,rfl⟩
    rw [← es] at sd ⊢
    have zs:((fal ws).zip cs).map (·.2)=cs:=zl9 (by rw [zcS]; omega)
    obtain ⟨z,ez⟩:∃ z,z=(fal ws).zip cs:=⟨_,rfl⟩
    rw [← ez] at zs ⊢
    rw [sd]
    generalize ((fal ws).drop (cs.length + 1)).sum=Dr
    by_cases w:c < (nB cs:Int)
    · rw [if_pos ⟨cm.1,w⟩] at nb
      rw [nb,zmp,if_pos ⟨cm.1,w⟩]
      generalize ((upt (nB cs)).map (sumB z)).sum=Su
      have:s + Dr - (nB cs:Int) * r + Su=Dr - (nB cs:Int) * r + (Su + s):=by omega
      rw [this]; exact Int.le_refl _
    · rw [if_neg (by omega)] at nb
      rw [nb,zmp,if_pos (by omega),zeq,List.map_append,List.sum_append,List.map_singleton,List.sum_singleton]
      have z0:sumB z (nB cs:Int)=0:=zlc (by
        rw [zs]
        intro v
        have:=zlm ok _ v
        omega)
      rw [z0]
      generalize ((upt (nB cs)).map (sumB z)).sum=Su
      have e:Dr - ((nB cs + 1:Nat):Int) * r + (Su + 0 + s)=(s + Dr - (nB cs:Int) * r + Su) - r:=by
        have:((nB cs + 1:Nat):Int) * r=(nB cs:Int) * r + r:=by rw [Int.natCast_add,Int.add_mul]; simp
        omega
      rw [e]
      have:=zo7 (x:=s + Dr - (nB cs:Int) * r + Su) hr
      omega
theorem zpz {np nv:Nat} {m:En→O} {ds:List D} {δ:En} {x:Xc} (h:m (zcE nv ds) = .ex δ x) (hl:ds.length=np:=by rfl):runF np nv m ds = .ex x:=by unfold runF; rw [if_pos hl,h]
theorem zkr {A:D} {r:Int}:∀ (post:List Int) (k:Nat) (o2 o3:Option D),
    ((∀ w ∈ post,w ≤ r)→∃ p2 p3:Option D,zfc (bTup 2 (za1 (zat 2) (za1 (zat 3) bNil))) zaH ((post.zipIdx k).map fun p:Int × Nat=>D.tup [.int (p.2:Int),.int p.1]) [.v A,.v (.int r),sv o2,sv o3] = .nx [.v A,.v (.int r),sv p2,sv p3]) ∧
    (∀ t:Nat,t < post.length→r < gA post (t:Nat)→(∀ j:Nat,j < t→gA post (j:Nat) ≤ r)→∃ δ,zfc (bTup 2 (za1 (zat 2) (za1 (zat 3) bNil))) zaH ((post.zipIdx k).map fun p:Int × Nat=>D.tup [.int (p.2:Int),.int p.1]) [.v A,.v (.int r),sv o2,sv o3] = .ex δ ⟨2 + 16 * (k + t + 1)⟩):=by
  intro post
  induction post with
  | nil=>intro k o2 o3; exact ⟨fun _=>⟨o2,o3,rfl⟩,fun t ht=>by simp at ht⟩
  | cons x post ih =>
    intro k o2 o3
    rw [List.zipIdx_cons,List.map_cons]
    unfold zfc
    have b1:bTup 2 (za1 (zat 2) (za1 (zat 3) bNil)) (.tup [.int (k:Int),.int x]) [.v A,.v (.int r),sv o2,sv o3]=some [.v A,.v (.int r),.v (.int (k:Int)),.v (.int x)]:=by
      rcases o2 with _ | o2 <;> rcases o3 with _ | o3 <;> rfl
    rw [b1]
    obtain ⟨i1,i2⟩:=ih (k + 1) (some (.int (k:Int))) (some (.int x))
    by_cases c:r < x
    · have bd:zaH [.v A,.v (.int r),.v (.int (k:Int)),.v (.int x)] = .ex [.v A,.v (.int r),.v (.int (k:Int)),.v (.int x)] ⟨2 + 16 * (k + 1)⟩:=by
        unfold zaH
        rw [zjZ (by simp [zaF,mRd,c])]
        simp only [zjc,zaa,mNil,mVar,List.getElem?_cons_succ,List.getElem?_cons_zero,R.bind_ok,R.toO_ok,asI1]
        rw [zb7 (by omega),Int.toNat_natCast]
      simp only [bd]
      refine ⟨fun z=>absurd (z x (by simp)) (by omega),fun t ht g j=>?_⟩
      cases t with
      | zero=>exact ⟨_,rfl⟩
      | succ t =>
        have:=j 0 (by omega)
        simp [gA] at this
        omega
    · have bd:zaH [.v A,.v (.int r),.v (.int (k:Int)),.v (.int x)] = .nx [.v A,.v (.int r),.v (.int (k:Int)),.v (.int x)]:=by
        unfold zaH
        rw [zeU (by simp [zaF,mRd,c])]; rfl
      simp only [bd]
      refine ⟨fun z=>i1 fun w hw=>z w (by simp [hw]),fun t ht g j=>?_⟩
      cases t with
      | zero=>simp [gA] at g; omega
      | succ t =>
        have sh:∀ m:Nat,gA (x :: post) ((m + 1:Nat):Int)=gA post (m:Nat):=fun m=>by simp [gA]
        rw [sh] at g
        obtain ⟨δ,e⟩:=i2 t (by simpa using ht) g (fun m hm=>by have:=j (m + 1) (by omega); rw [sh] at this; exact this)
        exact ⟨δ,e.trans (by congr 2; omega)⟩
theorem zkV (ws:List Int) (r:Int):zb4 [.v (iL ws),.v (.int r),.no,.no]=zfc (bTup 2 (za1 (zat 2) (za1 (zat 3) bNil))) zaH ((ws.zipIdx 0).map fun p:Int × Nat=>D.tup [.int (p.2:Int),.int p.1]) [.v (iL ws),.v (.int r),sv none,sv none]:=by
  refine zcZ ?_
  have:zhQ [iL ws]=some (zgL (ws.map .int)):=rfl
  simp only [zfq,zaa,mNil,mVar,List.getElem?_cons_zero,R.bind_ok,this,R.of_some]
  rw [zf3,List.zipIdx_map,List.map_map]; rfl
theorem zlT {ws:List Int} {r:Int} {t:Nat} (h1:t < ws.length) (h2:r < gA ws (t:Nat)) (h3:∀ j:Nat,j < t→gA ws (j:Nat) ≤ r):zaQ [iL ws,.int r] = .ex ⟨2 + 16 * (t + 1)⟩:=by
  obtain ⟨δ,e⟩:=(zkr (A:=iL ws) ws 0 none none).2 t h1 h2 h3
  rw [Nat.zero_add] at e
  exact zpz (show zbk [.v (iL ws),.v (.int r),.no,.no]=_ from (zkV ws r).trans e)
theorem znT (k:Nat):zmO ze9 (.exc (2 + 16 * (k + 1)))=some (.int (k:Int)):=by
  have e1:(2 + 16 * (k + 1)) % 16=2:=by omega
  have e2:(2 + 16 * (k + 1)) / 16=k + 1:=by omega
  have a:ze9 (2 + 16 * (k + 1))=true:=by unfold ze9; rw [e1]; rfl
  simp only [zmO,a,e2]
  simp
  omega
theorem zkk {ws:List Int} {r:Int} (hl:ws.length ≤ 63) (hw:∀ w ∈ ws,w ≤ r):zbS [iL ws,.int r] = .ok (.bl true):=by
  have c1:oCat (iL ws) (.lst [.int (r + 1),.int (r + 2)])=some (iL (ws ++ [r + 1,r + 2])):=by
    refine (zlJ (by rw [List.length_map]; simp; omega)).trans ?_
    simp [iL]
  have g:gA (ws ++ [r + 1,r + 2]) (ws.length:Nat)=r + 1:=by simp [gA]
  have rx:=zlT (ws:=ws ++ [r + 1,r + 2]) (r:=r) (t:=ws.length) (by simp) (by rw [g]; omega) fun j hj=>by
    have:gA (ws ++ [r + 1,r + 2]) (j:Nat)=gA ws (j:Nat):=by simp [gA,List.getElem?_append_left hj]
    rw [this]
    exact hw _ (List.mem_of_getElem? (zfM (i:=(j:Int)) (by simpa using hj)))
  have bi:zay [iL (ws ++ [r + 1,r + 2]),.int r] = .ex ⟨2 + 16 * (ws.length + 1)⟩:=by
    show R.bind _ _=_
    simp only [List.map_cons,List.map_nil]
    have:zaW [.no,.v (iL (ws ++ [r + 1,r + 2])),.v (.int r)] [] [] = .ex ⟨2 + 16 * (ws.length + 1)⟩:=by
      unfold zaW iSeq
      have:zjw (zfS zaQ (zaa (mVar 1) (zaa (mVar 2) mNil))) [.no,.v (iL (ws ++ [r + 1,r + 2])),.v (.int r)] [] [] = .ex ⟨2 + 16 * (ws.length + 1)⟩:=by
        simp [zjw,zfS,zaa,mNil,mVar,rx,R.bind]
      rw [this]; rfl
    rw [this]; rfl
  obtain ⟨W,eW⟩:∃ W,W=iL ws:=⟨_,rfl⟩
  have lW:fLen [W]=some (.int ws.length):=by rw [eW]; simp [iL]
  rw [← eW] at c1
  refine zb3 ?_
  show mSeq _ _ [.v (iL ws),.v (.int r),.no,.no]=_
  rw [← eW]
  have q0:mAsg (mC .non) (zat 2) [.v W,.v (.int r),.no,.no] = .nx [.v W,.v (.int r),.v .non,.no]:=zaN (d:=.non) rfl rfl
  have sb:zbL (2 + 16 * (ws.length + 1))=true:=by
    have e1:(2 + 16 * (ws.length + 1)) % 16=2:=by omega
    unfold zbL; rw [e1]; rfl
  have q1:mTry (mDo (ziu zay (zaa (m2 oCat (mRd 0) (mLst (zaa (m2 oAdd (mRd 1) (mC (.int 1))) (zaa (m2 oAdd (mRd 1) (mC (.int 2))) mNil)))) (zaa (mVar 1) mNil)))) zbL 3 (mAsg (mVar 3) (zat 2)) [.v W,.v (.int r),.v .non,.no] = .nx [.v W,.v (.int r),.v (.exc (2 + 16 * (ws.length + 1))),.no]:=by
    have d:mDo (ziu zay (zaa (m2 oCat (mRd 0) (mLst (zaa (m2 oAdd (mRd 1) (mC (.int 1))) (zaa (m2 oAdd (mRd 1) (mC (.int 2))) mNil)))) (zaa (mVar 1) mNil))) [.v W,.v (.int r),.v .non,.no] = .ex [.v W,.v (.int r),.v .non,.no] ⟨2 + 16 * (ws.length + 1)⟩:=by
      simp [mDo,ziu,zaa,mNil,mRd,mVar,mC,mLst,sizeLine,c1,bi,R.toO]
    unfold mTry
    rw [d]
    dsimp only
    rw [if_pos sb]
    rfl
  refine (zaq q0).trans ((zaq q1).trans ?_)
  have tb:zls zen (.exc (2 + 16 * (ws.length + 1)))=some (.bl true):=by
    have e1:(2 + 16 * (ws.length + 1)) % 16=2:=by omega
    simp only [zls,zen,e1]; rfl
  have oa:=znT ws.length
  generalize 2 + 16 * (ws.length + 1)=X at tb oa ⊢
  have nn:zmc (.exc X) .non=some (.bl true):=rfl
  simp [mRet,zi1,mRd,mC,nn,tb,zak,zaa,mNil,mCB,lW,oa,zkF]
end My
namespace My
open PySem L2 PM
def num (c k:Int):Int:=(c % 100000000000000000000 + k * k + 3) * (39373 + 2 * k) % 2147483647
theorem zla (c k:Int) (h0:0 ≤ k) (h1:k ≤ 1000):zbQ [.int c,.int k] = .ok (.int (num c k)):=by
  have e1:=zfE c (show (0:Int) < 100000000000000000000 by decide)
  have e2:=ziD c (show (0:Int) < 100000000000000000000 by decide)
  have e3:0 ≤ k * k:=Int.mul_nonneg h0 h0
  have e4:k * k ≤ 1000 * 1000:=Int.mul_le_mul h1 h1 h0 (by decide)
  have f1:Fit k:=fitN 1000 (by omega)
  have f2:Fit 2:=fitN 1000 (by decide)
  have f3:Fit (c % 100000000000000000000 + k * k + 3):=fitN (10 ^ 21) (by omega)
  have f4:Fit (39373 + 2 * k):=fitN (10 ^ 21) (by omega)
  simp [zbQ,runF,zcE,zd3,mRet,mRd,mC,p20,ze8,zon,f1,f2,f3,f4,num]
theorem p12:oPow (.int 10) (.int 12)=some (.int 1000000000000):=zmX ⟨by decide,by decide,by decide⟩
theorem zpO {a b c e:Int} {i:Int} (h0:0 ≤ i) (h1:i < 4):∃ x,(x=a∨x=b∨x=c∨x=e)∧oIxL (.lst [.int a,.int b,.int c,.int e]) (.int i)=some (.int x):=by
  rcases (show i=0∨i=1∨i=2∨i=3 by omega) with h | h | h | h <;> subst h
  · exact ⟨a,.inl rfl,rfl⟩
  · exact ⟨b,.inr (.inl rfl),rfl⟩
  · exact ⟨c,.inr (.inr (.inl rfl)),rfl⟩
  · exact ⟨e,.inr (.inr (.inr rfl)),rfl⟩
theorem zqZ {a b:Int} {i:Int} (h0:0 ≤ i) (h1:i < 2):∃ x,(x=a∨x=b)∧oIxL (.lst [.int a,.int b]) (.int i)=some (.int x):=by
  rcases (show i=0∨i=1 by omega) with h | h <;> subst h
  · exact ⟨a,.inl rfl,rfl⟩
  · exact ⟨b,.inr rfl,rfl⟩
theorem zpG {a b:Int}:zi5 [.int a,.int b]=some (.int (if b < a then b else a)):=rfl
theorem size_eq (c k:Int) (h0:0 ≤ k) (h1:k ≤ 1000):∃ w:Int,(0 < w∧w ≤ 1000000000000000000)∧zcg [.int c,.int k] = .ok (.int w):=by
  have hn:=zla c k h0 h1
  generalize num c k=n at hn
  have f4:Fit 4:=fitN 1000 (by decide)
  have q1:mAsg (zak zbQ (zaa (mVar 0) (zaa (mVar 1) mNil))) (zat 2) [.v (.int c),.v (.int k),.no,.no] = .nx [.v (.int c),.v (.int k),.v (.int n),.no]:=zaN (d:=.int n) (by simp [zak,zaa,mNil,mVar,hn]) rfl
  have q2:mAsg (m2 oDiv (mRd 2) (mC (.int 4))) (zat 3) [.v (.int c),.v (.int k),.v (.int n),.no] = .nx [.v (.int c),.v (.int k),.v (.int n),.v (.int (n / 4))]:=zaN (d:=.int (n / 4)) (by simp [mRd,mC,zgp,f4]) rfl
  obtain ⟨x,hx,ix⟩:=zpO (a:=n / 4 % 6) (b:=n / 4 % 60) (c:=7) (e:=c % 1000000000000000000) (zfE n (show (0:Int) < 4 by decide)) (ziD n (show (0:Int) < 4 by decide))
  refine ⟨1 + x,by omega,zb3 ((zaq q1).trans ((zaq q2).trans ?_))⟩
  simp [mRet,mLst,zaa,mNil,mRd,mC,ze8,p18,sizeLine,ix]
theorem znD (cs:List Int) (hl:cs.length ≤ 63):∃ ws:List Int,ws.length=cs.length∧(∀ w ∈ ws,0 < w∧w ≤ 1000000000000000000)∧∀ (δ:En),zcD (zdy (bTup 2 (za1 (za0 0) (za1 (za0 1) bNil))) none (zak zcg (zaa (mVar 1) (zaa (mVar 0) mNil))) [.no,.no]) (zgL (cs.map .int)) = .ok (ws.map .int):=by
  obtain ⟨F,hF⟩:=Classical.axiomOfChoice (r:=fun (p:Int × Nat) (w:Int)=>p.2 ≤ 1000→(0 < w∧w ≤ 1000000000000000000)∧zcg [.int p.1,.int (p.2:Int)] = .ok (.int w)) (fun p=>by
    by_cases h:p.2 ≤ 1000
    · obtain ⟨t,h1,h2⟩:=size_eq p.1 (p.2:Int) (by omega) (by omega)
      exact ⟨t,fun _=>⟨h1,h2⟩⟩
    · exact ⟨0,fun z=>absurd z h⟩)
  have idx:∀ p ∈ cs.zipIdx,p.2 ≤ 1000:=fun p hp=>by
    have:=List.mk_mem_zipIdx_iff_getElem?.mp (show (p.1,p.2) ∈ cs.zipIdx from hp)
    have:=(List.getElem?_eq_some_iff.mp this).1
    omega
  refine ⟨cs.zipIdx.map F,by simp,fun t ht=>?_,fun δ=>?_⟩
  · obtain ⟨p,hp,rfl⟩:=List.mem_map.mp ht
    exact (hF p (idx p hp)).1
  · rw [zf3,List.zipIdx_map,List.map_map,List.map_map]
    refine zdv (fun p:Int × Nat=>.tup [.int (p.2:Int),.int p.1]) (fun p=>.int (F p)) _ fun p hp=>?_
    have:=(hF p (idx p hp)).2
    simp [zdy,bTup,za1,bNil,za0,zak,zaa,mNil,mVar,this]
theorem zoO (ws:List Int) (hp:∀ w ∈ ws,0 < w):∃ mo:Int,0 < mo∧((∀ w ∈ ws,w ≤ mo)∧∀ b:Int,1 ≤ b→(∀ w ∈ ws,w ≤ b)→mo ≤ b)∧∀ δ:En,δ[1]?=some (.v (iL ws))→zkx (zaa (mRd 1) mNil) (mC (.int 1)) δ = .ok (.int mo):=by
  cases ws with
  | nil =>
    refine ⟨1,by decide,⟨fun w hw=>(by cases hw),fun b hb _=>hb⟩,fun δ h=>?_⟩
    simp [zkx,zaa,mNil,mRd,h,mC,iL,zkn]
  | cons a l =>
    have hm:=zjV (S:=a :: l) (by simp)
    refine ⟨mxL (a :: l),hp _ hm.1,⟨hm.2,fun b _ hb=>hb _ hm.1⟩,fun δ h=>?_⟩
    simp [zkx,zaa,mNil,mRd,h,mC,iL,zkn,mxL,zes]
theorem zpC (l:List Int):asIl (iL l)=some l:=by simp [asIl,iL,zes]
theorem ziR (a b:List Int):zb9 8 (tabD [a,b])=true:=by simp [tabD,zb9,iL]
end My
namespace My
open PySem L2 PM
theorem law_true (ns:List Int) (h:ns.length ≤ 63):zqE [.scr ns] = .ok (.bl true):=by
  obtain ⟨cl,hcut,hcl⟩:=znP ns (some 2) (some 26)
  obtain ⟨ws,hwl,ok,hg⟩:=znD cl (by omega)
  have hn:ws.length ≤ 63:=by omega
  have c0:zaI [.scr ns,.int 0] = .ok (.int (ns.getD 0 0)):=zfo ns 0
  have c1:zaI [.scr ns,.int 1] = .ok (.int (ns.getD 1 0)):=zfo ns 1
  generalize ns.getD 0 0=k0 at c0
  generalize ns.getD 1 0=k1 at c1
  have sl:∀ l:En,mSl (mRd 0) (zeO (mC (.int 2))) (zeO (mC (.int 26))) (.v (.scr ns) :: l) = .ok (iL cl):=fun l=>by
    simp only [mSl,mRd,zeO,mC,List.getElem?_cons_zero,R.bind_ok,zoH,R.of_some,asL,hcut]
    rfl
  have f3:Fit 3:=fitN 1000 (by decide)
  have f4:Fit 4:=fitN 1000 (by decide)
  have f80:Fit 80:=fitN 1000 (by decide)
  obtain ⟨fi,efi⟩:∃ fi,fi=k0 % 1000000000000:=⟨_,rfl⟩
  have fi0:=zfE k0 (show (0:Int) < 1000000000000 by decide)
  rw [← efi] at fi0
  obtain ⟨b,hb,ib⟩:=zqZ (a:=5) (b:=20) (i:=fi % 4 / 3) (by omega) (by omega)
  have bp:0 < b:=by omega
  have mlo:=zfE (fi / 4) bp
  have mhi:=ziD (fi / 4) bp
  obtain ⟨m,em⟩:∃ m:Nat,1 + fi / 4 % b=(m:Int):=⟨(1 + fi / 4 % b).toNat,by omega⟩
  have hm:0 < m:=by omega
  have hm1:m ≤ 100:=by omega
  obtain ⟨mo,mo0,moe,hmo⟩:=zoO ws (fun w hw=>(ok w hw).1)
  have mo1:mo ≤ 1000000000000000000:=moe.2 _ (by decide) fun w hw=>(ok w hw).2
  obtain ⟨me,hme,ime⟩:=zpO (a:=0) (b:=fi / 80 % mo) (c:=fi / 80 % 4) (e:=ws.sum) (zfE k1 (show (0:Int) < 4 by decide)) (ziD k1 (show (0:Int) < 4 by decide))
  have me0:0 ≤ me:=by
    have s0:0 ≤ ws.sum:=by
      have:=zlS (f:=id) (l:=ws) fun x hx=>Int.le_of_lt (ok x hx).1
      simpa using this
    have:=zfE (fi / 80) mo0
    have:=zfE (fi / 80) (show (0:Int) < 4 by decide)
    omega
  obtain ⟨r,er⟩:∃ r,(if mo + me < 1000000000000000000 then mo + me else 1000000000000000000)=r:=⟨_,rfl⟩
  have r0:0 < r:=by rw [← er]; split <;> omega
  have r1:r ≤ 1000000000000000000:=by rw [← er]; split <;> omega
  have hw:∀ w ∈ ws,w ≤ r:=fun w hw=>by
    have:=moe.1 w hw
    rw [← er]; split <;> omega
  have hp:∀ w ∈ ws,0 < w:=fun w hw=>(ok w hw).1
  have hB:=zkq (m:=m) (ws:=ws) hm hm1 hn
  have hN:=zm6 (r:=r) (ws:=ws) hn hw
  have ch0:=zjQ (zoN hm hm1 hp hn) ns hn
  have ch1:=zjQ (zqP (ws:=ws) r0 r1 hn) ns hn
  have hrf:=zkk hn hw
  have lstW:zgJ [iL ws]=some (iL ws):=rfl
  have asl:asIl (iL ws)=some ws:=zpC ws
  obtain ⟨B,eB⟩:∃ B,B=zby m ws:=⟨_,rfl⟩
  obtain ⟨N,eN⟩:∃ N,N=binD r ws:=⟨_,rfl⟩
  have tB:zhr zbM B=some (.bl true):=by rw [eB]; rfl
  have tN:zhr zbM N=some (.bl true):=by rw [eN]; rfl
  rw [← eB] at hB ch0
  rw [← eN] at hN ch1
  have q0:mAsg zos (zat 1) [.v (.scr ns),.no,.no,.no,.no,.no,.no,.no,.no,.no] = .nx [.v (.scr ns),.v (iL ws),.no,.no,.no,.no,.no,.no,.no,.no]:=by
    refine zaN (d:=iL ws) ?_ rfl
    refine zcm (l:=zgL (cl.map .int)) ?_ (by rw [zf3]; simp; omega) (hg [])
    simp only [zfq,zaa,mNil,sl,R.bind_ok]
    rfl
  have q1:mAsg (m2 oMod (zak zaI (zaa (mVar 0) (zaa (mC (.int 0)) mNil))) (m2 oPow (mC (.int 10)) (mC (.int 12)))) (zat 2) [.v (.scr ns),.v (iL ws),.no,.no,.no,.no,.no,.no,.no,.no] = .nx [.v (.scr ns),.v (iL ws),.v (.int fi),.no,.no,.no,.no,.no,.no,.no]:=by
    refine zaN (d:=(.int fi)) ?_ rfl
    simp [zak,zaa,mNil,mVar,mC,c0,p12,ze8,← efi]
  have q2:mAsg (m2 oAdd (mC (.int 1)) (m2 oMod (m2 oDiv (mRd 2) (mC (.int 4))) (m2 oIxL (mLst (zaa (mC (.int 5)) (zaa (mC (.int 20)) mNil))) (m2 oDiv (m2 oMod (mRd 2) (mC (.int 4))) (mC (.int 3)))))) (zat 3) [.v (.scr ns),.v (iL ws),.v (.int fi),.no,.no,.no,.no,.no,.no,.no] = .nx [.v (.scr ns),.v (iL ws),.v (.int fi),.v (.int (m:Int)),.no,.no,.no,.no,.no,.no]:=by
    refine zaN (d:=(.int (m:Int))) ?_ rfl
    simp [mLst,zaa,mNil,mRd,mC,zgp,f3,f4,ze8,sizeLine,ib,ze8 bp,em]
  have q3:mAsg (zkx (zaa (mRd 1) mNil) (mC (.int 1))) (zat 4) [.v (.scr ns),.v (iL ws),.v (.int fi),.v (.int (m:Int)),.no,.no,.no,.no,.no,.no] = .nx [.v (.scr ns),.v (iL ws),.v (.int fi),.v (.int (m:Int)),.v (.int mo),.no,.no,.no,.no,.no]:=by
    refine zaN (d:=(.int mo)) ?_ rfl
    exact hmo _ rfl
  have q4:mAsg (m2 oIxL (mLst (zaa (mC (.int 0)) (zaa (m2 oMod (m2 oDiv (mRd 2) (mC (.int 80))) (mRd 4)) (zaa (m2 oMod (m2 oDiv (mRd 2) (mC (.int 80))) (mC (.int 4))) (zaa (mCB fSum (zaa (mRd 1) mNil)) mNil))))) (m2 oMod (zak zaI (zaa (mVar 0) (zaa (mC (.int 1)) mNil))) (mC (.int 4)))) (zat 5) [.v (.scr ns),.v (iL ws),.v (.int fi),.v (.int (m:Int)),.v (.int mo),.no,.no,.no,.no,.no] = .nx [.v (.scr ns),.v (iL ws),.v (.int fi),.v (.int (m:Int)),.v (.int mo),.v (.int me),.no,.no,.no,.no]:=by
    refine zaN (d:=(.int me)) ?_ rfl
    simp [mLst,zaa,mNil,mRd,mC,mCB,zgp,f80,ze8,ze8 mo0,zeK,sizeLine,zak,mVar,c1,ime]
  have q5:mAsg (mCB zi5 (zaa (m2 oPow (mC (.int 10)) (mC (.int 18))) (zaa (m2 oAdd (mRd 4) (mRd 5)) mNil))) (zat 6) [.v (.scr ns),.v (iL ws),.v (.int fi),.v (.int (m:Int)),.v (.int mo),.v (.int me),.no,.no,.no,.no] = .nx [.v (.scr ns),.v (iL ws),.v (.int fi),.v (.int (m:Int)),.v (.int mo),.v (.int me),.v (.int r),.no,.no,.no]:=by
    refine zaN (d:=(.int r)) ?_ rfl
    simp [mCB,zaa,mNil,mRd,mC,p18,zpG,er]
  have q6:znt (zmy (mCB zgJ (zaa (mRd 1) mNil)) (mCB zgJ (zaa (mRd 1) mNil))) 7 [.v (.scr ns),.v (iL ws),.v (.int fi),.v (.int (m:Int)),.v (.int mo),.v (.int me),.v (.int r),.no,.no,.no] = .nx [.v (.scr ns),.v (iL ws),.v (.int fi),.v (.int (m:Int)),.v (.int mo),.v (.int me),.v (.int r),.p [ws,ws],.no,.no]:=by
    have z:zmy (mCB zgJ (zaa (mRd 1) mNil)) (mCB zgJ (zaa (mRd 1) mNil)) [.v (.scr ns),.v (iL ws),.v (.int fi),.v (.int (m:Int)),.v (.int mo),.v (.int me),.v (.int r),.no,.no,.no] = .ok [ws,ws]:=by
      simp [zmy,mCB,zaa,mNil,mRd,lstW,asl]
    unfold znt
    rw [z]
    rfl
  have q7:mAsg (zak zaR (zaa (mRow 7 (mC (.int 0))) (zaa (mVar 3) mNil))) (zat 8) [.v (.scr ns),.v (iL ws),.v (.int fi),.v (.int (m:Int)),.v (.int mo),.v (.int me),.v (.int r),.p [ws,ws],.no,.no] = .nx [.v (.scr ns),.v (iL ws),.v (.int fi),.v (.int (m:Int)),.v (.int mo),.v (.int me),.v (.int r),.p [ws,ws],.v B,.no]:=by
    refine zaN (d:=B) ?_ rfl
    have z:mRow 7 (mC (.int 0)) [.v (.scr ns),.v (iL ws),.v (.int fi),.v (.int (m:Int)),.v (.int mo),.v (.int me),.v (.int r),.p [ws,ws],.no,.no] = .ok (iL ws):=rfl
    rw [zk0 z (y:=.int (m:Int)) rfl,hB]; rfl
  have q8:mAsg (zak zay (zaa (mRow 7 (mC (.int 1))) (zaa (mVar 6) mNil))) (zat 9) [.v (.scr ns),.v (iL ws),.v (.int fi),.v (.int (m:Int)),.v (.int mo),.v (.int me),.v (.int r),.p [ws,ws],.v B,.no] = .nx [.v (.scr ns),.v (iL ws),.v (.int fi),.v (.int (m:Int)),.v (.int mo),.v (.int me),.v (.int r),.p [ws,ws],.v B,.v N]:=by
    refine zaN (d:=N) ?_ rfl
    have z:mRow 7 (mC (.int 1)) [.v (.scr ns),.v (iL ws),.v (.int fi),.v (.int (m:Int)),.v (.int mo),.v (.int me),.v (.int r),.p [ws,ws],.v B,.no] = .ok (iL ws):=rfl
    rw [zk0 z (y:=.int r) rfl,hN]; rfl
  have q9:mIfS (mOr (mNot (zaF (m1 (zhr zbM) (mRd 8)))) (mOr (mNot (zaF (m1 (zhr zbM) (mRd 9)))) (zaF (zkM (m2 oNeD (mRd 7) (mLst (zaa (mVar 1) (zaa (mVar 1) mNil)))))))) (mRet (mC (.bl false))) zbp [.v (.scr ns),.v (iL ws),.v (.int fi),.v (.int (m:Int)),.v (.int mo),.v (.int me),.v (.int r),.p [ws,ws],.v B,.v N] = .nx [.v (.scr ns),.v (iL ws),.v (.int fi),.v (.int (m:Int)),.v (.int mo),.v (.int me),.v (.int r),.p [ws,ws],.v B,.v N]:=by
    have ne:oNeD (tabD [ws,ws]) (.lst [iL ws,iL ws])=some (.bl false):=zo8 (ziR ws ws) (ziR ws ws) rfl
    have z:m2 oNeD (mRd 7) (mLst (zaa (mVar 1) (zaa (mVar 1) mNil))) [.v (.scr ns),.v (iL ws),.v (.int fi),.v (.int (m:Int)),.v (.int mo),.v (.int me),.v (.int r),.v (tabD [ws,ws]),.v B,.v N] = .ok (.bl false):=by
      simp [mLst,zaa,mNil,mRd,mVar,sizeLine,ne]
    have p:zkM (m2 oNeD (mRd 7) (mLst (zaa (mVar 1) (zaa (mVar 1) mNil)))) [.v (.scr ns),.v (iL ws),.v (.int fi),.v (.int (m:Int)),.v (.int mo),.v (.int me),.v (.int r),.p [ws,ws],.v B,.v N] = .ok (.bl false):=by
      unfold zkM
      rw [show peek [.v (.scr ns),.v (iL ws),.v (.int fi),.v (.int (m:Int)),.v (.int mo),.v (.int me),.v (.int r),.p [ws,ws],.v B,.v N] = [.v (.scr ns),.v (iL ws),.v (.int fi),.v (.int (m:Int)),.v (.int mo),.v (.int me),.v (.int r),.v (tabD [ws,ws]),.v B,.v N] from rfl,z]; rfl
    simp [mIfS,mOr,mNot,zaF,mRd,tB,tN,p,zbp]
  have q10:zfk 7 (mC (.int 0)) [.v (.scr ns),.v (iL ws),.v (.int fi),.v (.int (m:Int)),.v (.int mo),.v (.int me),.v (.int r),.p [ws,ws],.v B,.v N] = .nx [.v (.scr ns),.v (iL ws),.v (.int fi),.v (.int (m:Int)),.v (.int mo),.v (.int me),.v (.int r),.p [[],ws],.v B,.v N]:=rfl
  have q11:zfk 7 (mC (.int 1)) [.v (.scr ns),.v (iL ws),.v (.int fi),.v (.int (m:Int)),.v (.int mo),.v (.int me),.v (.int r),.p [[],ws],.v B,.v N] = .nx [.v (.scr ns),.v (iL ws),.v (.int fi),.v (.int (m:Int)),.v (.int mo),.v (.int me),.v (.int r),.p [[],[]],.v B,.v N]:=rfl
  have q12:mIfS (mOr (mNot (zaF (zak zbK (zaa (mVar 0) (zaa (mC (.int 0)) (zaa (mVar 1) (zaa (mVar 3) (zaa (mVar 8) mNil)))))))) (mNot (zaF (zak zbK (zaa (mVar 0) (zaa (mC (.int 1)) (zaa (mVar 1) (zaa (mVar 6) (zaa (mVar 9) mNil))))))))) (mRet (mC (.bl false))) zbp [.v (.scr ns),.v (iL ws),.v (.int fi),.v (.int (m:Int)),.v (.int mo),.v (.int me),.v (.int r),.p [[],[]],.v B,.v N] = .nx [.v (.scr ns),.v (iL ws),.v (.int fi),.v (.int (m:Int)),.v (.int mo),.v (.int me),.v (.int r),.p [[],[]],.v B,.v N]:=by
    simp [mIfS,mOr,mNot,zaF,zak,zaa,mNil,mVar,mC,ch0,ch1,zbp]
  have q13:mRet (mOrV (m2 oGe (mRd 6) (m2 oSub (m2 oPow (mC (.int 10)) (mC (.int 18))) (mC (.int 1)))) (zak zbS (zaa (mVar 1) (zaa (mVar 6) mNil)))) [.v (.scr ns),.v (iL ws),.v (.int fi),.v (.int (m:Int)),.v (.int mo),.v (.int me),.v (.int r),.p [[],[]],.v B,.v N] = .rt (.bl true):=by
    by_cases c:(999999999999999999:Int) ≤ r
    · simp [mRet,mOrV,mRd,mC,p18,c]
    · simp [mRet,mOrV,mRd,mC,p18,c,zak,zaa,mNil,mVar,hrf]
  exact zb3 ((zaq q0).trans ((zaq q1).trans ((zaq q2).trans ((zaq q3).trans ((zaq q4).trans ((zaq q5).trans ((zaq q6).trans ((zaq q7).trans ((zaq q8).trans ((zaq q9).trans ((zaq q10).trans ((zaq q11).trans ((zaq q12).trans (q13))))))))))))))
end My
namespace My
open PySem L2 PM PyProof.Rows
def top (i:Nat):Stmt:=PySem.Challenge.pw_goodenough_k36_bench_and_bin_cases.main.body.getD i (.Pass ⟨0,0,0,0⟩)
abbrev XO0:XOT:=fun _ _ _ _ _=>False
def zrb:Stmt→Stmt
  | .ClassDef _ _ _ b _ _ _ _ _ _ _=>b.getD 0 (.Pass ⟨0,0,0,0⟩)
  | s=>s
structure Adr where
  EnoughError:Addr
  NoShare:Addr
  NoRoom:Addr
  Question:Addr
  BenchQuestion:Addr
  BinQuestion:Addr
  f_NoRoom:Addr
def caT (ad:Adr):Nat→Addr
  | 0=>ad.EnoughError
  | 1=>ad.NoShare
  | 2=>ad.NoRoom
  | 3=>ad.Question
  | 4=>ad.BenchQuestion
  | 5=>ad.BinQuestion
  | _=>0
def caF (ad:Adr) (c:Nat):Addr:=caT ad (c % 16)
def anT:Nat→Str
  | 2=>"thing"
  | _=>Str.empty
def anF (c:Nat):Str:=anT (c % 16)
abbrev KX (K:PySem.W.Frag) (ad:Adr):Kx:=⟨K,caF ad,anF⟩
def zjY (K:PySem.W.Frag):Sp:=fun vs H Q _=>∃ (a:Addr) (ns:List Int),vs = [.ref a]∧SqL K H a (ns.map V.int)∧ns.length ≤ 63∧∀ H',Q (.bl true) H'
structure Txt (K:PySem.W.Frag) (mg:Str→Option Value) (ad:Adr):Prop where
  len:mg "len"=none
  abs:mg "abs"=none
  isinstance:mg "isinstance"=none
  list:mg "list"=none
  sum:mg "sum"=none
  int:mg "int"=none
  bool:mg "bool"=none
  range:mg "range"=none
  enumerate:mg "enumerate"=none
  max:mg "max"=none
  min:mg "min"=none
  sorted:mg "sorted"=none
  zip:mg "zip"=none
  set:mg "set"=none
  ValueError:mg "ValueError"=none
  m_Question:mg "Question"=some (.ref ad.Question)
  m_BenchQuestion:mg "BenchQuestion"=some (.ref ad.BenchQuestion)
  m_BinQuestion:mg "BinQuestion"=some (.ref ad.BinQuestion)
  cl_BenchQuestion:Cls K ad.BenchQuestion
  na_BenchQuestion_falling:NoAttr K ad.BenchQuestion "falling"
  na_BenchQuestion_least:NoAttr K ad.BenchQuestion "least"
  na_BenchQuestion_many:NoAttr K ad.BenchQuestion "many"
  na_BenchQuestion_order:NoAttr K ad.BenchQuestion "order"
  ty_BenchQuestion:∀ (H:Hp) (a dx:Addr) (fs:List (Str × V)),H a=some (.ins ad.BenchQuestion dx fs)→TyOf K H (.ref a) (.ref ad.BenchQuestion)
  k_BenchQuestion_Question:PySem.W.kitOne K (.ref ad.BenchQuestion) (.ref ad.Question)=some true
  cl_BinQuestion:Cls K ad.BinQuestion
  na_BinQuestion_falling:NoAttr K ad.BinQuestion "falling"
  na_BinQuestion_order:NoAttr K ad.BinQuestion "order"
  na_BinQuestion_room:NoAttr K ad.BinQuestion "room"
  ty_BinQuestion:∀ (H:Hp) (a dx:Addr) (fs:List (Str × V)),H a=some (.ins ad.BinQuestion dx fs)→TyOf K H (.ref a) (.ref ad.BinQuestion)
  k_BinQuestion_Question:PySem.W.kitOne K (.ref ad.BinQuestion) (.ref ad.Question)=some true
  m_EnoughError:mg "EnoughError"=some (.ref ad.EnoughError)
  m_NoShare:mg "NoShare"=some (.ref ad.NoShare)
  m_NoRoom:mg "NoRoom"=some (.ref ad.NoRoom)
  i_NoRoom:zgY K ad.NoRoom [.type "ValueError",.type "Exception",.type "BaseException",.type "object"] "ValueError.__new__" ad.f_NoRoom=true
  fn_NoRoom:PySem.W.isFn K (.ref ad.f_NoRoom)=true
  na_NoRoom:NoAttr K ad.NoRoom "thing"
  e_NoShare:PySem.W.excIn K ad.NoShare [.type "ValueError",.type "Exception",.type "BaseException",.type "object"] "ValueError.__new__"=true
  b_EnoughError:PySem.W.mroIn K ad.EnoughError (.type "BaseException")=some true
  z_NoShare:ExcCls K ad.NoShare
  kc_NoShare_EnoughError:PySem.W.kitCls K (.ref ad.NoShare) (.ref ad.EnoughError)=some true
  k_NoShare_NoRoom:PySem.W.kitOne K (.ref ad.NoShare) (.ref ad.NoRoom)=some false
  z_NoRoom:ExcCls K ad.NoRoom
  a_NoRoom:ExcA K ad.NoRoom
  kc_NoRoom_EnoughError:PySem.W.kitCls K (.ref ad.NoRoom) (.ref ad.EnoughError)=some true
  k_NoRoom_NoRoom:PySem.W.kitOne K (.ref ad.NoRoom) (.ref ad.NoRoom)=some true
section
variable {P:Program} {w:World} {K:PySem.W.Frag} {mg:Str→Option Value} {base:Heap} {ad:Adr}
theorem zgF (T:Txt K mg ad):∀ c,zbL c=true→PySem.W.kitCls (KX K ad).f (.ref ((KX K ad).ca c)) (.ref ad.EnoughError)=some true:=by
  have key:∀ r,zdS r=true→PySem.W.kitCls K (.ref (caT ad r)) (.ref ad.EnoughError)=some true:=by
    intro c h
    match c,h with
    | 1,_=>exact T.kc_NoShare_EnoughError
    | 2,_=>exact T.kc_NoRoom_EnoughError
  exact fun c h=>key (c % 16) h
theorem zl8 (T:Txt K mg ad):∀ c b,zen c=some b→ExcCls (KX K ad).f ((KX K ad).ca c)∧PySem.W.kitOne (KX K ad).f (.ref ((KX K ad).ca c)) (.ref ad.NoRoom)=some b:=by
  have key:∀ r b,zgs r=some b→ExcCls K (caT ad r)∧PySem.W.kitOne K (.ref (caT ad r)) (.ref ad.NoRoom)=some b:=by
    intro c b h
    match c,h with
    | 1,h=>cases h; exact ⟨T.z_NoShare,T.k_NoShare_NoRoom⟩
    | 2,h=>cases h; exact ⟨T.z_NoRoom,T.k_NoRoom_NoRoom⟩
  exact fun c b h=>key (c % 16) b h
theorem zcL (T:Txt K mg ad):∀ c,zaX c=true→Cls (KX K ad).f ((KX K ad).ca c)∧NoAttr (KX K ad).f ((KX K ad).ca c) "falling":=by
  intro c h
  match c,h with
  | 4,_=>exact ⟨T.cl_BenchQuestion,T.na_BenchQuestion_falling⟩
  | 5,_=>exact ⟨T.cl_BinQuestion,T.na_BinQuestion_falling⟩
theorem zdu (T:Txt K mg ad):Cls (KX K ad).f ((KX K ad).ca 4)∧NoAttr (KX K ad).f ((KX K ad).ca 4) "falling":=⟨T.cl_BenchQuestion,T.na_BenchQuestion_falling⟩
theorem zdY (T:Txt K mg ad):Cls (KX K ad).f ((KX K ad).ca 5)∧NoAttr (KX K ad).f ((KX K ad).ca 5) "falling":=⟨T.cl_BinQuestion,T.na_BinQuestion_falling⟩
theorem zno (T:Txt K mg ad):∀ c,zfW c=true→Cls (KX K ad).f ((KX K ad).ca c)∧NoAttr (KX K ad).f ((KX K ad).ca c) "least":=by
  intro c h
  match c,h with
  | 4,_=>exact ⟨T.cl_BenchQuestion,T.na_BenchQuestion_least⟩
theorem zdT (T:Txt K mg ad):Cls (KX K ad).f ((KX K ad).ca 4)∧NoAttr (KX K ad).f ((KX K ad).ca 4) "least":=⟨T.cl_BenchQuestion,T.na_BenchQuestion_least⟩
theorem zlX (T:Txt K mg ad):∀ c,zf9 c=true→Cls (KX K ad).f ((KX K ad).ca c)∧NoAttr (KX K ad).f ((KX K ad).ca c) "many":=by
  intro c h
  match c,h with
  | 4,_=>exact ⟨T.cl_BenchQuestion,T.na_BenchQuestion_many⟩
theorem zee (T:Txt K mg ad):Cls (KX K ad).f ((KX K ad).ca 4)∧NoAttr (KX K ad).f ((KX K ad).ca 4) "many":=⟨T.cl_BenchQuestion,T.na_BenchQuestion_many⟩
theorem zf1 (T:Txt K mg ad):∀ c,zbU c=true→Cls (KX K ad).f ((KX K ad).ca c)∧NoAttr (KX K ad).f ((KX K ad).ca c) "order":=by
  intro c h
  match c,h with
  | 4,_=>exact ⟨T.cl_BenchQuestion,T.na_BenchQuestion_order⟩
  | 5,_=>exact ⟨T.cl_BinQuestion,T.na_BinQuestion_order⟩
theorem zdX (T:Txt K mg ad):Cls (KX K ad).f ((KX K ad).ca 4)∧NoAttr (KX K ad).f ((KX K ad).ca 4) "order":=⟨T.cl_BenchQuestion,T.na_BenchQuestion_order⟩
theorem zey (T:Txt K mg ad):Cls (KX K ad).f ((KX K ad).ca 5)∧NoAttr (KX K ad).f ((KX K ad).ca 5) "order":=⟨T.cl_BinQuestion,T.na_BinQuestion_order⟩
theorem zlN (T:Txt K mg ad):∀ c,zeN c=true→Cls (KX K ad).f ((KX K ad).ca c)∧NoAttr (KX K ad).f ((KX K ad).ca c) "room":=by
  intro c h
  match c,h with
  | 5,_=>exact ⟨T.cl_BinQuestion,T.na_BinQuestion_room⟩
theorem zeL (T:Txt K mg ad):Cls (KX K ad).f ((KX K ad).ca 5)∧NoAttr (KX K ad).f ((KX K ad).ca 5) "room":=⟨T.cl_BinQuestion,T.na_BinQuestion_room⟩
theorem zgg (T:Txt K mg ad):∀ c b,zbM c=some b→(∀ (H:Hp) (a dx:Addr) (fs:List (Str × V)),H a=some (.ins ((KX K ad).ca c) dx fs)→TyOf (KX K ad).f H (.ref a) (.ref ((KX K ad).ca c)))∧PySem.W.kitOne (KX K ad).f (.ref ((KX K ad).ca c)) (.ref ad.Question)=some b:=by
  intro c b h
  match c,h with
  | 4,h=>cases h; exact ⟨T.ty_BenchQuestion,T.k_BenchQuestion_Question⟩
  | 5,h=>cases h; exact ⟨T.ty_BinQuestion,T.k_BinQuestion_Question⟩
theorem zln (k:Nat):caF ad (2 + 16 * (k + 1))=ad.NoRoom:=by
  unfold caF
  rw [show (2 + 16 * (k + 1)) % 16=2 by omega]; rfl
theorem zmA (k:Nat):anF (2 + 16 * (k + 1)) = "thing":=by
  unfold anF
  rw [show (2 + 16 * (k + 1)) % 16=2 by omega]; rfl
theorem znU (T:Txt K mg ad):∀ c,ze9 c=true→ExcCls (KX K ad).f ((KX K ad).ca c)∧NoAttr (KX K ad).f ((KX K ad).ca c) "thing"∧(KX K ad).an c = "thing":=by
  have key:∀ r,zin r=true→ExcCls K (caT ad r)∧NoAttr K (caT ad r) "thing"∧anT r = "thing":=by
    intro c h
    match c,h with
    | 2,_=>exact ⟨T.z_NoRoom,T.na_NoRoom,rfl⟩
  exact fun c h=>key (c % 16) h
abbrev zbT:Stmt:=zrb (top 3)
theorem zgM:FnScope ["self","thing"] ["self","thing"] (zaj zbT):=⟨rfl,rfl,rfl,by decide +kernel,rfl,by decide +kernel,by decide +kernel⟩
theorem zgK {f:Addr} {fd:FuncData} (F:Fun K "__init__" "NoRoom.__init__" zbT f fd):FnOk P w K mg base CX0 1 f fd ["self","thing"] (spI K "thing"):=by
  refine F.ok zgM (fun vs H Q E h=>zpn h) (fun cdv A outer s H vs Q E hr h=>?_)
  obtain ⟨e,C,xs,n,rfl,hH,zA,zN,q⟩:=h
  exact ⟨_,zao (zoV (pv 0) (pv 1) rfl),_,rfl,_,rfl,e,C,xs,rfl,hH,zA,zN,fun dx hd=>q dx hd⟩
abbrev zd0:Stmt:=top 20
theorem zhU:FnScope ["_law_cell","_law_k"] ["_law_cell","_law_k"] (zaj zd0):=⟨rfl,rfl,rfl,by decide +kernel,rfl,by decide +kernel,by decide +kernel⟩
theorem zhB {f:Addr} {fd:FuncData} (F:Fun K "_law_number" "_law_number" zd0 f fd) (T:Txt K mg ad)  : FnOk P w K mg base CX0 1 f fd ["_law_cell","_law_k"] (spM (KX K ad) (xoK (KX K ad)) zbQ):=by
  refine F.ok zhU (fun vs H Q E h=>zbv h) (fun cdv A outer s H vs Q E hr h=>?_)
  have hu:=zbW hr
  exact ⟨_,(zao (zaV (za3 zda (za3 zhm (za3 zcp (za3 zcp (za3 zda (pv 0) (za3 zic zaw zaw)) (za3 zhm (pv 1) (pv 1))) zaw) (za3 zcp zaw (za3 zhm zaw (pv 1)))) zaw))),zdk (K:=(KX K ad)) (XO:=(xoK (KX K ad))) (E:=E) (np:=2) (nv:=0) (m:=zd3)
      (zbg (zaA zdc ((zaA zjW ((zaA zcs ((zaA zcs ((zaA zdc zad ((zaA ziN (zav).r (zav).r)).r)).r ((zaA zjW zad zad)).r)).r (zav).r)).r ((zaA zcs (zav).r ((zaA zjW (zav).r zad)).r)).r)).r (zav).r)) rfl h⟩
abbrev zft:Stmt:=top 23
theorem sc_law_size:FnScope ["_law_cell","_law_k","_law_number_here","_law_part"] ["_law_cell","_law_k"] (zaj zft):=⟨rfl,rfl,rfl,by decide +kernel,rfl,by decide +kernel,by decide +kernel⟩
theorem zjh {f:Addr} {fd:FuncData} (F:Fun K "_law_size" "_law_size" zft f fd) (T:Txt K mg ad) (G_law_number:Has P w K mg base CX0 1 "_law_number" ["_law_cell","_law_k"] (spM (KX K ad) (xoK (KX K ad)) zbQ)):FnOk P w K mg base CX0 2 f fd ["_law_cell","_law_k"] (spM (KX K ad) (xoK (KX K ad)) zcg):=by
  refine F.ok sc_law_size (fun vs H Q E h=>zbv h) (fun cdv A outer s H vs Q E hr h=>?_)
  have hu:=zbW hr
  exact ⟨_,(zag (za4 (i:=2) sc_law_size.nd rfl (by first | exact Or.inl rfl | exact Or.inr rfl) (za7 G_law_number (hr.mono (by decide)) (by rfl) za8 (zab (pv 0) (zab (pv 1) zae))))
      (zag (za4 (i:=3) sc_law_size.nd rfl (by first | exact Or.inl rfl | exact Or.inr rfl) (za3 zcn (pv 2) zaw))
      (zao (zaV (za3 zcp zaw (zb5 za6 (zc7 (zab (za3 zda (pv 3) zaw) (zab (za3 zda (pv 3) zaw) (zab zaw (zab (za3 zda (pv 0) (za3 zic zaw zaw)) zae))))) (za3 zda (pv 2) zaw) (fun _ _=>rfl))))))),zdk (K:=(KX K ad)) (XO:=(xoK (KX K ad))) (E:=E) (np:=2) (nv:=2) (m:=zg6)
      (zaz (za5 (za2 (zac zaf (zac zaf zan))) zax)
      (zaz (za5 (zaA zeF zad (zav).r) zax)
      (zbg (zaA zcs (zav).r ((zaA zbH ((zcv (zac (zaA zdc zad (zav).r) (zac (zaA zdc zad (zav).r) (zac zav (zac (zaA zdc zad ((zaA ziN (zav).r (zav).r)).r) zan)))))).e.r ((zaA zdc zad (zav).r)).r)).r)))) rfl h⟩
abbrev zdz:Stmt:=top 19
theorem zgN:FnScope ["_law_script","_law_k"] ["_law_script","_law_k"] (zaj zdz):=⟨rfl,rfl,rfl,by decide +kernel,rfl,by decide +kernel,by decide +kernel⟩
theorem zgH {f:Addr} {fd:FuncData} (F:Fun K "_law_cell_at" "_law_cell_at" zdz f fd) (T:Txt K mg ad)  : FnOk P w K mg base CX0 1 f fd ["_law_script","_law_k"] (spM (KX K ad) (xoK (KX K ad)) zaI):=by
  refine F.ok zgN (fun vs H Q E h=>zbv h) (fun cdv A outer s H vs Q E hr h=>?_)
  have hu:=zbW hr
  exact ⟨_,(zag (zdZ (zbn zle (pv 1) (zar zau (by rfl) T.len PySem.boot_len (zab (pv 0) zae)) (zbN _))
      (zao (zaV (zb5 za6 (pv 0) (pv 1) (fun _ _=>rfl))))
      zbE)
      (zao (zaV zaw))),zdk (K:=(KX K ad)) (XO:=(xoK (KX K ad))) (E:=E) (np:=2) (nv:=0) (m:=zcI)
      (zaz (zdV (zbm (zaA zlI zad ((zbo zbx (zap zad zaD))).r))
      (zbg (zaA zbH zad zad))
      zbA)
      (zbg zav)) rfl h⟩
abbrev zaJ:Stmt:=top 9
theorem zfn:FnScope ["sizes"] ["sizes"] (zaj zaJ):=⟨rfl,rfl,rfl,by decide +kernel,rfl,by decide +kernel,by decide +kernel⟩
theorem zfw {f cdM tP:Addr} {oc:Value} {od anM:Option Addr} {osl:Array (Option Value)} {kVM docM pmM ctM:Value} (lk:K.lookup f=some ⟨oc,od,.func (PySem.W.fnOf "greatest_order" "greatest_order" (zcz zaJ) (zb6 zaJ) (zaj zaJ) .none kVM docM pmM anM (.ref cdM) ctM),osl⟩) (hcd:PySem.W.codeIn K (.ref cdM) "greatest_order"=true) (T:Txt K mg ad) (hT:zhq K=some (tP,#[.str ("greatest_order" ++ ".<locals>." ++ "<lambda>") 0,rawInt ((30:Nat):Int),rawInt ((41:Nat):Int)])) (hC:PySem.W.codeHdIn K cdM tP=true) (hB:BmAt mg base):FnOk P w K mg base CX0 1 f (PySem.W.fnOf "greatest_order" "greatest_order" (zcz zaJ) (zb6 zaJ) (zaj zaJ) .none kVM docM pmM anM (.ref cdM) ctM) ["sizes"] (spO (KX K ad) (xoK (KX K ad)) zaM):=by
  refine zpr lk hcd zfn (fun vs H Q E h=>zcR h) (fun A outer s H vs Q E hr h=>?_)
  have hu:=zbW hr
  exact ⟨_,(zao (zaV (znh rfl hr (by rfl) T.sorted (zab (zlq (by rfl) T.range (zab (zar zau (by rfl) T.len PySem.boot_len (zab (pv 0) zae)) zae)) zae) hT hC rfl hB (fun cc h=>by cases h; rfl) rfl (fun _ _ _ _ _ _=>rfl) rfl rfl rfl rfl rfl (by decide +kernel) rfl rfl (by decide) (by decide) (by decide)))),zd8 (K:=(KX K ad)) (XO:=(xoK (KX K ad))) (E:=E) (np:=1) (nv:=0) (m:=zdN)
      (zdh zlU) rfl h⟩
abbrev zcW:Stmt:=top 5
theorem sc_common_factor:FnScope ["one","other","great","small","rest"] ["one","other"] (zaj zcW):=⟨rfl,rfl,rfl,by decide +kernel,rfl,by decide +kernel,by decide +kernel⟩
theorem zfV {f:Addr} {fd:FuncData} (F:Fun K "common_factor" "common_factor" zcW f fd) (T:Txt K mg ad)  : FnOk P w K mg base CX0 1 f fd ["one","other"] (spM (KX K ad) (xoK (KX K ad)) zbR):=by
  refine F.ok sc_common_factor (fun vs H Q E h=>zbv h) (fun cdv A outer s H vs Q E hr h=>?_)
  have hu:=zbW hr
  exact ⟨_,(zag (za4 (i:=2) sc_common_factor.nd rfl (by first | exact Or.inl rfl | exact Or.inr rfl) (zar zjC (by rfl) T.abs boot_abs (zab (pv 0) zae)))
      (zag (za4 (i:=3) sc_common_factor.nd rfl (by first | exact Or.inl rfl | exact Or.inr rfl) (zar zjC (by rfl) T.abs boot_abs (zab (pv 1) zae)))
      (zag (znr PassesOwn.never (zbn zn4 (pv 3) zaw (zbN _))
      (zag (za4 (i:=4) sc_common_factor.nd rfl (by first | exact Or.inl rfl | exact Or.inr rfl) (za3 zda (pv 2) (pv 3)))
      (zag (za4 (i:=2) sc_common_factor.nd rfl (by first | exact Or.inl rfl | exact Or.inr rfl) (pv 3))
      (zao (za4 (i:=3) sc_common_factor.nd rfl (by first | exact Or.inl rfl | exact Or.inr rfl) (pv 4))))))
      (zao (zaV (pv 2)))))),zdk (K:=(KX K ad)) (XO:=(xoK (KX K ad))) (E:=E) (np:=2) (nv:=3) (m:=zcN)
      (zaz (za5 (zbo zoe (zap zad zaD)) zax)
      (zaz (za5 (zbo zoe (zap zad zaD)) zax)
      (zaz (znZ (zbm (zaA znI zad (zav).r))
      (zaz (za5 (zaA zdc zad zad) zax)
      (zaz (za5 zaf zax)
      (za5 zaf zax))))
      (zbg zaf)))) rfl h⟩
abbrev zjo:Stmt:=top 6
theorem sc_share:FnScope ["top","bottom","factor"] ["top","bottom"] (zaj zjo):=⟨rfl,rfl,rfl,by decide +kernel,rfl,by decide +kernel,by decide +kernel⟩
theorem znR {f:Addr} {fd:FuncData} (F:Fun K "share" "share" zjo f fd) (T:Txt K mg ad) (G_common_factor:Has P w K mg base CX0 1 "common_factor" ["one","other"] (spM (KX K ad) (xoK (KX K ad)) zbR)):FnOk P w K mg base (CX1 P w) 2 f fd ["top","bottom"] (spM (KX K ad) (xoK (KX K ad)) zcj):=by
  refine F.ok1 sc_share (fun vs H Q E h=>zbv h) (fun cdv A outer s H vs Q E hr h=>?_)
  have hu:=zbW hr
  exact ⟨_,(zag (zdZ (zbn zkv (pv 1) zaw (zbN _))
      (zao (zm4 rfl (by rfl) T.m_NoShare T.e_NoShare PySem.F.excBase_ValueError (by decide +kernel) PySem.F.excBase_ValueError zq1 (zab zqe zae)))
      zbE)
      (zag (za4 (i:=2) sc_share.nd rfl (by first | exact Or.inl rfl | exact Or.inr rfl) (za7 G_common_factor (hr.mono (by decide)) (by rfl) za8 (zab (pv 0) (zab (pv 1) zae))))
      (zag (zdZ (zbn zle (pv 1) zaw (zbN _))
      (zao (za4 (i:=2) sc_share.nd rfl (by first | exact Or.inl rfl | exact Or.inr rfl) (zoS zlW (pv 2))))
      zbE)
      (zao (zaV (zg2 (zab (za3 zcn (pv 0) (pv 2)) (zab (za3 zcn (pv 1) (pv 2)) zae)))))))),zdk (K:=(KX K ad)) (XO:=(xoK (KX K ad))) (E:=E) (np:=2) (nv:=1) (m:=zjb)
      (zaz (zdV (zbm (zaA zky zad (zav).r))
      (znA (c:=1) rfl (by decide) (zac zp5 zan))
      zbA)
      (zaz (za5 (za2 (zac zaf (zac zaf zan))) zax)
      (zaz (zdV (zbm (zaA zlI zad (zav).r))
      (za5 (zoF zl0 zad) zax)
      zbA)
      (zbg (zg0 (zac (zaA zeF zad zad) (zac (zaA zeF zad zad) zan))))))) rfl h⟩
abbrev zd5:Stmt:=top 7
theorem zhK:FnScope ["one"] ["one"] (zaj zd5):=⟨rfl,rfl,rfl,by decide +kernel,rfl,by decide +kernel,by decide +kernel⟩
theorem zhj {f:Addr} {fd:FuncData} (F:Fun K "rounded_up" "rounded_up" zd5 f fd) (T:Txt K mg ad)  : FnOk P w K mg base CX0 1 f fd ["one"] (spM (KX K ad) (xoK (KX K ad)) zba):=by
  refine F.ok zhK (fun vs H Q E h=>zbv h) (fun cdv A outer s H vs Q E hr h=>?_)
  have hu:=zbW hr
  exact ⟨_,(zao (zaV (zoS zlW (za3 zcn (zoS zlW (zb5 zoi (pv 0) zaw (fun _ _=>rfl))) (zb5 zoi (pv 0) zaw (fun _ _=>rfl)))))),zdk (K:=(KX K ad)) (XO:=(xoK (KX K ad))) (E:=E) (np:=1) (nv:=0) (m:=zd4)
      (zbg (zoF zl0 ((zaA zeF ((zoF zl0 ((zaA zol zad (zav).r)).r)).r ((zaA zol zad (zav).r)).r)).r)) rfl h⟩
abbrev zbb:Stmt:=zcX (top 16) 0
theorem zdg:FnScope ["self","works","many"] ["self","works","many"] (zaj zbb):=⟨rfl,rfl,rfl,by decide +kernel,rfl,by decide +kernel,by decide +kernel⟩
theorem zdd {f:Addr} {fd:FuncData} (F:Fun K "__init__" "BenchQuestion.__init__" zbb f fd) (T:Txt K mg ad) (G_greatest_order:Has P w K mg base CX0 1 "greatest_order" ["sizes"] (spO (KX K ad) (xoK (KX K ad)) zaM)) (G_share:Has P w K mg base (CX1 P w) 2 "share" ["top","bottom"] (spM (KX K ad) (xoK (KX K ad)) zcj)) (G_rounded_up:Has P w K mg base CX0 1 "rounded_up" ["one"] (spM (KX K ad) (xoK (KX K ad)) zba)):FnOk P w K mg base (CX1 P w) 3 f fd ["self","works","many"] (spX (KX K ad) 4 zaR):=by
  refine F.ok1 zdg (fun vs H Q E h=>zlw rfl h) (fun cdv A outer s H vs Q E hr h=>?_)
  have hu:=zbW hr
  exact ⟨_,(zag (zgj (pv 0) (pv 2) rfl)
      (zag (zgj (pv 0) (za7 G_greatest_order (hr.mono (by decide)) (by rfl) za8 (zab (pv 1) zae)) rfl)
      (zag (zgj (pv 0) (zfm rfl (zea (zcU (pv 0) rfl)) (zcT (zaj zbb) ["self","works","many"] ["works","number"] [1] 1 rfl rfl rfl (by decide +kernel) (by decide +kernel) (by decide +kernel) rfl (by decide +kernel) (fun cl C s H fp pins=>(zaO (i:=1) (show List.Nodup (["works","number"]:List Str) by decide +kernel) rfl (Or.inl rfl))) (fun cl C s H fp pins=>(zb5 za6 (pv 0) (pv 1) (fun _ _=>rfl))) (Or.inl ⟨rfl,rfl⟩))) rfl)
      (zao (zgj (pv 0) (za7 G_rounded_up (hr.mono (by decide)) (by rfl) za8 (zab (ziY G_share (hr.mono (by decide)) (by rfl) zpm (zab (zar (zbw rfl) (by rfl) T.sum boot_sum (zab (pv 1) zae)) (zab (pv 2) zae))) zae)) rfl))))),zow (K:=(KX K ad)) (E:=E) (N:=["self","works","many"]) (m:=zbc)
      (zeu (zf5 (zee T) zaf)
      (zeu (zim (zdX T) (zbY (zac zaf zan)))
      (zeu (zix (zdu T) (zbt (zdB ((zc2 (zf1 T) zad)).r) (by decide) zbi zbz (Or.inl ⟨rfl,rfl⟩) (zaA zbH zad zad)))
      (zf5 (zdT T) (za2 (zac (zhI (zac (zbo zgn (zap zad zaD)) (zac zaf zan))) zan)))))) rfl h⟩
abbrev zca:Stmt:=top 12
theorem sc_refuse_too_great:FnScope ["sizes","room","number","size"] ["sizes","room"] (zaj zca):=⟨rfl,rfl,rfl,by decide +kernel,rfl,by decide +kernel,by decide +kernel⟩
theorem zeJ {f:Addr} {fd:FuncData} (F:Fun K "refuse_too_great" "refuse_too_great" zca f fd) (T:Txt K mg ad)  (I_NoRoom:HasI P w K mg base ad.f_NoRoom ["self","thing"] (spI K "thing")):FnOk P w K mg base (CX1 P w) 3 f fd ["sizes","room"] (spM (KX K ad) (xoK (KX K ad)) zaQ):=by
  refine F.ok1 sc_refuse_too_great (fun vs H Q E h=>zbv h) (fun cdv A outer s H vs Q E hr h=>?_)
  have hu:=zbW hr
  exact ⟨_,(zao (zd9 PassesOwn.leaving rfl (zgA rfl T.enumerate (zab (pv 0) zae)) (zdQ rfl (zaY (zaO (i:=2) sc_refuse_too_great.nd rfl (by first | exact Or.inl rfl | exact Or.inr rfl)) (zaY (zaO (i:=3) sc_refuse_too_great.nd rfl (by first | exact Or.inl rfl | exact Or.inr rfl)) zcx)))
      (zao (zdZ (zbn zn4 (pv 3) (pv 1) (zbN _))
      (zao (zlC rfl rfl (by rfl) T.m_NoRoom T.i_NoRoom PySem.F.excBase_ValueError (by decide +kernel) PySem.F.excBase_ValueError zqb I_NoRoom (hr.mono (by decide)) T.fn_NoRoom (zab (pv 2) zae)))
      zbE)))),zdk (K:=(KX K ad)) (XO:=(xoK (KX K ad))) (E:=E) (np:=2) (nv:=2) (m:=zbk)
      (zeC (zmo (zac zaf zan)) (zdP (zaZ zax (zaZ zax zcB)))
      (zdV (zbm (zaA znI zad zad))
      (zmN (c0:=2) (by decide) (fun k=>(zln k).symm) zmA T.a_NoRoom T.na_NoRoom (zac zaf zan))
      zbA)) rfl h⟩
abbrev zbh:Stmt:=zcX (top 17) 0
theorem zdL:FnScope ["self","sizes","room"] ["self","sizes","room"] (zaj zbh):=⟨rfl,rfl,rfl,by decide +kernel,rfl,by decide +kernel,by decide +kernel⟩
theorem zdG {f:Addr} {fd:FuncData} (F:Fun K "__init__" "BinQuestion.__init__" zbh f fd) (T:Txt K mg ad) (G_greatest_order:Has P w K mg base CX0 1 "greatest_order" ["sizes"] (spO (KX K ad) (xoK (KX K ad)) zaM)) (G_refuse_too_great:Has P w K mg base (CX1 P w) 3 "refuse_too_great" ["sizes","room"] (spM (KX K ad) (xoK (KX K ad)) zaQ)):FnOk P w K mg base (CX1 P w) 4 f fd ["self","sizes","room"] (spX (KX K ad) 5 zay):=by
  refine F.ok1 zdL (fun vs H Q E h=>zlw rfl h) (fun cdv A outer s H vs Q E hr h=>?_)
  have hu:=zbW hr
  exact ⟨_,(zag (zeQ (ziY G_refuse_too_great (hr.mono (by decide)) (by rfl) zpm (zab (pv 1) (zab (pv 2) zae))))
      (zag (zgj (pv 0) (pv 2) rfl)
      (zag (zgj (pv 0) (za7 G_greatest_order (hr.mono (by decide)) (by rfl) za8 (zab (pv 1) zae)) rfl)
      (zao (zgj (pv 0) (zfm rfl (zea (zcU (pv 0) rfl)) (zcT (zaj zbh) ["self","sizes","room"] ["sizes","number"] [1] 1 rfl rfl rfl (by decide +kernel) (by decide +kernel) (by decide +kernel) rfl (by decide +kernel) (fun cl C s H fp pins=>(zaO (i:=1) (show List.Nodup (["sizes","number"]:List Str) by decide +kernel) rfl (Or.inl rfl))) (fun cl C s H fp pins=>(zb5 za6 (pv 0) (pv 1) (fun _ _=>rfl))) (Or.inl ⟨rfl,rfl⟩))) rfl))))),zow (K:=(KX K ad)) (E:=E) (N:=["self","sizes","room"]) (m:=zaW)
      (zeu (zl2 (zhI (zac zaf (zac zaf zan))))
      (zeu (zf5 (zeL T) zaf)
      (zeu (zim (zey T) (zbY (zac zaf zan)))
      (zix (zdY T) (zbt (zdB ((zc2 (zf1 T) zad)).r) (by decide) zbi zbz (Or.inl ⟨rfl,rfl⟩) (zaA zbH zad zad)))))) rfl h⟩
abbrev zcP:Stmt:=top 24
theorem sc_law_order:FnScope ["_law_sizes","_law_order_here","_law_k","_law_size_here","_law_ahead"] ["_law_sizes"] (zaj zcP):=⟨rfl,rfl,rfl,by decide +kernel,rfl,by decide +kernel,by decide +kernel⟩
theorem zhZ {f:Addr} {fd:FuncData} (F:Fun K "_law_order" "_law_order" zcP f fd) (T:Txt K mg ad)  : FnOk P w K mg base CX0 1 f fd ["_law_sizes"] (spO (KX K ad) (xoK (KX K ad)) zcd):=by
  refine F.ok sc_law_order (fun vs H Q E h=>zcR h) (fun cdv A outer s H vs Q E hr h=>?_)
  have hu:=zbW hr
  exact ⟨_,(zag (zdJ (i:=1) sc_law_order.nd rfl (by first | exact Or.inl rfl | exact Or.inr rfl) rfl (zea (pv 0)) (zcT (zaj zcP) ["_law_sizes","_law_order_here","_law_k","_law_size_here","_law_ahead"] ["_law_size_here"] [] 1 rfl rfl rfl (by decide +kernel) (by decide +kernel) (by decide +kernel) rfl (by decide +kernel) (fun cl C s H fp pins=>(zaO (i:=0) (show List.Nodup (["_law_size_here"]:List Str) by decide +kernel) rfl (Or.inl rfl))) (fun cl C s H fp pins=>zaw) (Or.inl ⟨rfl,rfl⟩)) rfl)
      (zag (zd9 PassesOwn.never rfl (zgA rfl T.enumerate (zab (pv 0) zae)) (zdQ rfl (zaY (zaO (i:=2) sc_law_order.nd rfl (by first | exact Or.inl rfl | exact Or.inr rfl)) (zaY (zaO (i:=3) sc_law_order.nd rfl (by first | exact Or.inl rfl | exact Or.inr rfl)) zcx)))
      (zag (zdJ (i:=4) sc_law_order.nd rfl (by first | exact Or.inl rfl | exact Or.inr rfl) rfl (zgA rfl T.enumerate (zab (pv 0) zae)) (zcT (zaj zcP) ["_law_sizes","_law_order_here","_law_k","_law_size_here","_law_ahead"] ["_law_size_here","_law_k","_law_j","_law_other"] [3,2] 2 rfl rfl rfl (by decide +kernel) (by decide +kernel) (by decide +kernel) rfl (by decide +kernel) (fun cl C s H fp pins=>(zdQ rfl (zaY (zaO (i:=2) (show List.Nodup (["_law_size_here","_law_k","_law_j","_law_other"]:List Str) by decide +kernel) rfl (Or.inl rfl)) (zaY (zaO (i:=3) (show List.Nodup (["_law_size_here","_law_k","_law_j","_law_other"]:List Str) by decide +kernel) rfl (Or.inl rfl)) zcx)))) (fun cl C s H fp pins=>(pv 2)) (Or.inr ⟨_,_,rfl,rfl,fun cl C s H fp pins=>((zhR (zbn zn4 (pv 3) (pv 0) (zbN _)) (zfC ((zqM (zbn zkv (pv 3) (pv 0) (zbN _)) (zpJ (zbn zle (pv 2) (pv 1) (zbN _))))).pt))).pt⟩)) rfl)
      (zao (ziV (pv 2) (zid (pv 1) (zar zau (by rfl) T.len PySem.boot_len (zab (pv 4) zae)) zdx)))))
      (zao (zaV (pv 1))))),zd8 (K:=(KX K ad)) (XO:=(xoK (KX K ad))) (E:=E) (np:=1) (nv:=4) (m:=zgk)
      (zaz (zfK (zbt (zdB zad) (by decide) zbi zbz (Or.inl ⟨rfl,rfl⟩) zav))
      (zaz (zeC (zmo (zac zaf zan)) (zdP (zaZ zax (zaZ zax zcB)))
      (zaz (za5 ((zbt (zhx (zap zad zaD)) (by decide) (zdP (zaZ zbi (zaZ zbi zcB))) (zmB (zeo zbz (zeo zbz zjd))) (Or.inr ⟨_,_,rfl,rfl,(zhN (zbm (zaA znI zad zad)) (zpW (zbm (zaA zky zad zad)) (zbm (zaA zlI zad zad))))⟩) zaf)).e zax)
      (zgc (zbo zbx (zap zad zaD)) zaf)))
      zja)) rfl h⟩
abbrev zhd:Stmt:=top 25
theorem zmf:FnScope ["_law_much","_law_by"] ["_law_much","_law_by"] (zaj zhd):=⟨rfl,rfl,rfl,by decide +kernel,rfl,by decide +kernel,by decide +kernel⟩
theorem zm1 {f:Addr} {fd:FuncData} (F:Fun K "_law_up" "_law_up" zhd f fd) (T:Txt K mg ad)  : FnOk P w K mg base CX0 1 f fd ["_law_much","_law_by"] (spM (KX K ad) (xoK (KX K ad)) zc8):=by
  refine F.ok zmf (fun vs H Q E h=>zbv h) (fun cdv A outer s H vs Q E hr h=>?_)
  have hu:=zbW hr
  exact ⟨_,(zag (zdZ (zbn zny (pv 0) zaw (zbN _))
      (zao (zaV zaw))
      zbE)
      (zao (zaV (za3 zcp (za3 zcn (za3 zj3 (pv 0) zaw) (pv 1)) zaw)))),zdk (K:=(KX K ad)) (XO:=(xoK (KX K ad))) (E:=E) (np:=2) (nv:=0) (m:=zjK)
      (zaz (zdV (zbm (zaA znx zad (zav).r))
      (zbg zav)
      zbA)
      (zbg (zaA zcs ((zaA zeF ((zaA zjN zad (zav).r)).r zad)).r (zav).r))) rfl h⟩
abbrev zce:Stmt:=top 26
theorem sc_law_bench:FnScope ["_law_sizes","_law_order_here","_law_many","_law_case","_law_sums","_law_number_here","_law_bench_here","_law_used"] ["_law_sizes","_law_order_here","_law_many","_law_case"] (zaj zce):=⟨rfl,rfl,rfl,by decide +kernel,rfl,by decide +kernel,by decide +kernel⟩
theorem zio {f:Addr} {fd:FuncData} (F:Fun K "_law_bench" "_law_bench" zce f fd) (T:Txt K mg ad) (G_law_up:Has P w K mg base CX0 1 "_law_up" ["_law_much","_law_by"] (spM (KX K ad) (xoK (KX K ad)) zc8)):FnOk P w K mg base CX0 2 f fd ["_law_sizes","_law_order_here","_law_many","_law_case"] (spO (KX K ad) (xoK (KX K ad)) zck):=by
  refine F.ok sc_law_bench (fun vs H Q E h=>zcR h) (fun cdv A outer s H vs Q E hr h=>?_)
  have hu:=zbW hr
  exact ⟨_,(zag (zdJ (i:=4) sc_law_bench.nd rfl (by first | exact Or.inl rfl | exact Or.inr rfl) rfl (zdr rfl T.range (zab (pv 2) zae)) (zcT (zaj zce) ["_law_sizes","_law_order_here","_law_many","_law_case","_law_sums","_law_number_here","_law_bench_here","_law_used"] ["_law_k"] [] 1 rfl rfl rfl (by decide +kernel) (by decide +kernel) (by decide +kernel) rfl (by decide +kernel) (fun cl C s H fp pins=>(zaO (i:=0) (show List.Nodup (["_law_k"]:List Str) by decide +kernel) rfl (Or.inl rfl))) (fun cl C s H fp pins=>zaw) (Or.inl ⟨rfl,rfl⟩)) rfl)
      (zag (zd9 PassesOwn.never rfl (zfz rfl T.zip (zab (pv 1) (zab (pv 3) zae))) (zdQ rfl (zaY (zaO (i:=5) sc_law_bench.nd rfl (by first | exact Or.inl rfl | exact Or.inr rfl)) (zaY (zaO (i:=6) sc_law_bench.nd rfl (by first | exact Or.inl rfl | exact Or.inr rfl)) zcx)))
      (zao (ziV (za3 zcp (zb5 za6 (pv 4) (pv 6) (fun _ _=>rfl)) (zb5 za6 (pv 0) (pv 5) (fun _ _=>rfl))) (zid (pv 4) (pv 6) zdx))))
      (zag (za4 (i:=7) sc_law_bench.nd rfl (by first | exact Or.inl rfl | exact Or.inr rfl) (zar zau (by rfl) T.len PySem.boot_len (zab (zfm rfl (zea (pv 4)) (zcT (zaj zce) ["_law_sizes","_law_order_here","_law_many","_law_case","_law_sums","_law_number_here","_law_bench_here","_law_used"] ["_law_one"] [] 1 rfl rfl rfl (by decide +kernel) (by decide +kernel) (by decide +kernel) rfl (by decide +kernel) (fun cl C s H fp pins=>(zaO (i:=0) (show List.Nodup (["_law_one"]:List Str) by decide +kernel) rfl (Or.inl rfl))) (fun cl C s H fp pins=>(pv 0)) (Or.inr ⟨_,_,rfl,rfl,fun cl C s H fp pins=>(zbn zn4 (pv 0) zaw (zbN _))⟩))) zae)))
      (zao (zaV (zc7 (zab (zfm rfl (zdr rfl T.range (zab (pv 2) zae)) (zcT (zaj zce) ["_law_sizes","_law_order_here","_law_many","_law_case","_law_sums","_law_number_here","_law_bench_here","_law_used"] ["_law_used","_law_k"] [7] 1 rfl rfl rfl (by decide +kernel) (by decide +kernel) (by decide +kernel) rfl (by decide +kernel) (fun cl C s H fp pins=>(zaO (i:=1) (show List.Nodup (["_law_used","_law_k"]:List Str) by decide +kernel) rfl (Or.inl rfl))) (fun cl C s H fp pins=>(pv 1)) (Or.inr ⟨_,_,rfl,rfl,fun cl C s H fp pins=>(zbn zny (pv 1) (pv 0) (zbN _))⟩))) (zab (zar (zgm rfl) (by rfl) T.max boot_max (zab (zar (ziv rfl) (by rfl) T.max boot_max (zab (pv 4) zae)) (zab (za7 G_law_up (hr.mono (by decide)) (by rfl) za8 (zab (zar (zbw rfl) (by rfl) T.sum boot_sum (zab (pv 0) zae)) (zab (pv 2) zae))) zae))) zae)))))))),zd8 (K:=(KX K ad)) (XO:=(xoK (KX K ad))) (E:=E) (np:=4) (nv:=4) (m:=zf4)
      (zaz (zfK (zbt (zdl len1 (zac zaf zan)).c (by decide) zbi zbz (Or.inl ⟨rfl,rfl⟩) zav))
      (zaz (zeC (zfr (zac zaf (zac zaf zan))) (zdP (zaZ zax (zaZ zax zcB)))
      (zgc zaf (zaA zcs ((zaA zbH zad zad)).r ((zaA zbH zad zad)).r)))
      (zaz (za5 (zbo zbx (zap ((zbt (zdB zad) (by decide) zbi zbz (Or.inr ⟨_,_,rfl,rfl,(zbm (zaA znI zad (zav).r))⟩) zaf)).e.r zaD)) zax)
      (zdh (zcv (zac ((zbt (zdl len1 (zac zaf zan)).c (by decide) zbi zbz (Or.inr ⟨_,_,rfl,rfl,(zbm (zaA znx zad zad))⟩) zaf)).e (zac (zbo zje (zap ((zbo zlk (zap zad zaD))).r (zap ((za2 (zac (zbo zgn (zap zad zaD)) (zac zaf zan)))).r zaD))) zan))))))) rfl h⟩
abbrev zeh:Stmt:=top 27
theorem sc_law_bin:FnScope ["_law_sizes","_law_order_here","_law_room","_law_case","_law_sums","_law_number_here","_law_spot","_law_rest","_law_low","_law_fits"] ["_law_sizes","_law_order_here","_law_room","_law_case"] (zaj zeh):=⟨rfl,rfl,rfl,by decide +kernel,rfl,by decide +kernel,by decide +kernel⟩
theorem zkI {f:Addr} {fd:FuncData} (F:Fun K "_law_bin" "_law_bin" zeh f fd) (T:Txt K mg ad) (G_law_up:Has P w K mg base CX0 1 "_law_up" ["_law_much","_law_by"] (spM (KX K ad) (xoK (KX K ad)) zc8)):FnOk P w K mg base CX0 2 f fd ["_law_sizes","_law_order_here","_law_room","_law_case"] (spO (KX K ad) (xoK (KX K ad)) zel):=by
  refine F.ok sc_law_bin (fun vs H Q E h=>zcR h) (fun cdv A outer s H vs Q E hr h=>?_)
  have hu:=zbW hr
  exact ⟨_,(zag (za4 (i:=4) sc_law_bin.nd rfl (by first | exact Or.inl rfl | exact Or.inr rfl) (zc7 zae))
      (zag (zd9 PassesOwn.never rfl (zfz rfl T.zip (zab (pv 1) (zab (pv 3) zae))) (zdQ rfl (zaY (zaO (i:=5) sc_law_bin.nd rfl (by first | exact Or.inl rfl | exact Or.inr rfl)) (zaY (zaO (i:=6) sc_law_bin.nd rfl (by first | exact Or.inl rfl | exact Or.inr rfl)) zcx)))
      (zag (zdZ (zbn zkv (pv 6) (zar zau (by rfl) T.len PySem.boot_len (zab (pv 4) zae)) (zbN _))
      (zao (zeQ (zpt PySem.F.plainAttrs_list PySem.F.slot_list_append PySem.F.type_list_append zeT (pv 4) (zab zaw zae))))
      zbE)
      (zao (ziV (za3 zcp (zb5 za6 (pv 4) (pv 6) (fun _ _=>rfl)) (zb5 za6 (pv 0) (pv 5) (fun _ _=>rfl))) (zid (pv 4) (pv 6) zdx)))))
      (zag (za4 (i:=7) sc_law_bin.nd rfl (by first | exact Or.inl rfl | exact Or.inr rfl) (zar (zbw rfl) (by rfl) T.sum boot_sum (zab (zfm rfl (zea (zfY zhv (pv 1) (zga (zar zau (by rfl) T.len PySem.boot_len (zab (pv 3) zae))) zi6)) (zcT (zaj zeh) ["_law_sizes","_law_order_here","_law_room","_law_case","_law_sums","_law_number_here","_law_spot","_law_rest","_law_low","_law_fits"] ["_law_sizes","_law_number_here"] [0] 1 rfl rfl rfl (by decide +kernel) (by decide +kernel) (by decide +kernel) rfl (by decide +kernel) (fun cl C s H fp pins=>(zaO (i:=1) (show List.Nodup (["_law_sizes","_law_number_here"]:List Str) by decide +kernel) rfl (Or.inl rfl))) (fun cl C s H fp pins=>(zb5 za6 (pv 0) (pv 1) (fun _ _=>rfl))) (Or.inl ⟨rfl,rfl⟩))) zae)))
      (zag (za4 (i:=8) sc_law_bin.nd rfl (by first | exact Or.inl rfl | exact Or.inr rfl) (za3 zcp (zar zau (by rfl) T.len PySem.boot_len (zab (pv 4) zae)) (za7 G_law_up (hr.mono (by decide)) (by rfl) za8 (zab (za3 zcp (za3 zj3 (pv 7) (za3 zhm (zar zau (by rfl) T.len PySem.boot_len (zab (pv 4) zae)) (pv 2))) (zar (zbw rfl) (by rfl) T.sum boot_sum (zab (pv 4) zae))) (zab (pv 2) zae)))))
      (zag (zdZ (zbn zkv (zar zau (by rfl) T.len PySem.boot_len (zab (pv 3) zae)) (zar zau (by rfl) T.len PySem.boot_len (zab (pv 1) zae)) (zbN _))
      (zao (zaV (zc7 (zab (zc7 zae) (zab (pv 8) zae)))))
      zbE)
      (zag (zdJ (i:=9) sc_law_bin.nd rfl (by first | exact Or.inl rfl | exact Or.inr rfl) rfl (zdr rfl T.range (zab (zar zau (by rfl) T.len PySem.boot_len (zab (pv 4) zae)) zae)) (zcT (zaj zeh) ["_law_sizes","_law_order_here","_law_room","_law_case","_law_sums","_law_number_here","_law_spot","_law_rest","_law_low","_law_fits"] ["_law_room","_law_sums","_law_sizes","_law_order_here","_law_case","_law_k"] [2,4,0,1,3] 1 rfl rfl rfl (by decide +kernel) (by decide +kernel) (by decide +kernel) rfl (by decide +kernel) (fun cl C s H fp pins=>(zaO (i:=5) (show List.Nodup (["_law_room","_law_sums","_law_sizes","_law_order_here","_law_case","_law_k"]:List Str) by decide +kernel) rfl (Or.inl rfl))) (fun cl C s H fp pins=>(pv 5)) (Or.inr ⟨_,_,rfl,rfl,fun cl C s H fp pins=>(zbn zny (za3 zcp (zb5 za6 (pv 1) (pv 5) (fun _ _=>rfl)) (zb5 za6 (pv 2) (zb5 za6 (pv 3) (zar zau (by rfl) (by exact T.len) PySem.boot_len (zab (pv 4) zae)) (fun _ _=>rfl)) (fun _ _=>rfl))) (pv 0) (zbN _))⟩)) rfl)
      (zao (zaV (zc7 (zab (za3 zjg (pv 9) (zc7 (zab (zar zau (by rfl) T.len PySem.boot_len (zab (pv 4) zae)) zae))) (zab (pv 8) zae))))))))))),zd8 (K:=(KX K ad)) (XO:=(xoK (KX K ad))) (E:=E) (np:=4) (nv:=6) (m:=zia)
      (zaz (zfK (zcv zan))
      (zaz (zeC (zfr (zac zaf (zac zaf zan))) (zdP (zaZ zax (zaZ zax zcB)))
      (zaz (zdV (zbm (zaA zky zad ((zbo zbx (zap zad zaD))).r))
      (zf8 zav)
      zbA)
      (zgc zaf (zaA zcs ((zaA zbH zad zad)).r ((zaA zbH zad zad)).r))))
      (zaz (za5 (zbo zgn (zap ((zbt (zdB ((zeZ zad (zgq (zbo zbx (zap zad zaD))) zoK)).e.r) (by decide) zbi zbz (Or.inl ⟨rfl,rfl⟩) (zaA zbH zad zad))).e.r zaD)) zax)
      (zaz (za5 (zaA zcs ((zbo zbx (zap zad zaD))).r ((za2 (zac (zaA zcs ((zaA zjN zad ((zaA zjW ((zbo zbx (zap zad zaD))).r zad)).r)).r ((zbo zgn (zap zad zaD))).r) (zac zaf zan)))).r) zax)
      (zaz (zdV (zbm (zaA zky ((zbo zbx (zap zad zaD))).r ((zbo zbx (zap zad zaD))).r))
      (zdh (zcv (zac ((zcv zan)).e (zac zaf zan))))
      zbA)
      (zaz (za5 ((zbt (zdl len1 (zac (zbo zbx (zap zad zaD)) zan)).c (by decide) zbi zbz (Or.inr ⟨_,_,rfl,rfl,(zbm (zaA znx ((zaA zcs ((zaA zbH zad zad)).r ((zaA zbH zad ((zaA zbH zad ((zbo zbx (zap zad zaD))).r)).r)).r)).r zad))⟩) zaf)).e zax)
      (zdh (zcv (zac ((zl1 zlE zad ((zcv (zac (zbo zbx (zap zad zaD)) zan))).e.r)).e (zac zaf zan)))))))))) rfl h⟩
abbrev zgw:Stmt:=top 28
theorem zkH:FnScope ["_law_kind","_law_sizes","_law_order_here","_law_bound","_law_case"] ["_law_kind","_law_sizes","_law_order_here","_law_bound","_law_case"] (zaj zgw):=⟨rfl,rfl,rfl,by decide +kernel,rfl,by decide +kernel,by decide +kernel⟩
theorem zkU {f:Addr} {fd:FuncData} (F:Fun K "_law_due" "_law_due" zgw f fd) (T:Txt K mg ad) (G_law_bench:Has P w K mg base CX0 2 "_law_bench" ["_law_sizes","_law_order_here","_law_many","_law_case"] (spO (KX K ad) (xoK (KX K ad)) zck)) (G_law_bin:Has P w K mg base CX0 2 "_law_bin" ["_law_sizes","_law_order_here","_law_room","_law_case"] (spO (KX K ad) (xoK (KX K ad)) zel)):FnOk P w K mg base CX0 3 f fd ["_law_kind","_law_sizes","_law_order_here","_law_bound","_law_case"] (spO (KX K ad) (xoK (KX K ad)) zbq):=by
  refine F.ok zkH (fun vs H Q E h=>zcR h) (fun cdv A outer s H vs Q E hr h=>?_)
  have hu:=zbW hr
  exact ⟨_,(zag (zdZ (zbn zkv (pv 0) zaw (zbN _))
      (zao (zaV (za7 G_law_bench (hr.mono (by decide)) (by rfl) za8 (zab (pv 1) (zab (pv 2) (zab (pv 3) (zab (pv 4) zae)))))))
      zbE)
      (zao (zaV (za7 G_law_bin (hr.mono (by decide)) (by rfl) za8 (zab (pv 1) (zab (pv 2) (zab (pv 3) (zab (pv 4) zae)))))))),zd8 (K:=(KX K ad)) (XO:=(xoK (KX K ad))) (E:=E) (np:=5) (nv:=0) (m:=zis)
      (zaz (zdV (zbm (zaA zky zad (zav).r))
      (zdh (zbY (zac zaf (zac zaf (zac zaf (zac zaf zan))))))
      zbA)
      (zdh (zbY (zac zaf (zac zaf (zac zaf (zac zaf zan))))))) rfl h⟩
abbrev zbV:Stmt:=zcX (top 16) 2
theorem sc_BenchQuestion_ways:FnScope ["self","case","used"] ["self","case"] (zaj zbV):=⟨rfl,rfl,rfl,by decide +kernel,rfl,by decide +kernel,by decide +kernel⟩
theorem zej {f:Addr} {fd:FuncData} (F:Fun K "ways" "BenchQuestion.ways" zbV f fd) (T:Txt K mg ad)  : FnOk P w K mg base CX0 1 f fd ["self","case"] (spO (KX K ad) (xoK (KX K ad)) zaC):=by
  refine F.ok sc_BenchQuestion_ways (fun vs H Q E h=>zcR h) (fun cdv A outer s H vs Q E hr h=>?_)
  have hu:=zbW hr
  exact ⟨_,(zag (za4 (i:=2) sc_BenchQuestion_ways.nd rfl (by first | exact Or.inl rfl | exact Or.inr rfl) (zar zh0 (by rfl) T.len PySem.boot_len (zab (zei (zh2 rfl) (by rfl) T.set boot_set (zab (pv 1) zae)) zae)))
      (zao (zaV (zei (zkQ rfl) (by rfl) T.list boot_list (zab (zlq (by rfl) T.range (zab (zar (zir rfl) (by rfl) T.min boot_min (zab (za3 zcp (pv 2) zaw) (zab (zcU (pv 0) rfl) zae))) zae)) zae))))),zd8 (K:=(KX K ad)) (XO:=(xoK (KX K ad))) (E:=E) (np:=2) (nv:=1) (m:=zcC)
      (zaz (za5 (zg8 (zac zaf zan)) zax)
      (zdh (zmq (zac (zbo zlg (zap ((zaA zcs zad (zav).r)).r (zap ((zc2 (zlX T) zad)).r zaD))) zan)))) rfl h⟩
abbrev zbF:Stmt:=zcX (top 17) 1
theorem sc_BinQuestion_free:FnScope ["self","case","left","size","chosen"] ["self","case"] (zaj zbF):=⟨rfl,rfl,rfl,by decide +kernel,rfl,by decide +kernel,by decide +kernel⟩
theorem zeP {f:Addr} {fd:FuncData} (F:Fun K "free" "BinQuestion.free" zbF f fd) (T:Txt K mg ad)  : FnOk P w K mg base CX0 1 f fd ["self","case"] (spO (KX K ad) (xoK (KX K ad)) zaP):=by
  refine F.ok sc_BinQuestion_free (fun vs H Q E h=>zcR h) (fun cdv A outer s H vs Q E hr h=>?_)
  have hu:=zbW hr
  exact ⟨_,(zag (zdJ (i:=2) sc_BinQuestion_free.nd rfl (by first | exact Or.inl rfl | exact Or.inr rfl) rfl (zdr rfl T.range (zab (zar zh0 (by rfl) T.len PySem.boot_len (zab (zei (zh2 rfl) (by rfl) T.set boot_set (zab (pv 1) zae)) zae)) zae)) (zcT (zaj zbF) ["self","case","left","size","chosen"] ["self","number"] [0] 1 rfl rfl rfl (by decide +kernel) (by decide +kernel) (by decide +kernel) rfl (by decide +kernel) (fun cl C s H fp pins=>(zaO (i:=1) (show List.Nodup (["self","number"]:List Str) by decide +kernel) rfl (Or.inl rfl))) (fun cl C s H fp pins=>(zcU (pv 0) rfl)) (Or.inl ⟨rfl,rfl⟩)) rfl)
      (zag (zd9 PassesOwn.never rfl (zfz rfl T.zip (zab (zcU (pv 0) rfl) (zab (pv 1) zae))) (zdQ rfl (zaY (zaO (i:=3) sc_BinQuestion_free.nd rfl (by first | exact Or.inl rfl | exact Or.inr rfl)) (zaY (zaO (i:=4) sc_BinQuestion_free.nd rfl (by first | exact Or.inl rfl | exact Or.inr rfl)) zcx)))
      (zao (zlK (pv 2) (pv 4) zjU (pv 3) zqN zdx)))
      (zao (zaV (pv 2))))),zd8 (K:=(KX K ad)) (XO:=(xoK (KX K ad))) (E:=E) (np:=2) (nv:=3) (m:=zc3)
      (zaz (zfK (zbt (zdl len1 (zac (zg8 (zac zaf zan)) zan)).c (by decide) zbi zbz (Or.inl ⟨rfl,rfl⟩) (zc2 (zlN T) zad)))
      (zaz (zeC (zfr (zac (zc2 (zcL T) zad) (zac zaf zan))) (zdP (zaZ zax (zaZ zax zcB)))
      (zlQ zaf zaf))
      zja)) rfl h⟩
abbrev zbI:Stmt:=zcX (top 17) 3
theorem sc_BinQuestion_ways:FnScope ["self","case","left","size"] ["self","case"] (zaj zbI):=⟨rfl,rfl,rfl,by decide +kernel,rfl,by decide +kernel,by decide +kernel⟩
theorem zeI {f:Addr} {fd:FuncData} (F:Fun K "ways" "BinQuestion.ways" zbI f fd) (T:Txt K mg ad) (G_BinQuestion_free:HasM P w K mg base CX0 1 "free" ad.BinQuestion ["self","case"] (spO (KX K ad) (xoK (KX K ad)) zaP)):FnOk P w K mg base CX0 2 f fd ["self","case"] (spO (KX K ad) (xoK (KX K ad)) zaG):=by
  refine F.ok sc_BinQuestion_ways (fun vs H Q E h=>zcR h) (fun cdv A outer s H vs Q E hr h=>?_)
  have hu:=zbW hr
  exact ⟨_,(zag (za4 (i:=2) sc_BinQuestion_ways.nd rfl (by first | exact Or.inl rfl | exact Or.inr rfl) (zbD G_BinQuestion_free (hr.mono (by decide)) za8 (pv 0) (zab (pv 1) zae)))
      (zag (za4 (i:=3) sc_BinQuestion_ways.nd rfl (by first | exact Or.inl rfl | exact Or.inr rfl) (zb5 za6 (zcU (pv 0) rfl) (zar zau (by rfl) T.len PySem.boot_len (zab (pv 1) zae)) (fun _ _=>rfl)))
      (zao (zaV (za3 zjg (zfm rfl (zgA rfl T.enumerate (zab (pv 2) zae)) (zcT (zaj zbI) ["self","case","left","size"] ["size","number","space"] [3] 2 rfl rfl rfl (by decide +kernel) (by decide +kernel) (by decide +kernel) rfl (by decide +kernel) (fun cl C s H fp pins=>(zdQ rfl (zaY (zaO (i:=1) (show List.Nodup (["size","number","space"]:List Str) by decide +kernel) rfl (Or.inl rfl)) (zaY (zaO (i:=2) (show List.Nodup (["size","number","space"]:List Str) by decide +kernel) rfl (Or.inl rfl)) zcx)))) (fun cl C s H fp pins=>(pv 1)) (Or.inr ⟨_,_,rfl,rfl,fun cl C s H fp pins=>(zbn zny (pv 0) (pv 2) (zbN _))⟩))) (zc7 (zab (zar zau (by rfl) T.len PySem.boot_len (zab (pv 2) zae)) zae))))))),zd8 (K:=(KX K ad)) (XO:=(xoK (KX K ad))) (E:=E) (np:=2) (nv:=2) (m:=zc6)
      (zaz (za5 ((zbZ rfl zaf (zac zaf zan))).e zax)
      (zaz (za5 (zaA zbH ((zc2 (zcL T) zad)).r ((zbo zbx (zap zad zaD))).r) zax)
      (zdh (zl1 zlE ((zbt (zhx (zap zad zaD)) (by decide) (zdP (zaZ zbi (zaZ zbi zcB))) (zmB (zeo zbz (zeo zbz zjd))) (Or.inr ⟨_,_,rfl,rfl,(zbm (zaA znx zad zad))⟩) zaf)).e.r ((zcv (zac (zbo zbx (zap zad zaD)) zan))).e.r)))) rfl h⟩
abbrev zhs:Stmt:=top 21
theorem zl5:FnScope ["_law_found","_law_due_here"] ["_law_found","_law_due_here"] (zaj zhs):=⟨rfl,rfl,rfl,by decide +kernel,rfl,by decide +kernel,by decide +kernel⟩
theorem zmd {f:Addr} {fd:FuncData} (F:Fun K "_law_is" "_law_is" zhs f fd) (T:Txt K mg ad)  : FnOk P w K mg base CX0 1 f fd ["_law_found","_law_due_here"] (spM (KX K ad) (xoK (KX K ad)) zbd):=by
  refine F.ok zl5 (fun vs H Q E h=>zbv h) (fun cdv A outer s H vs Q E hr h=>?_)
  have hu:=zbW hr
  exact ⟨_,(zao (zaV (zjM (zar zbP (by rfl) T.isinstance boot_isinstance (zab (pv 0) (zab (zi9 (v:=.ty "int") (by rfl) T.int boot_int rfl) zae))) (zjM (zqF (zar zbP (by rfl) T.isinstance boot_isinstance (zab (pv 0) (zab (zi9 (v:=.ty "bool") (by rfl) T.bool boot_bool rfl) zae)))) (zmE (zjr zkv (pv 0) (pv 1) (zbN _))))))),zdk (K:=(KX K ad)) (XO:=(xoK (KX K ad))) (E:=E) (np:=2) (nv:=0) (m:=zkb)
      (zbg (zjI (zmi znL zad) (zjI (zqt (zmi zmQ zad)) (zaA zky zad zad)))) rfl h⟩
abbrev zdD:Stmt:=top 22
theorem sc_law_numbers:FnScope ["_law_found","_law_due_here","_law_one","_law_other"] ["_law_found","_law_due_here"] (zaj zdD):=⟨rfl,rfl,rfl,by decide +kernel,rfl,by decide +kernel,by decide +kernel⟩
theorem zgC {f:Addr} {fd:FuncData} (F:Fun K "_law_numbers" "_law_numbers" zdD f fd) (T:Txt K mg ad) (G_law_is:Has P w K mg base CX0 1 "_law_is" ["_law_found","_law_due_here"] (spM (KX K ad) (xoK (KX K ad)) zbd)):FnOk P w K mg base CX0 2 f fd ["_law_found","_law_due_here"] (spM (KX K ad) (xoK (KX K ad)) zaL):=by
  refine F.ok sc_law_numbers (fun vs H Q E h=>zbv h) (fun cdv A outer s H vs Q E hr h=>?_)
  have hu:=zbW hr
  exact ⟨_,(zag (zdZ ((zhR (zc4 (zc9 (zar zbP (by rfl) T.isinstance boot_isinstance (zab (pv 0) (zab (zi9 (v:=.ty "list") (by rfl) T.list boot_list rfl) zae))))) (zfC (zbn zra (zar zau (by rfl) T.len PySem.boot_len (zab (pv 0) zae)) (zar zau (by rfl) T.len PySem.boot_len (zab (pv 1) zae)) (zbN _))))).pt
      (zao (zaV zfR))
      zbE)
      (zag (zd9 PassesOwn.never rfl (zqa rfl T.zip (zab (pv 0) (zab (pv 1) zae))) (zdQ rfl (zaY (zaO (i:=2) sc_law_numbers.nd rfl (by first | exact Or.inl rfl | exact Or.inr rfl)) (zaY (zaO (i:=3) sc_law_numbers.nd rfl (by first | exact Or.inl rfl | exact Or.inr rfl)) zcx)))
      (zao (zdZ (zc4 (zc9 (za7 G_law_is (hr.mono (by decide)) (by rfl) za8 (zab (pv 2) (zab (pv 3) zae)))))
      (zao (zaV zfR))
      zbE)))
      (zao (zaV zfR)))),zdk (K:=(KX K ad)) (XO:=(xoK (KX K ad))) (E:=E) (np:=2) (nv:=2) (m:=ze7)
      (zaz (zdV (zhN (zdb (st_b (zmi zmM zad))) (zbm (zaA zqQ ((zbo zbx (zap zad zaD))).r ((zbo zbx (zap zad zaD))).r)))
      (zbg zfT)
      zbA)
      (zaz (zeC (zpZ (zac zaf (zac zaf zan))) (zdP (zaZ zax (zaZ zax zcB)))
      (zdV (zdb (st_b (za2 (zac zaf (zac zaf zan)))))
      (zbg zfT)
      zbA))
      (zbg zfT))) rfl h⟩
abbrev zcw:Stmt:=top 29
theorem sc_law_told_again:FnScope ["_law_question","_law_case","_law_due_here","_law_told"] ["_law_question","_law_case","_law_due_here"] (zaj zcw):=⟨rfl,rfl,rfl,by decide +kernel,rfl,by decide +kernel,by decide +kernel⟩
theorem zfx {f:Addr} {fd:FuncData} (F:Fun K "_law_told_again" "_law_told_again" zcw f fd) (T:Txt K mg ad) (G_BenchQuestion_ways:HasM P w K mg base CX0 1 "ways" ad.BenchQuestion ["self","case"] (spO (KX K ad) (xoK (KX K ad)) zaC)) (G_BinQuestion_ways:HasM P w K mg base CX0 2 "ways" ad.BinQuestion ["self","case"] (spO (KX K ad) (xoK (KX K ad)) zaG)) (G_law_numbers:Has P w K mg base CX0 2 "_law_numbers" ["_law_found","_law_due_here"] (spM (KX K ad) (xoK (KX K ad)) zaL)):FnOk P w K mg base CX0 3 f fd ["_law_question","_law_case","_law_due_here"] (spM (KX K ad) (xoK (KX K ad)) zbj):=by
  refine F.ok sc_law_told_again (fun vs H Q E h=>zbv h) (fun cdv A outer s H vs Q E hr h=>?_)
  have hu:=zbW hr
  exact ⟨_,(zag (zd9 PassesOwn.never rfl (zea (zc7 (zab (zeV (zbD G_BenchQuestion_ways (hr.mono (by decide)) za8 (pv 0) (zab (pv 1) zae)) (zbD G_BinQuestion_ways (hr.mono (by decide)) za8 (pv 0) (zab (pv 1) zae))) (zab (zeV (zbD G_BenchQuestion_ways (hr.mono (by decide)) za8 (pv 0) (zab (pv 1) zae)) (zbD G_BinQuestion_ways (hr.mono (by decide)) za8 (pv 0) (zab (pv 1) zae))) zae)))) (zaO (i:=3) sc_law_told_again.nd rfl (by first | exact Or.inl rfl | exact Or.inr rfl))
      (zag (zdZ (zc4 (zc9 (za7 G_law_numbers (hr.mono (by decide)) (by rfl) za8 (zab (pv 3) (zab (pv 2) zae)))))
      (zao (zaV zfR))
      zbE)
      (zao (zeQ (zpt PySem.F.plainAttrs_list PySem.F.slot_list_append PySem.F.type_list_append zeT (pv 3) (zab zaw zae))))))
      (zao (zaV zfR))),zdk (K:=(KX K ad)) (XO:=(xoK (KX K ad))) (E:=E) (np:=3) (nv:=1) (m:=zdO)
      (zaz (zpD (zgf (zbZ rfl zaf (zac zaf zan)) (zbZ rfl zaf (zac zaf zan))) (zgf (zbZ rfl zaf (zac zaf zan)) (zbZ rfl zaf (zac zaf zan)))
      (zaz (zdV (zdb (st_b (zhT (zhO (zet zaf zfv)))))
      (zbg zfT)
      zbA)
      (zf8 zav)))
      (zbg zfT)) rfl h⟩
abbrev zev:Stmt:=top 10
theorem sc_heaviest:FnScope ["works","many","put","sums","work","bench"] ["works","many","put"] (zaj zev):=⟨rfl,rfl,rfl,by decide +kernel,rfl,by decide +kernel,by decide +kernel⟩
theorem ziZ {f:Addr} {fd:FuncData} (F:Fun K "heaviest" "heaviest" zev f fd) (T:Txt K mg ad)  : FnOk P w K mg base CX0 1 f fd ["works","many","put"] (spM (KX K ad) (xoK (KX K ad)) zdo):=by
  refine F.ok sc_heaviest (fun vs H Q E h=>zbv h) (fun cdv A outer s H vs Q E hr h=>?_)
  have hu:=zbW hr
  exact ⟨_,(zag (zdJ (i:=3) sc_heaviest.nd rfl (by first | exact Or.inl rfl | exact Or.inr rfl) rfl (zdr rfl T.range (zab (pv 1) zae)) (zcT (zaj zev) ["works","many","put","sums","work","bench"] ["bench"] [] 1 rfl rfl rfl (by decide +kernel) (by decide +kernel) (by decide +kernel) rfl (by decide +kernel) (fun cl C s H fp pins=>(zaO (i:=0) (show List.Nodup (["bench"]:List Str) by decide +kernel) rfl (Or.inl rfl))) (fun cl C s H fp pins=>zaw) (Or.inl ⟨rfl,rfl⟩)) rfl)
      (zag (zd9 PassesOwn.never rfl (zfz rfl T.zip (zab (pv 0) (zab (pv 2) zae))) (zdQ rfl (zaY (zaO (i:=4) sc_heaviest.nd rfl (by first | exact Or.inl rfl | exact Or.inr rfl)) (zaY (zaO (i:=5) sc_heaviest.nd rfl (by first | exact Or.inl rfl | exact Or.inr rfl)) zcx)))
      (zao (zlK (pv 3) (pv 5) zjU (pv 4) zpX zdx)))
      (zao (zaV (zar (ziv rfl) (by rfl) T.max boot_max (zab (pv 3) zae)))))),zdk (K:=(KX K ad)) (XO:=(xoK (KX K ad))) (E:=E) (np:=3) (nv:=3) (m:=zgV)
      (zaz (zfK (zbt (zdl len1 (zac zaf zan)).c (by decide) zbi zbz (Or.inl ⟨rfl,rfl⟩) zav))
      (zaz (zeC (zfr (zac zaf (zac zaf zan))) (zdP (zaZ zax (zaZ zax zcB)))
      (zlQ zaf zaf))
      (zbg (zbo zlk (zap zad zaD))))) rfl h⟩
abbrev zb2:Stmt:=zcX (top 16) 3
theorem sc_BenchQuestion_low:FnScope ["self","case","so_far"] ["self","case"] (zaj zb2):=⟨rfl,rfl,rfl,by decide +kernel,rfl,by decide +kernel,by decide +kernel⟩
theorem zex {f:Addr} {fd:FuncData} (F:Fun K "low" "BenchQuestion.low" zb2 f fd) (T:Txt K mg ad) (G_heaviest:Has P w K mg base CX0 1 "heaviest" ["works","many","put"] (spM (KX K ad) (xoK (KX K ad)) zdo)):FnOk P w K mg base CX0 2 f fd ["self","case"] (spM (KX K ad) (xoK (KX K ad)) zam):=by
  refine F.ok sc_BenchQuestion_low (fun vs H Q E h=>zbv h) (fun cdv A outer s H vs Q E hr h=>?_)
  have hu:=zbW hr
  exact ⟨_,(zag (za4 (i:=2) sc_BenchQuestion_low.nd rfl (by first | exact Or.inl rfl | exact Or.inr rfl) (zfY zhv (zcU (pv 0) rfl) zi6 (zga (zar zau (by rfl) T.len PySem.boot_len (zab (pv 1) zae)))))
      (zao (zaV (zar (zgm rfl) (by rfl) T.max boot_max (zab (zcU (pv 0) rfl) (zab (za7 G_heaviest (hr.mono (by decide)) (by rfl) za8 (zab (pv 2) (zab (zcU (pv 0) rfl) (zab (pv 1) zae)))) zae)))))),zdk (K:=(KX K ad)) (XO:=(xoK (KX K ad))) (E:=E) (np:=2) (nv:=1) (m:=zcV)
      (zaz (za5 ((zeZ ((zc2 (zcL T) zad)).r zoK (zgq (zbo zbx (zap zad zaD))))).e zax)
      (zbg (zbo zje (zap ((zc2 (zno T) zad)).r (zap ((za2 (zac zaf (zac (zc2 (zlX T) zad) (zac zaf zan))))).r zaD))))) rfl h⟩
abbrev zch:Stmt:=zcX (top 17) 4
theorem sc_BinQuestion_low:FnScope ["self","case","left","beyond"] ["self","case"] (zaj zch):=⟨rfl,rfl,rfl,by decide +kernel,rfl,by decide +kernel,by decide +kernel⟩
theorem ze4 {f:Addr} {fd:FuncData} (F:Fun K "low" "BinQuestion.low" zch f fd) (T:Txt K mg ad) (G_share:Has P w K mg base (CX1 P w) 2 "share" ["top","bottom"] (spM (KX K ad) (xoK (KX K ad)) zcj)) (G_rounded_up:Has P w K mg base CX0 1 "rounded_up" ["one"] (spM (KX K ad) (xoK (KX K ad)) zba)) (G_BinQuestion_free:HasM P w K mg base CX0 1 "free" ad.BinQuestion ["self","case"] (spO (KX K ad) (xoK (KX K ad)) zaP)):FnOk P w K mg base (CX1 P w) 3 f fd ["self","case"] (spM (KX K ad) (xoK (KX K ad)) zas):=by
  refine F.ok1 sc_BinQuestion_low (fun vs H Q E h=>zbv h) (fun cdv A outer s H vs Q E hr h=>?_)
  have hu:=zbW hr
  exact ⟨_,(zag (za4 (i:=2) sc_BinQuestion_low.nd rfl (by first | exact Or.inl rfl | exact Or.inr rfl) (zbD G_BinQuestion_free (hr.mono (by decide)) za8 (pv 0) (zab (pv 1) zae)))
      (zag (za4 (i:=3) sc_BinQuestion_low.nd rfl (by first | exact Or.inl rfl | exact Or.inr rfl) (za3 zj3 (zar (zbw rfl) (by rfl) T.sum boot_sum (zab (zfY zhv (zcU (pv 0) rfl) (zga (zar zau (by rfl) T.len PySem.boot_len (zab (pv 1) zae))) zi6) zae)) (zar (zbw rfl) (by rfl) T.sum boot_sum (zab (pv 2) zae))))
      (zao (zaV (za3 zcp (zar zau (by rfl) T.len PySem.boot_len (zab (pv 2) zae)) (zar (zgm rfl) (by rfl) T.max boot_max (zab zaw (zab (za7 G_rounded_up (hr.mono (by decide)) (by rfl) za8 (zab (ziY G_share (hr.mono (by decide)) (by rfl) zpm (zab (pv 3) (zab (zcU (pv 0) rfl) zae))) zae)) zae)))))))),zdk (K:=(KX K ad)) (XO:=(xoK (KX K ad))) (E:=E) (np:=2) (nv:=2) (m:=zdq)
      (zaz (za5 ((zbZ rfl zaf (zac zaf zan))).e zax)
      (zaz (za5 (zaA zjN ((zbo zgn (zap ((zeZ ((zc2 (zcL T) zad)).r (zgq (zbo zbx (zap zad zaD))) zoK)).e.r zaD))).r ((zbo zgn (zap zad zaD))).r) zax)
      (zbg (zaA zcs ((zbo zbx (zap zad zaD))).r ((zbo zje (zap (zav).r (zap ((za2 (zac (zhI (zac zaf (zac (zc2 (zlN T) zad) zan))) zan))).r zaD)))).r)))) rfl h⟩
abbrev zfp:Stmt:=top 30
theorem zji:FnScope ["_law_script","_law_at","_law_ways"] ["_law_script","_law_at","_law_ways"] (zaj zfp):=⟨rfl,rfl,rfl,by decide +kernel,rfl,by decide +kernel,by decide +kernel⟩
theorem zjz {f:Addr} {fd:FuncData} (F:Fun K "_law_next" "_law_next" zfp f fd) (T:Txt K mg ad) (G_law_cell_at:Has P w K mg base CX0 1 "_law_cell_at" ["_law_script","_law_k"] (spM (KX K ad) (xoK (KX K ad)) zaI)):FnOk P w K mg base CX0 2 f fd ["_law_script","_law_at","_law_ways"] (spM (KX K ad) (xoK (KX K ad)) zcK):=by
  refine F.ok zji (fun vs H Q E h=>zbv h) (fun cdv A outer s H vs Q E hr h=>?_)
  have hu:=zbW hr
  exact ⟨_,(zao (zaV (zg2 (zab (zb5 za6 (pv 2) (za3 zda (za3 zcn (za7 G_law_cell_at (hr.mono (by decide)) (by rfl) za8 (zab (pv 0) (zab (pv 1) zae))) zaw) (zar zau (by rfl) T.len PySem.boot_len (zab (pv 2) zae))) (fun _ _=>rfl)) zae)))),zdk (K:=(KX K ad)) (XO:=(xoK (KX K ad))) (E:=E) (np:=3) (nv:=0) (m:=zgW)
      (zbg (zg0 (zac (zaA zbH zad ((zaA zdc ((zaA zeF ((za2 (zac zaf (zac zaf zan)))).r (zav).r)).r ((zbo zbx (zap zad zaD))).r)).r) zan))) rfl h⟩
abbrev zcH:Stmt:=top 14
theorem sc_put_by_list:FnScope ["order","case","put","number","chosen"] ["order","case"] (zaj zcH):=⟨rfl,rfl,rfl,by decide +kernel,rfl,by decide +kernel,by decide +kernel⟩
theorem zgQ {f:Addr} {fd:FuncData} (F:Fun K "put_by_list" "put_by_list" zcH f fd) (T:Txt K mg ad)  : FnOk P w K mg base CX0 1 f fd ["order","case"] (spO (KX K ad) (xoK (KX K ad)) zbs):=by
  refine F.ok sc_put_by_list (fun vs H Q E h=>zcR h) (fun cdv A outer s H vs Q E hr h=>?_)
  have hu:=zbW hr
  exact ⟨_,(zag (zdJ (i:=2) sc_put_by_list.nd rfl (by first | exact Or.inl rfl | exact Or.inr rfl) rfl (zea (pv 0)) (zcT (zaj zcH) ["order","case","put","number","chosen"] ["number"] [] 1 rfl rfl rfl (by decide +kernel) (by decide +kernel) (by decide +kernel) rfl (by decide +kernel) (fun cl C s H fp pins=>(zaO (i:=0) (show List.Nodup (["number"]:List Str) by decide +kernel) rfl (Or.inl rfl))) (fun cl C s H fp pins=>zaw) (Or.inl ⟨rfl,rfl⟩)) rfl)
      (zag (zd9 PassesOwn.never rfl (zfz rfl T.zip (zab (pv 0) (zab (pv 1) zae))) (zdQ rfl (zaY (zaO (i:=3) sc_put_by_list.nd rfl (by first | exact Or.inl rfl | exact Or.inr rfl)) (zaY (zaO (i:=4) sc_put_by_list.nd rfl (by first | exact Or.inl rfl | exact Or.inr rfl)) zcx)))
      (zao (ziV (pv 4) (zid (pv 2) (pv 3) zdx))))
      (zao (zaV (pv 2))))),zd8 (K:=(KX K ad)) (XO:=(xoK (KX K ad))) (E:=E) (np:=2) (nv:=3) (m:=zfd)
      (zaz (zfK (zbt (zdB zad) (by decide) zbi zbz (Or.inl ⟨rfl,rfl⟩) zav))
      (zaz (zeC (zfr (zac zaf (zac zaf zan))) (zdP (zaZ zax (zaZ zax zcB)))
      (zgc zaf zaf))
      zja)) rfl h⟩
abbrev zbC:Stmt:=zcX (top 16) 4
theorem zdA:FnScope ["self","case"] ["self","case"] (zaj zbC):=⟨rfl,rfl,rfl,by decide +kernel,rfl,by decide +kernel,by decide +kernel⟩
theorem zdM {f:Addr} {fd:FuncData} (F:Fun K "answer" "BenchQuestion.answer" zbC f fd) (T:Txt K mg ad) (G_put_by_list:Has P w K mg base CX0 1 "put_by_list" ["order","case"] (spO (KX K ad) (xoK (KX K ad)) zbs)):FnOk P w K mg base CX0 2 f fd ["self","case"] (spO (KX K ad) (xoK (KX K ad)) zaB):=by
  refine F.ok zdA (fun vs H Q E h=>zcR h) (fun cdv A outer s H vs Q E hr h=>?_)
  have hu:=zbW hr
  exact ⟨_,(zao (zaV (za7 G_put_by_list (hr.mono (by decide)) (by rfl) za8 (zab (zcU (pv 0) rfl) (zab (pv 1) zae))))),zd8 (K:=(KX K ad)) (XO:=(xoK (KX K ad))) (E:=E) (np:=2) (nv:=0) (m:=zcb)
      (zdh (zbY (zac (zc2 (zf1 T) zad) (zac zaf zan)))) rfl h⟩
abbrev zbX:Stmt:=zcX (top 17) 5
theorem zeb:FnScope ["self","case"] ["self","case"] (zaj zbX):=⟨rfl,rfl,rfl,by decide +kernel,rfl,by decide +kernel,by decide +kernel⟩
theorem zef {f:Addr} {fd:FuncData} (F:Fun K "answer" "BinQuestion.answer" zbX f fd) (T:Txt K mg ad) (G_put_by_list:Has P w K mg base CX0 1 "put_by_list" ["order","case"] (spO (KX K ad) (xoK (KX K ad)) zbs)):FnOk P w K mg base CX0 2 f fd ["self","case"] (spO (KX K ad) (xoK (KX K ad)) zaE):=by
  refine F.ok zeb (fun vs H Q E h=>zcR h) (fun cdv A outer s H vs Q E hr h=>?_)
  have hu:=zbW hr
  exact ⟨_,(zao (zaV (za7 G_put_by_list (hr.mono (by decide)) (by rfl) za8 (zab (zcU (pv 0) rfl) (zab (pv 1) zae))))),zd8 (K:=(KX K ad)) (XO:=(xoK (KX K ad))) (E:=E) (np:=2) (nv:=0) (m:=zcF)
      (zdh (zbY (zac (zc2 (zf1 T) zad) (zac zaf zan)))) rfl h⟩
abbrev zbJ:Stmt:=zcX (top 16) 1
theorem zdU:FnScope ["self"] ["self"] (zaj zbJ):=⟨rfl,rfl,rfl,by decide +kernel,rfl,by decide +kernel,by decide +kernel⟩
theorem zdW {f:Addr} {fd:FuncData} (F:Fun K "steps" "BenchQuestion.steps" zbJ f fd) (T:Txt K mg ad)  : FnOk P w K mg base CX0 1 f fd ["self"] (spM (KX K ad) (xoK (KX K ad)) zaK):=by
  refine F.ok zdU (fun vs H Q E h=>zbv h) (fun cdv A outer s H vs Q E hr h=>?_)
  have hu:=zbW hr
  exact ⟨_,(zao (zaV (zar zau (by rfl) T.len PySem.boot_len (zab (zcU (pv 0) rfl) zae)))),zdk (K:=(KX K ad)) (XO:=(xoK (KX K ad))) (E:=E) (np:=1) (nv:=0) (m:=zcq)
      (zbg (zbo zbx (zap ((zc2 (zcL T) zad)).r zaD))) rfl h⟩
abbrev zb0:Stmt:=zcX (top 17) 2
theorem zez:FnScope ["self"] ["self"] (zaj zb0):=⟨rfl,rfl,rfl,by decide +kernel,rfl,by decide +kernel,by decide +kernel⟩
theorem zeA {f:Addr} {fd:FuncData} (F:Fun K "steps" "BinQuestion.steps" zb0 f fd) (T:Txt K mg ad)  : FnOk P w K mg base CX0 1 f fd ["self"] (spM (KX K ad) (xoK (KX K ad)) zaS):=by
  refine F.ok zez (fun vs H Q E h=>zbv h) (fun cdv A outer s H vs Q E hr h=>?_)
  have hu:=zbW hr
  exact ⟨_,(zao (zaV (zar zau (by rfl) T.len PySem.boot_len (zab (zcU (pv 0) rfl) zae)))),zdk (K:=(KX K ad)) (XO:=(xoK (KX K ad))) (E:=E) (np:=1) (nv:=0) (m:=zc1)
      (zbg (zbo zbx (zap ((zc2 (zcL T) zad)).r zaD))) rfl h⟩
abbrev zdH:Stmt:=top 31
theorem sc_law_chain:FnScope ["_law_script","_law_kind","_law_sizes","_law_bound","_law_question","_law_order_here","_law_case","_law_low","_law_k","_law_due_here","_law_ways","_law_found","_law_number_here","_law_choice","_law_answer"] ["_law_script","_law_kind","_law_sizes","_law_bound","_law_question"] (zaj zdH):=⟨rfl,rfl,rfl,by decide +kernel,rfl,by decide +kernel,by decide +kernel⟩
theorem ziF {f:Addr} {fd:FuncData} (F:Fun K "_law_chain" "_law_chain" zdH f fd) (T:Txt K mg ad) (G_law_order:Has P w K mg base CX0 1 "_law_order" ["_law_sizes"] (spO (KX K ad) (xoK (KX K ad)) zcd)) (G_law_due:Has P w K mg base CX0 3 "_law_due" ["_law_kind","_law_sizes","_law_order_here","_law_bound","_law_case"] (spO (KX K ad) (xoK (KX K ad)) zbq)) (G_BenchQuestion_ways:HasM P w K mg base CX0 1 "ways" ad.BenchQuestion ["self","case"] (spO (KX K ad) (xoK (KX K ad)) zaC)) (G_BinQuestion_ways:HasM P w K mg base CX0 2 "ways" ad.BinQuestion ["self","case"] (spO (KX K ad) (xoK (KX K ad)) zaG)) (G_law_is:Has P w K mg base CX0 1 "_law_is" ["_law_found","_law_due_here"] (spM (KX K ad) (xoK (KX K ad)) zbd)) (G_law_numbers:Has P w K mg base CX0 2 "_law_numbers" ["_law_found","_law_due_here"] (spM (KX K ad) (xoK (KX K ad)) zaL)) (G_law_told_again:Has P w K mg base CX0 3 "_law_told_again" ["_law_question","_law_case","_law_due_here"] (spM (KX K ad) (xoK (KX K ad)) zbj)) (G_BenchQuestion_low:HasM P w K mg base CX0 2 "low" ad.BenchQuestion ["self","case"] (spM (KX K ad) (xoK (KX K ad)) zam)) (G_BinQuestion_low:HasM P w K mg base (CX1 P w) 3 "low" ad.BinQuestion ["self","case"] (spM (KX K ad) (xoK (KX K ad)) zas)) (G_law_next:Has P w K mg base CX0 2 "_law_next" ["_law_script","_law_at","_law_ways"] (spM (KX K ad) (xoK (KX K ad)) zcK)) (G_BenchQuestion_answer:HasM P w K mg base CX0 2 "answer" ad.BenchQuestion ["self","case"] (spO (KX K ad) (xoK (KX K ad)) zaB)) (G_BinQuestion_answer:HasM P w K mg base CX0 2 "answer" ad.BinQuestion ["self","case"] (spO (KX K ad) (xoK (KX K ad)) zaE)) (G_BenchQuestion_steps:HasM P w K mg base CX0 1 "steps" ad.BenchQuestion ["self"] (spM (KX K ad) (xoK (KX K ad)) zaK)) (G_BinQuestion_steps:HasM P w K mg base CX0 1 "steps" ad.BinQuestion ["self"] (spM (KX K ad) (xoK (KX K ad)) zaS)):FnOk P w K mg base CX0 4 f fd ["_law_script","_law_kind","_law_sizes","_law_bound","_law_question"] (spM (KX K ad) (xoK (KX K ad)) zbK):=by
  refine F.ok sc_law_chain (fun vs H Q E h=>zbv h) (fun cdv A outer s H vs Q E hr h=>?_)
  have hu:=zbW hr
  exact ⟨_,(zag (za4 (i:=5) sc_law_chain.nd rfl (by first | exact Or.inl rfl | exact Or.inr rfl) (za7 G_law_order (hr.mono (by decide)) (by rfl) za8 (zab (pv 2) zae)))
      (zag (za4 (i:=6) sc_law_chain.nd rfl (by first | exact Or.inl rfl | exact Or.inr rfl) (zg2 zae))
      (zag (za4 (i:=7) sc_law_chain.nd rfl (by first | exact Or.inl rfl | exact Or.inr rfl) zaw)
      (zag (zd9 PassesOwn.never rfl (zdr rfl T.range (zab (zar zau (by rfl) T.len PySem.boot_len (zab (pv 2) zae)) zae)) (zaO (i:=8) sc_law_chain.nd rfl (by first | exact Or.inl rfl | exact Or.inr rfl))
      (zag (za4 (i:=9) sc_law_chain.nd rfl (by first | exact Or.inl rfl | exact Or.inr rfl) (za7 G_law_due (hr.mono (by decide)) (by rfl) za8 (zab (pv 1) (zab (pv 2) (zab (pv 5) (zab (pv 3) (zab (pv 6) zae)))))))
      (zag (za4 (i:=10) sc_law_chain.nd rfl (by first | exact Or.inl rfl | exact Or.inr rfl) (zeV (zbD G_BenchQuestion_ways (hr.mono (by decide)) za8 (pv 4) (zab (pv 6) zae)) (zbD G_BinQuestion_ways (hr.mono (by decide)) za8 (pv 4) (zab (pv 6) zae))))
      (zag (zdZ ((zhR (zc4 (zc9 (za7 G_law_told_again (hr.mono (by decide)) (by rfl) za8 (zab (pv 4) (zab (pv 6) (zab (zb5 za6 (pv 9) zaw (fun _ _=>rfl)) zae)))))) (zfC (zc4 (zc9 (za7 G_law_numbers (hr.mono (by decide)) (by rfl) za8 (zab (pv 10) (zab (zb5 za6 (pv 9) zaw (fun _ _=>rfl)) zae)))))))).pt
      (zao (zaV zfR))
      zbE)
      (zag (zdZ ((zhR (zc4 (zc9 (za7 G_law_is (hr.mono (by decide)) (by rfl) za8 (zab (zeV (zbD G_BenchQuestion_low (hr.mono (by decide)) za8 (pv 4) (zab (pv 6) zae)) (zbD G_BinQuestion_low (hr.mono (by decide)) zmj (pv 4) (zab (pv 6) zae))) (zab (zb5 za6 (pv 9) zaw (fun _ _=>rfl)) zae))))) (zfC (zbn zle (zb5 za6 (pv 9) zaw (fun _ _=>rfl)) (pv 7) (zbN _))))).pt
      (zao (zaV zfR))
      zbE)
      (zag (za4 (i:=7) sc_law_chain.nd rfl (by first | exact Or.inl rfl | exact Or.inr rfl) (zb5 za6 (pv 9) zaw (fun _ _=>rfl)))
      (zao (za4 (i:=6) sc_law_chain.nd rfl (by first | exact Or.inl rfl | exact Or.inr rfl) (za3 zpu (pv 6) (za7 G_law_next (hr.mono (by decide)) (by rfl) za8 (zab (pv 0) (zab (za3 zcp zaw (pv 8)) (zab (pv 10) zae)))))))))))))
      (zag (za4 (i:=9) sc_law_chain.nd rfl (by first | exact Or.inl rfl | exact Or.inr rfl) (za7 G_law_due (hr.mono (by decide)) (by rfl) za8 (zab (pv 1) (zab (pv 2) (zab (pv 5) (zab (pv 3) (zab (pv 6) zae)))))))
      (zag (zdZ ((zhR (zc4 (zc9 (za7 G_law_is (hr.mono (by decide)) (by rfl) za8 (zab (zeV (zbD G_BenchQuestion_low (hr.mono (by decide)) za8 (pv 4) (zab (pv 6) zae)) (zbD G_BinQuestion_low (hr.mono (by decide)) zmj (pv 4) (zab (pv 6) zae))) (zab (zb5 za6 (pv 9) zaw (fun _ _=>rfl)) zae))))) (zfC (zbn zle (zb5 za6 (pv 9) zaw (fun _ _=>rfl)) (pv 7) (zbN _))))).pt
      (zao (zaV zfR))
      zbE)
      (zag (zdZ (zc4 (zc9 (za7 G_law_is (hr.mono (by decide)) (by rfl) za8 (zab (zeV (zbD G_BenchQuestion_low (hr.mono (by decide)) za8 (pv 4) (zab (zg2 zae) zae)) (zbD G_BinQuestion_low (hr.mono (by decide)) zmj (pv 4) (zab (zg2 zae) zae))) (zab (zb5 za6 (za7 G_law_due (hr.mono (by decide)) (by rfl) za8 (zab (pv 1) (zab (pv 2) (zab (pv 5) (zab (pv 3) (zab (zg2 zae) zae)))))) zaw (fun _ _=>rfl)) zae)))))
      (zao (zaV zfR))
      zbE)
      (zag (zdJ (i:=11) sc_law_chain.nd rfl (by first | exact Or.inl rfl | exact Or.inr rfl) rfl (zea (pv 2)) (zcT (zaj zdH) ["_law_script","_law_kind","_law_sizes","_law_bound","_law_question","_law_order_here","_law_case","_law_low","_law_k","_law_due_here","_law_ways","_law_found","_law_number_here","_law_choice","_law_answer"] ["_law_size_here"] [] 1 rfl rfl rfl (by decide +kernel) (by decide +kernel) (by decide +kernel) rfl (by decide +kernel) (fun cl C s H fp pins=>(zaO (i:=0) (show List.Nodup (["_law_size_here"]:List Str) by decide +kernel) rfl (Or.inl rfl))) (fun cl C s H fp pins=>zaw) (Or.inl ⟨rfl,rfl⟩)) rfl)
      (zag (zd9 PassesOwn.never rfl (zfz rfl T.zip (zab (pv 5) (zab (pv 6) zae))) (zdQ rfl (zaY (zaO (i:=12) sc_law_chain.nd rfl (by first | exact Or.inl rfl | exact Or.inr rfl)) (zaY (zaO (i:=13) sc_law_chain.nd rfl (by first | exact Or.inl rfl | exact Or.inr rfl)) zcx)))
      (zao (ziV (pv 13) (zid (pv 11) (pv 12) zdx))))
      (zag (za4 (i:=14) sc_law_chain.nd rfl (by first | exact Or.inl rfl | exact Or.inr rfl) (zeV (zbD G_BenchQuestion_answer (hr.mono (by decide)) za8 (pv 4) (zab (pv 6) zae)) (zbD G_BinQuestion_answer (hr.mono (by decide)) za8 (pv 4) (zab (pv 6) zae))))
      (zag (zdZ ((zhR (zc4 (zc9 (za7 G_law_numbers (hr.mono (by decide)) (by rfl) za8 (zab (pv 14) (zab (pv 11) zae))))) (zfC (zc4 (zc9 (za7 G_law_is (hr.mono (by decide)) (by rfl) za8 (zab (zeV (zjT G_BenchQuestion_steps (hr.mono (by decide)) za8 (pv 4)) (zjT G_BinQuestion_steps (hr.mono (by decide)) za8 (pv 4))) (zab (zar zau (by rfl) T.len PySem.boot_len (zab (pv 2) zae)) zae)))))))).pt
      (zao (zaV zfR))
      zbE)
      (zag (zeQ (zpt PySem.F.plainAttrs_list PySem.F.slot_list_append PySem.F.type_list_append zeT (pv 14) (zab zaw zae)))
      (zao (zaV (za7 G_law_numbers (hr.mono (by decide)) (by rfl) za8 (zab (zeV (zbD G_BenchQuestion_answer (hr.mono (by decide)) za8 (pv 4) (zab (pv 6) zae)) (zbD G_BinQuestion_answer (hr.mono (by decide)) za8 (pv 4) (zab (pv 6) zae))) (zab (pv 11) zae))))))))))))))))),zdk (K:=(KX K ad)) (XO:=(xoK (KX K ad))) (E:=E) (np:=5) (nv:=10) (m:=zgi)
      (zaz (za5 ((zbY (zac zaf zan))).e zax)
      (zaz (za5 (zg0 zan) zax)
      (zaz (za5 zav zax)
      (zaz (zeC (zdl len1 (zac (zbo zbx (zap zad zaD)) zan)) zax
      (zaz (za5 ((zbY (zac zaf (zac zaf (zac zaf (zac zaf (zac zaf zan))))))).e zax)
      (zaz (za5 ((zgf (zbZ rfl zaf (zac zaf zan)) (zbZ rfl zaf (zac zaf zan)))).e zax)
      (zaz (zdV (zhN (zdb (st_b (za2 (zac zaf (zac zaf (zac (zaA zbH zad (zav).r) zan)))))) (zdb (st_b (za2 (zac zaf (zac (zaA zbH zad (zav).r) zan))))))
      (zbg zfT)
      zbA)
      (zaz (zdV (zhN (zdb (st_b (za2 (zac (zjO (zd2 rfl zaf (zac zaf zan)) (zd2 rfl zaf (zac zaf zan))) (zac (zaA zbH zad (zav).r) zan))))) (zbm (zaA zlI ((zaA zbH zad (zav).r)).r zad)))
      (zbg zfT)
      zbA)
      (zaz (za5 (zaA zbH zad (zav).r) zax)
      (za5 (zaA zpK zad ((za2 (zac zaf (zac (zaA zcs (zav).r zad) (zac zaf zan))))).r) zax)))))))
      (zaz (za5 ((zbY (zac zaf (zac zaf (zac zaf (zac zaf (zac zaf zan))))))).e zax)
      (zaz (zdV (zhN (zdb (st_b (za2 (zac (zjO (zd2 rfl zaf (zac zaf zan)) (zd2 rfl zaf (zac zaf zan))) (zac (zaA zbH zad (zav).r) zan))))) (zbm (zaA zlI ((zaA zbH zad (zav).r)).r zad)))
      (zbg zfT)
      zbA)
      (zaz (zdV (zdb (st_b (za2 (zac (zjO (zd2 rfl zaf (zac (zg0 zan) zan)) (zd2 rfl zaf (zac (zg0 zan) zan))) (zac (zaA zbH ((zbY (zac zaf (zac zaf (zac zaf (zac zaf (zac (zg0 zan) zan))))))).e.r (zav).r) zan)))))
      (zbg zfT)
      zbA)
      (zaz (zfK (zbt (zdB zad) (by decide) zbi zbz (Or.inl ⟨rfl,rfl⟩) zav))
      (zaz (zeC (zfr (zac zaf (zac zaf zan))) (zdP (zaZ zax (zaZ zax zcB)))
      (zgc zaf zaf))
      (zaz (zfK (zgf (zbZ rfl zaf (zac zaf zan)) (zbZ rfl zaf (zac zaf zan))))
      (zaz (zdV (zhN (zdb (st_b (zhT (zhO (zhO zfv))))) (zdb (st_b (za2 (zac (zjO (zd2 rfl zaf zan) (zd2 rfl zaf zan)) (zac (zbo zbx (zap zad zaD)) zan))))))
      (zbg zfT)
      zbA)
      (zaz (zf8 zav)
      (zbg (zhT (zet ((zgf (zbZ rfl zaf (zac zaf zan)) (zbZ rfl zaf (zac zaf zan)))).e (zhO zfv)))))))))))))))) rfl h⟩
abbrev zdC:Stmt:=top 32
theorem sc_law_refused:FnScope ["_law_sizes","_law_room","_law_caught","error"] ["_law_sizes","_law_room"] (zaj zdC):=⟨rfl,rfl,rfl,by decide +kernel,rfl,by decide +kernel,by decide +kernel⟩
theorem zgP {f:Addr} {fd:FuncData} (F:Fun K "_law_refused" "_law_refused" zdC f fd) (T:Txt K mg ad) (G_BinQuestion___init__:HasC P w K mg base (CX1 P w) 4 "BinQuestion" ad.BinQuestion ["self","sizes","room"] (spX (KX K ad) 5 zay)) (G_law_is:Has P w K mg base CX0 1 "_law_is" ["_law_found","_law_due_here"] (spM (KX K ad) (xoK (KX K ad)) zbd)):FnOk P w K mg base CX0 6 f fd ["_law_sizes","_law_room"] (spM (KX K ad) (xoK (KX K ad)) zbS):=by
  refine F.ok sc_law_refused (fun vs H Q E h=>zbv h) (fun cdv A outer s H vs Q E hr h=>?_)
  have hu:=zbW hr
  exact ⟨_,(zag (za4 (i:=2) sc_law_refused.nd rfl (by first | exact Or.inl rfl | exact Or.inr rfl) zoo)
      (zag (zqc (i:=3) rfl rfl rfl sc_law_refused.nd rfl rfl (by rfl) T.m_EnoughError T.b_EnoughError (fun E pl xe hpx=>(zao (zeQ (znE G_BinQuestion___init__ (hr.mono (by decide)) (by rfl) hpx (zab (za3 zjg (pv 0) (zc7 (zab (za3 zcp (pv 1) zaw) (zab (za3 zcp (pv 1) zaw) zae)))) (zab (pv 1) zae))))))
      (fun ea=>(zao (za4 (i:=2) sc_law_refused.nd rfl (by first | exact Or.inl rfl | exact Or.inr rfl) (pv 3)))))
      (zao (zaV (zjM (zjr zpp (pv 2) zoo (zbN _)) (zjM (zar zfQ (by rfl) T.isinstance boot_isinstance (zab (pv 2) (zab (zjq (v:=.ref ad.NoRoom) (by rfl) T.m_NoRoom rfl) zae))) (zmE (za7 G_law_is (hr.mono (by decide)) (by rfl) za8 (zab (zpe (pv 2) rfl) (zab (zar zau (by rfl) T.len PySem.boot_len (zab (pv 0) zae)) zae)))))))))),zdk (K:=(KX K ad)) (XO:=(xoK (KX K ad))) (E:=E) (np:=2) (nv:=2) (m:=zeR)
      (zaz (za5 zn9 zax)
      (zaz (zqJ (zgF T) (fun _=>(zoM ((zml rfl (zet ((zl1 zlE zad ((zcv (zac (zaA zcs zad (zav).r) (zac (zaA zcs zad (zav).r) zan)))).e.r)).e (zet zaf zfv)))).e))
      (za5 zaf zax))
      (zbg (zjI (zaA znb zad (zn9).r) (zjI (zoQ rfl (zl8 T) zad) (za2 (zac (zoE (znU T) zad) (zac (zbo zbx (zap zad zaD)) zan)))))))) rfl h⟩
abbrev zgD:Stmt:=top 33
theorem sc_law:FnScope ["_law_script","_law_sizes","_law_first","_law_many","_law_most","_law_more","_law_room","_law_handed","_law_benches","_law_bins"] ["_law_script"] (zaj zgD):=⟨rfl,rfl,rfl,by decide +kernel,rfl,by decide +kernel,by decide +kernel⟩
theorem zqA {f:Addr} {fd:FuncData} (F:Fun K "law" "law" zgD f fd) (T:Txt K mg ad) (G_law_size:Has P w K mg base CX0 2 "_law_size" ["_law_cell","_law_k"] (spM (KX K ad) (xoK (KX K ad)) zcg)) (G_law_cell_at:Has P w K mg base CX0 1 "_law_cell_at" ["_law_script","_law_k"] (spM (KX K ad) (xoK (KX K ad)) zaI)) (G_BenchQuestion___init__:HasC P w K mg base (CX1 P w) 3 "BenchQuestion" ad.BenchQuestion ["self","works","many"] (spX (KX K ad) 4 zaR)) (G_BinQuestion___init__:HasC P w K mg base (CX1 P w) 4 "BinQuestion" ad.BinQuestion ["self","sizes","room"] (spX (KX K ad) 5 zay)) (G_law_chain:Has P w K mg base CX0 4 "_law_chain" ["_law_script","_law_kind","_law_sizes","_law_bound","_law_question"] (spM (KX K ad) (xoK (KX K ad)) zbK)) (G_law_refused:Has P w K mg base CX0 6 "_law_refused" ["_law_sizes","_law_room"] (spM (KX K ad) (xoK (KX K ad)) zbS)):FnOk P w K mg base CX0 7 f fd ["_law_script"] (zjY K):=by
  refine F.ok sc_law (fun vs H Q E h=>?_) (fun cdv A outer s H vs Q E hr h=>?_)
  · obtain ⟨a,ns,rfl,_⟩:=h
    rfl
  · obtain ⟨a,ns,rfl,hS,hlen,hq⟩:=h
    have hu:=zbW hr
    exact ⟨_,(zag (zdJ (i:=1) sc_law.nd rfl (by first | exact Or.inl rfl | exact Or.inr rfl) rfl (zgA rfl T.enumerate (zab (zfY zhv (pv 0) (zga zaw) (zga zaw)) zae)) (zcT (zaj zgD) ["_law_script","_law_sizes","_law_first","_law_many","_law_most","_law_more","_law_room","_law_handed","_law_benches","_law_bins"] ["_law_k","_law_cell"] [] 2 rfl rfl rfl (by decide +kernel) (by decide +kernel) (by decide +kernel) rfl (by decide +kernel) (fun cl C s H fp pins=>(zdQ rfl (zaY (zaO (i:=0) (show List.Nodup (["_law_k","_law_cell"]:List Str) by decide +kernel) rfl (Or.inl rfl)) (zaY (zaO (i:=1) (show List.Nodup (["_law_k","_law_cell"]:List Str) by decide +kernel) rfl (Or.inl rfl)) zcx)))) (fun cl C s H fp pins=>(za7 G_law_size (hr.mono (by decide)) (by rfl) za8 (zab (pv 1) (zab (pv 0) zae)))) (Or.inl ⟨rfl,rfl⟩)) rfl)
      (zag (za4 (i:=2) sc_law.nd rfl (by first | exact Or.inl rfl | exact Or.inr rfl) (za3 zda (za7 G_law_cell_at (hr.mono (by decide)) (by rfl) za8 (zab (pv 0) (zab zaw zae))) (za3 zic zaw zaw)))
      (zag (za4 (i:=3) sc_law.nd rfl (by first | exact Or.inl rfl | exact Or.inr rfl) (za3 zcp zaw (za3 zda (za3 zcn (pv 2) zaw) (zb5 za6 (zc7 (zab zaw (zab zaw zae))) (za3 zcn (za3 zda (pv 2) zaw) zaw) (fun _ _=>rfl)))))
      (zag (za4 (i:=4) sc_law.nd rfl (by first | exact Or.inl rfl | exact Or.inr rfl) (zo4 rfl (by rfl) T.max (zab (pv 1) zae) zaw))
      (zag (za4 (i:=5) sc_law.nd rfl (by first | exact Or.inl rfl | exact Or.inr rfl) (zb5 za6 (zc7 (zab zaw (zab (za3 zda (za3 zcn (pv 2) zaw) (pv 4)) (zab (za3 zda (za3 zcn (pv 2) zaw) zaw) (zab (zar (zbw rfl) (by rfl) T.sum boot_sum (zab (pv 1) zae)) zae))))) (za3 zda (za7 G_law_cell_at (hr.mono (by decide)) (by rfl) za8 (zab (pv 0) (zab zaw zae))) zaw) (fun _ _=>rfl)))
      (zag (za4 (i:=6) sc_law.nd rfl (by first | exact Or.inl rfl | exact Or.inr rfl) (zar (zir rfl) (by rfl) T.min boot_min (zab (za3 zic zaw zaw) (zab (za3 zcp (pv 4) (pv 5)) zae))))
      (zag (za4 (i:=7) sc_law.nd rfl (by first | exact Or.inl rfl | exact Or.inr rfl) (zc7 (zab (zei zfJ (by rfl) T.list boot_list (zab (pv 1) zae)) (zab (zei zfJ (by rfl) T.list boot_list (zab (pv 1) zae)) zae))))
      (zag (za4 (i:=8) sc_law.nd rfl (by first | exact Or.inl rfl | exact Or.inr rfl) (zmt G_BenchQuestion___init__ (hr.mono (by decide)) (by rfl) zmj (zab (zb5 za6 (pv 7) zaw (fun _ _=>rfl)) (zab (pv 3) zae))))
      (zag (za4 (i:=9) sc_law.nd rfl (by first | exact Or.inl rfl | exact Or.inr rfl) (zmt G_BinQuestion___init__ (hr.mono (by decide)) (by rfl) zmj (zab (zb5 za6 (pv 7) zaw (fun _ _=>rfl)) (zab (pv 6) zae))))
      (zag (zdZ ((zhR (zc4 (zc9 (zar zbP (by rfl) T.isinstance boot_isinstance (zab (pv 8) (zab (zjq (v:=.ref ad.Question) (by rfl) T.m_Question rfl) zae))))) (zhR (zc4 (zc9 (zar zbP (by rfl) T.isinstance boot_isinstance (zab (pv 9) (zab (zjq (v:=.ref ad.Question) (by rfl) T.m_Question rfl) zae))))) (zfC (zbn (zp7 hr.units) (pv 7) (zc7 (zab (pv 1) (zab (pv 1) zae))) (zbN _)))))).pt
      (zao (zaV zfR))
      zbE)
      (zag (zeQ (zoc PySem.F.plainAttrs_list PySem.F.slot_list_clear PySem.F.type_list_clear zj9 (zb5 za6 (pv 7) zaw (fun _ _=>rfl))))
      (zag (zeQ (zoc PySem.F.plainAttrs_list PySem.F.slot_list_clear PySem.F.type_list_clear zj9 (zb5 za6 (pv 7) zaw (fun _ _=>rfl))))
      (zag (zdZ ((zhR (zc4 (zc9 (za7 G_law_chain (hr.mono (by decide)) (by rfl) za8 (zab (pv 0) (zab zaw (zab (pv 1) (zab (pv 3) (zab (pv 8) zae)))))))) (zfC (zc4 (zc9 (za7 G_law_chain (hr.mono (by decide)) (by rfl) za8 (zab (pv 0) (zab zaw (zab (pv 1) (zab (pv 6) (zab (pv 9) zae))))))))))).pt
      (zao (zaV zfR))
      zbE)
      (zao (zaV (zq2 (zjr zq9 (pv 6) (za3 zj3 (za3 zic zaw zaw) zaw) (zbN _)) (zmE (za7 G_law_refused (hr.mono (by decide)) (by rfl) za8 (zab (pv 1) (zab (pv 6) zae)))))))))))))))))))),zdk (K:=(KX K ad)) (XO:=(xoK (KX K ad))) (E:=E) (np:=1) (nv:=9) (m:=zqK)
      (zaz (za5 ((zbt (zhx (zap ((zeZ zad (zgq zav) (zgq zav))).e.r zaD)) (by decide) (zdP (zaZ zbi (zaZ zbi zcB))) (zmB (zeo zbz (zeo zbz zjd))) (Or.inl ⟨rfl,rfl⟩) (za2 (zac zaf (zac zaf zan))))).e zax)
      (zaz (za5 (zaA zdc ((za2 (zac zaf (zac zav zan)))).r ((zaA ziN (zav).r (zav).r)).r) zax)
      (zaz (za5 (zaA zcs (zav).r ((zaA zdc ((zaA zeF zad (zav).r)).r ((zaA zbH ((zcv (zac zav (zac zav zan)))).e.r ((zaA zeF ((zaA zdc zad (zav).r)).r (zav).r)).r)).r)).r) zax)
      (zaz (za5 (zpi (zap zad zaD) zav) zax)
      (zaz (za5 (zaA zbH ((zcv (zac zav (zac (zaA zdc ((zaA zeF zad (zav).r)).r zad) (zac (zaA zdc ((zaA zeF zad (zav).r)).r (zav).r) (zac (zbo zgn (zap zad zaD)) zan)))))).e.r ((zaA zdc ((za2 (zac zaf (zac zav zan)))).r (zav).r)).r) zax)
      (zaz (za5 (zbo zlg (zap ((zaA ziN (zav).r (zav).r)).r (zap ((zaA zcs zad zad)).r zaD))) zax)
      (zaz (zpl (znj (zoa zmP (zap zad zaD)) (zoa zmP (zap zad zaD))))
      (zaz (za5 ((zgU rfl (zk8 zav (zet zaf zfv)))).e zax)
      (zaz (za5 ((zgU rfl (zk8 zav (zet zaf zfv)))).e zax)
      (zaz (zdV (zhN (zdb (st_b (zk4 (zgg T) zad))) (zhN (zdb (st_b (zk4 (zgg T) zad))) (zbm (zoW (zaA zpR zad ((zcv (zac zaf (zac zaf zan)))).e.r)))))
      (zbg zfT)
      zbA)
      (zaz (zh1 zav)
      (zaz (zh1 zav)
      (zaz (zdV (zhN (zdb (st_b (za2 (zac zaf (zac zav (zac zaf (zac zaf (zac zaf zan)))))))) (zdb (st_b (za2 (zac zaf (zac zav (zac zaf (zac zaf (zac zaf zan)))))))))
      (zbg zfT)
      zbA)
      (zbg (zqU (zaA zqT zad ((zaA zjN ((zaA ziN (zav).r (zav).r)).r (zav).r)).r) (za2 (zac zaf (zac zaf zan)))))))))))))))))) rfl (zp2 (f:=zqE) (law_true ns hlen) hS hq)⟩
end
theorem all_mk {l:PySem.W.OpenLaw} {w:World} {K:PySem.W.Frag} {h:Heap} {mg:Str→Option Value} {fa:Addr} (X:K.In h) (G:h.Ns mainGlobals mg) (hfa:mg "law"=some (.ref fa))
    (d0:∃ f fd,DefAt K "_law_number" zd0 f fd)
    (d1:∃ f fd,DefAt K "_law_size" zft f fd)
    (d2:∃ f fd,DefAt K "_law_cell_at" zdz f fd)
    (d4:∃ f fd,DefAt K "common_factor" zcW f fd)
    (d5:∃ f fd,DefAt K "share" zjo f fd)
    (d6:∃ f fd,DefAt K "rounded_up" zd5 f fd)
    (d7:∃ f fd,DefAt K "refuse_too_great" zca f fd)
    (d8:∃ f fd,DefAt K "_law_order" zcP f fd)
    (d9:∃ f fd,DefAt K "_law_up" zhd f fd)
    (d10:∃ f fd,DefAt K "_law_bench" zce f fd)
    (d11:∃ f fd,DefAt K "_law_bin" zeh f fd)
    (d12:∃ f fd,DefAt K "_law_due" zgw f fd)
    (d13:∃ f fd,DefAt K "_law_is" zhs f fd)
    (d14:∃ f fd,DefAt K "_law_numbers" zdD f fd)
    (d15:∃ f fd,DefAt K "_law_told_again" zcw f fd)
    (d16:∃ f fd,DefAt K "heaviest" zev f fd)
    (d17:∃ f fd,DefAt K "_law_next" zfp f fd)
    (d18:∃ f fd,DefAt K "put_by_list" zcH f fd)
    (d19:∃ f fd,DefAt K "_law_chain" zdH f fd)
    (d20:∃ f fd,DefAt K "_law_refused" zdC f fd)
    {fL:Addr} {oc:Value} {od an:Option Addr} {osl:Array (Option Value)} {kV doc pm cdv ct:Value} (aL:PySem.W.nsIn K mainGlobals "law"=some (some (.ref fL)))
    (lL:K.lookup fL=some ⟨oc,od,.func (PySem.W.fnOf "law" "law" (zcz zgD) (zb6 zgD) (zaj zgD) .none kV doc pm an cdv ct),osl⟩) (cL:PySem.W.codeIn K cdv "law"=true) (kL:PySem.W.keepIn K (.ref fL)=true)
    (z0:PySem.W.nsIn K mainGlobals "len"=some none)
    (z1:PySem.W.nsIn K mainGlobals "abs"=some none)
    (z2:PySem.W.nsIn K mainGlobals "isinstance"=some none)
    (z3:PySem.W.nsIn K mainGlobals "list"=some none)
    (z4:PySem.W.nsIn K mainGlobals "sum"=some none)
    (z5:PySem.W.nsIn K mainGlobals "int"=some none)
    (z6:PySem.W.nsIn K mainGlobals "bool"=some none)
    (z7:PySem.W.nsIn K mainGlobals "range"=some none)
    (z8:PySem.W.nsIn K mainGlobals "enumerate"=some none)
    (z9:PySem.W.nsIn K mainGlobals "max"=some none)
    (z10:PySem.W.nsIn K mainGlobals "min"=some none)
    (z11:PySem.W.nsIn K mainGlobals "sorted"=some none)
    (z12:PySem.W.nsIn K mainGlobals "zip"=some none)
    (z13:PySem.W.nsIn K mainGlobals "set"=some none)
    (z14:PySem.W.nsIn K mainGlobals "ValueError"=some none)
    {cEnoughError cNoShare cNoRoom cQuestion cBenchQuestion cBinQuestion:Addr}
    {fNoRoom:Addr} {ocNoRoom:Value} {odNoRoom anNoRoom:Option Addr} {oslNoRoom:Array (Option Value)} {kVNoRoom docNoRoom pmNoRoom cdvNoRoom ctNoRoom:Value}
    {fM cdM tP:Addr} {ocM oc2:Value} {odM anM od2:Option Addr} {oslM osl2:Array (Option Value)} {vT:Array Value} {kVM docM pmM ctM:Value}
    (un_Question:PySem.W.nsIn K mainGlobals "Question"=some (some (.ref cQuestion)))
    (un_BenchQuestion:PySem.W.nsIn K mainGlobals "BenchQuestion"=some (some (.ref cBenchQuestion)))
    (un_BinQuestion:PySem.W.nsIn K mainGlobals "BinQuestion"=some (some (.ref cBinQuestion)))
    (pzn:PySem.W.specialIn K (.builtin "object.__class__") "__get__"=some (some (.builtin "getset_descriptor.__get__")))
    (pzt:PySem.W.takesIn K (.builtin "object.__class__")=some true)
    (phd_Question:PySem.W.hasDictIn K cQuestion=true)
    (phd_BenchQuestion:PySem.W.hasDictIn K cBenchQuestion=true)
    (phd_BinQuestion:PySem.W.hasDictIn K cBinQuestion=true)
    (pty_Question:PySem.W.typeIn K (.ref cQuestion)=some (.type "type"))
    (ppg_BenchQuestion:PySem.W.plainGet K cBenchQuestion Str.empty=true)
    (ppo_BenchQuestion:PySem.W.plainOver K cBenchQuestion=true)
    (psa_BenchQuestion:PySem.W.findIn K (.ref cBenchQuestion) "__setattr__"=some (some (.builtin "object.__setattr__")))
    (pna_BenchQuestion_falling:PySem.W.findIn K (.ref cBenchQuestion) "falling"=some none)
    (pna_BenchQuestion_least:PySem.W.findIn K (.ref cBenchQuestion) "least"=some none)
    (pna_BenchQuestion_many:PySem.W.findIn K (.ref cBenchQuestion) "many"=some none)
    (pna_BenchQuestion_order:PySem.W.findIn K (.ref cBenchQuestion) "order"=some none)
    (pmk_BenchQuestion:PySem.W.makesIn K cBenchQuestion=true)
    (pkp_BenchQuestion:PySem.W.keepIn K (.ref cBenchQuestion)=true)
    (pha_BenchQuestion:PySem.W.findIn K (.ref cBenchQuestion) "__class__"=some (some (.builtin "object.__class__")))
    (pmo_BenchQuestion:PySem.W.mroIn K cBenchQuestion (.type "object")=some true)
    (pmr_BenchQuestion_Question:PySem.W.mroIn K cBenchQuestion (.ref cQuestion)=some true)
    (pmr_BenchQuestion_BenchQuestion:PySem.W.mroIn K cBenchQuestion (.ref cBenchQuestion)=some true)
    (ppg_BinQuestion:PySem.W.plainGet K cBinQuestion Str.empty=true)
    (ppo_BinQuestion:PySem.W.plainOver K cBinQuestion=true)
    (psa_BinQuestion:PySem.W.findIn K (.ref cBinQuestion) "__setattr__"=some (some (.builtin "object.__setattr__")))
    (pna_BinQuestion_falling:PySem.W.findIn K (.ref cBinQuestion) "falling"=some none)
    (pna_BinQuestion_order:PySem.W.findIn K (.ref cBinQuestion) "order"=some none)
    (pna_BinQuestion_room:PySem.W.findIn K (.ref cBinQuestion) "room"=some none)
    (pmk_BinQuestion:PySem.W.makesIn K cBinQuestion=true)
    (pkp_BinQuestion:PySem.W.keepIn K (.ref cBinQuestion)=true)
    (pha_BinQuestion:PySem.W.findIn K (.ref cBinQuestion) "__class__"=some (some (.builtin "object.__class__")))
    (pmo_BinQuestion:PySem.W.mroIn K cBinQuestion (.type "object")=some true)
    (pmr_BinQuestion_Question:PySem.W.mroIn K cBinQuestion (.ref cQuestion)=some true)
    (pmr_BinQuestion_BinQuestion:PySem.W.mroIn K cBinQuestion (.ref cBinQuestion)=some true)
    (un_EnoughError:PySem.W.nsIn K mainGlobals "EnoughError"=some (some (.ref cEnoughError)))
    (un_NoShare:PySem.W.nsIn K mainGlobals "NoShare"=some (some (.ref cNoShare)))
    (un_NoRoom:PySem.W.nsIn K mainGlobals "NoRoom"=some (some (.ref cNoRoom)))
    (ui_NoRoom:PySem.W.findIn K (.ref cNoRoom) "__init__"=some (some (.ref fNoRoom)))
    (ul_NoRoom:K.lookup fNoRoom=some ⟨ocNoRoom,odNoRoom,.func (PySem.W.fnOf "__init__" "NoRoom.__init__" (zcz zbT) (zb6 zbT) (zaj zbT) .none kVNoRoom docNoRoom pmNoRoom anNoRoom cdvNoRoom ctNoRoom),oslNoRoom⟩)
    (uc_NoRoom:PySem.W.codeIn K cdvNoRoom "NoRoom.__init__"=true)
    (uk_NoRoom:PySem.W.keepIn K (.ref fNoRoom)=true)
    (ux_NoRoom:zgY K cNoRoom [.type "ValueError",.type "Exception",.type "BaseException",.type "object"] "ValueError.__new__" fNoRoom=true)
    (uf_NoRoom:PySem.W.isFn K (.ref fNoRoom)=true)
    (una_NoRoom:PySem.W.findIn K (.ref cNoRoom) "thing"=some none)
    (usa_NoRoom:PySem.W.findIn K (.ref cNoRoom) "__setattr__"=some (some (.builtin "object.__setattr__")))
    (uov_NoRoom:znV K cNoRoom=true)
    (ue_NoShare:PySem.W.excIn K cNoShare [.type "ValueError",.type "Exception",.type "BaseException",.type "object"] "ValueError.__new__"=true)
    (ub_EnoughError:PySem.W.mroIn K cEnoughError (.type "BaseException")=some true)
    (uzn:PySem.W.specialIn K (.builtin "object.__class__") "__get__"=some (some (.builtin "getset_descriptor.__get__")))
    (uzt:PySem.W.takesIn K (.builtin "object.__class__")=some true)
    (uhd_EnoughError:PySem.W.hasDictIn K cEnoughError=true)
    (uhd_NoShare:PySem.W.hasDictIn K cNoShare=true)
    (uhd_NoRoom:PySem.W.hasDictIn K cNoRoom=true)
    (uty_EnoughError:PySem.W.typeIn K (.ref cEnoughError)=some (.type "type"))
    (uty_NoShare:PySem.W.typeIn K (.ref cNoShare)=some (.type "type"))
    (uty_NoRoom:PySem.W.typeIn K (.ref cNoRoom)=some (.type "type"))
    (uga_NoShare:PySem.W.findIn K (.ref cNoShare) "__getattribute__"=some (some (.builtin "BaseException.__getattribute__")))
    (ugn_NoShare:PySem.W.findIn K (.ref cNoShare) "__getattr__"=some none)
    (uha_NoShare:PySem.W.findIn K (.ref cNoShare) "__class__"=some (some (.builtin "object.__class__")))
    (umr_NoShare_EnoughError:PySem.W.mroIn K cNoShare (.ref cEnoughError)=some true)
    (umr_NoShare_NoShare:PySem.W.mroIn K cNoShare (.ref cNoShare)=some true)
    (umr_NoShare_NoRoom:PySem.W.mroIn K cNoShare (.ref cNoRoom)=some false)
    (umt_NoShare_object:PySem.W.mroIn K cNoShare (.type "object")=some true)
    (umt_NoShare_BaseException:PySem.W.mroIn K cNoShare (.type "BaseException")=some true)
    (umt_NoShare_ValueError:PySem.W.mroIn K cNoShare (.type "ValueError")=some true)
    (uga_NoRoom:PySem.W.findIn K (.ref cNoRoom) "__getattribute__"=some (some (.builtin "BaseException.__getattribute__")))
    (ugn_NoRoom:PySem.W.findIn K (.ref cNoRoom) "__getattr__"=some none)
    (uha_NoRoom:PySem.W.findIn K (.ref cNoRoom) "__class__"=some (some (.builtin "object.__class__")))
    (umr_NoRoom_EnoughError:PySem.W.mroIn K cNoRoom (.ref cEnoughError)=some true)
    (umr_NoRoom_NoShare:PySem.W.mroIn K cNoRoom (.ref cNoShare)=some false)
    (umr_NoRoom_NoRoom:PySem.W.mroIn K cNoRoom (.ref cNoRoom)=some true)
    (umt_NoRoom_object:PySem.W.mroIn K cNoRoom (.type "object")=some true)
    (umt_NoRoom_BaseException:PySem.W.mroIn K cNoRoom (.type "BaseException")=some true)
    (umt_NoRoom_ValueError:PySem.W.mroIn K cNoRoom (.type "ValueError")=some true)
    (vn:PySem.W.nsIn K mainGlobals "greatest_order"=some (some (.ref fM)))
    (vl:K.lookup fM=some ⟨ocM,odM,.func (PySem.W.fnOf "greatest_order" "greatest_order" (zcz zaJ) (zb6 zaJ) (zaj zaJ) .none kVM docM pmM anM (.ref cdM) ctM),oslM⟩)
    (vc:PySem.W.codeIn K (.ref cdM) "greatest_order"=true)
    (vk:PySem.W.keepIn K (.ref fM)=true)
    (vv:K.lookup cdM=some ⟨oc2,od2,.fields vT,osl2⟩)
    (vt:vT[11]?=some (Value.ref tP))
    (vT:zhq K=some (tP,#[.str ("greatest_order" ++ ".<locals>." ++ "<lambda>") 0,rawInt ((30:Nat):Int),rawInt ((41:Nat):Int)]))
    (vC:PySem.W.codeHdIn K cdM tP=true)
    (dm_BenchQuestion___init__:∃ f fd,MethAt K cBenchQuestion "__init__" "BenchQuestion.__init__" zbb f fd)
    (dm_BinQuestion___init__:∃ f fd,MethAt K cBinQuestion "__init__" "BinQuestion.__init__" zbh f fd)
    (dm_BenchQuestion_ways:∃ f fd,MethAt K cBenchQuestion "ways" "BenchQuestion.ways" zbV f fd)
    (dm_BinQuestion_free:∃ f fd,MethAt K cBinQuestion "free" "BinQuestion.free" zbF f fd)
    (dm_BinQuestion_ways:∃ f fd,MethAt K cBinQuestion "ways" "BinQuestion.ways" zbI f fd)
    (dm_BenchQuestion_low:∃ f fd,MethAt K cBenchQuestion "low" "BenchQuestion.low" zb2 f fd)
    (dm_BinQuestion_low:∃ f fd,MethAt K cBinQuestion "low" "BinQuestion.low" zch f fd)
    (dm_BenchQuestion_answer:∃ f fd,MethAt K cBenchQuestion "answer" "BenchQuestion.answer" zbC f fd)
    (dm_BinQuestion_answer:∃ f fd,MethAt K cBinQuestion "answer" "BinQuestion.answer" zbX f fd)
    (dm_BenchQuestion_steps:∃ f fd,MethAt K cBenchQuestion "steps" "BenchQuestion.steps" zbJ f fd)
    (dm_BinQuestion_steps:∃ f fd,MethAt K cBinQuestion "steps" "BinQuestion.steps" zb0 f fd)
    : ∃ fd:FuncData,(∀ (s:Shared) (v:Value),BindsTo s fd ⟨[v],[]⟩ [("_law_script",v)])∧∀ base:Heap,K.In base→base.Ns mainGlobals mg→BmAt mg base→FnOk l.prog w K mg base CX0 7 fa fd ["_law_script"] (zjY K):=by
  have e:=hfa.symm.trans (PySem.W.mg_of X G aL)
  cases e
  let ad:Adr:=⟨cEnoughError,cNoShare,cNoRoom,cQuestion,cBenchQuestion,cBinQuestion,fNoRoom⟩
  have T:Txt K mg ad:=⟨PySem.W.mg_none_of X G z0,PySem.W.mg_none_of X G z1,PySem.W.mg_none_of X G z2,PySem.W.mg_none_of X G z3,PySem.W.mg_none_of X G z4,PySem.W.mg_none_of X G z5,PySem.W.mg_none_of X G z6,PySem.W.mg_none_of X G z7,PySem.W.mg_none_of X G z8,PySem.W.mg_none_of X G z9,PySem.W.mg_none_of X G z10,PySem.W.mg_none_of X G z11,PySem.W.mg_none_of X G z12,PySem.W.mg_none_of X G z13,PySem.W.mg_none_of X G z14,PySem.W.mg_of X G un_Question,PySem.W.mg_of X G un_BenchQuestion,PySem.W.mg_of X G un_BinQuestion,⟨ppg_BenchQuestion,phd_BenchQuestion,ppo_BenchQuestion,psa_BenchQuestion⟩,pna_BenchQuestion_falling,pna_BenchQuestion_least,pna_BenchQuestion_many,pna_BenchQuestion_order,fun H a dx fs e=>TyOf.ins e ⟨ppg_BenchQuestion,phd_BenchQuestion,ppo_BenchQuestion,psa_BenchQuestion⟩ pha_BenchQuestion pzn pzt pmo_BenchQuestion,zhh phd_Question pty_Question pmr_BenchQuestion_Question pmr_BenchQuestion_BenchQuestion,⟨ppg_BinQuestion,phd_BinQuestion,ppo_BinQuestion,psa_BinQuestion⟩,pna_BinQuestion_falling,pna_BinQuestion_order,pna_BinQuestion_room,fun H a dx fs e=>TyOf.ins e ⟨ppg_BinQuestion,phd_BinQuestion,ppo_BinQuestion,psa_BinQuestion⟩ pha_BinQuestion pzn pzt pmo_BinQuestion,zhh phd_Question pty_Question pmr_BinQuestion_Question pmr_BinQuestion_BinQuestion,PySem.W.mg_of X G un_EnoughError,PySem.W.mg_of X G un_NoShare,PySem.W.mg_of X G un_NoRoom,ux_NoRoom,uf_NoRoom,una_NoRoom,ue_NoShare,ub_EnoughError,⟨uga_NoShare,ugn_NoShare,uhd_NoShare,uha_NoShare,uzn,uzt,umt_NoShare_object,umt_NoShare_BaseException⟩,zjj uhd_EnoughError uty_EnoughError umr_NoShare_EnoughError,zhh uhd_NoRoom uty_NoRoom umr_NoShare_NoRoom umr_NoShare_NoShare,⟨uga_NoRoom,ugn_NoRoom,uhd_NoRoom,uha_NoRoom,uzn,uzt,umt_NoRoom_object,umt_NoRoom_BaseException⟩,⟨⟨uga_NoRoom,ugn_NoRoom,uhd_NoRoom,uha_NoRoom,uzn,uzt,umt_NoRoom_object,umt_NoRoom_BaseException⟩,usa_NoRoom,uov_NoRoom⟩,zjj uhd_EnoughError uty_EnoughError umr_NoRoom_EnoughError,zhh uhd_NoRoom uty_NoRoom umr_NoRoom_NoRoom umr_NoRoom_NoRoom⟩
  obtain ⟨f0,g0,D0⟩:=d0
  obtain ⟨f1,g1,D1⟩:=d1
  obtain ⟨f2,g2,D2⟩:=d2
  obtain ⟨f4,g4,D4⟩:=d4
  obtain ⟨f5,g5,D5⟩:=d5
  obtain ⟨f6,g6,D6⟩:=d6
  obtain ⟨f7,g7,D7⟩:=d7
  obtain ⟨f8,g8,D8⟩:=d8
  obtain ⟨f9,g9,D9⟩:=d9
  obtain ⟨f10,g10,D10⟩:=d10
  obtain ⟨f11,g11,D11⟩:=d11
  obtain ⟨f12,g12,D12⟩:=d12
  obtain ⟨f13,g13,D13⟩:=d13
  obtain ⟨f14,g14,D14⟩:=d14
  obtain ⟨f15,g15,D15⟩:=d15
  obtain ⟨f16,g16,D16⟩:=d16
  obtain ⟨f17,g17,D17⟩:=d17
  obtain ⟨f18,g18,D18⟩:=d18
  obtain ⟨f19,g19,D19⟩:=d19
  obtain ⟨f20,g20,D20⟩:=d20
  have D3:DefAt K "greatest_order" zaJ fM _:=⟨vn,zih (st:=zaJ) vl vc vk⟩
  obtain ⟨f_BenchQuestion___init__,g_BenchQuestion___init__,D_BenchQuestion___init__⟩:=dm_BenchQuestion___init__
  obtain ⟨f_BinQuestion___init__,g_BinQuestion___init__,D_BinQuestion___init__⟩:=dm_BinQuestion___init__
  obtain ⟨f_BenchQuestion_ways,g_BenchQuestion_ways,D_BenchQuestion_ways⟩:=dm_BenchQuestion_ways
  obtain ⟨f_BinQuestion_free,g_BinQuestion_free,D_BinQuestion_free⟩:=dm_BinQuestion_free
  obtain ⟨f_BinQuestion_ways,g_BinQuestion_ways,D_BinQuestion_ways⟩:=dm_BinQuestion_ways
  obtain ⟨f_BenchQuestion_low,g_BenchQuestion_low,D_BenchQuestion_low⟩:=dm_BenchQuestion_low
  obtain ⟨f_BinQuestion_low,g_BinQuestion_low,D_BinQuestion_low⟩:=dm_BinQuestion_low
  obtain ⟨f_BenchQuestion_answer,g_BenchQuestion_answer,D_BenchQuestion_answer⟩:=dm_BenchQuestion_answer
  obtain ⟨f_BinQuestion_answer,g_BinQuestion_answer,D_BinQuestion_answer⟩:=dm_BinQuestion_answer
  obtain ⟨f_BenchQuestion_steps,g_BenchQuestion_steps,D_BenchQuestion_steps⟩:=dm_BenchQuestion_steps
  obtain ⟨f_BinQuestion_steps,g_BinQuestion_steps,D_BinQuestion_steps⟩:=dm_BinQuestion_steps
  have FL:=zih (st:=zgD) lL cL kL
  refine ⟨PySem.W.fnOf "law" "law" (zcz zgD) (zb6 zgD) (zaj zgD) .none kV doc pm an cdv ct,fun s v=>.of_eq rfl,fun base _ _ KB=>?_⟩
  have F_NoRoom:=zih (st:=zbT) ul_NoRoom uc_NoRoom uk_NoRoom
  have I_NoRoom:HasI l.prog w K mg base fNoRoom ["self","thing"] (spI K "thing"):=⟨_,zgK F_NoRoom,F_NoRoom.binds fun _ _ _ _ _ _ us hl=>match us,hl with | [_,_],_=>rfl⟩
  have G_law_number:Has l.prog w K mg base CX0 1 "_law_number" ["_law_cell","_law_k"] (spM (KX K ad) (xoK (KX K ad)) zbQ):=D0.has X G (zhB D0.fn T  ) (D0.fn.binds fun _ _ _ _ _ _ us hl=>match us,hl with | [_,_],_=>rfl)
  have G_law_size:Has l.prog w K mg base CX0 2 "_law_size" ["_law_cell","_law_k"] (spM (KX K ad) (xoK (KX K ad)) zcg):=D1.has X G (zjh D1.fn T  G_law_number) (D1.fn.binds fun _ _ _ _ _ _ us hl=>match us,hl with | [_,_],_=>rfl)
  have G_law_cell_at:Has l.prog w K mg base CX0 1 "_law_cell_at" ["_law_script","_law_k"] (spM (KX K ad) (xoK (KX K ad)) zaI):=D2.has X G (zgH D2.fn T  ) (D2.fn.binds fun _ _ _ _ _ _ us hl=>match us,hl with | [_,_],_=>rfl)
  have G_greatest_order:Has l.prog w K mg base CX0 1 "greatest_order" ["sizes"] (spO (KX K ad) (xoK (KX K ad)) zaM):=D3.has X G (zfw vl vc T vT vC KB ) (D3.fn.binds fun _ _ _ _ _ _ us hl=>match us,hl with | [_],_=>rfl)
  have G_common_factor:Has l.prog w K mg base CX0 1 "common_factor" ["one","other"] (spM (KX K ad) (xoK (KX K ad)) zbR):=D4.has X G (zfV D4.fn T  ) (D4.fn.binds fun _ _ _ _ _ _ us hl=>match us,hl with | [_,_],_=>rfl)
  have G_share:Has l.prog w K mg base (CX1 l.prog w) 2 "share" ["top","bottom"] (spM (KX K ad) (xoK (KX K ad)) zcj):=D5.has X G (znR D5.fn T  G_common_factor) (D5.fn.binds fun _ _ _ _ _ _ us hl=>match us,hl with | [_,_],_=>rfl)
  have G_rounded_up:Has l.prog w K mg base CX0 1 "rounded_up" ["one"] (spM (KX K ad) (xoK (KX K ad)) zba):=D6.has X G (zhj D6.fn T  ) (D6.fn.binds fun _ _ _ _ _ _ us hl=>match us,hl with | [_],_=>rfl)
  have G_BenchQuestion___init__:HasC l.prog w K mg base (CX1 l.prog w) 3 "BenchQuestion" ad.BenchQuestion ["self","works","many"] (spX (KX K ad) 4 zaR):=D_BenchQuestion___init__.hasC pmk_BenchQuestion pkp_BenchQuestion T.m_BenchQuestion (zdd D_BenchQuestion___init__.fn T  G_greatest_order G_share G_rounded_up) (D_BenchQuestion___init__.fn.binds fun _ _ _ _ _ _ us hl=>match us,hl with | [_,_,_],_=>rfl)
  have G_refuse_too_great:Has l.prog w K mg base (CX1 l.prog w) 3 "refuse_too_great" ["sizes","room"] (spM (KX K ad) (xoK (KX K ad)) zaQ):=D7.has X G (zeJ D7.fn T  I_NoRoom) (D7.fn.binds fun _ _ _ _ _ _ us hl=>match us,hl with | [_,_],_=>rfl)
  have G_BinQuestion___init__:HasC l.prog w K mg base (CX1 l.prog w) 4 "BinQuestion" ad.BinQuestion ["self","sizes","room"] (spX (KX K ad) 5 zay):=D_BinQuestion___init__.hasC pmk_BinQuestion pkp_BinQuestion T.m_BinQuestion (zdG D_BinQuestion___init__.fn T  G_greatest_order G_refuse_too_great) (D_BinQuestion___init__.fn.binds fun _ _ _ _ _ _ us hl=>match us,hl with | [_,_,_],_=>rfl)
  have G_law_order:Has l.prog w K mg base CX0 1 "_law_order" ["_law_sizes"] (spO (KX K ad) (xoK (KX K ad)) zcd):=D8.has X G (zhZ D8.fn T  ) (D8.fn.binds fun _ _ _ _ _ _ us hl=>match us,hl with | [_],_=>rfl)
  have G_law_up:Has l.prog w K mg base CX0 1 "_law_up" ["_law_much","_law_by"] (spM (KX K ad) (xoK (KX K ad)) zc8):=D9.has X G (zm1 D9.fn T  ) (D9.fn.binds fun _ _ _ _ _ _ us hl=>match us,hl with | [_,_],_=>rfl)
  have G_law_bench:Has l.prog w K mg base CX0 2 "_law_bench" ["_law_sizes","_law_order_here","_law_many","_law_case"] (spO (KX K ad) (xoK (KX K ad)) zck):=D10.has X G (zio D10.fn T  G_law_up) (D10.fn.binds fun _ _ _ _ _ _ us hl=>match us,hl with | [_,_,_,_],_=>rfl)
  have G_law_bin:Has l.prog w K mg base CX0 2 "_law_bin" ["_law_sizes","_law_order_here","_law_room","_law_case"] (spO (KX K ad) (xoK (KX K ad)) zel):=D11.has X G (zkI D11.fn T  G_law_up) (D11.fn.binds fun _ _ _ _ _ _ us hl=>match us,hl with | [_,_,_,_],_=>rfl)
  have G_law_due:Has l.prog w K mg base CX0 3 "_law_due" ["_law_kind","_law_sizes","_law_order_here","_law_bound","_law_case"] (spO (KX K ad) (xoK (KX K ad)) zbq):=D12.has X G (zkU D12.fn T  G_law_bench G_law_bin) (D12.fn.binds fun _ _ _ _ _ _ us hl=>match us,hl with | [_,_,_,_,_],_=>rfl)
  have G_BenchQuestion_ways:HasM l.prog w K mg base CX0 1 "ways" ad.BenchQuestion ["self","case"] (spO (KX K ad) (xoK (KX K ad)) zaC):=D_BenchQuestion_ways.hasM T.cl_BenchQuestion (zej D_BenchQuestion_ways.fn T  ) (D_BenchQuestion_ways.fn.binds fun _ _ _ _ _ _ us hl=>match us,hl with | [_,_],_=>rfl)
  have G_BinQuestion_free:HasM l.prog w K mg base CX0 1 "free" ad.BinQuestion ["self","case"] (spO (KX K ad) (xoK (KX K ad)) zaP):=D_BinQuestion_free.hasM T.cl_BinQuestion (zeP D_BinQuestion_free.fn T  ) (D_BinQuestion_free.fn.binds fun _ _ _ _ _ _ us hl=>match us,hl with | [_,_],_=>rfl)
  have G_BinQuestion_ways:HasM l.prog w K mg base CX0 2 "ways" ad.BinQuestion ["self","case"] (spO (KX K ad) (xoK (KX K ad)) zaG):=D_BinQuestion_ways.hasM T.cl_BinQuestion (zeI D_BinQuestion_ways.fn T  G_BinQuestion_free) (D_BinQuestion_ways.fn.binds fun _ _ _ _ _ _ us hl=>match us,hl with | [_,_],_=>rfl)
  have G_law_is:Has l.prog w K mg base CX0 1 "_law_is" ["_law_found","_law_due_here"] (spM (KX K ad) (xoK (KX K ad)) zbd):=D13.has X G (zmd D13.fn T  ) (D13.fn.binds fun _ _ _ _ _ _ us hl=>match us,hl with | [_,_],_=>rfl)
  have G_law_numbers:Has l.prog w K mg base CX0 2 "_law_numbers" ["_law_found","_law_due_here"] (spM (KX K ad) (xoK (KX K ad)) zaL):=D14.has X G (zgC D14.fn T  G_law_is) (D14.fn.binds fun _ _ _ _ _ _ us hl=>match us,hl with | [_,_],_=>rfl)
  have G_law_told_again:Has l.prog w K mg base CX0 3 "_law_told_again" ["_law_question","_law_case","_law_due_here"] (spM (KX K ad) (xoK (KX K ad)) zbj):=D15.has X G (zfx D15.fn T  G_BenchQuestion_ways G_BinQuestion_ways G_law_numbers) (D15.fn.binds fun _ _ _ _ _ _ us hl=>match us,hl with | [_,_,_],_=>rfl)
  have G_heaviest:Has l.prog w K mg base CX0 1 "heaviest" ["works","many","put"] (spM (KX K ad) (xoK (KX K ad)) zdo):=D16.has X G (ziZ D16.fn T  ) (D16.fn.binds fun _ _ _ _ _ _ us hl=>match us,hl with | [_,_,_],_=>rfl)
  have G_BenchQuestion_low:HasM l.prog w K mg base CX0 2 "low" ad.BenchQuestion ["self","case"] (spM (KX K ad) (xoK (KX K ad)) zam):=D_BenchQuestion_low.hasM T.cl_BenchQuestion (zex D_BenchQuestion_low.fn T  G_heaviest) (D_BenchQuestion_low.fn.binds fun _ _ _ _ _ _ us hl=>match us,hl with | [_,_],_=>rfl)
  have G_BinQuestion_low:HasM l.prog w K mg base (CX1 l.prog w) 3 "low" ad.BinQuestion ["self","case"] (spM (KX K ad) (xoK (KX K ad)) zas):=D_BinQuestion_low.hasM T.cl_BinQuestion (ze4 D_BinQuestion_low.fn T  G_share G_rounded_up G_BinQuestion_free) (D_BinQuestion_low.fn.binds fun _ _ _ _ _ _ us hl=>match us,hl with | [_,_],_=>rfl)
  have G_law_next:Has l.prog w K mg base CX0 2 "_law_next" ["_law_script","_law_at","_law_ways"] (spM (KX K ad) (xoK (KX K ad)) zcK):=D17.has X G (zjz D17.fn T  G_law_cell_at) (D17.fn.binds fun _ _ _ _ _ _ us hl=>match us,hl with | [_,_,_],_=>rfl)
  have G_put_by_list:Has l.prog w K mg base CX0 1 "put_by_list" ["order","case"] (spO (KX K ad) (xoK (KX K ad)) zbs):=D18.has X G (zgQ D18.fn T  ) (D18.fn.binds fun _ _ _ _ _ _ us hl=>match us,hl with | [_,_],_=>rfl)
  have G_BenchQuestion_answer:HasM l.prog w K mg base CX0 2 "answer" ad.BenchQuestion ["self","case"] (spO (KX K ad) (xoK (KX K ad)) zaB):=D_BenchQuestion_answer.hasM T.cl_BenchQuestion (zdM D_BenchQuestion_answer.fn T  G_put_by_list) (D_BenchQuestion_answer.fn.binds fun _ _ _ _ _ _ us hl=>match us,hl with | [_,_],_=>rfl)
  have G_BinQuestion_answer:HasM l.prog w K mg base CX0 2 "answer" ad.BinQuestion ["self","case"] (spO (KX K ad) (xoK (KX K ad)) zaE):=D_BinQuestion_answer.hasM T.cl_BinQuestion (zef D_BinQuestion_answer.fn T  G_put_by_list) (D_BinQuestion_answer.fn.binds fun _ _ _ _ _ _ us hl=>match us,hl with | [_,_],_=>rfl)
  have G_BenchQuestion_steps:HasM l.prog w K mg base CX0 1 "steps" ad.BenchQuestion ["self"] (spM (KX K ad) (xoK (KX K ad)) zaK):=D_BenchQuestion_steps.hasM T.cl_BenchQuestion (zdW D_BenchQuestion_steps.fn T  ) (D_BenchQuestion_steps.fn.binds fun _ _ _ _ _ _ us hl=>match us,hl with | [_],_=>rfl)
  have G_BinQuestion_steps:HasM l.prog w K mg base CX0 1 "steps" ad.BinQuestion ["self"] (spM (KX K ad) (xoK (KX K ad)) zaS):=D_BinQuestion_steps.hasM T.cl_BinQuestion (zeA D_BinQuestion_steps.fn T  ) (D_BinQuestion_steps.fn.binds fun _ _ _ _ _ _ us hl=>match us,hl with | [_],_=>rfl)
  have G_law_chain:Has l.prog w K mg base CX0 4 "_law_chain" ["_law_script","_law_kind","_law_sizes","_law_bound","_law_question"] (spM (KX K ad) (xoK (KX K ad)) zbK):=D19.has X G (ziF D19.fn T  G_law_order G_law_due G_BenchQuestion_ways G_BinQuestion_ways G_law_is G_law_numbers G_law_told_again G_BenchQuestion_low G_BinQuestion_low G_law_next G_BenchQuestion_answer G_BinQuestion_answer G_BenchQuestion_steps G_BinQuestion_steps) (D19.fn.binds fun _ _ _ _ _ _ us hl=>match us,hl with | [_,_,_,_,_],_=>rfl)
  have G_law_refused:Has l.prog w K mg base CX0 6 "_law_refused" ["_law_sizes","_law_room"] (spM (KX K ad) (xoK (KX K ad)) zbS):=D20.has X G (zgP D20.fn T  G_BinQuestion___init__ G_law_is) (D20.fn.binds fun _ _ _ _ _ _ us hl=>match us,hl with | [_,_],_=>rfl)
  exact zqA FL T G_law_size G_law_cell_at G_BenchQuestion___init__ G_BinQuestion___init__ G_law_chain G_law_refused
theorem walk {l:PySem.W.OpenLaw} {q:Program} {loose:List Str} {XP:(Str→Option Value)→Heap→Prop} {YP:World→Heap→Prop} {d:DefRec} {K:Params→PySem.W.Frag} (hn:l.most=some 63) (hdf:d.params.defaults = [])
    (hY:∀ (w:World) (h:Heap),YP w h→(K w.params).In h) {tP:Addr} (hY2:∀ (w:World) (h:Heap),YP w h→∀ t ∈ [tP],h.get? t=some (PySem.W.tabObj #[])) (hT:∀ w:World,zh9 (K w.params) tP=true)
    (F:∀ (w:World) (mg:Str→Option Value) (fa:Addr) (h:Heap),(K w.params).In h→h.Ns mainGlobals mg→mg d.name=some (.ref fa) →
      ∃ fd:FuncData,(∀ (s:Shared) (u:Value),BindsTo s fd ⟨[u],[]⟩ [("_law_script",u)])∧∀ base:Heap,(K w.params).In base→base.Ns mainGlobals mg→BmAt mg base→FnOk l.prog w (K w.params) mg base CX0 7 fa fd ["_law_script"] (zjY (K w.params))) :
    PySem.W.WalkO q loose XP YP l.row.toRowW d [] (fun f vs=>PySem.call f vs) :=
  L2.walk_ofT (n:=63) (k:=7) (x:="_law_script") (CX:=fun _=>CX0) (sp:=fun w=>zjY (K w.params)) hn (by decide) hdf ⟨rfl,by decide,by decide⟩ hY hY2 hT F (fun _ _ a ns hl hS=>⟨a,ns,rfl,hS,hl,fun _=>rfl⟩) fun _ _ _ _ _ z=>z
end My
def PySem.W.Fast.tw12746462085214429334:Nat:=0
def PySem.W.Fast.tw2977360024540405151:Nat:=0
def PySem.W.Fast.tw8456293551095938481:Nat:=0
def PySem.W.Fast.tw9736660540170289844:Nat:=0
def PySem.W.Fast.tw15239866637983316922:Nat:=0
def PySem.W.Fast.tw9635389477653015538:Nat:=0
def PySem.W.Fast.tw1440666850000611873:Nat:=0
def PySem.W.Fast.tw1873985844649353374:Nat:=0
def PySem.W.Fast.tw1579092817346602448:Nat:=0
def PySem.W.Fast.tw3306457210750289402:Nat:=0
def PySem.W.Fast.tw18283856336812467044:Nat:=0
def PySem.W.Fast.tw7869753972244263333:Nat:=0
def PySem.W.Fast.tw8697067225636915141:Nat:=0
def PySem.W.Fast.tw12787145065538021330:Nat:=0
def PySem.W.Fast.tw17413350285105411852:Nat:=0
def PySem.W.Fast.tw5590466269275037746:Nat:=0
def PySem.W.Fast.tw18218340759295745334:Nat:=0
open PySem PySem.W PyProof.Rows
set_option maxRecDepth 100000 in
set_option maxHeartbeats 0 in
theorem PySem.Challenge.cw_goodenough_k36_bench_and_bin_cases_holds : PySem.Challenge.rw_goodenough_k36_bench_and_bin_cases.Holds := by
  w_on; o_law; k_head; (case hw=>w_witness2)
  k_fill
  refine My.walk (l:=PySem.Challenge.rw_goodenough_k36_bench_and_bin_cases) rfl rfl (fun w h Y=>by first | exact PySem.W.kIn_of Y | exact PySem.W.km_in_of Y) (fun w h Y=>PySem.W.km_tabs_of Y) ?tab ?F
  (case tab=>intro w; kernel_rfl)
  case F =>
    intro w mg fa h KX G hmg
    refine' My.all_mk KX G hmg (L2.defAt_mk ?a0 ?l0 ?c0 ?k0) (L2.defAt_mk ?a1 ?l1 ?c1 ?k1) (L2.defAt_mk ?a2 ?l2 ?c2 ?k2) (L2.defAt_mk ?a4 ?l4 ?c4 ?k4) (L2.defAt_mk ?a5 ?l5 ?c5 ?k5) (L2.defAt_mk ?a6 ?l6 ?c6 ?k6) (L2.defAt_mk ?a7 ?l7 ?c7 ?k7) (L2.defAt_mk ?a8 ?l8 ?c8 ?k8) (L2.defAt_mk ?a9 ?l9 ?c9 ?k9) (L2.defAt_mk ?a10 ?l10 ?c10 ?k10) (L2.defAt_mk ?a11 ?l11 ?c11 ?k11) (L2.defAt_mk ?a12 ?l12 ?c12 ?k12) (L2.defAt_mk ?a13 ?l13 ?c13 ?k13) (L2.defAt_mk ?a14 ?l14 ?c14 ?k14) (L2.defAt_mk ?a15 ?l15 ?c15 ?k15) (L2.defAt_mk ?a16 ?l16 ?c16 ?k16) (L2.defAt_mk ?a17 ?l17 ?c17 ?k17) (L2.defAt_mk ?a18 ?l18 ?c18 ?k18) (L2.defAt_mk ?a19 ?l19 ?c19 ?k19) (L2.defAt_mk ?a20 ?l20 ?c20 ?k20) ?aL ?lL ?cL ?kL ?z0 ?z1 ?z2 ?z3 ?z4 ?z5 ?z6 ?z7 ?z8 ?z9 ?z10 ?z11 ?z12 ?z13 ?z14 ?un_Question ?un_BenchQuestion ?un_BinQuestion ?pzn ?pzt ?phd_Question ?phd_BenchQuestion ?phd_BinQuestion ?pty_Question ?ppg_BenchQuestion ?ppo_BenchQuestion ?psa_BenchQuestion ?pna_BenchQuestion_falling ?pna_BenchQuestion_least ?pna_BenchQuestion_many ?pna_BenchQuestion_order ?pmk_BenchQuestion ?pkp_BenchQuestion ?pha_BenchQuestion ?pmo_BenchQuestion ?pmr_BenchQuestion_Question ?pmr_BenchQuestion_BenchQuestion ?ppg_BinQuestion ?ppo_BinQuestion ?psa_BinQuestion ?pna_BinQuestion_falling ?pna_BinQuestion_order ?pna_BinQuestion_room ?pmk_BinQuestion ?pkp_BinQuestion ?pha_BinQuestion ?pmo_BinQuestion ?pmr_BinQuestion_Question ?pmr_BinQuestion_BinQuestion ?un_EnoughError ?un_NoShare ?un_NoRoom ?ui_NoRoom ?ul_NoRoom ?uc_NoRoom ?uk_NoRoom ?ux_NoRoom ?uf_NoRoom ?una_NoRoom ?usa_NoRoom ?uov_NoRoom ?ue_NoShare ?ub_EnoughError ?uzn ?uzt ?uhd_EnoughError ?uhd_NoShare ?uhd_NoRoom ?uty_EnoughError ?uty_NoShare ?uty_NoRoom ?uga_NoShare ?ugn_NoShare ?uha_NoShare ?umr_NoShare_EnoughError ?umr_NoShare_NoShare ?umr_NoShare_NoRoom ?umt_NoShare_object ?umt_NoShare_BaseException ?umt_NoShare_ValueError ?uga_NoRoom ?ugn_NoRoom ?uha_NoRoom ?umr_NoRoom_EnoughError ?umr_NoRoom_NoShare ?umr_NoRoom_NoRoom ?umt_NoRoom_object ?umt_NoRoom_BaseException ?umt_NoRoom_ValueError ?vn ?vl ?vc ?vk ?vv ?vt ?vT ?vC (L2.methAt_mk ?ma0 ?mi0 ?ml0 ?mc0 ?mk0) (L2.methAt_mk ?ma1 ?mi1 ?ml1 ?mc1 ?mk1) (L2.methAt_mk ?ma2 ?mi2 ?ml2 ?mc2 ?mk2) (L2.methAt_mk ?ma3 ?mi3 ?ml3 ?mc3 ?mk3) (L2.methAt_mk ?ma4 ?mi4 ?ml4 ?mc4 ?mk4) (L2.methAt_mk ?ma5 ?mi5 ?ml5 ?mc5 ?mk5) (L2.methAt_mk ?ma6 ?mi6 ?ml6 ?mc6 ?mk6) (L2.methAt_mk ?ma7 ?mi7 ?ml7 ?mc7 ?mk7) (L2.methAt_mk ?ma8 ?mi8 ?ml8 ?mc8 ?mk8) (L2.methAt_mk ?ma9 ?mi9 ?ml9 ?mc9 ?mk9) (L2.methAt_mk ?ma10 ?mi10 ?ml10 ?mc10 ?mk10)
    (case a0=>k_is); (case l0=>k_is); (case c0=>k_is); (case k0=>k_is)
    (case a1=>k_is); (case l1=>k_is); (case c1=>k_is); (case k1=>k_is)
    (case a2=>k_is); (case l2=>k_is); (case c2=>k_is); (case k2=>k_is)
    (case a4=>k_is); (case l4=>k_is); (case c4=>k_is); (case k4=>k_is)
    (case a5=>k_is); (case l5=>k_is); (case c5=>k_is); (case k5=>k_is)
    (case a6=>k_is); (case l6=>k_is); (case c6=>k_is); (case k6=>k_is)
    (case a7=>k_is); (case l7=>k_is); (case c7=>k_is); (case k7=>k_is)
    (case a8=>k_is); (case l8=>k_is); (case c8=>k_is); (case k8=>k_is)
    (case a9=>k_is); (case l9=>k_is); (case c9=>k_is); (case k9=>k_is)
    (case a10=>k_is); (case l10=>k_is); (case c10=>k_is); (case k10=>k_is)
    (case a11=>k_is); (case l11=>k_is); (case c11=>k_is); (case k11=>k_is)
    (case a12=>k_is); (case l12=>k_is); (case c12=>k_is); (case k12=>k_is)
    (case a13=>k_is); (case l13=>k_is); (case c13=>k_is); (case k13=>k_is)
    (case a14=>k_is); (case l14=>k_is); (case c14=>k_is); (case k14=>k_is)
    (case a15=>k_is); (case l15=>k_is); (case c15=>k_is); (case k15=>k_is)
    (case a16=>k_is); (case l16=>k_is); (case c16=>k_is); (case k16=>k_is)
    (case a17=>k_is); (case l17=>k_is); (case c17=>k_is); (case k17=>k_is)
    (case a18=>k_is); (case l18=>k_is); (case c18=>k_is); (case k18=>k_is)
    (case a19=>k_is); (case l19=>k_is); (case c19=>k_is); (case k19=>k_is)
    (case a20=>k_is); (case l20=>k_is); (case c20=>k_is); (case k20=>k_is)
    (case aL=>k_is); (case lL=>k_is); (case cL=>k_is); (case kL=>k_is)
    (case z0=>k_is)
    (case z1=>k_is)
    (case z2=>k_is)
    (case z3=>k_is)
    (case z4=>k_is)
    (case z5=>k_is)
    (case z6=>k_is)
    (case z7=>k_is)
    (case z8=>k_is)
    (case z9=>k_is)
    (case z10=>k_is)
    (case z11=>k_is)
    (case z12=>k_is)
    (case z13=>k_is)
    (case z14=>k_is)
    (case un_Question=>k_is)
    (case un_BenchQuestion=>k_is)
    (case un_BinQuestion=>k_is)
    (case pzn=>k_is)
    (case pzt=>k_is)
    (case phd_Question=>k_is)
    (case phd_BenchQuestion=>k_is)
    (case phd_BinQuestion=>k_is)
    (case pty_Question=>k_is)
    (case ppg_BenchQuestion=>k_is)
    (case ppo_BenchQuestion=>k_is)
    (case psa_BenchQuestion=>k_is)
    (case pna_BenchQuestion_falling=>k_is)
    (case pna_BenchQuestion_least=>k_is)
    (case pna_BenchQuestion_many=>k_is)
    (case pna_BenchQuestion_order=>k_is)
    (case pmk_BenchQuestion=>k_is)
    (case pkp_BenchQuestion=>k_is)
    (case pha_BenchQuestion=>k_is)
    (case pmo_BenchQuestion=>k_is)
    (case pmr_BenchQuestion_Question=>k_is)
    (case pmr_BenchQuestion_BenchQuestion=>k_is)
    (case ppg_BinQuestion=>k_is)
    (case ppo_BinQuestion=>k_is)
    (case psa_BinQuestion=>k_is)
    (case pna_BinQuestion_falling=>k_is)
    (case pna_BinQuestion_order=>k_is)
    (case pna_BinQuestion_room=>k_is)
    (case pmk_BinQuestion=>k_is)
    (case pkp_BinQuestion=>k_is)
    (case pha_BinQuestion=>k_is)
    (case pmo_BinQuestion=>k_is)
    (case pmr_BinQuestion_Question=>k_is)
    (case pmr_BinQuestion_BinQuestion=>k_is)
    (case un_EnoughError=>k_is)
    (case un_NoShare=>k_is)
    (case un_NoRoom=>k_is)
    (case ui_NoRoom=>k_is)
    (case ul_NoRoom=>k_is)
    (case uc_NoRoom=>k_is)
    (case uk_NoRoom=>k_is)
    (case ux_NoRoom=>kernel_rfl)
    (case uf_NoRoom=>k_is)
    (case una_NoRoom=>k_is)
    (case usa_NoRoom=>k_is)
    (case uov_NoRoom=>kernel_rfl)
    (case ue_NoShare=>k_exc)
    (case ub_EnoughError=>k_is)
    (case uzn=>k_is)
    (case uzt=>k_is)
    (case uhd_EnoughError=>k_is)
    (case uhd_NoShare=>k_is)
    (case uhd_NoRoom=>k_is)
    (case uty_EnoughError=>k_is)
    (case uty_NoShare=>k_is)
    (case uty_NoRoom=>k_is)
    (case uga_NoShare=>k_is)
    (case ugn_NoShare=>k_is)
    (case uha_NoShare=>k_is)
    (case umr_NoShare_EnoughError=>k_is)
    (case umr_NoShare_NoShare=>k_is)
    (case umr_NoShare_NoRoom=>k_is)
    (case umt_NoShare_object=>k_is)
    (case umt_NoShare_BaseException=>k_is)
    (case umt_NoShare_ValueError=>k_is)
    (case uga_NoRoom=>k_is)
    (case ugn_NoRoom=>k_is)
    (case uha_NoRoom=>k_is)
    (case umr_NoRoom_EnoughError=>k_is)
    (case umr_NoRoom_NoShare=>k_is)
    (case umr_NoRoom_NoRoom=>k_is)
    (case umt_NoRoom_object=>k_is)
    (case umt_NoRoom_BaseException=>k_is)
    (case umt_NoRoom_ValueError=>k_is)
    (case vn=>k_is)
    (case vl=>k_is)
    (case vc=>k_is)
    (case vk=>k_is)
    (case vv=>k_is)
    (case vt=>rfl)
    (case vT=>kernel_rfl)
    (case vC=>kernel_rfl)
    (case ma0=>k_is); (case mi0=>k_is); (case ml0=>k_is); (case mc0=>k_is); (case mk0=>k_is)
    (case ma1=>k_is); (case mi1=>k_is); (case ml1=>k_is); (case mc1=>k_is); (case mk1=>k_is)
    (case ma2=>k_is); (case mi2=>k_is); (case ml2=>k_is); (case mc2=>k_is); (case mk2=>k_is)
    (case ma3=>k_is); (case mi3=>k_is); (case ml3=>k_is); (case mc3=>k_is); (case mk3=>k_is)
    (case ma4=>k_is); (case mi4=>k_is); (case ml4=>k_is); (case mc4=>k_is); (case mk4=>k_is)
    (case ma5=>k_is); (case mi5=>k_is); (case ml5=>k_is); (case mc5=>k_is); (case mk5=>k_is)
    (case ma6=>k_is); (case mi6=>k_is); (case ml6=>k_is); (case mc6=>k_is); (case mk6=>k_is)
    (case ma7=>k_is); (case mi7=>k_is); (case ml7=>k_is); (case mc7=>k_is); (case mk7=>k_is)
    (case ma8=>k_is); (case mi8=>k_is); (case ml8=>k_is); (case mc8=>k_is); (case mk8=>k_is)
    (case ma9=>k_is); (case mi9=>k_is); (case ml9=>k_is); (case mc9=>k_is); (case mk9=>k_is)
    (case ma10=>k_is); (case mi10=>k_is); (case ml10=>k_is); (case mc10=>k_is); (case mk10=>k_is)
#print axioms PySem.Challenge.cw_goodenough_k36_bench_and_bin_cases_holds
