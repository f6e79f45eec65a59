import PyProof.Rows.All
import Wide.All
import OpenK.AllK
import Wide.FinOn
import Lean
import PyProof.EqAt
import PyProof.EqKinds
import PyProof.TupleCall
import PySem.Challenge.RW_goodenough_k47_puttings_looked_at
set_option Elab.async false
set_option linter.all false
set_option maxRecDepth 100000
set_option maxHeartbeats 4000000
noncomputable section
namespace L2
open PySem PySem.Spec PyProof.Rows
abbrev Key:=Sum Int Str
def zk6:Key→Value→Bool
  | .inl k,v=>Value.isInt k v
  | .inr x,v=>Value.isStrOf x v
def keyH (w:World):Key→Int
  | .inl k=>hashInt k
  | .inr x=>hashStr w x
theorem zbt:∀ {k:Key} {v:Value},zk6 k v=true→(∃ i t,k=Sum.inl i∧v=Value.int i t)∨(∃ x t,k=Sum.inr x∧v=Value.str x t)
  | .inl i,v,h=>by
    obtain ⟨t,e⟩:=Value.isInt_shape (k:=i) (v:=v) h
    exact .inl ⟨i,t,rfl,e⟩
  | .inr x,v,h=>by
    obtain ⟨t,e⟩:=Value.isStrOf_shape (x:=x) (v:=v) h
    exact .inr ⟨x,t,rfl,e⟩
theorem zmn (i:Int) (t:Tok):zk6 (.inl i) (.int i t)=true:=by simp [zk6,Value.isInt]
theorem zm8 (x:Str) (t:Tok):zk6 (.inr x) (.str x t)=true:=by simp [zk6,Value.isStrOf]
theorem zqq (a b:Int):decide ((Sum.inl a:Key)=Sum.inl b)=(a == b):=by
  by_cases e:a=b
  · subst e; simp
  · have h:¬ (Sum.inl a:Key)=Sum.inl b:=fun q=>e (Sum.inl.inj q)
    rw [decide_eq_false h]
    exact (beq_eq_false_iff_ne.mpr e).symm
theorem zqm (a b:Str):decide ((Sum.inr a:Key)=Sum.inr b)=decide (a=b):=by
  by_cases e:a=b
  · subst e; simp
  · have h:¬ (Sum.inr a:Key)=Sum.inr b:=fun q=>e (Sum.inr.inj q)
    rw [decide_eq_false h,decide_eq_false e]
theorem zqg (a:Int) (b:Str):decide ((Sum.inl a:Key)=Sum.inr b)=false:=decide_eq_false (fun q=>nomatch q)
theorem zqO (a:Str) (b:Int):decide ((Sum.inr a:Key)=Sum.inl b)=false:=decide_eq_false (fun q=>nomatch q)
def zbw (prog:Program) (w:World):PySem.KeyKind prog w Key where
  is:=zk6
  hash:=keyH w
  inj:=fun v a b ha hb=>by
    rcases zbt ha with ⟨i,t,rfl,rfl⟩ | ⟨x,t,rfl,rfl⟩
    · rcases zbt hb with ⟨j,u,rfl,e⟩ | ⟨y,u,rfl,e⟩
      · injection e with e1 _; rw [e1]
      · exact nomatch e
    · rcases zbt hb with ⟨j,u,rfl,e⟩ | ⟨y,u,rfl,e⟩
      · exact nomatch e
      · injection e with e1 _; rw [e1]
  byValue:=fun k v h=>by
    rcases zbt h with ⟨i,t,rfl,rfl⟩ | ⟨x,t,rfl,rfl⟩ <;> rfl
  pyHash:=fun hv h=>by
    rcases zbt hv with ⟨i,t,rfl,rfl⟩ | ⟨x,t,rfl,rfl⟩
    · exact wpAny_pyHash_int h
    · exact wpAny_pyHash_str h
  eqBool:=fun hu hv h=>by
    rcases zbt hu with ⟨i,t,rfl,rfl⟩ | ⟨x,t,rfl,rfl⟩
    · rcases zbt hv with ⟨j,u,rfl,rfl⟩ | ⟨y,u,rfl,rfl⟩
      · rw [zqq] at h; exact wpAny_eqBool_int h
      · rw [zqg] at h; exact SeqAt.EqAt.int_str i t y u _ _ _ _ h
    · rcases zbt hv with ⟨j,u,rfl,rfl⟩ | ⟨y,u,rfl,rfl⟩
      · rw [zqO] at h; exact SeqAt.EqAt.str_int x t j u _ _ _ _ h
      · rw [zqm] at h; exact wpAny_eqBool_str h
  «strs»:=fun k x t v h=>by
    rcases zbt h with ⟨i,u,rfl,e⟩ | ⟨y,u,rfl,e⟩
    · exact nomatch e
    · injection e with e1 _
      subst e1
      cases v <;> rfl
theorem zjv (prog:Program) (w:World) (i:Int) (t:Tok):(zbw prog w).is (.inl i) (.int i t)=true:=zmn i t
theorem zjq (prog:Program) (w:World) (x:Str) (t:Tok):(zbw prog w).is (.inr x) (.str x t)=true:=zm8 x t
end L2
namespace L2
open PySem PySem.Spec PyProof.Rows
inductive V where
  | non | bl (b:Bool) | int (i:Int) | str (x:Str) | byt (b:Array UInt8) | flt (b:UInt64) | ref (a:Addr) | ty (n:String)
  deriving DecidableEq
def RelV:V→Value→Prop
  | .non,u=>u=Value.none
  | .bl b,u=>u=Value.bool b
  | .int i,u=>∃ t,u=Value.int i t
  | .str x,u=>∃ t,u=Value.str x t
  | .byt b,u=>∃ t,u=Value.bytes b t
  | .flt b,u=>∃ t,u=Value.float b t
  | .ref a,u=>u=Value.ref a
  | .ty n,u=>u=Value.type n
abbrev Vals:List V→List Value→Prop:=Paired RelV
theorem Vals.length {xs:List V} {us:List Value} (r:Vals xs us):xs.length=us.length:=Paired.length r
theorem Vals.get:∀ {xs:List V} {us:List Value} {i:Nat} {x:V},Vals xs us→xs[i]?=some x→∃ u,us[i]?=some u∧RelV x u
  | _,_,_,_,.nil,e=>by simp at e
  | _,_,0,_,.cons r _,e=>by simp at e; subst e; exact ⟨_,rfl,r⟩
  | _,_,i + 1,x,.cons _ t,e=>by
    obtain ⟨u,h1,h2⟩:=Vals.get (i:=i) (x:=x) t (by simpa using e)
    exact ⟨u,by simpa using h1,h2⟩
theorem Vals.set {x:V} {u:Value} (r:RelV x u):∀ {xs:List V} {us:List Value} (i:Nat),Vals xs us→Vals (xs.set i x) (us.set i u)
  | _,_,_,.nil=>.nil
  | _,_,0,.cons _ t=>.cons r t
  | _,_,i + 1,.cons q t=>.cons q (Vals.set r i t)
theorem Vals.append:∀ {xs ys:List V} {us ws:List Value},Vals xs us→Vals ys ws→Vals (xs ++ ys) (us ++ ws)
  | _,_,_,_,.nil,s=>s
  | _,_,_,_,.cons r t,s=>.cons r (Vals.append t s)
theorem Vals.take:∀ {xs:List V} {us:List Value} (n:Nat),Vals xs us→Vals (xs.take n) (us.take n)
  | _,_,0,_=>.nil
  | _,_,_ + 1,.nil=>.nil
  | _,_,n + 1,.cons r t=>.cons r (Vals.take n t)
theorem Vals.drop:∀ {xs:List V} {us:List Value} (n:Nat),Vals xs us→Vals (xs.drop n) (us.drop n)
  | _,_,0,r=>r
  | _,_,_ + 1,.nil=>.nil
  | _,_,n + 1,.cons _ t=>Vals.drop n t
def RelO:Option V→Option Value→Prop
  | some v,some u=>RelV v u
  | none,none=>True
  | _,_=>False
def KV {κ:Type}:List (κ × V)→List (κ × Value)→Prop:=Paired fun (p:κ × V) (q:κ × Value)=>p.1=q.1∧RelV p.2 q.2
def kV:Key→V
  | .inl i=>.int i
  | .inr x=>.str x
inductive HO where
  | lst (xs:List V)
  | tup (xs:List V)
  | dK (kvs:List (Key × V)) | dT (kvs:List (List Key × V))
  | set (S:Int→Bool) (n:Nat)
  | ins (C dx:Addr) (fs:List (Str × V))
  | own (x:Addr)
  | xd (fs:List (Str × V))
  | met (f x:Addr)
  | rng (lo hi:Int)
  | frz (o:Obj) (u:HO)
  | tbl (ps:Array Value)
  | ext (φ:Heap→Prop)
abbrev Hp:=Addr→Option HO
def upd (H:Hp) (a:Addr) (o:HO):Hp:=fun b=>if b=a then some o else H b
theorem zax {H:Hp} {a:Addr} {o:HO}:upd H a o a=some o:=by unfold upd; rw [if_pos rfl]
theorem zau {H:Hp} {a b:Addr} {o:HO} (h:b ≠ a):upd H a o b=H b:=by unfold upd; rw [if_neg h]
theorem zq1 {H:Hp} {a b:Addr} {o u:HO} (h:H a=some o) (h':H b=some u) (d:o ≠ u):a ≠ b:=by
  intro e; subst e; rw [h] at h'; exact d (Option.some.inj h')
theorem zay {H:Hp} {a b:Addr} {o:HO} (h:H a=some o) (h':H b=none):a ≠ b:=by
  intro e; subst e; rw [h] at h'; cases h'
def zqG (fd:FuncData):Option Pos :=
  match fd.body with
  | .stmts [.Return (some (.Call _ _ [⟨_,.Lambda _ _ _ pos,_⟩] _)) _]=>some pos
  | _=>none
def zq2 (K:PySem.W.Frag) (v:Value):Option Addr :=
  match v with
  | .ref c=>match K.lookup c with
    | some o=>match o.data with
      | .fields vs=>match (vs[11]?:Option Value) with
        | some (.ref P)=>some P
        | _=>none
      | _=>none
    | _=>none
  | _=>none
def zhU (K:PySem.W.Frag):Option (Addr × Array Value) :=
  K.findSome? fun p=>match p.2.data with
    | .func fd=>match zqG fd with
      | some pos=>(zq2 K fd.code).map fun P=>(P,#[.str (fd.qualname ++ ".<locals>." ++ "<lambda>") 0,rawInt pos.line,rawInt pos.col])
      | none=>none
    | _=>none
def TblOk (H:Hp) (h:Heap) (a:Addr) (ps:Array Value):Prop :=
  ∃ (q:Str) (t:Tok) (ln cl:Int) (more:List Value) (real:Array Value),ps.toList = .str q t :: rawInt ln :: rawInt cl :: more∧h.get? a=some { cls:=.none,data:=.fields real } ∧
    (real = #[]∨∃ (c:Addr) (o:Obj) (vs:Array Value) (u:Tok),real = #[rawInt ln,rawInt cl,.ref c]∧H c=some (.own a)∧h.get? c=some o∧o.data = .fields vs∧vs[1]?=some (.str q u))
theorem TblOk.lt {H:Hp} {h:Heap} {a:Addr} {ps:Array Value} (x:TblOk H h a ps):a < h.objs.size:=by
  obtain ⟨_,_,_,_,_,_,_,e,_⟩:=x
  exact Heap.lt_size e
theorem TblOk.stay {H H':Hp} {h h':Heap} {a:Addr} {ps:Array Value} (x:TblOk H h a ps) (k:∀ b u,(b=a∨H b=some (.own a))→h.get? b=some u→h'.get? b=some u)
    (ho:∀ b,H b=some (.own a)→H' b=some (.own a)):TblOk H' h' a ps:=by
  obtain ⟨q,t,ln,cl,more,real,e1,e2,e3⟩:=x
  refine ⟨q,t,ln,cl,more,real,e1,k _ _ (.inl rfl) e2,?_⟩
  rcases e3 with e3 | ⟨c,o,vs,u,r1,r2,r3,r4⟩
  · exact .inl e3
  · exact .inr ⟨c,o,vs,u,r1,ho _ r2,k _ _ (.inr r2) r3,r4⟩
def TbAt (K:PySem.W.Frag) (H:Hp):Prop:=∀ t,zhU K=some t→∃ more,H t.1=some (.tbl (t.2 ++ more))
theorem TbAt.grown {K:PySem.W.Frag} {H H':Hp} (x:TbAt K H) (g:∀ b ps,H b=some (.tbl ps)→∃ more,H' b=some (.tbl (ps ++ more))):TbAt K H':=fun t e=>by
  obtain ⟨m1,e1⟩:=x t e
  obtain ⟨m2,e2⟩:=g _ _ e1
  exact ⟨m1 ++ m2,by rw [e2,Array.append_assoc]⟩
section
variable (P:Program) (w:World)
def ObjOk (H:Hp) (h:Heap) (a:Addr):HO→Prop
  | .lst xs=>xs.length ≤ sizeLine∧∃ (its:List Value) (n:Nat),Vals xs its∧h.get? a=some { cls:=.type "list",data:=.seq its.toArray n }
  | .tup xs=>xs.length ≤ sizeLine∧∃ its:List Value,Vals xs its∧IsTup h a its.toArray
  | .dK kvs=>kvs.length ≤ sizeLine∧(a == sysModules)=false∧∃ vs,KV kvs vs∧h.DictOf (zbw P w) a vs
  | .dT kvs=>kvs.length ≤ sizeLine∧(a == sysModules)=false∧∃ xs:List (List Key × Addr × Value),
      Paired (fun (p:List Key × V) (q:List Key × Addr × Value)=>p.1=q.1∧H q.2.1=some (.tup (p.1.map kV))∧RelV p.2 q.2.2) kvs xs ∧
      ∃ o es ep,h.get? a=some o∧o.ExactDict∧o.data = .dict es ep∧es.toList=xs.map (entryOfKey (tupleKind (zbw P w)))∧(xs.map (·.1)).Nodup
  | .set S n=>h.SetOf (intKind P w) a S n
  | .ins C dx fs=>H dx=some (.own a)∧fs.length ≤ 1000∧dx ≠ a∧h.get? a=some (PySem.W.instObj C dx) ∧
      ∃ mA,h.Ns1 dx mA∧(∀ f,RelO (fs.lookup f) (mA f))∧PySem.Within mA (fs.map (·.1))
  | .own _=>∃ o,h.get? a=some o
  | .xd fs=>∃ mA,h.Ns1 a mA∧∀ f,RelO (fs.lookup f) (mA f)
  | .rng lo hi=>∃ t u v,h.get? a=some { cls:=.type "range",data:=.fields #[.int lo t,.int hi u,.int 1 v] }
  | .frz o u=>h.get? a=some o∧ObjOk H h a u
  | .tbl ps=>TblOk H h a ps
  | .met f x=>h.get? a=some (PySem.W.methodObj (.ref f) (.ref x))
  | .ext φ=>φ h∧(∃ o,h.get? a=some o)∧∀ h1 h2:Heap,φ h1→(∀ o,h1.get? a=some o→h2.get? a=some o)→φ h2
def HOk (H:Hp) (h:Heap):Prop:=∀ a o,H a=some o→ObjOk P w H h a o
end
section
variable {P:Program} {w:World} {H H':Hp} {h h':Heap} {a:Addr} {o:HO}
theorem ObjOk.lt (x:ObjOk P w H h a o):a < h.objs.size:=by
  cases o with
  | lst xs=>obtain ⟨_,_,_,_,e⟩:=x; exact Heap.lt_size e
  | tup xs=>obtain ⟨_,_,_,p⟩:=x; exact p.lt
  | dK kvs=>obtain ⟨_,_,_,_,o,_,_,e,_⟩:=x; exact Heap.lt_size e
  | dT kvs=>obtain ⟨_,_,_,_,o,_,_,e,_⟩:=x; exact Heap.lt_size e
  | set S n=>obtain ⟨o,_,_,_,e,_⟩:=x; exact Heap.lt_size e
  | ins C dx fs=>obtain ⟨_,_,_,e,_⟩:=x; exact Heap.lt_size e
  | own y=>obtain ⟨_,e⟩:=x; exact Heap.lt_size e
  | xd fs=>obtain ⟨_,⟨_,_,_,e,_⟩,_⟩:=x; exact Heap.lt_size e
  | rng lo hi=>obtain ⟨_,_,_,e⟩:=x; exact Heap.lt_size e
  | frz ob u=>obtain ⟨e,_⟩:=x; exact Heap.lt_size e
  | tbl ps=>exact TblOk.lt x
  | met f y=>exact Heap.lt_size (show h.get? a=some _ from x)
  | ext φ=>obtain ⟨_,⟨_,e⟩,_⟩:=x; exact Heap.lt_size e
theorem Paired.mapP {α β:Type} {F G:α→β→Prop}:∀ {l₁:List α} {l₂:List β},Paired F l₁ l₂→(∀ a b,F a b→G a b)→Paired G l₁ l₂
  | _,_,.nil,_=>.nil
  | _,_,.cons r t,f=>.cons (f _ _ r) (Paired.mapP t f)
theorem ObjOk.stay (x:ObjOk P w H h a o) (k:∀ b u,(b=a∨H b=some (.own a))→h.get? b=some u→h'.get? b=some u)
    (ho:∀ b,H b=some (.own a)→H' b=some (.own a)) (ht:∀ b xs,H b=some (.tup xs)→H' b=some (.tup xs)):ObjOk P w H' h' a o:=by
  induction o with
  | lst xs=>obtain ⟨z,its,n,r,e⟩:=x; exact ⟨z,its,n,r,k _ _ (.inl rfl) e⟩
  | tup xs=>obtain ⟨z,its,r,ob,e,c⟩:=x; exact ⟨z,its,r,ob,k _ _ (.inl rfl) e,c⟩
  | dK kvs=>obtain ⟨z,y,vs,r,ob,es,ep,e,c⟩:=x; exact ⟨z,y,vs,r,ob,es,ep,k _ _ (.inl rfl) e,c⟩
  | dT kvs =>
    obtain ⟨z,y,xs,r,ob,es,ep,e,c⟩:=x
    exact ⟨z,y,xs,Paired.mapP r fun p q z=>⟨z.1,ht _ _ z.2.1,z.2.2⟩,ob,es,ep,k _ _ (.inl rfl) e,c⟩
  | set S n=>obtain ⟨ob,es,ep,t,e,c⟩:=x; exact ⟨ob,es,ep,t,k _ _ (.inl rfl) e,c⟩
  | ins C dx fs =>
    obtain ⟨d,z,ne,e,mA,⟨od,es,ep,e2,c⟩,r⟩:=x
    exact ⟨ho _ d,z,ne,k _ _ (.inl rfl) e,mA,⟨od,es,ep,k _ _ (.inr d) e2,c⟩,r⟩
  | own y=>obtain ⟨ob,e⟩:=x; exact ⟨ob,k _ _ (.inl rfl) e⟩
  | xd fs=>obtain ⟨mA,⟨od,es,ep,e,c⟩,r⟩:=x; exact ⟨mA,⟨od,es,ep,k _ _ (.inl rfl) e,c⟩,r⟩
  | rng lo hi=>obtain ⟨t,u,v,e⟩:=x; exact ⟨t,u,v,k _ _ (.inl rfl) e⟩
  | frz ob u ih=>obtain ⟨e,q⟩:=x; exact ⟨k _ _ (.inl rfl) e,ih q⟩
  | tbl ps=>exact TblOk.stay x k ho
  | met f y =>
    have e:h.get? a=some (PySem.W.methodObj (.ref f) (.ref y)):=x
    show h'.get? a=some (PySem.W.methodObj (.ref f) (.ref y))
    exact k a _ (.inl rfl) e
  | ext φ=>obtain ⟨p,⟨o,e⟩,st⟩:=x; exact ⟨st _ _ p fun o q=>k _ _ (.inl rfl) q,⟨o,k _ _ (.inl rfl) e⟩,st⟩
theorem HOk.lt (x:HOk P w H h) (e:H a=some o):a < h.objs.size:=(x a o e).lt
theorem HOk.fresh (x:HOk P w H h) (e:h.objs.size ≤ a):H a=none:=by
  cases q:H a with
  | none=>rfl
  | some u=>exact absurd (Nat.lt_of_lt_of_le (x.lt q) e) (Nat.lt_irrefl _)
theorem HOk.kept (x:HOk P w H h) (k:∀ b u,h.get? b=some u→h'.get? b=some u):HOk P w H h':=fun a o e =>
  (x a o e).stay (fun b u _ q=>k b u q) (fun _ q=>q) fun _ _ q=>q
theorem HOk.laid (x:HOk P w H h) (k:∀ b u,h.get? b=some u→h'.get? b=some u) (hp:h.objs.size ≤ a) (new:ObjOk P w (upd H a o) h' a o):HOk P w (upd H a o) h':=fun b u e=>by
  have hn:=x.fresh hp
  by_cases hb:b=a
  · subst hb; rw [zax] at e; cases e; exact new
  · rw [zau hb] at e
    exact (x b u e).stay (fun c v _ q=>k c v q) (fun c q=>by rw [zau (zay q hn)]; exact q) fun c xs q=>by rw [zau (zay q hn)]; exact q
end
def Rd (H:Hp) (a:Addr) (u:HO):Prop:=H a=some u∨∃ o,H a=some (.frz o u)
theorem Rd.ok {P:Program} {w:World} {H:Hp} {h:Heap} {a:Addr} {u:HO} (r:Rd H a u) (x:HOk P w H h):ObjOk P w H h a u:=by
  rcases r with r | ⟨o,r⟩
  · exact x a u r
  · obtain ⟨_,q⟩:=x a _ r
    exact q
def Mut:Option HO→Prop
  | some (.lst _)=>True
  | some (.dK _)=>True
  | some (.dT _)=>True
  | some (.set _ _)=>True
  | some (.ins _ _ _)=>True
  | some (.ext _)=>True
  | _=>False
section
variable {P:Program} {w:World} {H:Hp} {h h':Heap} {x e:Addr} {o':HO}
theorem HOk.write (ok:HOk P w H h) (mu:Mut (H x)) (he:e=x∨H e=some (.own x)) (k:∀ b u,b ≠ e→h.get? b=some u→h'.get? b=some u) (heo:∃ u,h'.get? e=some u)
    (new:ObjOk P w (upd H x o') h' x o'):HOk P w (upd H x o') h':=fun b u q=>by
  have nown:∀ c y,H c=some (.own y)→c ≠ x:=fun c y r z=>by subst z; rw [r] at mu; exact mu
  have ntup:∀ c xs,H c=some (.tup xs)→c ≠ x:=fun c xs r z=>by subst z; rw [r] at mu; exact mu
  by_cases hb:b=x
  · subst hb; rw [zax] at q; cases q; exact new
  · rw [zau hb] at q
    by_cases hbe:b=e
    · have q':H b=some (.own x):=by
        rcases he with z | z
        · exact absurd (hbe.trans z) hb
        · rw [hbe]; exact z
      rw [q] at q'; cases q'
      obtain ⟨v,hv⟩:=heo
      exact ⟨v,by rw [hbe]; exact hv⟩
    · refine (ok b u q).stay (fun c v hc r=>k c v ?_ r) (fun c r=>by rw [zau (nown c b r)]; exact r) fun c xs r=>by rw [zau (ntup c xs r)]; exact r
      rcases hc with rfl | hc
      · exact hbe
      · rintro rfl
        rcases he with z | z
        · exact nown c b hc z
        · rw [hc] at z; cases z; exact hb rfl
end
structure Un (fs ex:List Addr) (H H':Hp) (h h':Heap):Prop where
  keep:∀ b o,h.get? b=some o→H b=none→b ∉ fs→b ∉ ex→h'.get? b=some o
  slot:∀ b o,h.get? b=some o→H b=none→b ∈ fs→b ∉ ex→∃ sl,h'.get? b=some { o with slots:=sl }
  free:∀ b o,h.get? b=some o→H b=none→b ∉ ex→H' b=none
  there:∀ b o,h.get? b=some o→b ∉ ex→∃ o',h'.get? b=some o'
  tups:∀ b xs,H b=some (.tup xs)→H' b=some (.tup xs)
  frzs:∀ b o u,H b=some (.frz o u)→H' b=some (.frz o u)
  tbls:∀ b ps,H b=some (.tbl ps)→∃ more,H' b=some (.tbl (ps ++ more))
section
variable {fs fs' ex ex':List Addr} {H H1 H2:Hp} {h h1 h2 h':Heap} {a x e:Addr} {o:HO}
theorem Un.any (u:Un fs ex H H1 h h1) {b:Addr} {ob:Obj} (q:h.get? b=some ob) (n:H b=none) (hx:b ∉ ex):∃ sl,h1.get? b=some { ob with slots:=sl }:=by
  by_cases hb:b ∈ fs
  · exact u.slot b ob q n hb hx
  · exact ⟨ob.slots,u.keep b ob q n hb hx⟩
theorem Un.kept (k:∀ b u,h.get? b=some u→h'.get? b=some u):Un fs ex H H h h' :=
  ⟨fun b ob q _ _ _=>k b ob q,fun b ob q _ _ _=>⟨ob.slots,k b ob q⟩,fun _ _ _ n _=>n,fun b ob q _=>⟨ob,k b ob q⟩,fun _ _ q=>q,fun _ _ _ q=>q,fun _ ps q=>⟨#[],by rw [q]; simp⟩⟩
theorem Un.refl:Un fs ex H H h h:=Un.kept fun _ _ q=>q
theorem Un.laid (k:∀ b u,h.get? b=some u→h'.get? b=some u) (hp:h.objs.size ≤ a) (hn:H a=none):Un fs ex H (upd H a o) h h' where
  keep:=fun b u q _ _ _=>k b u q
  slot:=fun b u q _ _ _=>⟨u.slots,k b u q⟩
  free:=fun b u q n _=>by rw [zau (Nat.ne_of_lt (Nat.lt_of_lt_of_le (Heap.lt_size q) hp))]; exact n
  there:=fun b u q _=>⟨u,k b u q⟩
  tups:=fun b xs q=>by rw [zau (zay q hn)]; exact q
  frzs:=fun b u xs q=>by rw [zau (zay q hn)]; exact q
  tbls:=fun b ps q=>⟨#[],by rw [zau (zay q hn),q]; simp⟩
theorem Un.write (mu:Mut (H x)) (he:e=x∨H e=some (.own x)) (k:∀ b u,b ≠ e→h.get? b=some u→h'.get? b=some u) (heo:∃ u,h'.get? e=some u):Un fs ex H (upd H x o) h h':=by
  have hx:∀ b,H b=none→b ≠ x:=fun b n z=>by subst z; rw [n] at mu; exact mu
  have hb:∀ b,H b=none→b ≠ e:=fun b n z=>by
    subst z
    rcases he with r | r
    · exact hx b n r
    · rw [n] at r; cases r
  have hm:∀ b u,H b=some u→¬ Mut (some u)→b ≠ x:=fun b u q nm z=>by subst z; rw [q] at mu; exact nm mu
  refine ⟨fun b u q n _ _=>k b u (hb b n) q,fun b u q n _ _=>⟨u.slots,k b u (hb b n) q⟩,fun b u q n _=>by rw [zau (hx b n)]; exact n,fun b u q _=>?_,
    fun b xs q=>by rw [zau (hm b _ q fun z=>z)]; exact q,fun b u xs q=>by rw [zau (hm b _ q fun z=>z)]; exact q,fun b ps q=>⟨#[],by rw [zau (hm b _ q fun z=>z),q]; simp⟩⟩
  by_cases hbe:b=e
  · subst hbe; exact heo
  · exact ⟨u,k b u hbe q⟩
theorem Un.mono (u:Un fs ex H H1 h h1) (hs:∀ b ∈ fs,b ∈ fs') (hx:∀ b ∈ ex,b ∈ ex'):Un fs' ex' H H1 h h1 :=
  ⟨fun b ob q n hb he=>u.keep b ob q n (fun z=>hb (hs b z)) fun z=>he (hx b z),fun _ _ q n _ he=>u.any q n fun z=>he (hx _ z),fun b ob q n he=>u.free b ob q n fun z=>he (hx b z),fun b ob q he=>u.there b ob q fun z=>he (hx b z),u.tups,u.frzs,u.tbls⟩
end
def trk (h:Heap) (H:Hp):List Addr:=(List.range h.objs.size).filter fun a=>(H a).isSome
def hidT (h:Heap) (H:Hp):Heap:=PySem.W.hideAll h (trk h H)
theorem zl9 (h:Heap) (H:Hp):(hidT h H).objs.size=h.objs.size:=PySem.W.hideAll_size _ _
theorem zhD {h:Heap} {H:Hp} {b:Addr} {o:Obj} (e:h.get? b=some o) (n:H b=none):(hidT h H).get? b=some o :=
  PySem.W.hideAll_get _ e fun hm=>by
    have q:(H b).isSome=true:=(List.mem_filter.mp hm).2
    rw [n] at q; simp at q
theorem zpK {h:Heap} {H:Hp} {b:Addr} {o:Obj} (e:(hidT h H).get? b=some o):h.get? b=some o∧H b=none:=by
  have e':h.get? b=some o:=PySem.W.of_hideAll (trk h H) e
  refine ⟨e',?_⟩
  cases q:H b with
  | none=>rfl
  | some x =>
    have hm:b ∈ trk h H:=List.mem_filter.mpr ⟨List.mem_range.mpr (Heap.lt_size e'),by simp [q]⟩
    have z:(hidT h H).get? b=none:=PySem.W.hideAll_none (trk h H) hm
    rw [z] at e; cases e
def zoT (g h:Heap) (L:Addr):List (Addr × Obj):=(List.range h.objs.size).filterMap fun a=>if a=L∨(g.get? a).isSome=true then none else (h.get? a).map fun o=>(a,o)
def rest (g h:Heap) (L d:Addr):List (Addr × Obj):=(zoT g h L).filter fun p=>decide (p.1 ≠ d)
end L2
namespace L2
open PySem PySem.Spec PyProof.Rows
structure Mod (K:PySem.W.Frag) (mg:Str→Option Value) (base:Heap):Prop where
  kin:K.In base
  glob:base.Ns mainGlobals mg
  blt:∃ mb,base.Ns builtinsNs mb∧∀ x:Str,x ≠ "__name__"→mb x=bootBuiltins x
  nolimit:base.NoLimit
structure Cx where
  prog:Program
  w:World
  K:PySem.W.Frag
  mg:Str→Option Value
  base:Heap
  A:Around
  N:List Str
  s₀:Shared
  H₀:Hp
  env:Env
  outer:List Env
  stack:List Env
  ex:List Addr
  fn:Str→Bool
  calm:Bool
  pn:List (Addr × Obj)
  xe:Value→Shared→Prop
def frs (l:List Env):List Addr:=l.filterMap (·.frame)
abbrev Cx.fs (X:Cx):List Addr:=frs X.outer
def Vis (sc:Scope) (x:Str):Prop:=sc.names.lookup x=some .local∨sc.names.lookup x=some .cell∨sc.names.lookup x=some .free
def Loc (sc:Scope) (x:Str):Prop:=sc.names.lookup x=some .local∨sc.names.lookup x=some .cell
def Look (env:Env) (h:Heap) (m:Str→Option Value) (x:Str) (u:Value):Prop :=
  (env.kindOf x=some .local∧m x=some u)∨((env.kindOf x=some .cell∨env.kindOf x=some .free)∧∃ c,env.cells.lookup x=some c∧h.IsCell c (some u))
structure Cx.Ok (X:Cx):Prop where
  mod:Mod X.K X.mg X.base
  kind:X.env.scope.kind = .function
  glob:X.env.globals=mainGlobals
  blt:X.env.builtins=builtinsNs
  above:X.s₀.heap.objs.size ≤ X.env.locals
  inj:∀ x y c,X.env.cells.lookup x=some c→X.env.cells.lookup y=some c→x=y
  has:∀ x,(X.env.kindOf x=some .cell∨X.env.kindOf x=some .free)→∃ c,X.env.cells.lookup x=some c
  cab:∀ x c,X.fn x=true→X.env.cells.lookup x=some c→X.s₀.heap.objs.size ≤ c
  hd:X.calm=true→X.A.handled=none
  frames:X.A.frames=some X.stack
  stk:X.stack=X.outer∨(X.stack=X.env :: X.outer∧X.env.frame=some X.env.locals)
  exf:∀ b ∈ X.ex,b ≠ X.env.locals∧∀ x c,X.env.cells.lookup x=some c→c ≠ b
  bs:∀ b o,X.base.get? b=some o→X.s₀.heap.get? b=some o∧X.H₀ b=none
  bsz:X.base.objs.size ≤ X.s₀.heap.objs.size
  noex:∀ b o,X.base.get? b=some o→b ∉ X.ex
  exfs:∀ b ∈ X.ex,b ∉ X.fs
  funs:X.s₀.heap.FunFrames X.base X.outer
  frf:∀ b ∈ X.fs,X.H₀ b=none
  tb:TbAt X.K X.H₀
structure Inv (X:Cx) (pins:List (Addr × Obj)) (σ:List (Option V)) (H:Hp) (s:Shared):Prop where
  ok:X.Ok
  os:s.os=X.s₀.os
  bare:AllBare s.gens
  base:Un X.fs X.ex X.H₀ H X.s₀.heap s.heap
  loc:∃ m,s.heap.Ns X.env.locals m∧∀ (i:Nat) (x:Str) (v:V),X.N[i]?=some x→σ[i]?=some (some v)→Vis X.env.scope x→∃ u,RelV v u∧Look X.env s.heap m x u
  cell:∀ x c,X.env.cells.lookup x=some c→∃ v,s.heap.IsCell c v
  free:H X.env.locals=none
  freeC:∀ x c,X.env.cells.lookup x=some c→H c=none
  pin:∀ p ∈ X.pn ++ pins,s.heap.get? p.1=some p.2∧H p.1=none∧p.1 ≠ X.env.locals∧p.1 ∉ X.fs∧∀ v,p.2.data ≠ .cell v
  hok:HOk X.prog X.w H s.heap
  len:σ.length=X.N.length
section
variable {X:Cx} {pins:List (Addr × Obj)} {σ:List (Option V)} {H H':Hp} {s:Shared} {h':Heap}
theorem Cx.Ok.nofr (ok:X.Ok) {b:Addr} {o:Obj} (e:X.base.get? b=some o):b ∉ X.fs:=fun hb=>by
  have:=(ok.funs.mem hb).1
  rw [e] at this; cases this
theorem Inv.bs (I:Inv X pins σ H s):∀ b o,X.base.get? b=some o→s.heap.get? b=some o∧H b=none:=fun b o e =>
  ⟨I.base.keep b o (I.ok.bs b o e).1 (I.ok.bs b o e).2 (I.ok.nofr e) (I.ok.noex b o e),I.base.free b o (I.ok.bs b o e).1 (I.ok.bs b o e).2 (I.ok.noex b o e)⟩
theorem Inv.bk (I:Inv X pins σ H s):∀ b o,X.base.get? b=some o→s.heap.get? b=some o:=fun b o e=>(I.bs b o e).1
theorem Inv.mod (I:Inv X pins σ H s):Mod X.K X.mg X.base:=I.ok.mod
theorem Inv.kIn (I:Inv X pins σ H s):X.K.In s.heap:=I.ok.mod.kin.keeps I.bk
theorem Inv.nolimit (I:Inv X pins σ H s):s.heap.NoLimit:=I.ok.mod.nolimit.keeps I.bk
theorem Inv.fr (I:Inv X pins σ H s):∃ m,Fr X.base X.env.locals s.heap m :=
  let ⟨m,hn,_⟩:=I.loc
  ⟨m,hn,I.bk,Nat.le_trans I.ok.bsz I.ok.above⟩
theorem Inv.lt (I:Inv X pins σ H s):X.env.locals < s.heap.objs.size:=let ⟨_,hn,_⟩:=I.loc; hn.lt
theorem Inv.sz (I:Inv X pins σ H s):X.s₀.heap.objs.size ≤ s.heap.objs.size:=Nat.le_trans I.ok.above (Nat.le_of_lt I.lt)
theorem Inv.nofs (I:Inv X pins σ H s) {a:Addr} (h:s.heap.objs.size ≤ a):a ∉ X.fs:=fun hb=>by
  obtain ⟨_,o,ho,_⟩:=I.ok.funs.mem hb
  exact absurd (Nat.lt_of_lt_of_le (Heap.lt_size ho) (Nat.le_trans I.sz h)) (Nat.lt_irrefl _)
theorem Inv.cne (I:Inv X pins σ H s):∀ x c,X.env.cells.lookup x=some c→c ≠ X.env.locals:=fun x c e z=>by
  obtain ⟨v,o,ho,hd⟩:=I.cell x c e
  obtain ⟨m,⟨o',es,ep,ho',hd',_⟩,_⟩:=I.loc
  rw [z,ho'] at ho; cases ho; rw [hd'] at hd; cases hd
theorem Inv.funs (I:Inv X pins σ H s):s.heap.FunFrames X.base X.outer:=by
  have all:∀ (l:List Env),(∀ b ∈ frs l,b ∈ X.fs)→X.s₀.heap.FunFrames X.base l→s.heap.FunFrames X.base l:=by
    intro l
    induction l with
    | nil=>intro _ _; trivial
    | cons env r ih =>
      intro hs hl
      obtain ⟨hk,⟨L,o,hf,hn,ho,hd⟩,hr⟩:=hl
      have hL:L ∈ X.fs:=hs L (by unfold frs; rw [List.filterMap_cons,hf]; exact List.mem_cons_self)
      obtain ⟨sl,e⟩:=I.base.slot L o ho (I.ok.frf L hL) hL fun z=>I.ok.exfs L z hL
      exact ⟨hk,⟨L,_,hf,hn,e,hd⟩,ih (fun b hb=>hs b (by unfold frs; rw [List.filterMap_cons,hf]; exact List.mem_cons_of_mem _ hb)) hr⟩
  exact all X.outer (fun _ hb=>hb) I.ok.funs
theorem Inv.stack (I:Inv X pins σ H s):s.heap.FunFrames X.base X.stack:=by
  rcases I.ok.stk with e | ⟨e,hf⟩
  · rw [e]; exact I.funs
  · rw [e]
    obtain ⟨m,hn,_⟩:=I.loc
    refine .cons (by rw [I.ok.kind]; decide) hf hn ?_ I.funs
    exact Heap.get?_none_of_le (Nat.le_trans I.ok.bsz I.ok.above)
theorem Inv.stkSub (I:Inv X pins σ H s):∀ b ∈ frs X.stack,b ∈ X.env.locals :: X.fs:=fun b hb=>by
  rcases I.ok.stk with e | ⟨e,hf⟩
  · rw [e] at hb; exact List.mem_cons_of_mem _ hb
  · rw [e] at hb
    unfold frs at hb
    rw [List.filterMap_cons,hf] at hb
    exact hb
theorem Inv.stkFree (I:Inv X pins σ H s):∀ b ∈ frs X.stack,H b=none:=fun b hb=>by
  rcases List.mem_cons.mp (I.stkSub b hb) with e | hb
  · rw [e]; exact I.free
  · obtain ⟨_,o,ho,_⟩:=I.ok.funs.mem hb
    exact I.base.free b o ho (I.ok.frf b hb) fun z=>I.ok.exfs b z hb
theorem Inv.step {g':Array GenState} {t':Nat} {d':Drawn} {ch:List Addr} (I:Inv X pins σ H s)
    (hch:∀ b ∈ ch,(b ∈ X.ex∨X.s₀.heap.objs.size ≤ b)∧b ≠ X.env.locals∧(∀ x c,X.env.cells.lookup x=some c→c ≠ b)∧∀ p ∈ X.pn ++ pins,p.1 ≠ b)
    (keep:∀ b o,b ≠ X.env.locals→b ∉ X.fs→b ∉ ch→s.heap.get? b=some o→H b=none→h'.get? b=some o)
    (slot:∀ b o,b ≠ X.env.locals→b ∈ X.fs→b ∉ ch→s.heap.get? b=some o→H b=none→∃ sl,h'.get? b=some { o with slots:=sl }) (free:∀ b o,b ∉ ch→s.heap.get? b=some o→H b=none→H' b=none)
    (there:∀ b o,b ∉ ch→s.heap.get? b=some o→∃ o',h'.get? b=some o')
    (tups:∀ b xs,H b=some (.tup xs)→H' b=some (.tup xs)) (frzs:∀ b o u,H b=some (.frz o u)→H' b=some (.frz o u)) (tbls:∀ b ps,H b=some (.tbl ps)→∃ more,H' b=some (.tbl (ps ++ more)))
    (ns:∀ m,s.heap.Ns X.env.locals m→h'.Ns X.env.locals m) (hok:HOk X.prog X.w H' h') (hg:AllBare g') :
    Inv X pins σ H' { s with heap:=h',gens:=g',drawn:=d',toks:=t' }:=by
  have neL:∀ b o,X.s₀.heap.get? b=some o→b ≠ X.env.locals:=fun b o e=>Nat.ne_of_lt (Nat.lt_of_lt_of_le (Heap.lt_size e) I.ok.above)
  have neC:∀ b o,X.s₀.heap.get? b=some o→b ∉ X.ex→b ∉ ch:=fun b o e hx hb=>by
    rcases (hch b hb).1 with z | z
    · exact hx z
    · exact absurd (Nat.lt_of_lt_of_le (Heap.lt_size e) z) (Nat.lt_irrefl _)
  have cellK:∀ x c,X.env.cells.lookup x=some c→∀ v,s.heap.IsCell c v→h'.IsCell c v:=fun x c e v ⟨o,ho,hd⟩=>by
    have nch:c ∉ ch:=fun z=>(hch c z).2.2.1 x c e rfl
    by_cases hc:c ∈ X.fs
    · obtain ⟨sl,q⟩:=slot c o (I.cne x c e) hc nch ho (I.freeC x c e)
      exact ⟨_,q,hd⟩
    · exact ⟨o,keep c o (I.cne x c e) hc nch ho (I.freeC x c e),hd⟩
  refine ⟨I.ok,I.os,hg,⟨fun b o e n hb hx=>?_,fun b o e n hb hx=>?_,fun b o e n hx=>?_,fun b o e hx=>?_,fun b xs e=>tups b xs (I.base.tups b xs e),fun b o xs e=>frzs b o xs (I.base.frzs b o xs e),fun b ps e=>?_⟩,?_,fun x c e=>?_,?_,fun x c e=>?_,fun p hp=>?_,hok,I.len⟩
  · exact keep b o (neL b o e) hb (neC b o e hx) (I.base.keep b o e n hb hx) (I.base.free b o e n hx)
  · obtain ⟨sl,e1⟩:=I.base.slot b o e n hb hx
    obtain ⟨sl',e2⟩:=slot b _ (neL b o e) hb (neC b o e hx) e1 (I.base.free b o e n hx)
    exact ⟨sl',e2⟩
  · obtain ⟨o',e1⟩:=I.base.there b o e hx
    exact free b o' (neC b o e hx) e1 (I.base.free b o e n hx)
  · obtain ⟨o',e1⟩:=I.base.there b o e hx
    exact there b o' (neC b o e hx) e1
  · obtain ⟨m1,e1⟩:=I.base.tbls b ps e
    obtain ⟨m2,e2⟩:=tbls b _ e1
    exact ⟨m1 ++ m2,by rw [e2,Array.append_assoc]⟩
  · obtain ⟨m,hn,hl⟩:=I.loc
    refine ⟨m,ns m hn,fun i x v e1 e2 e3=>?_⟩
    obtain ⟨u,r,l⟩:=hl i x v e1 e2 e3
    refine ⟨u,r,?_⟩
    rcases l with l | ⟨k,c,e,z⟩
    · exact .inl l
    · exact .inr ⟨k,c,e,cellK x c e _ z⟩
  · obtain ⟨v,z⟩:=I.cell x c e
    exact ⟨v,cellK x c e v z⟩
  · obtain ⟨m,⟨o,_,_,ho,_⟩,_⟩:=I.loc
    exact free _ o (fun z=>(hch _ z).2.1 rfl) ho I.free
  · obtain ⟨v,o,ho,hd⟩:=I.cell x c e
    exact free c o (fun z=>(hch c z).2.2.1 x c e rfl) ho (I.freeC x c e)
  · obtain ⟨e,n,ne,nf,d⟩:=I.pin p hp
    have nch:p.1 ∉ ch:=fun z=>(hch p.1 z).2.2.2 p hp rfl
    exact ⟨keep p.1 p.2 ne nf nch e n,free p.1 p.2 nch e n,ne,nf,d⟩
theorem Inv.un {t':Nat} (I:Inv X pins σ H s) (u:Un X.fs [] H H' s.heap h') (hok:HOk X.prog X.w H' h'):Inv X pins σ H' { s with heap:=h',toks:=t' }:=by
  obtain ⟨m,⟨o,es,ep,ho,r⟩,_⟩:=id I.loc
  obtain ⟨sl,hL⟩:=u.any ho I.free (by simp)
  exact I.step (g':=s.gens) (d':=s.drawn) (ch:=[]) (fun _ z=>nomatch z) (fun b o _ hb _ e n=>u.keep b o e n hb (by simp)) (fun b o _ hb _ e n=>u.slot b o e n hb (by simp)) (fun b o _ e n=>u.free b o e n (by simp)) (fun b o _ e=>u.there b o e (by simp)) u.tups u.frzs u.tbls (fun m' hm=>by
    obtain ⟨o',es',ep',ho',r'⟩:=hm
    rw [ho] at ho'; cases ho'
    exact ⟨_,es',ep',hL,r'⟩) hok I.bare
theorem Inv.call {g':Array GenState} {t':Nat} {d':Drawn} {ch:List Addr} (I:Inv X pins σ H s) (u:Un (frs X.stack) ch H H' s.heap h') (hok:HOk X.prog X.w H' h') (hg:AllBare g')
    (hch:∀ b ∈ ch,(b ∈ X.ex∨X.s₀.heap.objs.size ≤ b)∧b ≠ X.env.locals∧(∀ x c,X.env.cells.lookup x=some c→c ≠ b)∧∀ p ∈ X.pn ++ pins,p.1 ≠ b) :
    Inv X pins σ H' { s with heap:=h',gens:=g',drawn:=d',toks:=t' }:=by
  obtain ⟨m,⟨o,es,ep,ho,r⟩,_⟩:=id I.loc
  obtain ⟨sl,hL⟩:=u.any ho I.free fun z=>(hch _ z).2.1 rfl
  exact I.step (ch:=ch) hch (fun b o hL hb hc e n=>u.keep b o e n (fun z=>(List.mem_cons.mp (I.stkSub b z)).elim hL hb) hc) (fun b o _ _ hc e n=>u.any e n hc) (fun b o hc e n=>u.free b o e n hc) (fun b o hc e=>u.there b o e hc) u.tups u.frzs u.tbls (fun m' hm=>by
    obtain ⟨o',es',ep',ho',r'⟩:=hm
    rw [ho] at ho'; cases ho'
    exact ⟨_,es',ep',hL,r'⟩) hok hg
theorem Inv.turned {t':Nat} {it:Addr} (I:Inv X pins σ H s) (k:∀ b o,b ≠ it→s.heap.get? b=some o→h'.get? b=some o) (hn:H it=none) (hL:it ≠ X.env.locals)
    (h1:it ∈ X.ex∨X.s₀.heap.objs.size ≤ it) (h2:∀ x c,X.env.cells.lookup x=some c→c ≠ it) (h3:∀ p ∈ X.pn ++ pins,p.1 ≠ it):Inv X pins σ H { s with heap:=h',toks:=t' }:=by
  have nit:∀ b u,H b=some u→b ≠ it:=fun b u e z=>by rw [z,hn] at e; cases e
  refine I.step (g':=s.gens) (d':=s.drawn) (ch:=[it]) (fun b hb=>?_) (fun b o _ _ hc e _=>k b o (fun z=>hc (by simp [z])) e) (fun b o _ _ hc e _=>⟨o.slots,k b o (fun z=>hc (by simp [z])) e⟩) (fun _ _ _ _ n=>n)
    (fun b o hc e=>⟨o,k b o (fun z=>hc (by simp [z])) e⟩) (fun _ _ e=>e) (fun _ _ _ e=>e) (fun b ps e=>⟨#[],by rw [e]; simp⟩) (fun m hm=>?_) (fun b u e=>?_) I.bare
  · have e:b=it:=by simpa using hb
    subst e
    exact ⟨h1,hL,h2,h3⟩
  · obtain ⟨o,es,ep,ho,r⟩:=hm
    exact ⟨o,es,ep,k _ o (Ne.symm hL) ho,r⟩
  · refine (I.hok b u e).stay (fun c v hc q=>k c v ?_ q) (fun _ q=>q) fun _ _ q=>q
    rcases hc with z | z
    · rw [z]; exact nit b u e
    · exact nit c _ z
theorem Inv.tok (I:Inv X pins σ H s) (t:Nat):Inv X pins σ H { s with toks:=t }:=I.un (h':=s.heap) (t':=t) Un.refl I.hok
theorem Inv.kept {t':Nat} (I:Inv X pins σ H s) (k:∀ b u,s.heap.get? b=some u→h'.get? b=some u):Inv X pins σ H { s with heap:=h',toks:=t' }:=I.un (Un.kept k) (I.hok.kept k)
theorem Inv.laid {a:Addr} {o:HO} {t':Nat} (I:Inv X pins σ H s) (k:∀ b u,s.heap.get? b=some u→h'.get? b=some u) (hp:s.heap.objs.size ≤ a) (new:ObjOk X.prog X.w (upd H a o) h' a o) :
    Inv X pins σ (upd H a o) { s with heap:=h',toks:=t' }:=I.un (Un.laid k hp (I.hok.fresh hp)) (I.hok.laid k hp new)
theorem Inv.write {x e:Addr} {o:HO} {t':Nat} (I:Inv X pins σ H s) (mu:Mut (H x)) (he:e=x∨H e=some (.own x)) (k:∀ b u,b ≠ e→s.heap.get? b=some u→h'.get? b=some u) (heo:∃ u,h'.get? e=some u)
    (new:ObjOk X.prog X.w (upd H x o) h' x o):Inv X pins σ (upd H x o) { s with heap:=h',toks:=t' }:=I.un (Un.write mu he k heo) (I.hok.write mu he k heo new)
theorem Inv.weak {σ':List (Option V)} (I:Inv X pins σ H s) (hl:σ'.length=σ.length) (w:∀ (i:Nat) v,σ'[i]?=some (some v)→σ[i]?=some (some v)):Inv X pins σ' H s :=
  ⟨I.ok,I.os,I.bare,I.base,let ⟨m,hn,hl'⟩:=I.loc; ⟨m,hn,fun i x v e1 e2 e3=>hl' i x v e1 (w i v e2) e3⟩,I.cell,I.free,I.freeC,I.pin,I.hok,hl.trans I.len⟩
theorem Inv.pins_of {pins':List (Addr × Obj)} (I:Inv X pins σ H s) (h:∀ p ∈ pins',s.heap.get? p.1=some p.2∧H p.1=none∧p.1 ≠ X.env.locals∧p.1 ∉ X.fs∧∀ v,p.2.data ≠ .cell v):Inv X pins' σ H s :=
  ⟨I.ok,I.os,I.bare,I.base,I.loc,I.cell,I.free,I.freeC,fun p hp=>(List.mem_append.mp hp).elim (fun z=>I.pin p (List.mem_append_left _ z)) (h p),I.hok,I.len⟩
theorem zhB {N:List Str} (hN:N.Nodup) {i j:Nat} {x:Str} (a:N[i]?=some x) (b:N[j]?=some x):i=j:=by
  obtain ⟨h1,e1⟩:=List.getElem?_eq_some_iff.mp a
  obtain ⟨h2,e2⟩:=List.getElem?_eq_some_iff.mp b
  exact (List.getElem_inj hN).mp (e1.trans e2.symm)
theorem zlT {M:Model} {A:Around} {E:Value→Shared→Prop} {i:Nat} {x:Str} {v:V} {u:Value} {Q:Unit→Shared→Prop} (I:Inv X pins σ H s) (hN:X.N.Nodup) (hi:X.N[i]?=some x) (hx:Loc X.env.scope x) (r:RelV v u)
    (h:∀ s',Inv X pins (σ.set i (some v)) H s'→(∃ a,Heap.SameBut a s.heap s'.heap∧(a=X.env.locals∨X.env.cells.lookup x=some a))→Q () s') (hf:X.fn x=true∨X.env.scope.names.lookup x=some .local:=by first | exact .inl rfl | exact .inr rfl | assumption):wpAny M A (storeName X.env x u) Q E s:=by
  obtain ⟨m,hn,hl⟩:=id I.loc
  have hcls:(X.env.scope.kind == .class || (X.env.scope.kind == .module && X.env.locals != X.env.globals))=false:=by rw [I.ok.kind]; rfl
  have hiσ:i < σ.length:=by rw [I.len]; exact (List.getElem?_eq_some_iff.mp hi).1
  have cne:=I.cne
  have tracked:∀ {a:Addr} {h':Heap},(∃ o,s.heap.get? a=some o∧H a=none)→Heap.SameBut a s.heap h'→HOk X.prog X.w H h':=fun {a h'} ha hs b ob e=>by
    obtain ⟨_,_,hfree⟩:=ha
    refine (I.hok b ob e).stay (fun c w' hc q=>(hs.2 c ?_).trans q) (fun _ q=>q) fun _ _ q=>q
    rintro rfl
    rcases hc with rfl | hc
    · rw [hfree] at e; cases e
    · rw [hfree] at hc; cases hc
  rcases hx with hk | hk
  · refine wpAny_storeName_local hk hn (fun h' hn' hs=>?_) hcls
    obtain ⟨oL,_,_,hoL,_⟩:=id hn
    refine h _ ⟨I.ok,I.os,I.bare,⟨fun b o e n hb hx=>?_,fun b o e n hb hx=>?_,I.base.free,fun b o e hx=>?_,I.base.tups,I.base.frzs,I.base.tbls⟩,⟨_,hn',fun j y v' e1 e2 e3=>?_⟩,fun y c e=>?_,I.free,I.freeC,fun p hp=>?_,tracked ⟨oL,hoL,I.free⟩ hs,by simpa using I.len⟩ ⟨_,hs,.inl rfl⟩
    · exact (hs.2 b (Nat.ne_of_lt (Nat.lt_of_lt_of_le (Heap.lt_size e) I.ok.above))).trans (I.base.keep b o e n hb hx)
    · obtain ⟨sl,e1⟩:=I.base.slot b o e n hb hx
      exact ⟨sl,(hs.2 b (Nat.ne_of_lt (Nat.lt_of_lt_of_le (Heap.lt_size e) I.ok.above))).trans e1⟩
    · obtain ⟨o',e1⟩:=I.base.there b o e hx
      exact ⟨o',(hs.2 b (Nat.ne_of_lt (Nat.lt_of_lt_of_le (Heap.lt_size e) I.ok.above))).trans e1⟩
    · by_cases hj:j=i
      · subst hj
        rw [hi] at e1; cases e1
        rw [List.getElem?_set_self hiσ] at e2
        cases e2
        exact ⟨u,r,.inl ⟨hk,by simp⟩⟩
      · rw [List.getElem?_set_ne (Ne.symm hj)] at e2
        obtain ⟨u',r',q⟩:=hl j y v' e1 e2 e3
        refine ⟨u',r',?_⟩
        rcases q with ⟨k,e⟩ | ⟨k,c,e,z⟩
        · refine .inl ⟨k,?_⟩
          have:y ≠ x:=fun e=>hj (zhB hN e1 (e ▸ hi))
          simp [this,e]
        · exact .inr ⟨k,c,e,z.sameBut hs (cne y c e)⟩
    · obtain ⟨w',z⟩:=I.cell y c e
      exact ⟨w',z.sameBut hs (cne y c e)⟩
    · obtain ⟨e,n,ne,nf,d⟩:=I.pin p hp
      exact ⟨(hs.2 p.1 ne).trans e,n,ne,nf,d⟩
  · have hfn:X.fn x=true:=by
      rcases hf with z | z
      · exact z
      · rw [z] at hk; cases hk
    obtain ⟨c,hc⟩:=I.ok.has x (.inl hk)
    obtain ⟨w',z⟩:=I.cell x c hc
    refine wpAny_storeName_cell I.ok.kind hk hc z (fun h' hc' hs=>?_)
    obtain ⟨oc,hoc,hocd⟩:=id z
    refine h { s with heap:=h' } ⟨I.ok,I.os,I.bare,⟨fun b o e n hb hx=>?_,fun b o e n hb hx=>?_,I.base.free,fun b o e hx=>?_,I.base.tups,I.base.frzs,I.base.tbls⟩,⟨m,hn.sameBut hs (Ne.symm (cne x c hc)),fun j y v' e1 e2 e3=>?_⟩,fun y c' e=>?_,I.free,I.freeC,fun p hp=>?_,tracked ⟨oc,hoc,I.freeC x c hc⟩ hs,by simpa using I.len⟩ ⟨c,hs,.inr hc⟩
    · exact (hs.2 b (Nat.ne_of_lt (Nat.lt_of_lt_of_le (Heap.lt_size e) (I.ok.cab x c hfn hc)))).trans (I.base.keep b o e n hb hx)
    · obtain ⟨sl,e1⟩:=I.base.slot b o e n hb hx
      exact ⟨sl,(hs.2 b (Nat.ne_of_lt (Nat.lt_of_lt_of_le (Heap.lt_size e) (I.ok.cab x c hfn hc)))).trans e1⟩
    · obtain ⟨o',e1⟩:=I.base.there b o e hx
      exact ⟨o',(hs.2 b (Nat.ne_of_lt (Nat.lt_of_lt_of_le (Heap.lt_size e) (I.ok.cab x c hfn hc)))).trans e1⟩
    · by_cases hj:j=i
      · subst hj
        rw [hi] at e1; cases e1
        rw [List.getElem?_set_self hiσ] at e2
        cases e2
        exact ⟨u,r,.inr ⟨.inl hk,c,hc,hc'⟩⟩
      · rw [List.getElem?_set_ne (Ne.symm hj)] at e2
        obtain ⟨u',r',q⟩:=hl j y v' e1 e2 e3
        refine ⟨u',r',?_⟩
        rcases q with q | ⟨k,c',e,z'⟩
        · exact .inl q
        · refine .inr ⟨k,c',e,z'.sameBut hs ?_⟩
          rintro rfl
          exact hj (zhB hN e1 (I.ok.inj _ _ _ e hc ▸ hi))
    · by_cases hcc:c'=c
      · subst hcc; exact ⟨_,hc'⟩
      · obtain ⟨w2,z2⟩:=I.cell y c' e
        exact ⟨w2,z2.sameBut hs hcc⟩
    · obtain ⟨e,n,ne,nf,d⟩:=I.pin p hp
      refine ⟨(hs.2 p.1 ?_).trans e,n,ne,nf,d⟩
      intro q
      rw [q,hoc] at e
      have q':oc=p.2:=Option.some.inj e
      exact d w' (by rw [← q']; exact hocd)
theorem ze7 {M:Model} {A:Around} {E:Value→Shared→Prop} {i:Nat} {x:Str} {v:V} {u:Value} {Q:Unit→Shared→Prop} (I:Inv X pins σ H s) (hN:X.N.Nodup) (hi:X.N[i]?=some x) (hx:Loc X.env.scope x) (r:RelV v u)
    (h:∀ s',Inv X pins (σ.set i (some v)) H s'→Q () s') (hf:X.fn x=true∨X.env.scope.names.lookup x=some .local:=by first | exact .inl rfl | exact .inr rfl | assumption):wpAny M A (storeName X.env x u) Q E s :=
  zlT I hN hi hx r (fun s' I' _=>h s' I') hf
end
abbrev XK:=Value→Option Addr→Hp→Prop
abbrev St:=List (Option V)
abbrev VK:=V→Hp→Prop
abbrev TE:=St→Hp→VK→Prop
abbrev TT:=St→Hp→(Bool→Hp→Prop)→Prop
abbrev TA:=St→Hp→(List V→Hp→Prop)→Prop
structure Ends where
  nx:St→Hp→Prop
  rt:VK
  bk:St→Hp→Prop:=fun _ _=>False
  ct:St→Hp→Prop:=fun _ _=>False
abbrev TS:=Ends→St→Hp→Prop
def EP (X:Cx) (pins:List (Addr × Obj)) (σ:St) (Q:VK) (u:Value) (s':Shared):Prop:=∃ v H',Inv X pins σ H' s'∧RelV v u∧Q v H'
def TP (X:Cx) (pins:List (Addr × Obj)) (σ:St) (Q:Bool→Hp→Prop) (b:Bool) (s':Shared):Prop:=∃ H',Inv X pins σ H' s'∧Q b H'
def AP (X:Cx) (pins:List (Addr × Obj)) (σ:St) (Q:List V→Hp→Prop) (us:List Value) (s':Shared):Prop:=∃ vs H',Inv X pins σ H' s'∧Vals vs us∧Q vs H'
def SP (X:Cx) (pins:List (Addr × Obj)) (D:Ends) (f:Flow) (s':Shared):Prop :=
  match f with
  | .next=>∃ σ' H',Inv X pins σ' H' s'∧D.nx σ' H'
  | .brk=>∃ σ' H',Inv X pins σ' H' s'∧D.bk σ' H'
  | .cont=>∃ σ' H',Inv X pins σ' H' s'∧D.ct σ' H'
  | .ret u=>∃ v σ' H',Inv X pins σ' H' s'∧RelV v u∧D.rt v H'
def PE (X:Cx) (e:Expr) (t:TE):Prop :=
  ∀ (pins:List (Addr × Obj)) (s:Shared) (σ:St) (H:Hp) (Q:VK),Inv X pins σ H s→t σ H Q→wpAny (model X.prog X.w) X.A (eval e X.env) (EP X pins σ Q) X.xe s
def PT (X:Cx) (e:Expr) (t:TT):Prop :=
  ∀ (pins:List (Addr × Obj)) (s:Shared) (σ:St) (H:Hp) (Q:Bool→Hp→Prop),Inv X pins σ H s→t σ H Q→wpAny (model X.prog X.w) X.A (isTrue e X.env (eval e X.env)) (TP X pins σ Q) X.xe s
def PW (X:Cx) (e:Expr) (t:TT):Prop :=
  ∀ (whole:Sem Value) (pins:List (Addr × Obj)) (s:Shared) (σ:St) (H:Hp) (Q:Bool→Hp→Prop),Inv X pins σ H s→t σ H Q→wpAny (model X.prog X.w) X.A (isTrue e X.env whole) (TP X pins σ Q) X.xe s
theorem PW.pt {X:Cx} {e:Expr} {t:TT} (h:PW X e t):PT X e t:=h _
def PA (X:Cx) (es:List Expr) (t:TA):Prop :=
  ∀ (pos:Pos) (pins:List (Addr × Obj)) (s:Shared) (σ:St) (H:Hp) (Q:List V→Hp→Prop),Inv X pins σ H s→t σ H Q→wpAny (model X.prog X.w) X.A (spliced (backTo pos (starEach es X.env))) (AP X pins σ Q) X.xe s
def PS (X:Cx) (st:Stmt) (t:TS):Prop :=
  ∀ (pins:List (Addr × Obj)) (s:Shared) (σ:St) (H:Hp) (D:Ends),Inv X pins σ H s→t D σ H→wpAny (model X.prog X.w) X.A (exec st X.env) (SP X pins D) X.xe s
def PSs (X:Cx) (st:List Stmt) (t:TS):Prop :=
  ∀ (pins:List (Addr × Obj)) (s:Shared) (σ:St) (H:Hp) (D:Ends),Inv X pins σ H s→t D σ H→wpAny (model X.prog X.w) X.A (execs st X.env) (SP X pins D) X.xe s
theorem thn {α:Type} {t:Sem α} {Q Q':α→Shared→Prop} {M:Model} {A:Around} {E:Value→Shared→Prop} {s:Shared} (h:wpAny M A t Q E s) (hQ:∀ a s,Q a s→Q' a s):wpAny M A t Q' E s:=wpAny_mono h hQ fun _ _ x=>x
end L2
namespace L2
open PySem PySem.Spec PyProof.Rows
section
variable {X:Cx}
def tVar (i:Nat):TE:=fun σ H Q=>∃ v,σ[i]?=some (some v)∧Q v H
def tC (v:V):TE:=fun _ H Q=>Q v H
theorem zpS {i:Nat} {x:Str} {pos:Pos} (hN:X.N[i]?=some x) (hv:Vis X.env.scope x) (hd:(x == ("__debug__" : Str))=false:=by decide) (hcd:(x == ("__classdict__" : Str))=false:=by decide):PE X (.Name x pos) (tVar i):=by
  intro pins s σ H Q I h
  obtain ⟨v,e,h⟩:=h
  obtain ⟨m,hn,hl⟩:=I.loc
  obtain ⟨u,r,l⟩:=hl i x v hN e hv
  have fin:EP X pins σ Q u s:=⟨v,H,I,r,h⟩
  rcases l with ⟨hk,hm⟩ | ⟨hk,c,hc,hcell⟩
  · exact wpAny_Name (wpAny_loadName_local I.ok.kind hk hn hm fin) hd
  · rcases hk with hk | hk
    · exact wpAny_Name (wpAny_loadName_cell I.ok.kind hk hc hcell fin) hd
    · exact wpAny_Name (wpAny_loadName_free I.ok.kind hk hc hcell fin hcd) hd
theorem zah {i j pos}:PE X (.Constant (.int i) j pos) (tC (.int i)):=fun _ _ _ H _ I h=>wpAny_Constant_int ⟨.int i,H,I.tok _,⟨_,rfl⟩,h⟩
theorem zf5 {b j pos}:PE X (.Constant (.bool b) j pos) (tC (.bl b)):=fun _ _ _ H _ I h=>Constant_bool ⟨.bl b,H,I,rfl,h⟩
theorem zfJ {j pos}:PE X (.Constant .none j pos) (tC .non):=fun _ _ _ H _ I h=>Constant_none ⟨.non,H,I,rfl,h⟩
theorem zcG {x j pos}:PE X (.Constant (.str x) j pos) (tC (.str x)):=fun _ _ _ H _ I h=>Calls.Constant_str ⟨.str x,H,I.tok _,⟨_,rfl⟩,h⟩
def Gl (X:Cx) (x:Str):Prop:=X.env.kindOf x=some .globalImplicit
theorem zeN {E:Value→Shared→Prop} {pins:List (Addr × Obj)} {s:Shared} {σ:St} {H:Hp} {x:Str} {u:Value} {pos:Pos} {Q:Value→Shared→Prop} (I:Inv X pins σ H s) (hg:Gl X x) (hm:X.mg x=some u) (h:Q u s)
    (hd:(x == ("__debug__" : Str))=false:=by decide):wpAny (model X.prog X.w) X.A (eval (.Name x pos) X.env) Q E s :=
  Calls.Name_function_global I.ok.kind hg (Calls.loadGlobal_global (by rw [I.ok.glob]; exact I.mod.glob.keeps I.bk) hm h) hd
theorem zej {E:Value→Shared→Prop} {pins:List (Addr × Obj)} {s:Shared} {σ:St} {H:Hp} {x:Str} {u:Value} {pos:Pos} {Q:Value→Shared→Prop} (I:Inv X pins σ H s) (hg:Gl X x) (hm:X.mg x=none) (hv:bootBuiltins x=some u) (h:Q u s)
    (hn:x ≠ "__name__":=by decide) (hd:(x == ("__debug__" : Str))=false:=by decide):wpAny (model X.prog X.w) X.A (eval (.Name x pos) X.env) Q E s:=by
  obtain ⟨mb,h1,h2⟩:=I.mod.blt
  exact Calls.Name_function_global I.ok.kind hg (Calls.loadGlobal_builtin (by rw [I.ok.glob]; exact I.mod.glob.keeps I.bk) hm (by rw [I.ok.blt]; exact h1.keeps I.bk) ((h2 x hn).trans hv) h) hd
theorem zgC {x:Str} {v:V} {u:Value} {pos:Pos} (hg:Gl X x) (hm:X.mg x=some u) (r:RelV v u) (hd:(x == ("__debug__" : Str))=false:=by decide):PE X (.Name x pos) (tC v) :=
  fun _ _ _ H _ I h=>zeN I hg hm ⟨v,H,I,r,h⟩ hd
theorem zhL {x:Str} {v:V} {u:Value} {pos:Pos} (hg:Gl X x) (hm:X.mg x=none) (hv:bootBuiltins x=some u) (r:RelV v u) (hn:x ≠ "__name__":=by decide) (hd:(x == ("__debug__" : Str))=false:=by decide):PE X (.Name x pos) (tC v) :=
  fun _ _ _ H _ I h=>zej I hg hm hv ⟨v,H,I,r,h⟩ hn hd
variable {a b:Expr} {ta tb:TE} {pos:Pos}
def tB (t:TE):TT:=fun σ H Q=>t σ H fun x H1=>∃ c,x = .bl c∧Q c H1
theorem zcX {e:Expr} {t:TE} (h:PE X e t) (he:∀ whole,isTrue e X.env whole=(do let v ← whole; standAt e.pos; holding [v] (truthy v)):=by intro _; rfl):PT X e (tB t):=by
  intro pins s σ H Q I hw
  refine isTrue_plain (thn (h pins s σ H _ I hw) fun v s1 ⟨x,H1,I1,r1,q1⟩=>?_) (he _)
  obtain ⟨d,rfl,q⟩:=q1
  cases r1
  exact wpAny_truthy_bool ⟨H1,I1,q⟩
variable {tA tB':TT} {rest:List Expr}
def tAnd (t u:TT):TT:=fun σ H Q=>t σ H fun c H1=>if c=true then u σ H1 Q else Q false H1
def tOr (t u:TT):TT:=fun σ H Q=>t σ H fun c H1=>if c=true then Q true H1 else u σ H1 Q
def tNot (t:TT):TT:=fun σ H Q=>t σ H fun c H1=>Q (!c) H1
theorem zo8 (ha:PT X a tA):PW X (.BoolOp .And [a] pos) tA:=by
  intro wh pins s σ H Q I h
  refine isTrue_and (thn (ha pins s σ H Q I h) fun c s1 e=>?_)
  cases c with
  | true=>exact isTrue_and_nil e
  | false=>exact e
theorem zfO (ha:PT X a tA):PW X (.BoolOp .Or [a] pos) tA:=by
  intro wh pins s σ H Q I h
  refine isTrue_or (thn (ha pins s σ H Q I h) fun c s1 e=>?_)
  cases c with
  | false=>exact isTrue_or_nil e
  | true=>exact e
theorem zqs (ha:PT X a tA) (hb:PW X (.BoolOp .And (b :: rest) pos) tB'):PW X (.BoolOp .And (a :: b :: rest) pos) (tAnd tA tB'):=by
  intro wh pins s σ H Q I h
  refine isTrue_and (thn (ha pins s σ H _ I h) fun c s1 ⟨H1,I1,q1⟩=>?_)
  cases c with
  | true=>exact hb wh pins s1 σ H1 Q I1 q1
  | false=>exact ⟨H1,I1,q1⟩
theorem zgP (ha:PT X a tA) (hb:PW X (.BoolOp .Or (b :: rest) pos) tB'):PW X (.BoolOp .Or (a :: b :: rest) pos) (tOr tA tB'):=by
  intro wh pins s σ H Q I h
  refine isTrue_or (thn (ha pins s σ H _ I h) fun c s1 ⟨H1,I1,q1⟩=>?_)
  cases c with
  | true=>exact ⟨H1,I1,q1⟩
  | false=>exact hb wh pins s1 σ H1 Q I1 q1
theorem zfG (ha:PT X a tA):PT X (.UnaryOp .Not a pos) (tNot tA):=by
  intro pins s σ H Q I h
  exact isTrue_not (ha pins s σ H (fun c H1=>Q (!c) H1) I h)
def zp1 (ta tb:TE):TE:=fun σ H Q=>ta σ H fun x H1=>∃ c,x = .bl c∧if c=true then tb σ H1 Q else Q (.bl false) H1
theorem zmb {op} {t:TE} (h:PE X a t):PE X (.BoolOp op [a] pos) t:=fun pins s σ H Q I hw=>BoolOp_one (h pins s σ H Q I hw)
theorem zlX (ha:PE X a ta) (hb:PE X (.BoolOp .And (b :: rest) pos) tb):PE X (.BoolOp .And (a :: b :: rest) pos) (zp1 ta tb):=by
  intro pins s σ H Q I h
  refine BoolOp_and (thn (ha pins s σ H _ I h) fun v s1 ⟨x,H1,I1,r1,q1⟩=>?_)
  obtain ⟨c,rfl,q1⟩:=q1
  cases r1
  refine wpAny_truthy_bool ?_
  cases c with
  | true=>exact hb pins s1 σ H1 Q I1 q1
  | false=>exact ⟨.bl false,H1,I1,rfl,q1⟩
end
end L2
namespace L2
open PySem PySem.Spec PyProof.Rows
def SqL (K:PySem.W.Frag) (H:Hp) (a:Addr) (xs:List V):Prop :=
  Rd H a (.lst xs) ∨
    ∃ (o:Obj) (its:Array Value) (n:Nat),K.lookup a=some o∧o.cls = .type "list"∧o.dict=none∧o.data = .seq its n∧its.size ≤ sizeLine∧Vals xs its.toList
def SqT (K:PySem.W.Frag) (H:Hp) (a:Addr) (xs:List V):Prop :=
  Rd H a (.tup xs) ∨
    ∃ (o:Obj) (its:Array Value) (n:Nat),K.lookup a=some o∧o.cls = .type "tuple"∧o.data = .seq its n∧its.size ≤ sizeLine∧Vals xs its.toList
def absV:Value→Option V
  | .none=>some .non
  | .bool b=>some (.bl b)
  | .int i _=>some (.int i)
  | .str x _=>some (.str x)
  | .bytes b _=>some (.byt b)
  | .float b _=>some (.flt b)
  | .ref a=>some (.ref a)
  | .type n=>some (.ty n)
  | _=>none
theorem RelV.abs {x:V} {u:Value} (r:RelV x u):absV u=some x:=by
  cases x with
  | non=>cases r; rfl
  | bl _=>cases r; rfl
  | int _=>obtain ⟨t,rfl⟩:=r; rfl
  | str _=>obtain ⟨t,rfl⟩:=r; rfl
  | byt _=>obtain ⟨t,rfl⟩:=r; rfl
  | flt _=>obtain ⟨t,rfl⟩:=r; rfl
  | ref _=>cases r; rfl
  | ty _=>cases r; rfl
theorem RelV.inj {x y:V} {u:Value} (r:RelV x u) (q:RelV y u):x=y:=Option.some.inj (r.abs.symm.trans q.abs)
theorem Vals.inj:∀ {xs ys:List V} {us:List Value},Vals xs us→Vals ys us→xs=ys
  | _,_,_,.nil,.nil=>rfl
  | _,_,_,.cons r t,.cons r' t'=>by rw [r.inj r',Vals.inj t t']
section
variable {X:Cx} {pins:List (Addr × Obj)} {σ:St} {H:Hp} {s:Shared} {a:Addr} {xs ys:List V}
theorem Inv.list (I:Inv X pins σ H s) (h:SqL X.K H a xs):∃ its:List Value,Vals xs its∧PlainL s.heap a its.toArray∧xs.length ≤ sizeLine:=by
  rcases h with h | ⟨o,its,n,hk,hc,hd,hs,hz,r⟩
  · obtain ⟨z,its,n,r,e⟩:=h.ok I.hok
    exact ⟨its,r,⟨_,n,e,rfl,rfl,rfl⟩,z⟩
  · refine ⟨its.toList,r,⟨o,n,I.kIn a o hk,hc,hd,by simpa using hs⟩,?_⟩
    have e:=r.length
    simp only [Array.length_toList] at e
    omega
theorem Inv.tuple (I:Inv X pins σ H s) (h:SqT X.K H a xs):∃ its:List Value,Vals xs its∧IsTup s.heap a its.toArray∧xs.length ≤ sizeLine:=by
  rcases h with h | ⟨o,its,n,hk,hc,hs,hz,r⟩
  · obtain ⟨z,its,r,p⟩:=h.ok I.hok
    exact ⟨its,r,p,z⟩
  · refine ⟨its.toList,r,⟨o,I.kIn a o hk,hc,n,by simpa using hs⟩,?_⟩
    have e:=r.length
    simp only [Array.length_toList] at e
    omega
theorem Inv.list_inj (I:Inv X pins σ H s) (h:SqL X.K H a xs) (h':SqL X.K H a ys):xs=ys:=by
  obtain ⟨its,r,⟨o,n,e,_,_,d⟩,_⟩:=I.list h
  obtain ⟨its',r',⟨o',n',e',_,_,d'⟩,_⟩:=I.list h'
  rw [e] at e'; cases e'
  rw [d] at d'
  injection d' with d1 _
  have:its=its':=by simpa using congrArg Array.toList d1
  subst this
  exact r.inj r'
end
abbrev Cx.wish (X:Cx) (E:Value→Shared→Prop):Cx:={ X with xe:=E }
abbrev Cx.nox (X:Cx):Cx:=X.wish fun _ _=>False
theorem Cx.Ok.wish {X:Cx} (ok:X.Ok) (E:Value→Shared→Prop):(X.wish E).Ok :=
  ⟨ok.mod,ok.kind,ok.glob,ok.blt,ok.above,ok.inj,ok.has,ok.cab,ok.hd,ok.frames,ok.stk,ok.exf,ok.bs,ok.bsz,ok.noex,ok.exfs,ok.funs,ok.frf,ok.tb⟩
theorem Cx.Ok.unwish {X:Cx} {E:Value→Shared→Prop} (ok:(X.wish E).Ok):X.Ok :=
  ⟨ok.mod,ok.kind,ok.glob,ok.blt,ok.above,ok.inj,ok.has,ok.cab,ok.hd,ok.frames,ok.stk,ok.exf,ok.bs,ok.bsz,ok.noex,ok.exfs,ok.funs,ok.frf,ok.tb⟩
section
variable {X:Cx} {pins:List (Addr × Obj)} {σ:St} {H:Hp} {s:Shared} {E:Value→Shared→Prop}
theorem Inv.wish (I:Inv X pins σ H s) (E:Value→Shared→Prop):Inv (X.wish E) pins σ H s:=⟨I.ok.wish E,I.os,I.bare,I.base,I.loc,I.cell,I.free,I.freeC,I.pin,I.hok,I.len⟩
theorem Inv.unwish (I:Inv (X.wish E) pins σ H s):Inv X pins σ H s:=⟨I.ok.unwish,I.os,I.bare,I.base,I.loc,I.cell,I.free,I.freeC,I.pin,I.hok,I.len⟩
theorem SP.unwish {D:Ends} {f:Flow} {s':Shared} (h:SP (X.wish E) pins D f s'):SP X pins D f s':=by
  cases f with
  | next=>obtain ⟨σ',H',I,q⟩:=h; exact ⟨σ',H',I.unwish,q⟩
  | brk=>obtain ⟨σ',H',I,q⟩:=h; exact ⟨σ',H',I.unwish,q⟩
  | cont=>obtain ⟨σ',H',I,q⟩:=h; exact ⟨σ',H',I.unwish,q⟩
  | ret u=>obtain ⟨v,σ',H',I,r,q⟩:=h; exact ⟨v,σ',H',I.unwish,r,q⟩
theorem PSs.nox {st:List Stmt} {t:TS} (h:PSs X.nox st t):PSs X st t:=fun pins s σ H D I hw =>
  wpAny_mono (h pins s σ H D (I.wish _) hw) (fun _ _ q=>q.unwish) fun _ _ z=>False.elim z
end
section
variable {X:Cx} {st:Stmt} {rest:List Stmt} {t u:TS} {e:Expr} {te:TE} {pos:Pos}
def zqe:TS:=fun D σ H=>D.nx σ H
def tSeq (t u:TS):TS:=fun D σ H=>t { D with nx:=u D } σ H
theorem zaK:PSs X [] zqe:=fun _ _ σ H _ I h=>wpAny_execs_nil ⟨σ,H,I,h⟩
theorem zaf (h1:PS X st t) (h2:PSs X rest u):PSs X (st :: rest) (tSeq t u):=by
  intro pins s σ H D I h
  refine wpAny_execs_cons (thn (h1 pins s σ H { D with nx:=u D } I h) fun f s1 q=>?_)
  cases f with
  | next =>
    obtain ⟨σ',H',I',q⟩:=q
    exact h2 pins s1 σ' H' D I' q
  | ret v=>exact q
  | brk=>exact q
  | cont=>exact q
theorem zam (h1:PS X st t):PSs X [st] t:=by
  intro pins s σ H D I h
  refine wpAny_execs_cons (thn (h1 pins s σ H D I h) fun f s1 q=>?_)
  cases f with
  | next=>exact wpAny_execs_nil q
  | ret v=>exact q
  | brk=>exact q
  | cont=>exact q
theorem Inv.quiet {pins:List (Addr × Obj)} {σ:St} {H:Hp} {s:Shared} (I:Inv X pins σ H s):interactive X.env=false:=by simp [interactive,I.ok.kind]
def zpg (te:TE):TS:=fun D σ H=>te σ H fun _ H1=>D.nx σ H1
theorem zeo (he:PE X e te) (hs:swapsWith e none pos.line X.env=pure false:=by rfl):PS X (.Expr e pos) (zpg te):=by
  intro pins s σ H D I h
  exact wpAny_Expr_any (thn (he pins s σ H _ I h) fun v s1 ⟨x,H1,I1,r1,q1⟩=>⟨σ,H1,I1,q1⟩) I.quiet hs
def tRet (te:TE):TS:=fun D σ H=>te σ H D.rt
theorem zaE (he:PE X e te):PS X (.Return (some e) pos) (tRet te):=by
  intro pins s σ H D I h
  exact wpAny_Return_some (thn (he pins s σ H _ I h) fun v s1 ⟨x,H1,I1,r1,q1⟩=>⟨x,σ,H1,I1,r1,q1⟩)
def tIfS (c:TT) (t u:TS):TS:=fun D σ H=>c σ H fun b H1=>if b=true then t D σ H1 else u D σ H1
theorem zbj {c:Expr} {a b:List Stmt} {tc:TT} (hc:PT X c tc) (ha:PSs X a t) (hb:PSs X b u):PS X (.If c a b pos) (tIfS tc t u):=by
  intro pins s σ H D I h
  refine wpAny_If (thn (hc pins s σ H _ I h) fun d s1 ⟨H1,I1,q1⟩=>?_)
  cases d with
  | true=>exact ha pins s1 σ H1 D I1 q1
  | false=>exact hb pins s1 σ H1 D I1 q1
end
abbrev TG:=V→St→Hp→(St→Hp→Prop)→Prop
abbrev TGs:=List V→St→Hp→(St→Hp→Prop)→Prop
def PG (X:Cx) (target:Expr) (t:TG):Prop :=
  ∀ (pins:List (Addr × Obj)) (s:Shared) (σ:St) (H:Hp) (v:V) (u:Value) (Q:St→Hp→Prop),Inv X pins σ H s→RelV v u→t v σ H Q →
    wpAny (model X.prog X.w) X.A (assign target X.env u) (fun _ s'=>∃ σ' H',Inv X pins σ' H' s'∧Q σ' H') X.xe s
def PGs (X:Cx) (ts:List Expr) (t:TGs):Prop :=
  ∀ (pins:List (Addr × Obj)) (s:Shared) (σ:St) (H:Hp) (vs:List V) (us:List Value) (Q:St→Hp→Prop),Inv X pins σ H s→Vals vs us→t vs σ H Q →
    wpAny (model X.prog X.w) X.A (assignInOrder ((assignEach ts X.env).map (·.2)) us) (fun _ s'=>∃ σ' H',Inv X pins σ' H' s'∧Q σ' H') X.xe s
abbrev TSet:=V→V→V→Hp→(Hp→Prop)→Prop
def PSet (X:Cx) (t:TSet):Prop :=
  ∀ (pins:List (Addr × Obj)) (s:Shared) (σ:St) (H:Hp) (o i v:V) (ov iv u:Value) (Q:Hp→Prop),Inv X pins σ H s→RelV o ov→RelV i iv→RelV v u→t o i v H Q →
    wpAny (model X.prog X.w) X.A (setItem ov iv u) (fun _ s'=>∃ H',Inv X pins σ H' s'∧Q H') X.xe s
abbrev TIp:=V→V→Hp→VK→Prop
def PIp (X:Cx) (op:Operator) (t:TIp):Prop :=
  ∀ (pins:List (Addr × Obj)) (s:Shared) (σ:St) (H:Hp) (x y:V) (v u:Value) (Q:VK),Inv X pins σ H s→RelV x v→RelV y u→t x y H Q →
    wpAny (model X.prog X.w) X.A (inplaceOp op v u) (EP X pins σ Q) X.xe s
section
variable {X:Cx} {pos:Pos}
def zjK (i:Nat):TG:=fun v σ H Q=>Q (σ.set i (some v)) H
theorem zbe {i:Nat} {x:Str} (hN:X.N.Nodup) (hi:X.N[i]?=some x) (hx:Loc X.env.scope x) (hf:X.fn x=true∨X.env.scope.names.lookup x=some .local:=by first | exact .inl rfl | exact .inr rfl | assumption):PG X (.Name x pos) (zjK i):=by
  intro pins s σ H v u Q I r h
  exact wpAny_assign_Name (ze7 I hN hi hx r (fun s' I'=>⟨_,H,I',h⟩) hf)
def gNil:TGs:=fun vs σ H Q=>vs = []∧Q σ H
def zqk (t:TG) (u:TGs):TGs:=fun vs σ H Q=>∃ v r,vs=v :: r∧t v σ H fun σ' H'=>u r σ' H' Q
theorem zgy:PGs X [] gNil:=by
  intro pins s σ H vs us Q I r h
  obtain ⟨e,h⟩:=h
  subst e
  cases r
  exact assignInOrder_nil ⟨σ,H,I,h⟩
theorem zcs {e:Expr} {es:List Expr} {t:TG} {u:TGs} (h1:PG X e t) (h2:PGs X es u)
    (hs:(assignEach (e :: es) X.env).map (·.2)=assign e X.env :: (assignEach es X.env).map (·.2):=by rfl):PGs X (e :: es) (zqk t u):=by
  intro pins s σ H vs us Q I r h
  obtain ⟨v,vr,e1,h⟩:=h
  subst e1
  cases r with
  | cons r rr =>
    rw [hs]
    refine assignInOrder_cons (thn (h1 pins s σ H _ _ _ I r h) fun _ s1 ⟨σ1,H1,I1,q1⟩=>?_)
    exact h2 pins s1 σ1 H1 _ _ Q I1 rr q1
def gTup (K:PySem.W.Frag) (n:Nat) (t:TGs):TG:=fun v σ H Q=>∃ a xs,v = .ref a∧SqT K H a xs∧xs.length=n∧t xs σ H Q
theorem ziv {es:List Expr} {k:Nat} {t:TGs} {n:Nat} (hc:X.calm=true) (h:PGs X es t)
    (hn:(assignEach es X.env).length=n:=by rfl) (hst:(assignEach es X.env).findIdx? (·.1)=none:=by rfl):PG X (.Tuple es k pos) (gTup X.K n t):=by
  intro pins s σ H v u Q I r hw
  obtain ⟨a,xs,e1,hq,hl,hw⟩:=hw
  subst e1
  cases r
  obtain ⟨its,rv,ht,hz⟩:=I.tuple hq
  refine assign_Tuple_tuple (I.ok.hd hc) ht (by simp [hn,← hl,rv.length]) hst fun h' hx=>?_
  have I1:Inv X pins σ H { s with heap:=h' }:=I.kept (t':=s.toks) fun b o e=>hx b o (Nat.ne_of_lt (Heap.lt_size e)) e
  exact h pins _ σ H xs _ Q I1 (by simpa using rv) hw
def gSub (to ti:TE) (t:TSet):TG:=fun v σ H Q=>to σ H fun o H1=>ti σ H1 fun i H2=>t o i v H2 fun H3=>Q σ H3
theorem zoq {o i:Expr} {to ti:TE} {t:TSet} (ho:PE X o to) (hi:PE X i ti) (hs:PSet X t)
    (ha:∀ v,assign (.Subscript o i pos) X.env v=(do
      let ov ← holding [v] (eval o X.env)
      let iv ← holding [v,ov] (eval i X.env)
      standAt pos
      holding [v,ov,iv] (setItem ov iv v)
      release [v,ov,iv] []):=by intro _; rfl):PG X (.Subscript o i pos) (gSub to ti t):=by
  intro pins s σ H v u Q I r h
  rw [ha]
  refine wpAny_bind (wpAny_holding (thn (ho pins s σ H _ I h) fun ov s1 ⟨x,H1,I1,r1,q1⟩=>?_))
  refine wpAny_bind (wpAny_holding (thn (hi pins s1 σ H1 _ I1 q1) fun iv s2 ⟨y,H2,I2,r2,q2⟩=>?_))
  refine wpAny_bind (wpAny_standAt (wpAny_bind (wpAny_holding (thn (hs pins s2 σ H2 x y v ov iv u _ I2 r1 r2 r q2) fun _ s3 ⟨H3,I3,q3⟩=>?_))))
  exact wpAny_release ⟨σ,H3,I3,q3⟩
def tAsg (te:TE) (g:TG):TS:=fun D σ H=>te σ H fun x H1=>g x σ H1 D.nx
theorem zou {tg e:Expr} {te:TE} {g:TG} (he:PE X e te) (hg:PG X tg g) (hs:swapsWithSole [tg] e pos.line X.env=pure false:=by rfl) (hw:swappedStores [tg] e X.env=pure none:=by rfl)
    (h1:(assignEach [tg] X.env).map (·.2) = [assign tg X.env]:=by rfl):PS X (.Assign [tg] e pos) (tAsg te g):=by
  intro pins s σ H D I h
  refine wpAny_Assign_stores (thn (he pins s σ H _ I h) fun v s1 ⟨x,H1,I1,r1,q1⟩=>?_) hs hw
  rw [h1]
  exact thn (hg pins s1 σ H1 x v _ I1 r1 q1) fun _ s2 q=>q
theorem zaS {i:Nat} {x:Str} {e:Expr} {te:TE} {pos':Pos} (hN:X.N.Nodup) (hi:X.N[i]?=some x) (hx:Loc X.env.scope x) (he:PE X e te) (hs:swapsWith e (some (.Name x pos')) pos.line X.env=pure false:=by rfl) (hf:X.fn x=true∨X.env.scope.names.lookup x=some .local:=by first | exact .inl rfl | exact .inr rfl | assumption) :
    PS X (.Assign [.Name x pos'] e pos) (tAsg te (zjK i)):=by
  intro pins s σ H D I h
  refine wpAny_Assign_Name (thn (he pins s σ H _ I h) fun v s1 ⟨y,H1,I1,r1,q1⟩=>?_) hs
  exact ze7 I1 hN hi hx r1 (fun s2 I2=>⟨_,H1,I2,q1⟩) hf
def zqN (to ti te:TE) (tget:V→V→Hp→VK→Prop) (tip:TIp) (tset:TSet):TS:=fun D σ H=>to σ H fun o H1=>ti σ H1 fun i H2=>tget o i H2 fun x H3=>te σ H3 fun y H4=>tip x y H4 fun z H5=>tset o i z H5 fun H6=>D.nx σ H6
def PGet (X:Cx) (t:V→V→Hp→VK→Prop):Prop :=
  ∀ (pins:List (Addr × Obj)) (s:Shared) (σ:St) (H:Hp) (o i:V) (ov iv:Value) (Q:VK),Inv X pins σ H s→RelV o ov→RelV i iv→t o i H Q →
    wpAny (model X.prog X.w) X.A (getItem ov iv) (EP X pins σ Q) X.xe s
theorem zjI {o i e:Expr} {to ti te:TE} {tget:V→V→Hp→VK→Prop} {tip:TIp} {tset:TSet} {op:Operator} {tpos:Pos} (ho:PE X o to) (hi:PE X i ti) (hg:PGet X tget) (he:PE X e te) (hp:PIp X op tip) (hs:PSet X tset)
    (ha:∀ ov iv new,augStore i ov iv new=(do holding [new,ov,iv] (setItem ov iv new); release [new,ov,iv] []; pure .next):=by intros; rfl):PS X (.AugAssign (.Subscript o i tpos) op e pos) (zqN to ti te tget tip tset):=by
  intro pins s σ H D I h
  refine wpAny_AugAssign_SubscriptAny (thn (ho pins s σ H _ I h) fun ov s1 ⟨x1,H1,I1,r1,q1⟩=>?_) ha
  refine thn (hi pins s1 σ H1 _ I1 q1) fun iv s2 ⟨x2,H2,I2,r2,q2⟩=>?_
  refine thn (hg pins s2 σ H2 x1 x2 ov iv _ I2 r1 r2 q2) fun old s3 ⟨x3,H3,I3,r3,q3⟩=>?_
  refine thn (he pins s3 σ H3 _ I3 q3) fun v s4 ⟨x4,H4,I4,r4,q4⟩=>?_
  refine thn (hp pins s4 σ H4 x3 x4 old v _ I4 r3 r4 q4) fun new s5 ⟨x5,H5,I5,r5,q5⟩=>?_
  exact thn (hs pins s5 σ H5 x1 x2 x5 ov iv new _ I5 r1 r2 r5 q5) fun _ s6 ⟨H6,I6,q6⟩=>⟨σ,H6,I6,q6⟩
def ipI (f:Int→Int→Int):TIp:=fun x y H Q=>∃ i j,x = .int i∧y = .int j∧Q (.int (f i j)) H
theorem zoe:PIp X .Add (ipI fun i j=>i + j):=by
  intro pins s σ H x y v u Q I r1 r2 h
  obtain ⟨i,j,e1,e2,q⟩:=h
  subst e1; subst e2
  obtain ⟨t,rfl⟩:=r1
  obtain ⟨t',rfl⟩:=r2
  exact iadd_int ⟨.int _,H,I.tok _,⟨_,rfl⟩,q⟩
theorem zqU:PIp X .Sub (ipI fun i j=>i - j):=by
  intro pins s σ H x y v u Q I r1 r2 h
  obtain ⟨i,j,e1,e2,q⟩:=h
  subst e1; subst e2
  obtain ⟨t,rfl⟩:=r1
  obtain ⟨t',rfl⟩:=r2
  exact isub_int ⟨.int _,H,I.tok _,⟨_,rfl⟩,q⟩
end
section
variable {X:Cx} {pos:Pos}
def zoA (c:TT) (tb:TS):TS:=fun D σ H=>∃ W:Nat→St→Hp→Prop,(∃ m,W m σ H)∧∀ m σ H,W m σ H →
  c σ H fun b H1=>if b=true then ∃ N:St→Hp→Prop,(∀ σ' H',N σ' H'→∃ m',m' < m∧W m' σ' H')∧tb { D with nx:=N,ct:=N,bk:=D.nx } σ H1 else D.nx σ H1
theorem zn9 {c:Expr} {body:List Stmt} {tc:TT} {tb:TS} (hp:PassesOwn (model X.prog X.w) X.A X.env X.xe) (hc:PT X c tc) (hb:PSs X body tb):PS X (.While c body [] pos) (zoA tc tb):=by
  intro pins s σ H D I h
  obtain ⟨W,⟨m0,w0⟩,turn⟩:=h
  refine wpAny_While (codeAny_whileLoop (fun n s'=>∃ σ' H',Inv X pins σ' H' s'∧W n σ' H') ?_ m0 ⟨σ,H,I,w0⟩)
  rintro n s1 ⟨σ1,H1,I1,w1⟩
  refine wpAny_passesOwn hp (thn (hc pins s1 σ1 H1 _ I1 (turn n σ1 H1 w1)) fun b s2 ⟨H2,I2,q2⟩=>?_)
  cases b with
  | true =>
    obtain ⟨N,hN,q2⟩:=q2
    rw [if_pos rfl]
    refine wpAny_passesOwn hp (thn (hb pins s2 σ1 H2 _ I2 q2) fun f s3 q3=>?_)
    cases f with
    | next =>
      obtain ⟨σ3,H3,I3,n3⟩:=q3
      obtain ⟨m',hm,w3⟩:=hN σ3 H3 n3
      exact ⟨m',hm,σ3,H3,I3,w3⟩
    | cont =>
      obtain ⟨σ3,H3,I3,n3⟩:=q3
      obtain ⟨m',hm,w3⟩:=hN σ3 H3 n3
      exact ⟨m',hm,σ3,H3,I3,w3⟩
    | brk=>exact q3
    | ret v=>exact q3
  | false =>
    rw [if_neg Bool.false_ne_true]
    exact wpAny_execs_nil ⟨σ1,H2,I2,q2⟩
end
structure It where
  go:Nat→Hp→Prop
  yld:Nat→Hp→V→Hp→Prop
  stop:Nat→Hp→Prop
def FpOk (X:Cx) (pins:List (Addr × Obj)) (H:Hp) (b:Addr):Prop :=
  H b=none∧b ≠ X.env.locals∧b ∉ X.fs∧(b ∈ X.ex∨X.s₀.heap.objs.size ≤ b)∧(∀ x c,X.env.cells.lookup x=some c→c ≠ b)∧∀ p ∈ X.pn ++ pins,p.1 ≠ b
theorem Inv.fpOk {X:Cx} {pins:List (Addr × Obj)} {σ:St} {H H':Hp} {s:Shared} {b:Addr} (I:Inv X pins σ H s) (hb:s.heap.objs.size ≤ b) (hn:H' b=none):FpOk X pins H' b:=by
  refine ⟨hn,Nat.ne_of_gt (Nat.lt_of_lt_of_le I.lt hb),I.nofs hb,.inr (Nat.le_trans I.sz hb),fun x c e z=>?_,fun p hp z=>?_⟩
  · obtain ⟨v,q⟩:=I.cell x c e
    exact absurd (Nat.lt_of_lt_of_le q.lt (by rw [z]; exact hb)) (Nat.lt_irrefl _)
  · exact absurd (Nat.lt_of_lt_of_le (Heap.lt_size (I.pin p hp).1) (by rw [z]; exact hb)) (Nat.lt_irrefl _)
structure Turn (P:Program) (w:World) (K:PySem.W.Frag) (tg:Expr) (J:It) (fp:List Addr) (it:Addr) (tn:Nat→Heap→Prop):Prop where
  mem:it ∈ fp
  obj:∀ i h,tn i h→∀ b ∈ fp,∃ o,h.get? b=some o∧∀ v,o.data ≠ .cell v
  keep:∀ i h h',tn i h→(∀ b ∈ fp,∀ o,h.get? b=some o→h'.get? b=some o)→tn i h'
  item:∀ (X:Cx),X.prog=P→X.w=w→X.K=K→X.calm=true→∀ (i:Nat) (pins:List (Addr × Obj)) (s:Shared) (σ:St) (H:Hp) (E:Value→Shared→Prop),Inv X pins σ H s→(∀ b ∈ fp,FpOk X pins H b)→tn i s.heap→J.go i H →
    wpAny (model P w) X.A (pyNext (.ref it)) (fun r s1=>∃ u,r=some u ∧
      wpAny (model P w) X.A (letOwnedTupleGo tg (.ref it) u) (fun _ s2=>∃ x H',Inv X pins σ H' s2∧RelV x u∧J.yld i H x H'∧tn (i + 1) s2.heap∧∀ b ∈ fp,H' b=none) E s1) E s
  done:∀ (X:Cx),X.prog=P→X.w=w→X.K=K→X.calm=true→∀ (i:Nat) (pins:List (Addr × Obj)) (s:Shared) (σ:St) (H:Hp) (E:Value→Shared→Prop),Inv X pins σ H s→(∀ b ∈ fp,FpOk X pins H b)→tn i s.heap→J.stop i H →
    wpAny (model P w) X.A (pyNext (.ref it)) (fun r s1=>r=none∧Inv X pins σ H s1) E s
  self:∀ (A:Around) (i:Nat) (s:Shared) (Q:Value→Shared→Prop) (E:Value→Shared→Prop),tn i s.heap→Q (.ref it) s→wpAny (model P w) A (pyIter (.ref it)) Q E s
abbrev TI:=St→Hp→(It→Hp→Prop)→Prop
def PIE (X:Cx) (pins:List (Addr × Obj)) (σ:St) (tg:Expr) (R:It→Hp→Prop) (itv:Value) (s2:Shared):Prop :=
  ∃ (it:Addr) (fp:List Addr) (tn:Nat→Heap→Prop) (J:It) (H':Hp),itv = .ref it∧Inv X pins σ H' s2∧Turn X.prog X.w X.K tg J fp it tn∧tn 0 s2.heap∧(∀ b ∈ fp,FpOk X pins H' b)∧R J H'
def PI (X:Cx) (tg iter:Expr) (wi:TI):Prop :=
  ∀ (pins:List (Addr × Obj)) (s:Shared) (σ:St) (H:Hp) (R:It→Hp→Prop),Inv X pins σ H s→wi σ H R →
    wpAny (model X.prog X.w) X.A (eval iter X.env) (fun v s1=>wpAny (model X.prog X.w) X.A (pyIter v) (PIE X pins σ tg R) X.xe s1) X.xe s
theorem zp9 {M:Model} {A:Around} {E:Value→Shared→Prop} {s:Shared} {tg:Expr} {it:Addr} {u:Value} {o:Obj} {n:String} {vs:Array Value} {Q:Unit→Shared→Prop} (ho:s.heap.get? it=some o) (hc:o.cls = .type n) (hd:o.data = .fields vs)
    (hn : ["enumerate","zip","dict_itemiterator","dict_reverseitemiterator","odict_iterator","itertools.zip_longest","itertools.pairwise"].contains n=false) (hQ:Q () s):wpAny M A (letOwnedTupleGo tg (.ref it) u) Q E s:=by
  unfold letOwnedTupleGo
  cases tg <;> first
    | exact wpAny_pure hQ
    | (cases u <;> first
        | exact wpAny_pure hQ
        | (refine wpAny_bind (wpAny_load ho ?_)
           rw [hc,hd]
           show wpAny M A (if (["enumerate","zip","dict_itemiterator","dict_reverseitemiterator","odict_iterator","itertools.zip_longest","itertools.pairwise"].contains n && vs[0]? == some (rawInt _))=true then _ else _) Q E s
           rw [if_neg (by intro h; rw [hn,Bool.false_and] at h; cases h)]
           exact wpAny_pure hQ))
def Itl (K:PySem.W.Frag) (a:Addr):It :=
  ⟨fun i H=>∃ xs x,SqL K H a xs∧xs[i]?=some x,fun i H x H'=>H'=H∧∀ xs,SqL K H a xs→xs[i]?=some x,fun i H=>∃ xs,SqL K H a xs∧xs.length ≤ i⟩
def Itr (lo:Int) (n:Nat):It:=⟨fun i _=>i < n,fun i H x H'=>H'=H∧x = .int (lo + i),fun i _=>n ≤ i⟩
theorem zna {P:Program} {w:World} {K:PySem.W.Frag} {tg:Expr} (a it:Addr):Turn P w K tg (Itl K a) [it] it (fun i h=>h.IsListIter it a i) where
  mem:=by simp
  obj:=fun i h st b hb=>by
    have e:b=it:=by simpa using hb
    subst e
    obtain ⟨o,e,c,d⟩:=st
    exact ⟨o,e,fun v z=>by rw [d] at z; cases z⟩
  keep:=fun i h h' st k=>st.at fun o e=>k it (by simp) o e
  item:=by
    intro X hP hw hK hc i pins s σ H E I hf st hg
    subst hP hw hK
    obtain ⟨xs,x,hq,hx⟩:=hg
    obtain ⟨its,rv,p,hz⟩:=I.list hq
    obtain ⟨u,hu,ru⟩:=rv.get hx
    obtain ⟨f0,f1,f2,f3,f4,f5⟩:=hf it (by simp)
    refine wpAny_pyNext_list_item st p.isList (x:=u) (by simpa using hu) fun h' st' sb=>?_
    have I1:Inv X pins σ H { s with heap:=h' }:=I.turned (t':=s.toks) (fun b o hb e=>(sb.2 b hb).trans e) f0 f1 f3 f4 f5
    obtain ⟨o,e,c,d⟩:=id st'
    exact ⟨u,rfl,zp9 (s:={ s with heap:=h' }) e c d (by decide) ⟨x,H,I1,ru,⟨rfl,fun ys hy=>by rw [I.list_inj hy hq]; exact hx⟩,st',fun b hb=>(hf b hb).1⟩⟩
  done:=by
    intro X hP hw hK hc i pins s σ H E I hf st hg
    subst hP hw hK
    obtain ⟨xs,hq,hx⟩:=hg
    obtain ⟨its,rv,p,hz⟩:=I.list hq
    obtain ⟨f0,f1,f2,f3,f4,f5⟩:=hf it (by simp)
    have hl:=rv.length
    exact wpAny_pyNext_list_end (I.ok.hd hc) st p.isList (by simp; omega) fun h' eb=>⟨rfl,I.turned (t':=s.toks) (fun b o hb e=>eb b o hb e) f0 f1 f3 f4 f5⟩
  self:=fun _ _ _ _ _ st h=>wpAny_pyIter_listiter st h
theorem zkE {P:Program} {w:World} {K:PySem.W.Frag} {tg:Expr} (it:Addr) (lo:Int) (n:Nat):Turn P w K tg (Itr lo n) [it] it (fun i h=>IsRangeIter h it (lo + (i:Nat) * 1) ((n:Int) - (i:Nat)) 1) where
  mem:=by simp
  obj:=fun i h st b hb=>by
    have e:b=it:=by simpa using hb
    subst e
    exact ⟨_,st,fun v z=>by
      have z':Data.fields _=Data.cell v:=z
      cases z'⟩
  keep:=fun i h h' st k=>k it (by simp) _ st
  item:=by
    intro X hP hw hK hc i pins s σ H E I hf st hg
    subst hP hw hK
    obtain ⟨f0,f1,f2,f3,f4,f5⟩:=hf it (by simp)
    have W:=Walks.range (prog:=X.prog) (w:=X.w) (I.ok.hd hc) it lo 1 n
    refine W.item i s _ _ hg st fun v h' tk hv st' kk=>?_
    obtain ⟨t,rfl⟩:=hv
    have I1:Inv X pins σ H { s with heap:=h',toks:=tk }:=I.turned (fun b o hb e=>kk b o (by simpa using hb) e) f0 f1 f3 f4 f5
    refine ⟨_,rfl,zp9 (s:={ s with heap:=h',toks:=tk }) (n:="range_iterator") st' rfl rfl (by decide) ⟨.int (lo + i),H,I1,⟨t,?_⟩,⟨rfl,rfl⟩,st',fun b hb=>(hf b hb).1⟩⟩
    rw [Int.mul_one]
  done:=by
    intro X hP hw hK hc i pins s σ H E I hf st hg
    subst hP hw hK
    obtain ⟨f0,f1,f2,f3,f4,f5⟩:=hf it (by simp)
    exact wpAny_pyNext_range_end (I.ok.hd hc) st (by have:n ≤ i:=hg; omega) fun h' eb=>⟨rfl,I.turned (t':=s.toks) (fun b o hb e=>eb b o hb e) f0 f1 f3 f4 f5⟩
  self:=fun _ _ _ _ _ st h=>wpAny_pyIter_rangeiter st h
end L2
namespace L2
open PySem PySem.Spec PyProof.Rows
section
variable {X:Cx} {tg:Expr}
def zo5 (K:PySem.W.Frag) (tl:TE):TI:=fun σ H R=>tl σ H fun x H1=>∃ a,x = .ref a∧(∃ xs,SqL K H1 a xs)∧R (Itl K a) H1
theorem zc3 {l:Expr} {tl:TE} (hl:PE X l tl):PI X tg l (zo5 X.K tl):=by
  intro pins s σ H R I h
  refine thn (hl pins s σ H _ I h) fun v s1 ⟨x,H1,I1,r1,q1⟩=>?_
  obtain ⟨a,e,⟨xs,hq⟩,q⟩:=q1
  subst e
  cases r1
  obtain ⟨its,rv,p,hz⟩:=I1.list hq
  refine wpAny_pyIter_list p.isList ?_
  refine ⟨s1.heap.objs.size,[s1.heap.objs.size],_,_,H1,rfl,I1.kept (t':=s1.toks) fun b o e=>Heap.get?_push_of_some _ e,zna a _,⟨_,Heap.get?_push_size _ rfl,rfl,rfl⟩,fun b hb=>?_,q⟩
  have e:b=s1.heap.objs.size:=by simpa using hb
  subst e
  exact I1.fpOk (Nat.le_refl _) (I1.hok.fresh (Nat.le_refl _))
theorem zkd {pins:List (Addr × Obj)} {σ:St} {H:Hp} {s:Shared} {R:It→Hp→Prop} {E:Value→Shared→Prop} {lo hi:Int} {t u v:Tok} {tk:Nat} (I:Inv X pins σ H s) (h1 : -(2 ^ 62) ≤ lo) (h2:lo < 2 ^ 62) (h3 : -(2 ^ 62) ≤ hi) (h4:hi < 2 ^ 62)
    (q:R (Itr lo (hi - lo).toNat) H):wpAny (model X.prog X.w) X.A (pyIter (.ref s.heap.objs.size)) (PIE X pins σ tg R) E { s with heap:=s.heap.push { cls:=.type "range",data:=.fields #[.int lo t,.int hi u,.int 1 v] },toks:=tk }:=by
  refine wpAny_pyIter_range (IsRange.new ..) (small_one h1 h2 h3 h4) ?_
  have I1:Inv X pins σ H { s with heap:=s.heap.push { cls:=.type "range",data:=.fields #[.int lo t,.int hi u,.int 1 v] },toks:=tk }:=I.kept fun b o e=>Heap.get?_push_of_some _ e
  refine ⟨(s.heap.push { cls:=.type "range",data:=.fields #[.int lo t,.int hi u,.int 1 v] }).objs.size,[(s.heap.push { cls:=.type "range",data:=.fields #[.int lo t,.int hi u,.int 1 v] }).objs.size],_,_,H,rfl,
    I1.kept (t':=tk) fun b o e=>Heap.get?_push_of_some _ e,zkE _ lo (hi - lo).toNat,?_,fun b hb=>?_,q⟩
  · have e1:lo + ((0:Nat):Int) * 1=lo:=by simp
    have e2:(((hi - lo).toNat:Nat):Int) - ((0:Nat):Int)=Builtin.Range.rangeSize lo hi 1:=by rw [rangeSize_one]; split <;> omega
    show IsRangeIter _ _ (lo + ((0:Nat):Int) * 1) ((((hi - lo).toNat:Nat):Int) - ((0:Nat):Int)) 1
    rw [e1,e2]
    exact Heap.get?_push_size _ rfl
  · have e:b=(s.heap.push { cls:=.type "range",data:=.fields #[.int lo t,.int hi u,.int 1 v] }).objs.size:=by simpa using hb
    subst e
    exact I1.fpOk (Nat.le_refl _) (I1.hok.fresh (Nat.le_refl _))
def zqh (ta:TA):TI:=fun σ H R=>ta σ H fun vs H1=>∃ j:Int,vs = [.int j]∧-(2 ^ 62) ≤ j∧j < 2 ^ 62∧R (Itr 0 j.toNat) H1
def zqI (ta:TA):TI:=fun σ H R=>ta σ H fun vs H1=>∃ i j:Int,vs = [.int i,.int j]∧(-(2 ^ 62) ≤ i∧i < 2 ^ 62∧-(2 ^ 62) ≤ j∧j < 2 ^ 62)∧R (Itr i (j - i).toNat) H1
theorem ziB {a:Expr} {ta:TA} {p pos:Pos} (hg:Gl X "range") (hm:X.mg "range"=none) (ha:PA X [a] ta) (hs:starEach [a] X.env = [(false,eval a X.env)]:=by rfl):PI X tg (.Call (.Name "range" p) [a] [] pos) (zqh ta):=by
  intro pins s σ H R I h
  refine Call_ (zej I hg hm boot_range (PyProof.Rows.callWith_type1 (thn (ha pos pins s σ H _ I h) fun us s1 ⟨vs,H1,I1,r1,q1⟩=>?_) hs rfl))
  obtain ⟨j,e,q1,q2,q⟩:=q1
  subst e
  cases r1 with
  | cons r rr =>
    cases rr
    obtain ⟨t,rfl⟩:=r
    exact call_range_1 (zkd I1 (by omega) (by omega) q1 q2 (by simpa using q))
theorem zl6 {a b:Expr} {ta:TA} {p pos:Pos} (hg:Gl X "range") (hm:X.mg "range"=none) (ha:PA X [a,b] ta) (hs:starEach [a,b] X.env = [(false,eval a X.env),(false,eval b X.env)]:=by rfl) (hs2:starEach [b] X.env = [(false,eval b X.env)]:=by rfl) :
    PI X tg (.Call (.Name "range" p) [a,b] [] pos) (zqI ta):=by
  intro pins s σ H R I h
  refine Call_ (zej I hg hm boot_range (PyProof.Rows.callWith_type1 (thn (ha pos pins s σ H _ I h) fun us s1 ⟨vs,H1,I1,r1,q1⟩=>?_) (by rw [hs,hs2]) (by rw [hs2]; rfl)))
  obtain ⟨i,j,e,⟨q1,q2,q3,q4⟩,q⟩:=q1
  subst e
  cases r1 with
  | cons r rr =>
    cases rr with
    | cons r' rr =>
      cases rr
      obtain ⟨t,rfl⟩:=r
      obtain ⟨t',rfl⟩:=r'
      exact call_range_2 (zkd I1 q1 q2 q3 q4 q)
def tFor (wi:TI) (g:TG) (tb:TS):TS:=fun D σ H=>wi σ H fun J H1=>∃ W:Nat→Nat→St→Hp→Prop,(∃ m,W 0 m σ H1)∧∀ i m σ H,W i m σ H →
  (J.stop i H∧D.nx σ H)∨(J.go i H∧∃ N:St→Hp→Prop,(∀ σ' H',N σ' H'→∃ m',m' < m∧W (i + 1) m' σ' H')∧∀ x H',J.yld i H x H'→g x σ H' fun σ2 H2=>tb { D with nx:=N,ct:=N,bk:=D.nx } σ2 H2)
def zhe (fp:List Addr) (h:Heap):List (Addr × Obj):=fp.filterMap fun b=>(h.get? b).map fun o=>(b,o)
theorem zdt {fp:List Addr} {h:Heap} {b:Addr} {o:Obj} (hb:b ∈ fp) (e:h.get? b=some o):(b,o) ∈ zhe fp h:=List.mem_filterMap.mpr ⟨b,hb,by rw [e]; rfl⟩
theorem zlE {fp:List Addr} {h:Heap} {p:Addr × Obj} (hp:p ∈ zhe fp h):p.1 ∈ fp∧h.get? p.1=some p.2:=by
  obtain ⟨b,hb,e⟩:=List.mem_filterMap.mp hp
  cases q:h.get? b with
  | none=>rw [q] at e; cases e
  | some o =>
    rw [q] at e
    have e':(b,o)=p:=Option.some.inj e
    subst e'
    exact ⟨hb,q⟩
theorem Inv.pinned {pins:List (Addr × Obj)} {σ:St} {H:Hp} {s:Shared} {fp:List Addr} (I:Inv X pins σ H s) (hf:∀ b ∈ fp,FpOk X pins H b) (ho:∀ b ∈ fp,∃ o,s.heap.get? b=some o∧∀ v,o.data ≠ .cell v):Inv X (pins ++ zhe fp s.heap) σ H s :=
  I.pins_of fun p hp=>(List.mem_append.mp hp).elim (fun z=>I.pin p (List.mem_append_right _ z)) fun z=>by
    obtain ⟨hb,e⟩:=zlE z
    obtain ⟨f0,f1,f2,_⟩:=hf p.1 hb
    obtain ⟨o,e',d⟩:=ho p.1 hb
    rw [e] at e'; cases e'
    exact ⟨e,f0,f1,f2,d⟩
theorem Inv.unpinned {pins pl:List (Addr × Obj)} {σ:St} {H:Hp} {s:Shared} (I:Inv X (pins ++ pl) σ H s):Inv X pins σ H s:=I.pins_of fun p hp=>I.pin p (List.mem_append_right _ (List.mem_append_left _ hp))
theorem zfI {iter:Expr} {body:List Stmt} {wi:TI} {g:TG} {tb:TS} {pos:Pos} (hp:PassesOwn (model X.prog X.w) X.A X.env X.xe) (hc:X.calm=true) (hi:PI X tg iter wi) (hg:PG X tg g) (hb:PSs X body tb)
    (hs:∀ x,foldedSetIterable iter X.env x=pure x:=by intro _; rfl):PS X (.For tg iter body [] pos) (tFor wi g tb):=by
  intro pins s σ H D I h
  refine wpAny_For (thn (hi pins s σ H _ I h) fun v s1 h1=>thn h1 fun itv s2 h2=>?_) hs
  obtain ⟨it,fp,tn,J,H2,e,I2,T,st2,f2,W,⟨m0,w0⟩,turn⟩:=h2
  subst e
  -- what stays true of the iterator's objects through the loop
  have stat:∀ {H':Hp},(∀ b ∈ fp,H' b=none)→∀ b ∈ fp,FpOk X pins H' b:=fun hn b hb=>⟨hn b hb,(f2 b hb).2⟩
  refine codeAny_forLoop_any (fun n s'=>∃ i σ' H',Inv X pins σ' H' s'∧tn i s'.heap∧(∀ b ∈ fp,H' b=none)∧W i n σ' H') ?_ m0 ⟨0,σ,H2,I2,st2,fun b hb=>(f2 b hb).1,w0⟩
  rintro n s3 ⟨i,σ3,H3,I3,st3,fr3,w3⟩
  rcases turn i n σ3 H3 w3 with ⟨stop,qn⟩ | ⟨go,N,hN,step⟩
  · refine wpAny_passesOwn hp (thn (T.done X rfl rfl rfl hc i pins s3 σ3 H3 X.xe I3 (stat fr3) st3 stop) fun r s4 ⟨hr,I4⟩=>?_)
    subst hr
    exact wpAny_execs_nil ⟨σ3,H3,I4,qn⟩
  · refine wpAny_passesOwn hp (thn (T.item X rfl rfl rfl hc i pins s3 σ3 H3 X.xe I3 (stat fr3) st3 go) fun r s4 ⟨u,hr,h4⟩=>?_)
    subst hr
    refine wpAny_passesOwn hp (thn h4 fun _ s5 ⟨x,H5,I5,r5,y5,st5,fr5⟩=>?_)
    have I5':=I5.pinned (stat fr5) (T.obj _ _ st5)
    refine wpAny_passesOwn hp (thn (hg _ s5 σ3 H5 x u _ I5' r5 (step x H5 y5)) fun _ s6 ⟨σ6,H6,I6,q6⟩=>?_)
    refine wpAny_passesOwn hp (thn (hb _ s6 σ6 H6 _ I6 q6) fun f s7 q7=>?_)
    have again:∀ {σ7:St} {H7:Hp},Inv X (pins ++ zhe fp s5.heap) σ7 H7 s7→N σ7 H7→∃ m,m < n∧∃ i σ' H',Inv X pins σ' H' s7∧tn i s7.heap∧(∀ b ∈ fp,H' b=none)∧W i m σ' H':=fun {σ7 H7} I7 n7=>by
      obtain ⟨m',hm,w7⟩:=hN σ7 H7 n7
      refine ⟨m',hm,i + 1,σ7,H7,I7.unpinned,T.keep _ _ _ st5 fun b hb o e=>(I7.pin (b,o) (List.mem_append_right _ (List.mem_append_right _ (zdt hb e)))).1,fun b hb=>?_,w7⟩
      obtain ⟨o,e,d⟩:=T.obj _ _ st5 b hb
      exact (I7.pin (b,o) (List.mem_append_right _ (List.mem_append_right _ (zdt hb e)))).2.1
    cases f with
    | next=>obtain ⟨σ7,H7,I7,n7⟩:=q7; exact again I7 n7
    | cont=>obtain ⟨σ7,H7,I7,n7⟩:=q7; exact again I7 n7
    | brk=>obtain ⟨σ7,H7,I7,q7⟩:=q7; exact ⟨σ7,H7,I7.unpinned,q7⟩
    | ret v=>obtain ⟨x7,σ7,H7,I7,r7,q7⟩:=q7; exact ⟨x7,σ7,H7,I7.unpinned,r7,q7⟩
end
end L2
namespace L2
open PySem PySem.Spec PyProof.Rows
abbrev R2:=V→V→Hp→VK→Prop
def OpR (X:Cx) (f:Value→Value→Sem Value) (r:R2):Prop :=
  ∀ (pins:List (Addr × Obj)) (s:Shared) (σ:St) (H:Hp) (x y:V) (v u:Value) (Q:VK),Inv X pins σ H s→RelV x v→RelV y u→r x y H Q →
    wpAny (model X.prog X.w) X.A (f v u) (EP X pins σ Q) X.xe s
def UnR (X:Cx) (f:Value→Sem Value) (r:V→Hp→VK→Prop):Prop :=
  ∀ (pins:List (Addr × Obj)) (s:Shared) (σ:St) (H:Hp) (x:V) (v:Value) (Q:VK),Inv X pins σ H s→RelV x v→r x H Q →
    wpAny (model X.prog X.w) X.A (f v) (EP X pins σ Q) X.xe s
def zdr (X:Cx) (f:Value) (r:List V→Hp→VK→Prop):Prop :=
  ∀ (pins:List (Addr × Obj)) (s:Shared) (σ:St) (H:Hp) (xs:List V) (us:List Value) (Q:VK),Inv X pins σ H s→Vals xs us→r xs H Q →
    wpAny (model X.prog X.w) X.A (call f us) (EP X pins σ Q) X.xe s
def tOp (r:R2) (ta tb:TE):TE:=fun σ H Q=>ta σ H fun x H1=>tb σ H1 fun y H2=>r x y H2 Q
def tUn (r:V→Hp→VK→Prop) (ta:TE):TE:=fun σ H Q=>ta σ H fun x H1=>r x H1 Q
def rI (C:Int→Int→Prop) (g:Int→Int→V):R2:=fun x y H Q=>∃ i j,x = .int i∧y = .int j∧C i j∧Q (g i j) H
def rI0 (g:Int→Int→V):R2:=fun x y H Q=>∃ i j,x = .int i∧y = .int j∧Q (g i j) H
def rU (g:Int→V):V→Hp→VK→Prop:=fun x H Q=>∃ i,x = .int i∧Q (g i) H
section
variable {X:Cx} {a b c:Expr} {ta tb tc:TE} {pos:Pos}
theorem binT (ha:PE X a ta) (hb:PE X b tb) {pins:List (Addr × Obj)} {s:Shared} {σ:St} {H:Hp} {R:V→V→Hp→Prop} (I:Inv X pins σ H s)
    (h:ta σ H fun x H1=>tb σ H1 fun y H2=>R x y H2) {Q:Value→Shared→Prop} {f:Value→Value→Sem Value}
    (hf:∀ v u s2 x y H2,Inv X pins σ H2 s2→RelV x v→RelV y u→R x y H2→wpAny (model X.prog X.w) X.A (f v u) Q X.xe s2) :
    wpAny (model X.prog X.w) X.A (eval a X.env) (fun v s₁=>wpAny (model X.prog X.w) X.A (eval b X.env) (fun u s₂=>wpAny (model X.prog X.w) X.A (f v u) Q X.xe s₂) X.xe s₁) X.xe s:=by
  refine thn (ha pins s σ H _ I h) fun v s1 ⟨x,H1,I1,r1,q1⟩=>?_
  refine thn (hb pins s1 σ H1 _ I1 q1) fun u s2 ⟨y,H2,I2,r2,q2⟩=>?_
  exact hf v u s2 x y H2 I2 r1 r2 q2
theorem zaz {op:Operator} {r:R2} (ho:OpR X (binaryOp op) r) (ha:PE X a ta) (hb:PE X b tb):PE X (.BinOp a op b pos) (tOp r ta tb):=by
  intro pins s σ H Q I h
  exact wpAny_BinOp (binT ha hb I h fun v u s2 x y H2 I2 rx ry q=>ho pins s2 σ H2 x y v u Q I2 rx ry q)
theorem zjJ {op:UnaryOp} {r:V→Hp→VK→Prop} (ho:UnR X (unaryOp op) r) (ha:PE X a ta):PE X (.UnaryOp op a pos) (tUn r ta):=by
  intro pins s σ H Q I h
  exact UnaryOp_ (thn (ha pins s σ H _ I h) fun v s1 ⟨x,H1,I1,r1,q1⟩=>ho pins s1 σ H1 x v Q I1 r1 q1)
theorem opI {f:Value→Value→Sem Value} {C:Int→Int→Prop} {g:Int→Int→Int}
    (rule:∀ (i j:Int) (t u:Tok) (s:Shared) (Q:Value→Shared→Prop) (E:Value→Shared→Prop),C i j→Q (.int (g i j) s.toks) { s with toks:=s.toks + 1 }→wpAny (model X.prog X.w) X.A (f (.int i t) (.int j u)) Q E s) :
    OpR X f (rI C fun i j=>.int (g i j)):=by
  intro pins s σ H x y v u Q I rx ry h
  obtain ⟨i,j,rfl,rfl,hc,q⟩:=h
  obtain ⟨t,rfl⟩:=rx
  obtain ⟨t',rfl⟩:=ry
  exact rule i j t t' s _ _ hc ⟨.int (g i j),H,I.tok _,⟨_,rfl⟩,q⟩
theorem opI0 {f:Value→Value→Sem Value} {g:Int→Int→Int}
    (rule:∀ (i j:Int) (t u:Tok) (s:Shared) (Q:Value→Shared→Prop) (E:Value→Shared→Prop),Q (.int (g i j) s.toks) { s with toks:=s.toks + 1 }→wpAny (model X.prog X.w) X.A (f (.int i t) (.int j u)) Q E s) :
    OpR X f (rI0 fun i j=>.int (g i j)):=by
  intro pins s σ H x y v u Q I rx ry h
  obtain ⟨i,j,rfl,rfl,q⟩:=h
  obtain ⟨t,rfl⟩:=rx
  obtain ⟨t',rfl⟩:=ry
  exact rule i j t t' s _ _ ⟨.int (g i j),H,I.tok _,⟨_,rfl⟩,q⟩
theorem opB0 {f:Value→Value→Sem Value} {g:Int→Int→Bool}
    (rule:∀ (i j:Int) (t u:Tok) (s:Shared) (Q:Value→Shared→Prop) (E:Value→Shared→Prop),Q (.bool (g i j)) s→wpAny (model X.prog X.w) X.A (f (.int i t) (.int j u)) Q E s) :
    OpR X f (rI0 fun i j=>.bl (g i j)):=by
  intro pins s σ H x y v u Q I rx ry h
  obtain ⟨i,j,rfl,rfl,q⟩:=h
  obtain ⟨t,rfl⟩:=rx
  obtain ⟨t',rfl⟩:=ry
  exact rule i j t t' s _ _ ⟨.bl (g i j),H,I,rfl,q⟩
def CPow (i j:Int):Prop:=0 ≤ j∧j ≤ 1000000∧i.natAbs < 2 ^ 64
theorem zbz:OpR X (binaryOp .Add) (rI0 fun i j=>.int (i + j)):=opI0 fun _ _ _ _ _ _ _ q=>add_int q
theorem zeu:OpR X (binaryOp .Sub) (rI0 fun i j=>.int (i - j)):=opI0 fun _ _ _ _ _ _ _ q=>sub_int q
theorem zbm:OpR X (binaryOp .Mod) (rI (fun _ j=>0 < j) fun i j=>.int (i % j)):=opI fun i j _ _ _ _ _ hc q=>by
  have h1:(0:Int) < j:=hc
  exact mod_int' (by omega) (by rw [Int.fmod_eq_emod_of_nonneg i (by omega)]; exact q)
theorem zgI:OpR X (binaryOp .Pow) (rI CPow fun i j=>.int (i ^ j.toNat)):=opI fun _ _ _ _ _ _ _ hc q=>pow_int_small hc.1 hc.2.1 hc.2.2 q
theorem unI {f:Value→Sem Value} {g:Int→Int}
    (rule:∀ (i:Int) (t:Tok) (s:Shared) (Q:Value→Shared→Prop) (E:Value→Shared→Prop),Q (.int (g i) s.toks) { s with toks:=s.toks + 1 }→wpAny (model X.prog X.w) X.A (f (.int i t)) Q E s) :
    UnR X f (rU fun i=>.int (g i)):=by
  intro pins s σ H x v Q I rx h
  obtain ⟨i,rfl,q⟩:=h
  obtain ⟨t,rfl⟩:=rx
  exact rule i t s _ _ ⟨.int (g i),H,I.tok _,⟨_,rfl⟩,q⟩
theorem zgr:UnR X (unaryOp .USub) (rU fun i=>.int (-i)):=unI fun _ _ _ _ _ q=>neg_int q
end
def scal:V→V→Bool
  | .non,.non=>true | .non,.int _=>true | .int _,.non=>true | .non,.bl _=>true | .bl _,.non=>true | .non,.str _=>true | .str _,.non=>true
  | .int _,.int _=>true | .bl _,.bl _=>true | .str _,.str _=>true | .byt _,.byt _=>true
  | .int _,.str _=>true | .str _,.int _=>true | .bl _,.str _=>true | .str _,.bl _=>true
  | _,_=>false
def rEq:R2:=fun x y H Q=>scal x y=true∧Q (.bl (decide (x=y))) H
def rNe:R2:=fun x y H Q=>scal x y=true∧Q (.bl (!decide (x=y))) H
theorem zmu {i j:Int}:decide (V.int i=V.int j)=(i == j):=by
  rw [Bool.eq_iff_iff]
  simp
theorem zoF {i j:Bool}:decide (V.bl i=V.bl j)=(i == j):=by
  rw [Bool.eq_iff_iff]
  simp
theorem zls {i j:Str}:decide (V.str i=V.str j)=(i == j):=by
  rw [Bool.eq_iff_iff]
  simp
theorem zlW {i j:Array UInt8}:decide (V.byt i=V.byt j)=(i.toList == j.toList):=by
  rw [Bool.eq_iff_iff]
  cases i
  cases j
  simp
section
variable {X:Cx} {a b c:Expr} {ta tb tc:TE} {pos:Pos}
theorem zbh {pins:List (Addr × Obj)} {σ:St} {H:Hp} {s:Shared} {Q:VK} {k k':Bool} (I:Inv X pins σ H s) (q:Q (.bl k) H) (e:k=k'):EP X pins σ Q (.bool k') s:=by
  subst e
  exact ⟨.bl k,H,I,rfl,q⟩
theorem zeU:OpR X (compareOp .Eq) rEq:=by
  intro pins s σ H x y v u Q I rx ry h
  obtain ⟨hs,q⟩:=h
  cases x with
  | non =>
    cases rx
    cases y with
    | non=>cases ry; exact PySem.EqNone.eq_none_none (zbh I q (by simp))
    | bl j=>cases ry; exact PySem.EqNone.eq_none_bool (zbh I q (by simp))
    | int j=>obtain ⟨t',rfl⟩:=ry; exact PySem.EqNone.eq_none_int (zbh I q (by simp))
    | str j=>obtain ⟨t',rfl⟩:=ry; exact PySem.EqNone.eq_none_str (zbh I q (by simp))
    | _=>exact absurd (show false=true from hs) Bool.false_ne_true
  | bl i =>
    cases rx
    cases y with
    | non=>cases ry; exact PySem.EqNone.eq_bool_none (zbh I q (by simp))
    | bl j=>cases ry; exact eq_bool (zbh I q zoF)
    | str j=>obtain ⟨t',rfl⟩:=ry; exact PySem.EqMixed.eq_bool_str (zbh I q (by simp))
    | _=>exact absurd (show false=true from hs) Bool.false_ne_true
  | int i =>
    obtain ⟨t,rfl⟩:=rx
    cases y with
    | non=>cases ry; exact PySem.EqNone.eq_int_none (zbh I q (by simp))
    | int j=>obtain ⟨t',rfl⟩:=ry; exact eq_int (zbh I q zmu)
    | str j=>obtain ⟨t',rfl⟩:=ry; exact PySem.EqMixed.eq_int_str (zbh I q (by simp))
    | _=>exact absurd (show false=true from hs) Bool.false_ne_true
  | str i =>
    obtain ⟨t,rfl⟩:=rx
    cases y with
    | non=>cases ry; exact PySem.EqNone.eq_str_none (zbh I q (by simp))
    | bl j=>cases ry; exact PySem.EqMixed.eq_str_bool (zbh I q (by simp))
    | int j=>obtain ⟨t',rfl⟩:=ry; exact PySem.EqMixed.eq_str_int (zbh I q (by simp))
    | str j=>obtain ⟨t',rfl⟩:=ry; exact eq_str (zbh I q zls)
    | _=>exact absurd (show false=true from hs) Bool.false_ne_true
  | byt i =>
    obtain ⟨t,rfl⟩:=rx
    cases y with
    | byt j=>obtain ⟨t',rfl⟩:=ry; exact PySem.W.eq_bytes (zbh I q zlW)
    | _=>exact absurd (show false=true from hs) Bool.false_ne_true
  | _=>cases y <;> exact absurd (show false=true from hs) Bool.false_ne_true
theorem znF:OpR X (compareOp .NotEq) rNe:=by
  intro pins s σ H x y v u Q I rx ry h
  obtain ⟨hs,q⟩:=h
  cases x with
  | non =>
    cases rx
    cases y with
    | non=>cases ry; exact PySem.EqNone.ne_none_none (zbh I q (by simp))
    | bl j=>cases ry; exact PySem.EqNone.ne_none_bool (zbh I q (by simp))
    | int j=>obtain ⟨t',rfl⟩:=ry; exact PySem.EqNone.ne_none_int (zbh I q (by simp))
    | str j=>obtain ⟨t',rfl⟩:=ry; exact PySem.EqNone.ne_none_str (zbh I q (by simp))
    | _=>exact absurd (show false=true from hs) Bool.false_ne_true
  | bl i =>
    cases rx
    cases y with
    | non=>cases ry; exact PySem.EqNone.ne_bool_none (zbh I q (by simp))
    | bl j=>cases ry; exact ne_bool (zbh I q (congrArg not zoF))
    | str j=>obtain ⟨t',rfl⟩:=ry; exact PySem.EqMixed.ne_bool_str (zbh I q (by simp))
    | _=>exact absurd (show false=true from hs) Bool.false_ne_true
  | int i =>
    obtain ⟨t,rfl⟩:=rx
    cases y with
    | non=>cases ry; exact PySem.EqNone.ne_int_none (zbh I q (by simp))
    | int j=>obtain ⟨t',rfl⟩:=ry; exact ne_int (zbh I q (congrArg not zmu))
    | str j=>obtain ⟨t',rfl⟩:=ry; exact PySem.EqMixed.ne_int_str (zbh I q (by simp))
    | _=>exact absurd (show false=true from hs) Bool.false_ne_true
  | str i =>
    obtain ⟨t,rfl⟩:=rx
    cases y with
    | non=>cases ry; exact PySem.EqNone.ne_str_none (zbh I q (by simp))
    | bl j=>cases ry; exact PySem.EqMixed.ne_str_bool (zbh I q (by simp))
    | int j=>obtain ⟨t',rfl⟩:=ry; exact PySem.EqMixed.ne_str_int (zbh I q (by simp))
    | str j=>obtain ⟨t',rfl⟩:=ry; exact ne_str (zbh I q (congrArg not zls))
    | _=>exact absurd (show false=true from hs) Bool.false_ne_true
  | byt i =>
    obtain ⟨t,rfl⟩:=rx
    cases y with
    | byt j=>obtain ⟨t',rfl⟩:=ry; exact PySem.W.ne_bytes (zbh I q (congrArg not zlW))
    | _=>exact absurd (show false=true from hs) Bool.false_ne_true
  | _=>cases y <;> exact absurd (show false=true from hs) Bool.false_ne_true
theorem zmi:OpR X (compareOp .Lt) (rI0 fun i j=>.bl (decide (i < j))):=opB0 fun _ _ _ _ _ _ _ q=>lt_int q
theorem zqv:OpR X (compareOp .LtE) (rI0 fun i j=>.bl (decide (i ≤ j))):=opB0 fun _ _ _ _ _ _ _ q=>le_int q
theorem zds:OpR X (compareOp .Gt) (rI0 fun i j=>.bl (decide (j < i))):=opB0 fun _ _ _ _ _ _ _ q=>gt_int q
theorem zrc:OpR X (compareOp .GtE) (rI0 fun i j=>.bl (decide (j ≤ i))):=opB0 fun _ _ _ _ _ _ _ q=>ge_int q
theorem zmw:OpR X (compareOp .Is) (fun x y H Q=>y = .non∧Q (.bl (decide (x = .non))) H):=by
  intro pins s σ H x y v u Q I rx ry h
  obtain ⟨rfl,q⟩:=h
  cases ry
  refine is_none_gen (zbh I q ?_)
  cases x <;> first
    | (cases rx; rfl)
    | (obtain ⟨t,rfl⟩:=rx; rfl)
theorem zaP (b:Expr) {op:CmpOp} (h:op ≠ .In:=by decide) (h2:op ≠ .NotIn:=by decide):behindInMarks op b=false:=by
  have e1:(op == CmpOp.In)=false:=by cases op <;> first | rfl | exact absurd rfl h
  have e2:(op == CmpOp.NotIn)=false:=by cases op <;> first | rfl | exact absurd rfl h2
  cases b <;> simp [behindInMarks,e1,e2]
theorem zfy {op:CmpOp} {r:R2} (ho:OpR X (compareOp op) r) (ha:PE X a ta) (hb:PE X b tb) (hm:behindInMarks op b=false):PE X (.Compare a [op] [b] pos) (tOp r ta tb):=by
  intro pins s σ H Q I h
  exact wpAny_Compare1 (binT ha hb I h fun v u s2 x y H2 I2 rx ry q=>ho pins s2 σ H2 x y v u Q I2 rx ry q) hm
def zpQ (t:TE):TT:=fun σ H Q=>t σ H fun x H'=>∃ k,x = .bl k∧Q k H'
theorem zaH {op:CmpOp} {r:R2} (ho:OpR X (compareOp op) r) (ha:PE X a ta) (hb:PE X b tb) (hm:behindInMarks op b=false):PT X (.Compare a [op] [b] pos) (zpQ (tOp r ta tb)):=by
  intro pins s σ H Q I h
  refine wpAny_isTrue_Compare1 (thn (ha pins s σ H _ I h) fun v s1 ⟨x,H1,I1,r1,q1⟩=>thn (hb pins s1 σ H1 _ I1 q1) fun u s2 ⟨y,H2,I2,r2,q2⟩ =>
    thn (ho pins s2 σ H2 x y v u _ I2 r1 r2 q2) fun c s3 ⟨z,H3,I3,r3,k,e,q3⟩=>?_) hm
  subst e
  cases r3
  exact wpAny_truthy_bool ⟨H3,I3,q3⟩
def zom (r r':R2) (ta tb tc:TE):TE:=fun σ H Q=>ta σ H fun x H1=>tb σ H1 fun y H2=>r x y H2 fun z H3=>∃ k,z = .bl k ∧
  (if k=true then tc σ H3 fun w' H4=>r' y w' H4 Q else Q (.bl false) H3)
theorem znL {op op':CmpOp} {r r':R2} (ho:OpR X (compareOp op) r) (ho':OpR X (compareOp op') r') (ha:PE X a ta) (hb:PE X b tb) (hc:PE X c tc)
    (hm:lastMarks [op,op'] [b,c]=false:=by with_unfolding_all rfl):PE X (.Compare a [op,op'] [b,c] pos) (zom r r' ta tb tc):=by
  intro pins s σ H Q I h
  refine Compare_chain (thn (ha pins s σ H _ I h) fun v s1 ⟨x,H1,I1,r1,q1⟩=>chain_link (thn (hb pins s1 σ H1 _ I1 q1) fun u s2 ⟨y,H2,I2,r2,q2⟩ =>
    thn (ho pins s2 σ H2 x y v u _ I2 r1 r2 q2) fun d s3 ⟨z,H3,I3,r3,k,e,q3⟩=>?_)) hm
  subst e
  cases r3
  refine wpAny_truthy_bool ?_
  cases k with
  | false=>exact ite_ff ⟨.bl false,H3,I3,rfl,q3⟩
  | true=>exact ite_tt (chain_last (thn (hc pins s3 σ H3 _ I3 q3) fun w' s4 ⟨z',H4,I4,r4,q4⟩=>ho' pins s4 σ H4 y z' u w' Q I4 r2 r4 q4))
theorem zir:(sizeLine:Nat) < 2 ^ 63:=by rw [sizeLine_eq]; decide
theorem zdv {x:V} {us:List Value} (r:Vals [x] us):∃ u,us = [u]∧RelV x u:=by
  cases r with
  | cons r1 r2=>cases r2; exact ⟨_,rfl,r1⟩
theorem zmp {x y:V} {us:List Value} (r:Vals [x,y] us):∃ u w',us = [u,w']∧RelV x u∧RelV y w':=by
  cases r with
  | cons r1 r2 =>
    cases r2 with
    | cons r3 r4=>cases r4; exact ⟨_,_,rfl,r1,r3⟩
theorem zkp:zdr X (.builtin "abs") (fun xs H Q=>∃ i,xs = [.int i]∧Q (.int (if i < 0 then -i else i)) H):=by
  intro pins s σ H xs us Q I r h
  obtain ⟨i,rfl,q⟩:=h
  obtain ⟨u,rfl,t,rfl⟩:=zdv r
  exact call_abs_int fun u tk=>⟨.int (if i < 0 then -i else i),H,I.tok _,⟨_,rfl⟩,q⟩
theorem ze4 (hc:X.calm=true):zdr X (.builtin "max") (fun xs H Q=>∃ i j,xs = [.int i,.int j]∧Q (.int (if j > i then j else i)) H):=by
  intro pins s σ H xs us Q I r h
  obtain ⟨i,j,rfl,q⟩:=h
  obtain ⟨u,w',rfl,⟨t,rfl⟩,⟨t',rfl⟩⟩:=zmp r
  refine max_two_ints (I.ok.hd hc) fun h' tk k=>⟨_,H,I.kept k,?_,q⟩
  by_cases hj:j > i
  · rw [if_pos hj,if_pos hj]; exact ⟨_,rfl⟩
  · rw [if_neg hj,if_neg hj]; exact ⟨_,rfl⟩
theorem zmo (hc:X.calm=true):zdr X (.builtin "min") (fun xs H Q=>∃ i j,xs = [.int i,.int j]∧Q (.int (if j < i then j else i)) H):=by
  intro pins s σ H xs us Q I r h
  obtain ⟨i,j,rfl,q⟩:=h
  obtain ⟨u,w',rfl,⟨t,rfl⟩,⟨t',rfl⟩⟩:=zmp r
  refine min_two_ints (I.ok.hd hc) fun h' tk k=>⟨_,H,I.kept k,?_,q⟩
  by_cases hj:j < i
  · rw [if_pos hj,if_pos hj]; exact ⟨_,rfl⟩
  · rw [if_neg hj,if_neg hj]; exact ⟨_,rfl⟩
end
end L2
namespace L2
open PySem PySem.Spec PyProof.Rows
structure ObjM (h:Heap) (x dx C:Addr) (mA:Str→Option Value):Prop where
  obj:h.get? x=some (PySem.W.instObj C dx)
  ns:h.Ns1 dx mA
  ne:dx ≠ x
theorem zib {h:Heap} {dx:Addr} {mA:Str→Option Value} (n:h.Ns1 dx mA):∃ od,h.get? dx=some od∧∀ name,PySem.W.lookIn name od=some (mA name):=by
  obtain ⟨o,es,ep,ho,hd,hk,_,hm⟩:=n
  refine ⟨o,ho,fun name=>?_⟩
  have e:=hm name
  unfold nsFind findBy at e
  rw [← Array.find?_toList] at e
  unfold PySem.W.lookIn
  rw [hd]
  dsimp only
  split
  · rename_i y q
    rw [q] at e
    exact congrArg some e
  · rename_i q
    rw [q] at e
    have a:es.toList.any (·.refKey)=false:=by
      rw [List.any_eq_false]
      intro y hy
      obtain ⟨z,t,hkey⟩:=hk y (Array.mem_toList_iff.mp hy)
      simp [DictEntry.refKey,hkey]
    have a':¬ es.toList.any (·.refKey)=true:=by rw [a]; exact Bool.false_ne_true
    rw [if_neg a']
    exact congrArg some e
theorem ObjM.look {h:Heap} {x dx C:Addr} {mA:Str→Option Value} (I:ObjM h x dx C mA):∃ od,PySem.W.InstAt h x (PySem.W.instObj C dx) C (some od)∧∀ name,PySem.W.lookIn name od=some (mA name) :=
  let ⟨od,ho,hl⟩:=zib I.ns
  ⟨od,⟨I.obj,rfl,rfl,ho⟩,hl⟩
section
variable {prog:Program} {w:World} {A:Around} {E:Value→Shared→Prop} {s:Shared} {K:PySem.W.Frag} {x dx C f:Addr} {mA:Str→Option Value} {name:Str} {v:Value}
end
theorem RelO.some_of {v:V} {o:Option Value} (r:RelO (some v) o):∃ u,o=some u∧RelV v u:=by
  cases o with
  | none=>exact (show False from r).elim
  | some u=>exact ⟨u,rfl,r⟩
theorem zl4 {v:V} {u:Value} (r:RelV v u):PySem.W.handedIn u=true:=by
  cases v with
  | non=>cases (show u=Value.none from r); rfl
  | bl b=>cases (show u=Value.bool b from r); rfl
  | int i=>obtain ⟨t,e⟩:=(show ∃ t,u=Value.int i t from r); cases e; rfl
  | str x=>obtain ⟨t,e⟩:=(show ∃ t,u=Value.str x t from r); cases e; rfl
  | byt b=>obtain ⟨t,e⟩:=(show ∃ t,u=Value.bytes b t from r); cases e; rfl
  | flt b=>obtain ⟨t,e⟩:=(show ∃ t,u=Value.float b t from r); cases e; rfl
  | ref a=>cases (show u=Value.ref a from r); rfl
  | ty n=>cases (show u=Value.type n from r); rfl
section
variable {P:Program} {w:World} {H H':Hp} {h h':Heap} {a C dx:Addr} {fs fs':List (Str × V)}
theorem zpa (hok:HOk P w H h) (e:H a=some (.ins C dx fs)):∃ mA,ObjM h a dx C mA∧(∀ f,RelO (fs.lookup f) (mA f))∧PySem.Within mA (fs.map (·.1))∧fs.length ≤ 1000∧H dx=some (.own a):=by
  obtain ⟨d,z,ne,ob,mA,n,r,q⟩:=(show ObjOk P w H h a (.ins C dx fs) from hok a _ e)
  exact ⟨mA,⟨ob,n,ne⟩,r,q,z,d⟩
end
structure Cls (K:PySem.W.Frag) (C:Addr):Prop where
  pg:PySem.W.plainGet K C Str.empty=true
  hd:PySem.W.hasDictIn K C=true
  po:PySem.W.plainOver K C=true
  sa:PySem.W.findIn K (.ref C) "__setattr__"=some (some (.builtin "object.__setattr__"))
theorem Cls.get {K:PySem.W.Frag} {C:Addr} (c:Cls K C) (f:Str):PySem.W.plainGet K C f=true:=c.pg
def NoAttr (K:PySem.W.Frag) (C:Addr) (f:Str):Prop:=PySem.W.findIn K (.ref C) f=some none
theorem NoAttr.taker {K:PySem.W.Frag} {C:Addr} {f:Str} (n:NoAttr K C f):PySem.W.takerIn K C f=some none:=by
  unfold PySem.W.takerIn
  rw [show PySem.W.findIn K (.ref C) f=some none from n]
  rfl
section
variable {X:Cx} {pins:List (Addr × Obj)} {σ:St} {H:Hp} {s:Shared} {a C dx:Addr} {fs:List (Str × V)} {f:Str} {v:V} {A:Around} {E:Value→Shared→Prop}
theorem zoL {prog:Program} {w:World} {env:Env} {e:Expr} {f:Str} {pos:Pos} {s:Shared} {Q:Value→Shared→Prop} (hb:attributeBase e f env (eval e env)=eval e env)
    (h:wpAny (model prog w) A (eval e env) (fun o s₁=>wpAny (model prog w) A (getAttr o f true) Q E s₁) E s):wpAny (model prog w) A (eval (.Attribute e f pos) env) Q E s :=
  Attribute_any_ h (by rw [arm_eval_Attribute,hb])
end
section
variable {X:Cx} {o e value:Expr} {f:Str} {pos pos' tpos:Pos} {ta tv:TE}
end
section
variable {X:Cx} {pins:List (Addr × Obj)} {σ:St} {H:Hp} {s:Shared} {A:Around} {E:Value→Shared→Prop} {Q:Value→Shared→Prop} {c:Value} {b:Bool}
inductive TyOf (K:PySem.W.Frag) (H:Hp):V→Value→Prop where
  | non:TyOf K H .non (.type "NoneType")
  | bl (x:Bool):TyOf K H (.bl x) (.type "bool")
  | int (i:Int):TyOf K H (.int i) (.type "int")
  | str (x:Str):TyOf K H (.str x) (.type "str")
  | flt (x:UInt64):TyOf K H (.flt x) (.type "float")
  | lst {a:Addr} {xs:List V} (e:H a=some (.lst xs)):TyOf K H (.ref a) (.type "list")
  | frz {a:Addr} {o:Obj} {xs:List V} (e:H a=some (.frz o (.lst xs))):TyOf K H (.ref a) (.type "list")
  | tup {a:Addr} {xs:List V} (e:H a=some (.tup xs)):TyOf K H (.ref a) (.type "tuple")
  | dK {a:Addr} {kvs:List (Key × V)} (e:H a=some (.dK kvs)):TyOf K H (.ref a) (.type "dict")
  | dT {a:Addr} {kvs:List (List Key × V)} (e:H a=some (.dT kvs)):TyOf K H (.ref a) (.type "dict")
  | ins {a C dx:Addr} {fs:List (Str × V)} (e:H a=some (.ins C dx fs)) (cl:Cls K C) (ha:PySem.W.findIn K (.ref C) "__class__"=some (some (.builtin "object.__class__")))
      (hn:PySem.W.specialIn K (.builtin "object.__class__") "__get__"=some (some (.builtin "getset_descriptor.__get__"))) (htk:PySem.W.takesIn K (.builtin "object.__class__")=some true)
      (hm:PySem.W.mroIn K C (.type "object")=some true):TyOf K H (.ref a) (.ref C)
theorem zlr {x:V} {u t:Value} (I:Inv X pins σ H s) (rx:RelV x u) (ty:TyOf X.K H x t) (e:PySem.W.kitOne X.K t c=some b) (h:∀ tk,Q (.bool b) { s with toks:=tk }) :
    wpAny (model X.prog X.w) A (call (.builtin "isinstance") [u,c]) Q E s:=by
  cases ty with
  | non=>cases (show u=Value.none from rx); exact PySem.W.kia_one PySem.W.kitx_none I.kIn True.intro e (fun z=>nomatch z) h
  | bl y=>cases (show u=Value.bool y from rx); exact PySem.W.kia_one PySem.W.kitx_bool I.kIn True.intro e (fun z=>nomatch z) h
  | int i=>obtain ⟨t,q⟩:=(show ∃ t,u=Value.int i t from rx); cases q; exact PySem.W.kia_one PySem.W.kitx_int I.kIn True.intro e (fun z=>nomatch z) h
  | str y=>obtain ⟨t,q⟩:=(show ∃ t,u=Value.str y t from rx); cases q; exact PySem.W.kia_one PySem.W.kitx_str I.kIn True.intro e (fun z=>nomatch z) h
  | flt y=>obtain ⟨t,q⟩:=(show ∃ t,u=Value.float y t from rx); cases q; exact PySem.W.kia_one PySem.W.kitx_float I.kIn True.intro e (fun z=>nomatch z) h
  | @lst a xs ea =>
    cases (show u=Value.ref a from rx)
    obtain ⟨_,_,n,_,h1⟩:=(show ObjOk X.prog X.w H s.heap a (.lst xs) from I.hok a _ ea)
    exact PySem.W.kia_one PySem.W.kitx_list I.kIn ⟨_,h1,rfl⟩ e (fun z=>nomatch z) h
  | @frz a ob xs ea =>
    cases (show u=Value.ref a from rx)
    obtain ⟨_,_,_,n,_,h1⟩:=(show ObjOk X.prog X.w H s.heap a (.frz ob (.lst xs)) from I.hok a _ ea)
    exact PySem.W.kia_one PySem.W.kitx_list I.kIn ⟨_,h1,rfl⟩ e (fun z=>nomatch z) h
  | @tup a xs ea =>
    cases (show u=Value.ref a from rx)
    obtain ⟨_,_,_,p⟩:=(show ObjOk X.prog X.w H s.heap a (.tup xs) from I.hok a _ ea)
    obtain ⟨o,h1,h2,_⟩:=p
    exact PySem.W.kia_one PySem.W.kitx_tuple I.kIn ⟨o,h1,h2⟩ e (fun z=>nomatch z) h
  | @dK a kvs ea =>
    cases (show u=Value.ref a from rx)
    obtain ⟨_,_,vs,_,p⟩:=(show ObjOk X.prog X.w H s.heap a (.dK kvs) from I.hok a _ ea)
    obtain ⟨o,es,ep,h1,h2,_⟩:=p
    exact PySem.W.kia_one PySem.W.kitx_dict I.kIn ⟨o,h1,h2.1⟩ e (fun z=>nomatch z) h
  | @dT a kvs ea =>
    cases (show u=Value.ref a from rx)
    obtain ⟨_,_,xs,_,o,es,ep,h1,h2,_⟩:=(show ObjOk X.prog X.w H s.heap a (.dT kvs) from I.hok a _ ea)
    exact PySem.W.kia_one PySem.W.kitx_dict I.kIn ⟨o,h1,h2.1⟩ e (fun z=>nomatch z) h
  | @ins a C dx fs ea cl ha hn htk hm =>
    cases (show u=Value.ref a from rx)
    obtain ⟨mA,O,_⟩:=zpa I.hok ea
    obtain ⟨od,J,_⟩:=O.look
    exact PySem.W.kia_one (PySem.W.kitx_own (cl.get _) cl.hd ha hn htk hm) I.kIn J e (fun z=>nomatch z) h
end
end L2
namespace L2
open PySem PySem.Spec PyProof.Rows
structure Room (k:Nat) (A:Around):Prop where
  hd:A.handled=none
  dp:A.depth + 3 * k + 5 < recursionLimit
  un:A.units + 16 * k + 200 < cLine
theorem Room.mono {j k:Nat} {A:Around} (r:Room k A) (h:j ≤ k):Room j A:=⟨r.hd,by have:=r.dp; omega,by have:=r.un; omega⟩
theorem Room.deeper {k:Nat} {A:Around} (r:Room (k + 1) A) (env:Env):Room k (A.deeper env) :=
  ⟨r.hd,by have:=r.dp; show A.depth + 1 + 3 * k + 5 < _; omega,by have:=r.un; show A.units + 3 + 16 * k + 200 < _; omega⟩
theorem zla {A:Around} {C:Addr} {us:List Value} {kw:List (Str × Value)}:(A.under (.builtin "type.__call__" ⟨.ref C :: us,kw⟩)).depth=A.depth + 1:=by
  first | rfl | simp [Around.under,Code.weight,Code.isCreation,Code.isGuard,Code.isCaller,Code.frames,Code.isFrame,guardIds]
theorem zkT {A:Around} {C:Addr} {us:List Value} {kw:List (Str × Value)}:(A.under (.builtin "type.__call__" ⟨.ref C :: us,kw⟩)).units=A.units + 1:=by
  first | rfl | simp [Around.under,Code.cUnits,Code.frames,Code.isFrame]
theorem Room.make {k:Nat} {A:Around} (r:Room (k + 1) A) (C:Addr) (us:List Value) (kw:List (Str × Value)):Room k (A.under (.builtin "type.__call__" ⟨.ref C :: us,kw⟩)) :=
  ⟨r.hd,by have:=r.dp; rw [zla]; omega,by have:=r.un; rw [zkT]; omega⟩
theorem Room.depth {k:Nat} {A:Around} (r:Room k A):A.depth < recursionLimit:=by have:=r.dp; omega
theorem Room.units {k:Nat} {A:Around} (r:Room k A):A.units + 64 < cLine:=by have:=r.un; omega
def tNil:TA:=fun _ H Q=>Q [] H
def zdl (ta:TE) (tr:TA):TA:=fun σ H Q=>ta σ H fun x H1=>tr σ H1 fun xs H2=>Q (x :: xs) H2
section
variable {X:Cx} {e:Expr} {es:List Expr} {te:TE} {t:TA} {pos:Pos}
theorem zae:PA X [] tNil:=fun _ _ _ _ H Q I h=>Calls.spliced_nil ⟨[],H,I,.nil,h⟩
theorem zab (ha:PE X e te) (hr:PA X es t) (hs:starEach (e :: es) X.env=(false,eval e X.env) :: starEach es X.env:=by rfl):PA X (e :: es) (zdl te t):=by
  intro pos pins s σ H Q I h
  rw [hs]
  show wpAny _ _ (spliced ((false,eval e X.env) :: backTo pos (starEach es X.env))) _ _ s
  refine Calls.spliced_cons (thn (ha pins s σ H _ I h) fun u s1 ⟨x,H1,I1,r1,q1⟩=>?_)
  exact thn (hr pos pins s1 σ H1 _ I1 q1) fun us s2 ⟨xs,H2,I2,r2,q2⟩=>⟨x :: xs,H2,I2,.cons r1 r2,q2⟩
def tTup (t:TA):TE:=fun σ H Q=>t σ H fun xs H1=>xs.length ≤ sizeLine∧∀ p,H1 p=none→Q (.ref p) (upd H1 p (.tup xs))
def tLst (t:TA):TE:=fun σ H Q=>t σ H fun xs H1=>xs.length ≤ sizeLine∧∀ p,H1 p=none→Q (.ref p) (upd H1 p (.lst xs))
theorem zit {x1} (h:PA X es t):PE X (.Tuple es x1 pos) (tTup t):=by
  intro pins s σ H Q I hq
  refine wpAny_Tuple_spliced (thn (h pos pins s σ H _ I hq) fun us s1 ⟨xs,H1,I1,r,z,q⟩=>⟨by rw [← r.length]; exact z,?_⟩)
  have hf:H1 s1.heap.objs.size=none:=I1.hok.fresh (Nat.le_refl _)
  refine ⟨.ref s1.heap.objs.size,upd H1 s1.heap.objs.size (.tup xs),I1.laid (t':=s1.toks) (fun b u e=>Heap.get?_push_of_some _ e) (Nat.le_refl _) ?_,rfl,q _ hf⟩
  exact ⟨z,us,r,⟨_,Heap.get?_push_size _ rfl,rfl,_,rfl⟩⟩
theorem zda (h:PA X es t):PE X (.List es pos) (tLst t):=by
  intro pins s σ H Q I hq
  refine wpAny_List_spliced (thn (h pos pins s σ H _ I hq) fun us s1 ⟨xs,H1,I1,r,z,q⟩=>⟨by rw [← r.length]; exact z,?_⟩)
  have hf:H1 s1.heap.objs.size=none:=I1.hok.fresh (Nat.le_refl _)
  refine ⟨.ref s1.heap.objs.size,upd H1 s1.heap.objs.size (.lst xs),I1.laid (t':=s1.toks) (fun b u e=>Heap.get?_push_of_some _ e) (Nat.le_refl _) ?_,rfl,q _ hf⟩
  exact ⟨z,us,0,r,Heap.get?_push_size _ rfl⟩
end
abbrev Sp:=List V→Hp→VK→XK→Prop
abbrev CXT:=List Env→Hp→Shared→XK→Value→Shared→Prop
structure Env0 (P:Program) (w:World) (K:PySem.W.Frag) (mg:Str→Option Value) (base:Heap) (A:Around) (outer:List Env) (s:Shared) (H:Hp):Prop where
  frames:A.frames=some outer
  mod:Mod K mg base
  bs:∀ b o,base.get? b=some o→s.heap.get? b=some o∧H b=none
  bsz:base.objs.size ≤ s.heap.objs.size
  funs:s.heap.FunFrames base outer
  frf:∀ b ∈ frs outer,H b=none
  hok:HOk P w H s.heap
  bare:AllBare s.gens
  tb:TbAt K H
def CE (outer:List Env) (P:Program) (w:World) (H:Hp) (s:Shared) (Q:VK) (u:Value) (s':Shared):Prop :=
  ∃ v H',s'.os=s.os∧AllBare s'.gens∧Un (frs outer) [] H H' s.heap s'.heap∧HOk P w H' s'.heap∧RelV v u∧Q v H'
def CR (CX:CXT) (outer:List Env) (P:Program) (w:World) (H:Hp) (s:Shared) (Q:VK) (E:XK) (r:Result) (s':Shared):Prop :=
  match r with
  | .ok (.ret u)=>CE outer P w H s Q u s'
  | .ok _=>False
  | .error e=>CX outer H s E e s'
structure FnOk (P:Program) (w:World) (K:PySem.W.Frag) (mg:Str→Option Value) (base:Heap) (CX:CXT) (k:Nat) (f:Addr) (fd:FuncData) (ps:List Str) (sp:Sp):Prop where
  len:∀ vs H Q E,sp vs H Q E→vs.length=ps.length
  run:∀ (A:Around) (outer:List Env) (s:Shared) (H:Hp) (args:Args) (us:List Value) (vs:List V) (Q:VK) (E:XK),Room k A→Env0 P w K mg base A outer s H→BindsTo s fd args (ps.zip us)→Vals vs us→sp vs H Q E →
    codeAny (model P w) A (.call (.ref f) args) (CR CX outer P w H s Q E) s
theorem Env0.make {P:Program} {w:World} {K:PySem.W.Frag} {mg:Str→Option Value} {base:Heap} {A:Around} {outer:List Env} {s:Shared} {H:Hp} (e:Env0 P w K mg base A outer s H) (C:Addr) (us:List Value) (kw:List (Str × Value)) :
    Env0 P w K mg base (A.under (.builtin "type.__call__" ⟨.ref C :: us,kw⟩)) outer s H:=⟨by first | exact e.frames | (simpa [Around.under,Code.envs,Code.isFrame,pushEnvs] using e.frames),e.mod,e.bs,e.bsz,e.funs,e.frf,e.hok,e.bare,e.tb⟩
section
variable {X:Cx} {pins:List (Addr × Obj)} {σ:St} {H:Hp} {s s':Shared}
theorem Inv.env0 (I:Inv X pins σ H s):Env0 X.prog X.w X.K X.mg X.base X.A X.stack s H :=
  ⟨I.ok.frames,I.ok.mod,I.bs,Nat.le_trans I.ok.bsz I.sz,I.stack,I.stkFree,I.hok,I.bare,I.ok.tb.grown I.base.tbls⟩
theorem Inv.after {Q:VK} {u:Value} (I:Inv X pins σ H s) (h:CE X.stack X.prog X.w H s Q u s'):EP X pins σ Q u s':=by
  obtain ⟨v,H',os,bare,un,hok,r,q⟩:=h
  obtain ⟨hh,g,d,t,os'⟩:=s'
  obtain rfl:os'=s.os:=os
  exact ⟨v,H',I.call (h':=hh) (g':=g) (d':=d) (t':=t) (ch:=[]) un hok bare (fun b z=>absurd z (by simp)),r,q⟩
end
def zlq (sp:Sp) (dvs:List V) (E:XK) (t:TA):TE:=fun σ H Q=>t σ H fun vs H1=>sp (vs ++ dvs) H1 Q E
def Binds (K:PySem.W.Frag) (fd:FuncData) (ps:List Str) (ds:List Value):Prop :=
  ∀ (s:Shared) (us:List Value),K.In s.heap→(us ++ ds).length=ps.length→BindsTo s fd ⟨us,[]⟩ (ps.zip (us ++ ds))
theorem Binds.all {K:PySem.W.Frag} {fd:FuncData} {ps:List Str} (h:∀ us:List Value,us.length=ps.length→bindArgs fd ⟨us,[]⟩=pure (ps.zip us)):Binds K fd ps []:=fun s us _ hl=>by
  rw [List.append_nil] at hl ⊢
  exact .of_eq (h us hl)
def zhn (CX:CXT) (X:Cx) (E:XK):Prop:=∀ (pins:List (Addr × Obj)) (σ:St) (H:Hp) (s:Shared) (e:Value) (s':Shared),Inv X pins σ H s→CX X.stack H s E e s'→X.xe e s'
section
variable {X:Cx} {CX:CXT} {k:Nat} {f C:Addr} {fd:FuncData} {ps:List Str} {sp:Sp} {dvs:List V} {ds:List Value} {E:XK} {x m:Str} {p pos apos:Pos} {e o:Expr} {es:List Expr} {ta:TE} {t:TA}
theorem zp4 {pins:List (Addr × Obj)} {σ:St} {H:Hp} {s:Shared} {Q:VK} {us:List Value} {vs:List V} (F:FnOk X.prog X.w X.K X.mg X.base CX k f fd ps sp) (hr:Room k X.A) (hb:Binds X.K fd ps ds) (hd:Vals dvs ds) (hx:zhn CX X E)
    (I:Inv X pins σ H s) (r:Vals vs us) (h:sp (vs ++ dvs) H Q E):wpAny (model X.prog X.w) X.A (call (.ref f) us) (EP X pins σ Q) X.xe s:=by
  have r2:Vals (vs ++ dvs) (us ++ ds):=r.append hd
  have hl:(us ++ ds).length=ps.length:=by rw [← r2.length]; exact F.len _ _ _ _ h
  refine wpAny_call (codeAny_mono (F.run X.A X.stack s H ⟨us,[]⟩ (us ++ ds) (vs ++ dvs) Q E hr I.env0 (hb s us I.kIn hl) r2 h) fun r s' hq=>?_)
  cases r with
  | error e=>exact hx pins σ H s e s' I hq
  | ok fl =>
    cases fl with
    | ret u=>exact I.after hq
    | next=>exact False.elim hq
    | brk=>exact False.elim hq
    | cont=>exact False.elim hq
theorem zpz (F:FnOk X.prog X.w X.K X.mg X.base CX k f fd ps sp) (hr:Room k X.A) (hg:Gl X x) (hm:X.mg x=some (.ref f)) (hk:PySem.W.keepIn X.K (.ref f)=true) (hb:Binds X.K fd ps ds) (hd:Vals dvs ds) (hx:zhn CX X E)
    (ha:PA X (e :: es) t) (hdb:(x == ("__debug__" : Str))=false:=by decide) (he:starEach (e :: es) X.env=(false,eval e X.env) :: starEach es X.env:=by rfl) (hpl:(backTo pos (starEach es X.env)).any (·.1)=false:=by rfl) :
    PE X (.Call (.Name x p) (e :: es) [] pos) (zlq sp dvs E t):=by
  intro pins s σ H Q I h
  refine wpAny_Call_Name_kw (zeN I hg hm ?_ hdb)
  refine PySem.W.callWith_K (h₀:=X.base) I.ok.mod.kin hk (thn (ha pos pins s σ H _ I h) fun us s1 ⟨vs,H1,I1,r,q⟩=>⟨I1.kIn,?_⟩) he hpl
  exact zp4 F hr hb hd hx I1 r q
end
def PK (X:Cx) (kws:List Keyword) (t:TA):Prop :=
  ∀ (pos:Pos) (pins:List (Addr × Obj)) (s:Shared) (σ:St) (H:Hp) (Q:List V→Hp→Prop),Inv X pins σ H s→t σ H Q→wpAny (model X.prog X.w) X.A (evalAll ((backToKw pos (keywordEach kws X.env)).map (·.2))) (AP X pins σ Q) X.xe s
section
variable {X:Cx} {CX:CXT} {k:Nat} {f C:Addr} {fd:FuncData} {ps ks:List Str} {sp:Sp} {E:XK} {x m:Str} {p pos apos kpos:Pos} {e o:Expr} {es:List Expr} {kws:List Keyword} {te ta:TE} {t tk:TA} {nm:Option Str}
theorem zpO:PK X [] tNil:=fun _ _ _ _ H Q I h=>wpAny_evalAll_nil ⟨[],H,I,.nil,h⟩
theorem zpu (ha:PE X e te) (hr:PK X kws t):PK X (⟨nm,e,kpos⟩ :: kws) (zdl te t):=by
  intro pos pins s σ H Q I h
  show wpAny _ _ (evalAll ((do let v ← eval e X.env; standAt pos; pure v) :: (backToKw pos (keywordEach kws X.env)).map (·.2))) _ _ s
  refine wpAny_evalAll_cons (wpAny_bind (thn (ha pins s σ H _ I h) fun u s1 ⟨x,H1,I1,r1,q1⟩=>wpAny_bind (wpAny_standAt (wpAny_pure ?_))))
  exact thn (hr pos pins s1 σ H1 _ I1 q1) fun us s2 ⟨xs,H2,I2,r2,q2⟩=>⟨x :: xs,H2,I2,.cons r1 r2,q2⟩
variable {g:List Value→List Value→List Value} {gV:List V→List V→List V}
end
structure FnScope (N P:List Str) (sc:Scope):Prop where
  kind:sc.kind = .function
  co:sc.isCoroutine=false
  gen:sc.isGenerator=false
  nd:N.Nodup
  pre:N.take P.length=P
  par:∀ x ∈ P,sc.names.lookup x=some .local∨sc.names.lookup x=some .cell
  nofree:∀ y ∈ sc.names,y.2 ≠ .free
theorem zi0 {kindOf:Str→Option NameKind} {x:Str}:∀ {binds:List (Str × Value)} {m:Str→Option Value},(∀ v,(x,v) ∉ binds)→bindL kindOf binds m x=m x
  | [],_,_=>rfl
  | (n,v) :: r,m,h=>by
    unfold bindL
    rw [zi0 fun w hw=>h w (List.mem_cons_of_mem _ hw)]
    split
    · have:x ≠ n:=by rintro rfl; exact h v List.mem_cons_self
      simp [this]
    · rfl
theorem zix {kindOf:Str→Option NameKind} {x:Str}:∀ {binds:List (Str × Value)} {m:Str→Option Value},(∀ v,(x,v) ∉ binds)→bindC kindOf binds m x=m x
  | [],_,_=>rfl
  | (n,v) :: r,m,h=>by
    unfold bindC
    rw [zix fun w hw=>h w (List.mem_cons_of_mem _ hw)]
    split
    · rfl
    · have:x ≠ n:=by rintro rfl; exact h v List.mem_cons_self
      simp [this]
theorem ziF {kindOf:Str→Option NameKind} {x:Str} {v:Value}:∀ {P:List Str} {vs:List Value} {i:Nat} {m:Str→Option Value},P.Nodup→P[i]?=some x→vs[i]?=some v→kindOf x=some .local →
    bindL kindOf (P.zip vs) m x=some v
  | [],_,_,_,_,h,_,_=>by simp at h
  | _ :: _,[],_,_,_,_,h,_=>by simp at h
  | p :: P,w :: vs,0,m,nd,h1,h2,hk=>by
    simp at h1 h2; subst h1; subst h2
    show bindL kindOf ((p,w) :: P.zip vs) m p=_
    unfold bindL
    rw [zi0 fun v hv=>(List.nodup_cons.mp nd).1 (List.of_mem_zip hv).1,if_pos hk]
    simp
  | p :: P,w :: vs,i + 1,m,nd,h1,h2,hk=>by
    show bindL kindOf ((p,w) :: P.zip vs) m x=_
    unfold bindL
    exact ziF (i:=i) (List.nodup_cons.mp nd).2 (by simpa using h1) (by simpa using h2) hk
theorem ziS {kindOf:Str→Option NameKind} {x:Str} {v:Value}:∀ {P:List Str} {vs:List Value} {i:Nat} {m:Str→Option Value},P.Nodup→P[i]?=some x→vs[i]?=some v→kindOf x ≠ some .local →
    bindC kindOf (P.zip vs) m x=some v
  | [],_,_,_,_,h,_,_=>by simp at h
  | _ :: _,[],_,_,_,_,h,_=>by simp at h
  | p :: P,w :: vs,0,m,nd,h1,h2,hk=>by
    simp at h1 h2; subst h1; subst h2
    show bindC kindOf ((p,w) :: P.zip vs) m p=_
    unfold bindC
    rw [zix fun v hv=>(List.nodup_cons.mp nd).1 (List.of_mem_zip hv).1,if_neg hk]
    simp
  | p :: P,w :: vs,i + 1,m,nd,h1,h2,hk=>by
    show bindC kindOf ((p,w) :: P.zip vs) m x=_
    unfold bindC
    exact ziS (i:=i) (List.nodup_cons.mp nd).2 (by simpa using h1) (by simpa using h2) hk
def start (N:List Str) (vs:List V):St:=vs.map some ++ List.replicate (N.length - vs.length) none
def cxOf (CX:CXT) (P:Program) (w:World) (K:PySem.W.Frag) (mg:Str→Option Value) (base:Heap) (N:List Str) (qual:Str) (scope:Scope) (f:Addr) (cd:Value) (A:Around) (outer:List Env) (s:Shared) (H:Hp) (E:XK):Cx where
  prog:=P
  w:=w
  K:=K
  mg:=mg
  base:=base
  A:=A.deeper (envOfC qual scope s.heap.objs.size f cd)
  N:=N
  s₀:=s
  H₀:=H
  env:=envOfC qual scope s.heap.objs.size f cd
  outer:=outer
  stack:=envOfC qual scope s.heap.objs.size f cd :: outer
  ex:=[]
  calm:=true
  fn:=fun _=>true
  pn:=[]
  xe:=fun e s'=>wpAny (model P w) (A.deeper (envOfC qual scope s.heap.objs.size f cd)) (leaving (envOfC qual scope s.heap.objs.size f cd) e) (fun _ s''=>CX outer H s E e s'') (fun e' s''=>CX outer H s E e' s'') s'
theorem zj3 {sc:Scope} {n:Nat} {x:Str} (h:sc.names.lookup x=some .cell):∃ c,(cellsFrom n sc.names []).lookup x=some c:=by
  have q:=PySem.W.cellsFrom_some sc.names n [] (.inl h)
  exact Option.isSome_iff_exists.mp q
theorem zmV {CX:CXT} {P:Program} {w:World} {K:PySem.W.Frag} {mg:Str→Option Value} {base:Heap} {N ps:List Str} {qual:Str} {scope:Scope} {f:Addr} {cd:Value} {A:Around} {outer:List Env} {s s1:Shared} {H:Hp} {E:XK} {us:List Value} {vs:List V}
    (S:FnScope N ps scope) (hd:A.handled=none) (e0:Env0 P w K mg base A outer s H) (hl:vs.length=ps.length) (r:Vals vs us)
    (x:InCallC s s.heap.objs.size (bindL (envOfC qual scope s.heap.objs.size f cd).kindOf (ps.zip us) fun _=>none) (cellsFrom (s.heap.objs.size + 1) scope.names []) (bindC (envOfC qual scope s.heap.objs.size f cd).kindOf (ps.zip us) fun _=>none) s1) :
    Inv (cxOf CX P w K mg base N qual scope f cd A outer s H E) [] (start N vs) H s1:=by
  have hpl:ps.length ≤ N.length:=by have:=congrArg List.length S.pre; rw [List.length_take] at this; omega
  obtain ⟨h1,tk,rfl,hk⟩:=x.done
  have noA:∀ b:Addr,b ∉ (cxOf CX P w K mg base N qual scope f cd A outer s H E).ex:=fun b z=>absurd (show b ∈ ([]:List Addr) from z) (by simp)
  refine ⟨⟨e0.mod,S.kind,rfl,rfl,Nat.le_refl _,fun y z c h1 h2=>?_,fun y hy=>?_,fun y c _ h=>?_,fun _=>hd,Around.frames_deeper e0.frames,.inr ⟨rfl,rfl⟩,fun b z=>absurd z (noA b),e0.bs,e0.bsz,fun b _ _=>noA b,fun b z=>absurd z (noA b),e0.funs,e0.frf,e0.tb⟩,
    rfl,e0.bare,Un.kept hk,⟨_,x.toInCall.ns,fun i y v h1 h2 h3=>?_⟩,fun y c h=>⟨_,x.cell y c h⟩,e0.hok.fresh (Nat.le_refl _),fun y c h=>?_,fun p hp=>absurd (show p ∈ ([]:List (Addr × Obj)) from hp) (by simp),e0.hok.kept hk,?_⟩
  · exact name_of_addr x.apart (PySem.mem_of_lookup h1) (PySem.mem_of_lookup h2)
  · have hy:scope.names.lookup y=some .cell∨scope.names.lookup y=some .free:=hy
    rcases hy with hy | hy
    · exact zj3 hy
    · exact absurd rfl (S.nofree _ (PySem.mem_of_lookup hy))
  · exact Nat.le_of_lt (x.above y c (PySem.mem_of_lookup h))
  · have hi:i < vs.length:=by
      unfold start at h2
      by_cases hi:i < vs.length
      · exact hi
      · rw [List.getElem?_append_right (by simpa using hi)] at h2
        rw [List.getElem?_replicate] at h2
        split at h2 <;> cases h2
    have ha:vs[i]?=some v:=by
      unfold start at h2
      rw [List.getElem?_append_left (by simpa using hi),List.getElem?_map] at h2
      cases e:vs[i]? with
      | none=>rw [e] at h2; cases h2
      | some a=>rw [e] at h2; cases h2; rfl
    obtain ⟨u,hu,rv⟩:=r.get ha
    have hp:ps[i]?=some y:=by
      rw [← S.pre,List.getElem?_take_of_lt (by omega)]; exact h1
    have ndP:ps.Nodup:=by rw [← S.pre]; exact S.nd.sublist (List.take_sublist _ _)
    refine ⟨u,rv,?_⟩
    rcases S.par y (List.mem_of_getElem? hp) with k | k
    · exact .inl ⟨k,ziF ndP hp hu k⟩
    · obtain ⟨c,e⟩:=zj3 (n:=s.heap.objs.size + 1) k
      refine .inr ⟨.inl k,c,e,?_⟩
      have q:=x.cell y c e
      rw [ziS ndP hp hu (by show scope.names.lookup y ≠ _; rw [k]; decide)] at q
      exact q
  · exact e0.hok.fresh (Nat.le_of_lt (x.above y c (PySem.mem_of_lookup h)))
  · unfold start
    show _=N.length
    rw [List.length_append,List.length_map,List.length_replicate]
    omega
theorem zoG {CX:CXT} {P:Program} {w:World} {K:PySem.W.Frag} {mg:Str→Option Value} {base:Heap} {k:Nat} {f:Addr} {name qual:Str} {params:Arguments} {body:List Stmt} {scope:Scope} {dV kV doc pm cdv ct oc:Value} {an od:Option Addr}
    {osl:Array (Option Value)} {N ps:List Str} {sp:Sp} (lk:K.lookup f=some ⟨oc,od,.func (PySem.W.fnOf name qual params body scope dV kV doc pm an cdv ct),osl⟩) (hcd:PySem.W.codeIn K cdv qual=true) (S:FnScope N ps scope)
    (len:∀ vs H Q E,sp vs H Q E→vs.length=ps.length)
    (hbody:∀ (A:Around) (outer:List Env) (s:Shared) (H:Hp) (vs:List V) (Q:VK) (E:XK),Room k (A.deeper (envOfC qual scope s.heap.objs.size f cdv))→sp vs H Q E →
      ∃ t,PSs (cxOf CX P w K mg base N qual scope f cdv A outer s H E) body t∧t { nx:=fun _ H'=>Q .non H',rt:=Q } (start N vs) H) :
    FnOk P w K mg base CX (k + 1) f (PySem.W.fnOf name qual params body scope dV kV doc pm an cdv ct) ps sp:=by
  refine ⟨len,fun A outer s H args us vs Q E hr e0 hb r hsp=>?_⟩
  have hl:=len _ _ _ _ hsp
  have KX:K.In s.heap:=e0.mod.kin.keeps fun b o e=>(e0.bs b o e).1
  have lim:s.heap.NoLimit:=e0.mod.nolimit.keeps fun b o e=>(e0.bs b o e).1
  have hkind:∀ y ∈ ps.zip us,scope.names.lookup y.1=some .local∨(scope.names.lookup y.1=some .cell∧((cellsFrom (s.heap.objs.size + 1) scope.names []).lookup y.1).isSome=true):=fun ⟨n,v⟩ hy=>by
    rcases S.par n (List.of_mem_zip hy).1 with q | q
    · exact .inl q
    · exact .inr ⟨q,PySem.W.cellsFrom_some _ _ _ (.inl q)⟩
  refine codeAny_call_function hr.depth (KX _ _ lk) rfl S.co S.gen rfl (PySem.W.codeRec_of KX hcd) (hb _ _ _ _ ?_)
  refine wpAny_newFunctionEnv_cells S.kind hkind fun env he s1 x=>?_
  subst he
  refine ⟨lim.keeps x.toInCall.keep,codeAny_func ?_⟩
  obtain ⟨t,ht,hq⟩:=hbody A outer s H vs Q E (hr.deeper _) hsp
  have I:Inv (cxOf CX P w K mg base N qual scope f cdv A outer s H E) [] (start N vs) H s1:=zmV S hr.hd e0 hl r x
  refine wpAny_mono (ht [] s1 (start N vs) H _ I hq) (fun fl s' hs=>?_) fun e s' hs=>hs
  have fin:∀ {σ':St} {H':Hp} {v:V} {u:Value},Inv (cxOf CX P w K mg base N qual scope f cdv A outer s H E) [] σ' H' s'→RelV v u→Q v H'→CE outer P w H s Q u s' :=
    fun {σ' H' v u} J rv q=>⟨v,H',J.os,J.bare,J.base,J.hok,rv,q⟩
  cases fl with
  | ret u =>
    obtain ⟨v,σ',H',J,rv,q⟩:=hs
    exact fin J rv q
  | next =>
    obtain ⟨σ',H',J,q⟩:=hs
    exact fin (v:=V.non) (u:=Value.none) J rfl q
  | brk =>
    obtain ⟨_,_,_,q⟩:=hs
    exact False.elim q
  | cont =>
    obtain ⟨_,_,_,q⟩:=hs
    exact False.elim q
end L2
namespace L2
open PySem PySem.Spec PyProof.Rows
section
variable {X:Cx} {x:Str} {p pos:Pos} {e:Expr} {es:List Expr} {t:TA} {id T:String} {r:List V→Hp→VK→Prop}
def tCB (r:List V→Hp→VK→Prop) (t:TA):TE:=fun σ H Q=>t σ H fun vs H1=>r vs H1 Q
theorem zas (hc:zdr X (.builtin id) r) (hg:Gl X x) (hm:X.mg x=none) (hv:bootBuiltins x=some (.builtin id)) (ha:PA X (e :: es) t) (hn:x ≠ "__name__":=by decide) (hdb:(x == ("__debug__" : Str))=false:=by decide)
    (he:starEach (e :: es) X.env=(false,eval e X.env) :: starEach es X.env:=by rfl) (hpl:(backTo pos (starEach es X.env)).any (·.1)=false:=by rfl):PE X (.Call (.Name x p) (e :: es) [] pos) (tCB r t):=by
  intro pins s σ H Q I h
  refine wpAny_Call_Name_kw (zej I hg hm hv ?_ hn hdb)
  exact PyProof.Rows.callWith_builtin1 (thn (ha pos pins s σ H _ I h) fun us s1 ⟨vs,H1,I1,r1,q1⟩=>hc pins s1 σ H1 vs us Q I1 r1 q1) he hpl
theorem zbU (hc:zdr X (.type T) r) (hg:Gl X x) (hm:X.mg x=none) (hv:bootBuiltins x=some (.type T)) (ha:PA X (e :: es) t) (hn:x ≠ "__name__":=by decide) (hdb:(x == ("__debug__" : Str))=false:=by decide)
    (he:starEach (e :: es) X.env=(false,eval e X.env) :: starEach es X.env:=by rfl) (hpl:(backTo pos (starEach es X.env)).any (·.1)=false:=by rfl):PE X (.Call (.Name x p) (e :: es) [] pos) (tCB r t):=by
  intro pins s σ H Q I h
  refine wpAny_Call_Name_kw (zej I hg hm hv ?_ hn hdb)
  exact PyProof.Rows.callWith_type1 (thn (ha pos pins s σ H _ I h) fun us s1 ⟨vs,H1,I1,r1,q1⟩=>hc pins s1 σ H1 vs us Q I1 r1 q1) he hpl
end
end L2
namespace HT
open PySem PyProof.Rows
section
open PySem.SeqAt
open PySem.AutoSeq1 (wpAny_loadPart')
open PySem.MeetsSeq PySem.MeetsSeq2 PySem.MeetsSeq3
end
section
variable {prog:Program} {w:World} {A:Around} {E:Value→Shared→Prop} {s:Shared}
def sIx (n d:Nat):Option Int→Nat
  | none=>d
  | some v=>if v < 0 then (v + (n:Int)).toNat else min v.toNat n
end
end HT
namespace L2
open PySem PySem.Spec PyProof.Rows
abbrev TO:=St→Hp→(Option Int→Hp→Prop)→Prop
def PO (X:Cx) (e:Option Expr) (t:TO):Prop :=
  ∀ (pins:List (Addr × Obj)) (s:Shared) (σ:St) (H:Hp) (Q:Option Int→Hp→Prop),Inv X pins σ H s→t σ H Q →
    wpAny (model X.prog X.w) X.A (evalPart e X.env) (fun u s'=>∃ o H',Inv X pins σ H' s'∧IsPart u o∧Q o H') X.xe s
def zmr:TO:=fun _ H Q=>Q none H
def zqM (t:TE):TO:=fun σ H Q=>t σ H fun x H1=>∃ i,x = .int i∧Q (some i) H1
section
variable {X:Cx} {e:Expr} {te:TE} {lo hi:Option Expr} {tl th:TO} {pos p2:Pos}
theorem zdL:PO X none zmr:=by
  intro pins s σ H Q I h
  rw [evalPart_none]
  exact wpAny_pure ⟨none,H,I,.none,h⟩
theorem zcT (h:PE X e te):PO X (some e) (zqM te):=by
  intro pins s σ H Q I hw
  rw [evalPart_some]
  refine thn (h pins s σ H _ I hw) fun u s1 ⟨x,H1,I1,r1,q1⟩=>?_
  obtain ⟨i,rfl,q⟩:=q1
  obtain ⟨t,rfl⟩:=r1
  exact ⟨some i,H1,I1,.int i t,q⟩
def SlR (X:Cx) (r:V→Option Int→Option Int→Hp→VK→Prop):Prop :=
  ∀ (pins:List (Addr × Obj)) (s:Shared) (σ:St) (H:Hp) (x:V) (v vl vu:Value) (lo hi:Option Int) (sl:Addr) (Q:VK),Inv X pins σ H s→RelV x v→s.heap.IsSliceOf sl vl vu .none→IsPart vl lo→IsPart vu hi→r x lo hi H Q →
    ∃ T id,typeLookup (.type T) "__getitem__"=pure (some (.builtin id))∧s.TypeIs v T∧wpAny (model X.prog X.w) X.A (getItem v (.ref sl)) (EP X pins σ Q) X.xe s
def tSl (r:V→Option Int→Option Int→Hp→VK→Prop) (te:TE) (tl th:TO):TE:=fun σ H Q=>te σ H fun x H1=>tl σ H1 fun l H2=>th σ H2 fun u H3=>r x l u H3 Q
theorem zcu {r:V→Option Int→Option Int→Hp→VK→Prop} (hr:SlR X r) (he:PE X e te) (hl:PO X lo tl) (hu:PO X hi th):PE X (.Subscript e (.Slice lo hi none p2) pos) (tSl r te tl th):=by
  intro pins s σ H Q I h
  refine Subscript_ (thn (he pins s σ H _ I h) fun v s1 ⟨x,H1,I1,r1,q1⟩=>?_)
  refine wpAny_Slice (thn (hl pins s1 σ H1 _ I1 q1) fun vl s2 ⟨l,H2,I2,pl,q2⟩=>thn (hu pins s2 σ H2 _ I2 q2) fun vu s3 ⟨u,H3,I3,pu,q3⟩=>?_)
  rw [evalPart_none]
  refine wpAny_pure ?_
  have I4:Inv X pins σ H3 { s3 with heap:=s3.heap.push { cls:=.type "slice",data:=.fields #[vl,vu,.none] } }:=I3.kept (t':=s3.toks) fun b ob q=>Heap.get?_push_of_some _ q
  obtain ⟨T,id,hT,ht,hg⟩:=hr pins { s3 with heap:=s3.heap.push { cls:=.type "slice",data:=.fields #[vl,vu,.none] } } σ H3 x v vl vu l u s3.heap.objs.size Q I4 r1 (Heap.IsSliceOf.new ..) pl pu q3
  show wpAny (model X.prog X.w) X.A (subscriptTail e (.Slice lo hi none p2) v (.ref s3.heap.objs.size)) (EP X pins σ Q) X.xe { s3 with heap:=s3.heap.push { cls:=.type "slice",data:=.fields #[vl,vu,.none] } }
  exact tail_any (ops:=[.ref s3.heap.objs.size,v]) ht hT hg (by with_unfolding_all rfl)
def cutV (xs:List V) (lo hi:Option Int):List V:=(xs.drop (HT.sIx xs.length 0 lo)).take (HT.sIx xs.length xs.length hi - HT.sIx xs.length 0 lo)
theorem zjh (xs:List V) (lo hi:Option Int):(cutV xs lo hi).length ≤ xs.length:=by
  unfold cutV
  rw [List.length_take,List.length_drop]
  omega
end
end L2
namespace L2
open PySem PySem.Spec PyProof.Rows
def ixN (n:Nat) (i:Int):Option Nat:=if 0 ≤ i then (if i < n then some i.toNat else none) else if -(n:Int) ≤ i then some (i + n).toNat else none
def atI {α:Type} (xs:List α) (i:Int):Option α:=(ixN xs.length i).bind fun j=>xs[j]?
theorem zmz {n:Nat} {i:Int} {j:Nat} (h:ixN n i=some j):seqIndex? i n=some j∧j < n∧-(n:Int) ≤ i∧i < n:=by
  unfold ixN at h
  by_cases h0:0 ≤ i
  · rw [if_pos h0] at h
    by_cases h1:i < n
    · rw [if_pos h1] at h
      have e:i.toNat=j:=Option.some.inj h
      exact ⟨by rw [seqIndex_of h0 h1,e],by omega,by omega,h1⟩
    · rw [if_neg h1] at h; cases h
  · rw [if_neg h0] at h
    by_cases h1 : -(n:Int) ≤ i
    · rw [if_pos h1] at h
      have e:(i + n).toNat=j:=Option.some.inj h
      exact ⟨by rw [seqIndex_neg (by omega) h1,e],by omega,h1,by omega⟩
    · rw [if_neg h1] at h; cases h
theorem zjk {α:Type} {xs:List α} {i:Int} {v:α} (h:atI xs i=some v):∃ j,seqIndex? i xs.length=some j∧xs[j]?=some v∧j < xs.length∧-(xs.length:Int) ≤ i∧i < xs.length:=by
  unfold atI at h
  cases e:ixN xs.length i with
  | none=>rw [e] at h; cases h
  | some j =>
    rw [e] at h
    obtain ⟨h1,h2,h3,h4⟩:=zmz e
    exact ⟨j,h1,h,h2,h3,h4⟩
theorem atI_nat {α:Type} {xs:List α} {j:Nat} {v:α} (h:xs[j]?=some v):atI xs (j:Int)=some v:=by
  have hj:j < xs.length:=(List.getElem?_eq_some_iff.mp h).1
  have e:ixN xs.length (j:Int)=some j:=by
    unfold ixN
    rw [if_pos (by omega),if_pos (by omega)]; simp
  unfold atI; rw [e]; exact h
def zoJ (b:Expr):Prop:=∀ o i,subscripted b false o i=operate [o,i] (getItem o i)
def IxR (X:Cx) (r:R2):Prop :=
  ∀ (value slice:Expr) (pins:List (Addr × Obj)) (s:Shared) (σ:St) (H:Hp) (x y:V) (v u:Value) (Q:VK),Inv X pins σ H s→RelV x v→RelV y u→r x y H Q →
    subscripted slice false v u=operate [v,u] (getItem v u)→wpAny (model X.prog X.w) X.A (subscriptTail value slice v u) (EP X pins σ Q) X.xe s
def MtR (X:Cx) (id:String) (r:V→List V→Hp→VK→Prop):Prop :=
  ∀ (pins:List (Addr × Obj)) (s:Shared) (σ:St) (H:Hp) (x:V) (xs:List V) (v:Value) (us:List Value) (Q:VK),Inv X pins σ H s→RelV x v→Vals xs us→r x xs H Q →
    wpAny (model X.prog X.w) X.A (call (.builtin id) (v :: us)) (EP X pins σ Q) X.xe s
section
variable {X:Cx} {a b:Expr} {ta tb:TE} {pos:Pos}
theorem zd3 {r:R2} (hr:IxR X r) (ha:PE X a ta) (hb:PE X b tb) (hs:zoJ b):PE X (.Subscript a b pos) (tOp r ta tb):=by
  intro pins s σ H Q I h
  exact Subscript_ (binT ha hb I h fun v u s2 x y H2 I2 rx ry q=>hr a b pins s2 σ H2 x y v u Q I2 rx ry q (hs _ _))
def rIxL (K:PySem.W.Frag):R2:=fun x y H Q=>∃ p xs i v,x = .ref p∧y = .int i∧SqL K H p xs∧atI xs i=some v∧Q v H
def rIxT (K:PySem.W.Frag):R2:=fun x y H Q=>∃ p xs i v,x = .ref p∧y = .int i∧SqT K H p xs∧atI xs i=some v∧Q v H
theorem zcz:IxR X (rIxL X.K):=by
  intro value slice pins s σ H x y v u Q I rx ry h hs
  obtain ⟨p,xs,i,z,rfl,rfl,hq,he,q⟩:=h
  cases rx
  obtain ⟨t,rfl⟩:=ry
  obtain ⟨its,r,pl,hz⟩:=I.list hq
  obtain ⟨j,h1,h2,h3,h4,h5⟩:=zjk he
  obtain ⟨w,ew,rw'⟩:=r.get h2
  have hl:=r.length
  have hn:=zir
  have fin:EP X pins σ Q w s:=⟨z,H,I,rw',q⟩
  by_cases h0:0 ≤ i
  · have hj:i.toNat=j:=by
      rw [seqIndex_of h0 h5] at h1
      exact Option.some.inj h1
    exact item_listR pl.isList h0 (by omega) (by rw [hj]; simpa using ew) fin hs
  · have hj:(i + (its.toArray.size:Int)).toNat=j:=by
      rw [seqIndex_neg (by omega) h4] at h1
      rw [List.size_toArray,← hl]
      exact Option.some.inj h1
    exact subscriptTail_builtinR (x:=w) pl.isList.typeIs slot_list_getitem.lookup
      (wpAny_getItem_list_neg (Q:=fun r s'=>r=w∧EP X pins σ Q r s') pl.isList (by omega) (by rw [List.size_toArray] <;> omega) (by omega) (by rw [hj]; simpa using ew) ⟨rfl,fin⟩) hs
theorem zhj:IxR X (rIxT X.K):=by
  intro value slice pins s σ H x y v u Q I rx ry h hs
  obtain ⟨p,xs,i,z,rfl,rfl,hq,he,q⟩:=h
  cases rx
  obtain ⟨t,rfl⟩:=ry
  obtain ⟨its,r,pl,hz⟩:=I.tuple hq
  obtain ⟨j,h1,h2,h3,h4,h5⟩:=zjk he
  obtain ⟨w,ew,rw'⟩:=r.get h2
  have hl:=r.length
  have hn:=zir
  have fin:EP X pins σ Q w s:=⟨z,H,I,rw',q⟩
  exact subscriptTail_builtinR (x:=w) pl.typeIs slot_tuple_getitem.lookup
    (getItem_tuple (j:=j) (Q:=fun r s'=>r=w∧EP X pins σ Q r s') pl (by omega) (by omega) (by rw [List.size_toArray,← hl]; exact h1) (by simpa using ew) ⟨rfl,fin⟩) hs
theorem zkR (its:List Value) (n j:Nat) (u:Value):Obj.mapSeq (·.setIfInBounds j u) { cls:=.type "list",data:=.seq its.toArray n } = { cls:=.type "list",data:=.seq (its.set j u).toArray n }:=by
  simp [Obj.mapSeq]
theorem Inv.lst {pins:List (Addr × Obj)} {σ:St} {H:Hp} {s:Shared} {p:Addr} {xs:List V} (I:Inv X pins σ H s) (h:H p=some (.lst xs)) :
    ∃ (its:List Value) (n:Nat),Vals xs its∧s.heap.get? p=some { cls:=.type "list",data:=.seq its.toArray n }∧xs.length ≤ sizeLine:=by
  obtain ⟨z,its,n,r,e⟩:=I.hok p _ h
  exact ⟨its,n,r,e,z⟩
theorem Inv.lstUpd {pins:List (Addr × Obj)} {σ:St} {H:Hp} {s:Shared} {p:Addr} {xs ys:List V} {its its':List Value} {n n':Nat} {f:Obj→Obj} (I:Inv X pins σ H s) (h:H p=some (.lst xs))
    (ho:s.heap.get? p=some { cls:=.type "list",data:=.seq its.toArray n }) (hf:f { cls:=.type "list",data:=.seq its.toArray n } = { cls:=.type "list",data:=.seq its'.toArray n' }) (r:Vals ys its') (hz:ys.length ≤ sizeLine) (t:Nat) :
    Inv X pins σ (upd H p (.lst ys)) { s with heap:=s.heap.update p f,toks:=t }:=by
  have e:(s.heap.update p f).get? p=some { cls:=.type "list",data:=.seq its'.toArray n' }:=by
    rw [Heap.get?_update_self f ho (by rw [hf] <;> rfl),hf]
  refine I.write (x:=p) (e:=p) (by rw [h]; trivial) (.inl rfl) (fun b u hb q=>(Heap.get?_update_other _ _ (Ne.symm hb)).trans q) ⟨_,e⟩ ?_
  exact ⟨hz,its',n',r,e⟩
def zpr:V→V→V→Hp→(Hp→Prop)→Prop:=fun o i v H Q=>∃ p xs k j,o = .ref p∧i = .int k∧H p=some (.lst xs)∧ixN xs.length k=some j∧Q (upd H p (.lst (xs.set j v)))
theorem zeY:PSet X zpr:=by
  intro pins s σ H o i v ov iv u Q I ro ri rv h
  obtain ⟨p,xs,k,j,rfl,rfl,hp,hj,q⟩:=h
  cases ro
  obtain ⟨t,rfl⟩:=ri
  obtain ⟨its,n,r,ho,hz⟩:=I.lst hp
  obtain ⟨h1,h2,h3,h4⟩:=zmz hj
  have hl:=r.length
  have hn:=zir
  have I':Inv X pins σ (upd H p (.lst (xs.set j v))) { s with heap:=s.heap.update p (Obj.mapSeq (·.setIfInBounds j u)) } :=
    I.lstUpd hp ho (zkR its n j u) (r.set rv j) (by rw [List.length_set]; exact hz) s.toks
  by_cases h0:0 ≤ k
  · have hk:k.toNat=j:=by
      rw [seqIndex_of h0 h4] at h1
      exact Option.some.inj h1
    exact PySem.W.ki_setAt ho h0 (by omega) (by rw [List.size_toArray,← hl]; exact h4) (by rw [hk]; exact ⟨_,I',q⟩)
  · have hk:(k + (its.toArray.size:Int)).toNat=j:=by
      rw [seqIndex_neg (by omega) h3] at h1
      rw [List.size_toArray,← hl]
      exact Option.some.inj h1
    exact PySem.W.ki_setBack ho (by omega) (by rw [List.size_toArray,← hl]; exact h3) (by omega) (by rw [hk]; exact ⟨_,I',q⟩)
theorem zi1 (lo hi:Option Int) (n:Nat):(sliceBounds lo hi none n).1=((HT.sIx n 0 lo:Nat):Int)∧(sliceBounds lo hi none n).2.1=((HT.sIx n n hi:Nat):Int)∧(sliceBounds lo hi none n).2.2=1:=by
  refine ⟨?_,?_,rfl⟩
  · cases lo with
    | none=>simp [sliceBounds,HT.sIx]
    | some i =>
      simp only [sliceBounds,HT.sIx,Option.getD_none,show (1:Int) > 0 by decide,if_true]
      by_cases h:i < 0
      · simp only [h,if_true] <;> omega
      · simp only [h,if_false] <;> omega
  · cases hi with
    | none=>simp [sliceBounds,HT.sIx]
    | some i =>
      simp only [sliceBounds,HT.sIx,Option.getD_none,show (1:Int) > 0 by decide,if_true]
      by_cases h:i < 0
      · simp only [h,if_true] <;> omega
      · simp only [h,if_false] <;> omega
theorem zhF (its:List Value) (lo hi:Option Int):slicePick its.toArray lo hi none=((its.drop (HT.sIx its.length 0 lo)).take (HT.sIx its.length its.length hi - HT.sIx its.length 0 lo)).toArray:=by
  obtain ⟨h1,h2,h3⟩:=zi1 lo hi its.toArray.size
  unfold slicePick
  rw [h1,h2,h3]
  simp only [sliceRange_one,pick_run,List.size_toArray] <;> rfl
def rSlL (K:PySem.W.Frag):V→Option Int→Option Int→Hp→VK→Prop:=fun x lo hi H Q=>∃ a xs,x = .ref a∧SqL K H a xs∧∀ p,H p=none→Q (.ref p) (upd H p (.lst (cutV xs lo hi)))
theorem zdi:SlR X (rSlL X.K):=by
  intro pins s σ H x v vl vu lo hi sl Q I rx hs pl pu h
  obtain ⟨a,xs,rfl,hx,q⟩:=h
  cases rx
  obtain ⟨its,r,ht,hz⟩:=I.list hx
  have hlen:=r.length
  refine ⟨"list",_,slot_list_getitem.lookup,ht.isList.typeIs,?_⟩
  refine wpAny_getItem_list_slice ht.isList hs pl pu .none (by simp) ?_ (by rw [List.size_toArray] <;> omega)
  rw [zhF,← hlen]
  refine ⟨.ref s.heap.objs.size,_,I.laid (t':=s.toks) (o:=.lst (cutV xs lo hi)) (fun b ob q=>Heap.get?_push_of_some _ q) (Nat.le_refl _) ?_,rfl,q _ (I.hok.fresh (Nat.le_refl _))⟩
  exact ⟨Nat.le_trans (zjh xs lo hi) hz,_,0,(r.drop (HT.sIx xs.length 0 lo)).take (HT.sIx xs.length xs.length hi - HT.sIx xs.length 0 lo),Heap.get?_push_size _ rfl⟩
theorem zaB:zdr X (.builtin "len") (fun xs H Q=>∃ p ys,xs = [.ref p]∧(SqL X.K H p ys∨SqT X.K H p ys)∧Q (.int ys.length) H):=by
  intro pins s σ H xs us Q I r h
  obtain ⟨p,ys,rfl,hq,q⟩:=h
  obtain ⟨u,rfl,rx⟩:=zdv r
  cases rx
  have hn:=zir
  rcases hq with hq | hq
  · obtain ⟨its,r',pl,hz⟩:=I.list hq
    have hlen:=r'.length
    exact Calls.call_len_list pl.isList (by simp only [List.size_toArray] <;> omega) ⟨.int ys.length,H,I.tok _,⟨s.toks + 1,by rw [List.size_toArray,hlen]⟩,q⟩
  · obtain ⟨its,r',pl,hz⟩:=I.tuple hq
    have hlen:=r'.length
    exact len_tuple pl (by simp only [List.size_toArray] <;> omega) ⟨.int ys.length,H,I.tok _,⟨s.toks + 1,by rw [List.size_toArray,hlen]⟩,q⟩
theorem zdc:zdr X (.type "list") (fun xs H Q=>∃ p ys,xs = [.ref p]∧(SqL X.K H p ys∨SqT X.K H p ys)∧∀ l,H l=none→Q (.ref l) (upd H l (.lst ys))):=by
  intro pins s σ H xs us Q I r h
  obtain ⟨p,ys,rfl,hq,q⟩:=h
  obtain ⟨u,rfl,rx⟩:=zdv r
  cases rx
  have fin:∀ (its:List Value),Vals ys its→ys.length ≤ sizeLine→∀ (h':Heap) (c':Nat),(∀ b o',s.heap.get? b=some o'→h'.get? b=some o') →
      h'.get? s.heap.objs.size=some { cls:=.type "list",dict:=none,data:=.seq its.toArray c',slots:=#[] }→EP X pins σ Q (.ref s.heap.objs.size) { s with heap:=h' }:=fun its r' hz h' c' kp e =>
    ⟨.ref s.heap.objs.size,_,I.laid (t':=s.toks) kp (Nat.le_refl _) (show ObjOk X.prog X.w _ h' _ (.lst ys) from ⟨hz,its,c',r',e⟩),rfl,q _ (I.hok.fresh (Nat.le_refl _))⟩
  rcases hq with hq | hq
  · obtain ⟨its,r',pl,hz⟩:=I.list hq
    have hlen:=r'.length
    obtain ⟨o,ho,hc,n,hd⟩:=pl.isList
    exact call_list_seq p (.inl rfl) ho hc hd (fun h' c' kp e=>fin its r' hz h' c' kp e) (by simp only [List.size_toArray] <;> omega)
  · obtain ⟨its,r',pl,hz⟩:=I.tuple hq
    have hlen:=r'.length
    obtain ⟨o,ho,hc,n,hd⟩:=pl
    exact call_list_seq p (.inr rfl) ho hc hd (fun h' c' kp e=>fin its r' hz h' c' kp e) (by simp only [List.size_toArray] <;> omega)
def tyV (K:PySem.W.Frag) (T:String) (x:V) (H:Hp):Prop:=match x with
  | .str _=>T = "str"
  | .int _=>T = "int"
  | .ref p=>(T = "list"∧∃ xs,SqL K H p xs)∨(T = "tuple"∧∃ o,K.lookup p=some o∧o.cls = .type "tuple"∧o.dict=none) ∨
      (T = "dict"∧((∃ kvs,H p=some (.dK kvs))∨∃ kvs,H p=some (.dT kvs)))∨(T = "set"∧∃ S n,H p=some (.set S n))
  | _=>False
theorem zp0 {pins:List (Addr × Obj)} {σ:St} {H:Hp} {s:Shared} {T:String} {x:V} {v:Value} (I:Inv X pins σ H s) (r:RelV x v) (ty:tyV X.K T x H) :
    s.TypeIs v T∧∀ a,v = .ref a→∃ ob,s.heap.get? a=some ob∧ob.dict=none:=by
  cases x with
  | str z =>
    obtain ⟨t,rfl⟩:=r
    cases (show T = "str" from ty)
    exact ⟨typeIs_str s z t,fun _ e=>nomatch e⟩
  | int i =>
    obtain ⟨t,rfl⟩:=r
    cases (show T = "int" from ty)
    exact ⟨typeIs_int s i t,fun _ e=>nomatch e⟩
  | ref p =>
    cases r
    rcases ty with ⟨rfl,xs,hq⟩ | ⟨rfl,o,hk,hc,hd⟩ | ⟨rfl,hk⟩ | ⟨rfl,S,n,hk⟩
    · obtain ⟨its,_,pl,_⟩:=I.list hq
      refine ⟨pl.isList.typeIs,fun a e=>?_⟩
      cases e
      obtain ⟨o,n,e,c,hd,_⟩:=pl
      exact ⟨o,e,hd⟩
    · refine ⟨⟨o,I.kIn p o hk,hc⟩,fun a e=>?_⟩
      cases e
      exact ⟨o,I.kIn _ o hk,hd⟩
    · have z:∃ o,s.heap.get? p=some o∧o.ExactDict:=by
        rcases hk with ⟨kvs,hk⟩ | ⟨kvs,hk⟩
        · obtain ⟨_,_,_,_,o,_,_,e,ex,_⟩:=I.hok p _ hk
          exact ⟨o,e,ex⟩
        · obtain ⟨_,_,_,_,o,_,_,e,ex,_⟩:=I.hok p _ hk
          exact ⟨o,e,ex⟩
      obtain ⟨o,e,ex⟩:=z
      refine ⟨⟨o,e,ex.1⟩,fun a e2=>?_⟩
      cases e2
      exact ⟨o,e,ex.2.1⟩
    · obtain ⟨o,_,_,_,e,ex,_⟩:=I.hok p _ hk
      refine ⟨⟨o,e,ex.1⟩,fun a e2=>?_⟩
      cases e2
      exact ⟨o,e,ex.2.1⟩
  | _=>exact False.elim ty
def tBM (K:PySem.W.Frag) (T:String) (r:V→List V→Hp→VK→Prop) (to:TE) (t:TA):TE:=fun σ H Q=>to σ H fun x H1=>tyV K T x H1∧t σ H1 fun xs H2=>r x xs H2 Q
variable {o e:Expr} {es:List Expr} {to:TE} {t:TA} {name:Str} {apos cpos:Pos} {T id:String} {r:V→List V→Hp→VK→Prop}
theorem znG (pa:PlainAttrs T) (slot:Slot T name id) (hty:typeOf (.builtin id)=pure (.type "method_descriptor")) (hm:MtR X id r) (ho:PE X o to) (ha:PA X (e :: es) t)
    (hbase:attributeBase o name X.env (eval o X.env)=eval o X.env:=by rfl)
    (hfew:((backTo cpos (starEach (e :: es) X.env)).all (fun x=>!x.1) && (backToKw cpos (keywordEach [] X.env)).all (fun x=>x.1.isSome)
      && decide ((e :: es).length + ([]:List Keyword).length + (if ([]:List Keyword).isEmpty then 0 else 1) < 30))=true:=by rfl)
    (hline:(apos.endLine == cpos.line)=true:=by rfl) (hs:starEach (e :: es) X.env=(false,eval e X.env) :: starEach es X.env:=by rfl) (hplain:(backTo cpos (starEach es X.env)).any (·.1)=false:=by rfl) :
    PE X (.Call (.Attribute o name apos) (e :: es) [] cpos) (tBM X.K T r to t):=by
  intro pins s σ H Q I h
  refine wpAny_Call_method_late hbase hfew hline rfl (thn (ho pins s σ H _ I h) fun v s1 ⟨x,H1,I1,r1,ty,q1⟩=>?_)
  obtain ⟨h1,h2⟩:=zp0 I1 r1 ty
  refine ⟨T,id,pa,slot,hty,h1,h2,?_⟩
  have hA:=ha cpos pins s1 σ H1 _ I1 q1
  rw [hs] at hA ⊢
  refine Calls.callWith_builtin (by show (false || (backTo cpos (starEach es X.env)).any (·.1))=false; rw [hplain] <;> rfl) (Calls.evalArgs_plain ?_)
  exact thn hA fun us s2 ⟨vs,H2,I2,r2,q2⟩=>hm pins s2 σ H2 x vs v us Q I2 r1 r2 q2
end
end L2
namespace L2
open PySem PySem.Spec PyProof.Rows
def MtM (X:Cx) (id:String) (r:V→List V→Hp→VK→Prop):Prop :=
  ∀ (pins:List (Addr × Obj)) (s:Shared) (σ:St) (H:Hp) (x:V) (xs:List V) (v:Value) (us:List Value) (Q:VK),Inv X pins σ H s→RelV x v→Vals xs us→r x xs H Q →
    wpAny (model X.prog X.w) X.A (call (.builtin id) (v :: us)) (EP X pins σ Q) X.xe s
theorem Vals.one:∀ {x:V} {us:List Value},Vals [x] us→∃ u,us = [u]∧RelV x u
  | _,_,.cons r .nil=>⟨_,rfl,r⟩
section
variable {X:Cx} {pins:List (Addr × Obj)} {σ:St} {H:Hp} {s:Shared} {l b:Addr} {xs ys zs:List V}
theorem Inv.lset {its its':List Value} {n:Nat} {f:Array Value→Array Value} {t':Nat} (I:Inv X pins σ H s) (hH:H l=some (.lst xs))
    (e:s.heap.get? l=some { cls:=.type "list",data:=.seq its.toArray n }) (hf:f its.toArray=its'.toArray) (hv:Vals ys its') (hz:ys.length ≤ sizeLine) :
    Inv X pins σ (upd H l (.lst ys)) { s with heap:=s.heap.update l (Obj.mapSeq f),toks:=t' }:=by
  have q:=PySem.IsL.update e f
  rw [hf] at q
  refine I.write (x:=l) (e:=l) (by rw [hH]; exact trivial) (.inl rfl) (fun b' u hb hu=>(Heap.get?_update_other s.heap (Obj.mapSeq f) (Ne.symm hb)).trans hu) ⟨_,q⟩ ?_
  exact ⟨hz,its',_,hv,q⟩
theorem Inv.lnew {its:List Value} {t':Nat} (I:Inv X pins σ H s) (hv:Vals ys its) (hz:ys.length ≤ sizeLine) :
    Inv X pins σ (upd H s.heap.objs.size (.lst ys)) { s with heap:=s.heap.push { cls:=.type "list",data:=.seq its.toArray },toks:=t' } :=
  I.laid (fun _ _ q=>Heap.get?_push_of_some _ q) (Nat.le_refl _) ⟨hz,its,0,hv,Heap.get?_push_size _ rfl⟩
theorem Inv.fresh (I:Inv X pins σ H s):H s.heap.objs.size=none:=I.hok.fresh (Nat.le_refl _)
theorem Inv.lstM (I:Inv X pins σ H s) (hH:H l=some (.lst xs)):xs.length ≤ sizeLine∧∃ (its:List Value) (n:Nat),Vals xs its∧xs.length=its.length∧s.heap.get? l=some { cls:=.type "list",data:=.seq its.toArray n }:=by
  obtain ⟨z,its,n,r,e⟩:=I.hok l _ hH
  exact ⟨z,its,n,r,r.length,e⟩
end
section
variable {X:Cx}
def zm0:V→List V→Hp→VK→Prop:=fun x vs H Q=>∃ l xs y,x = .ref l∧vs = [y]∧H l=some (.lst xs)∧xs.length < sizeLine∧Q .non (upd H l (.lst (xs ++ [y])))
theorem ze1:MtM X "list.append" zm0:=by
  intro pins s σ H x vs v us Q I rx rv h
  obtain ⟨l,xs,y,rfl,rfl,hH,hz,q⟩:=h
  cases rx
  obtain ⟨u,rfl,ru⟩:=rv.one
  obtain ⟨z,its,n,r,hl,e⟩:=I.lstM hH
  refine call_meets F.slot_list_append ⟨_,e,rfl⟩ F.entry_list_append (F.args_list_append_2 _ _) (PySem.list_append l its.toArray n u (by rw [List.size_toArray]; omega)) ⟨e,?_⟩
  refine ⟨.non,_,I.lset (its':=its ++ [u]) hH e (by simp) (r.append (.cons ru .nil)) ?_,rfl,q⟩
  rw [List.length_append,List.length_singleton]
  omega
end
section
variable {prog:Program} {w:World} {A:Around} {E:Value→Shared→Prop} {s:Shared}
end
section
variable {X:Cx}
end
end L2
namespace L2
open PySem PySem.Spec PyProof.Rows
section
variable {κ:Type} [DecidableEq κ]
def valV (kvs:List (κ × V)) (k:κ):Option V:=(kvs.find? fun kv=>decide (kv.1=k)).map (·.2)
def putK (kvs:List (κ × V)) (k:κ) (v:V):List (κ × V) :=
  if (kvs.any fun kv=>decide (kv.1=k))=true then kvs.map (fun kv=>if kv.1=k then (kv.1,v) else kv) else kvs ++ [(k,v)]
theorem zhM {p:κ × V} {r:List (κ × V)} {k:κ} (e:p.1=k):valV (p :: r) k=some p.2:=by simp [valV,List.find?_cons,e]
theorem zhP {p:κ × V} {r:List (κ × V)} {k:κ} (e:¬ p.1=k):valV (p :: r) k=valV r k:=by simp [valV,List.find?_cons,e]
theorem zkk (k:κ):∀ kvs:List (κ × V),(kvs.any fun kv=>decide (kv.1=k))=(valV kvs k).isSome
  | []=>rfl
  | p :: r=>by
    rw [List.any_cons]
    by_cases e:p.1=k
    · simp only [zhM e,decide_eq_true e,Bool.true_or,Option.isSome_some]
    · rw [zhP e,decide_eq_false e,Bool.false_or]; exact zkk k r
theorem zgz (kvs:List (κ × V)) (k:κ) (v:V):(putK kvs k v).length ≤ kvs.length + 1:=by
  unfold putK
  split
  · rw [List.length_map]; omega
  · rw [List.length_append,List.length_cons,List.length_nil]; omega
theorem RelO.isSome_eq {o:Option V} {u:Option Value} (r:RelO o u):o.isSome=u.isSome:=by
  cases o with
  | none=>cases u with
    | none=>rfl
    | some _=>exact (show False from r).elim
  | some _=>cases u with
    | none=>exact (show False from r).elim
    | some _=>rfl
theorem RelO.getD {o:Option V} {u:Option Value} {d:V} {d':Value} (r:RelO o u) (rd:RelV d d'):RelV (o.getD d) (u.getD d'):=by
  cases o with
  | none=>cases u with
    | none=>exact rd
    | some _=>exact (show False from r).elim
  | some _=>cases u with
    | none=>exact (show False from r).elim
    | some _=>exact r
theorem KV.val {kvs:List (κ × V)} {vs:List (κ × Value)} (r:KV kvs vs) (k:κ):RelO (valV kvs k) (valueAt vs k):=by
  unfold KV at r
  induction r with
  | nil=>exact True.intro
  | @cons p q ps qs h t ih =>
    obtain ⟨h1,h2⟩:=h
    by_cases e:p.1=k
    · have e':q.1=k:=h1.symm.trans e
      have b:valueAt (q :: qs) k=some q.2:=by simp [valueAt,List.find?_cons,e']
      rw [zhM e,b]; exact h2
    · have e':¬ q.1=k:=fun z=>e (h1.trans z)
      have b:valueAt (q :: qs) k=valueAt qs k:=by simp [valueAt,List.find?_cons,e']
      rw [zhP e,b]; exact ih
theorem KV.any {kvs:List (κ × V)} {vs:List (κ × Value)} (r:KV kvs vs) (k:κ):(kvs.any fun kv=>decide (kv.1=k))=vs.any fun kv=>decide (kv.1=k):=by
  unfold KV at r
  induction r with
  | nil=>rfl
  | cons h t ih=>rw [List.any_cons,List.any_cons,ih,h.1]
theorem KV.repl {kvs:List (κ × V)} {vs:List (κ × Value)} (r:KV kvs vs) (k:κ) {y:V} {u:Value} (ry:RelV y u) :
    KV (kvs.map fun kv=>if kv.1=k then (kv.1,y) else kv) (vs.map fun kv=>if kv.1=k then (kv.1,u) else kv):=by
  unfold KV at r ⊢
  induction r with
  | nil=>exact .nil
  | @cons p q ps qs h t ih =>
    rw [List.map_cons,List.map_cons]
    refine .cons ?_ ih
    obtain ⟨h1,h2⟩:=h
    by_cases e:p.1=k
    · rw [if_pos e,if_pos (h1.symm.trans e)]; exact ⟨h1,ry⟩
    · rw [if_neg e,if_neg (fun z=>e (h1.trans z))]; exact ⟨h1,h2⟩
theorem KV.put {kvs:List (κ × V)} {vs:List (κ × Value)} (r:KV kvs vs) (k:κ) {y:V} {u:Value} (ry:RelV y u):KV (putK kvs k y) (stored vs k u):=by
  unfold putK stored
  rw [r.any k]
  by_cases e:(vs.any fun kv=>decide (kv.1=k))=true
  · rw [if_pos e,if_pos e]; exact r.repl k ry
  · rw [if_neg e,if_neg e]; exact Paired.snoc r ⟨rfl,ry⟩
theorem KV.length {kvs:List (κ × V)} {vs:List (κ × Value)} (r:KV kvs vs):kvs.length=vs.length:=Paired.length r
end
theorem zpq {P:Program} {w:World} {k:Key} {u:Value} (r:RelV (kV k) u):(zbw P w).is k u=true:=by
  cases k with
  | inl i=>obtain ⟨t,e⟩:=(show ∃ t,u=Value.int i t from r); subst e; exact zjv P w i t
  | inr x=>obtain ⟨t,e⟩:=(show ∃ t,u=Value.str x t from r); subst e; exact zjq P w x t
theorem ziY {P:Program} {w:World}:∀ {ks:List Key} {us:List Value},Vals (ks.map kV) us→ItemsAre (zbw P w) ks us
  | [],_,r=>by rw [List.map_nil] at r; cases r; exact .nil
  | k :: ks,_,r=>by
    rw [List.map_cons] at r
    cases r with
    | cons h t=>exact .cons (zpq h) (ziY t)
abbrev KT (H:Hp):List (List Key × V)→List (List Key × Addr × Value)→Prop:=Paired fun p q=>p.1=q.1∧H q.2.1=some (.tup (p.1.map kV))∧RelV p.2 q.2.2
theorem KT.val {H:Hp} {kvs:List (List Key × V)} {xs:List (List Key × Addr × Value)} (r:KT H kvs xs) (k:List Key):RelO (valV kvs k) ((atKey xs k).map (·.2)):=by
  induction r with
  | nil=>exact True.intro
  | @cons p q ps qs h t ih =>
    obtain ⟨h1,_,h2⟩:=h
    by_cases e:p.1=k
    · have e':q.1=k:=h1.symm.trans e
      have b:atKey (q :: qs) k=some q.2:=by simp [atKey,List.find?_cons,e']
      rw [zhM e,b]; exact h2
    · have e':¬ q.1=k:=fun z=>e (h1.trans z)
      have b:atKey (q :: qs) k=atKey qs k:=by simp [atKey,List.find?_cons,e']
      rw [zhP e,b]; exact ih
theorem KT.repl {H:Hp} {kvs:List (List Key × V)} {xs:List (List Key × Addr × Value)} (r:KT H kvs xs) (k:List Key) {y:V} {u:Value} (ry:RelV y u) :
    KT H (kvs.map fun kv=>if kv.1=k then (kv.1,y) else kv) (xs.map (putAt k u)):=by
  induction r with
  | nil=>exact .nil
  | @cons p q ps qs h t ih =>
    rw [List.map_cons,List.map_cons]
    refine .cons ?_ ih
    obtain ⟨h1,h2,h3⟩:=h
    unfold putAt
    by_cases e:p.1=k
    · rw [if_pos e,if_pos (h1.symm.trans e)]; exact ⟨h1,h2,ry⟩
    · rw [if_neg e,if_neg (fun z=>e (h1.trans z))]; exact ⟨h1,h2,h3⟩
theorem KT.put {H:Hp} {kvs:List (List Key × V)} {xs:List (List Key × Addr × Value)} (r:KT H kvs xs) (k:List Key) {b:Addr} {y:V} {u:Value} (hb:H b=some (.tup (k.map kV))) (ry:RelV y u) :
    KT H (putK kvs k y) (storedH xs k b u):=by
  have e:(kvs.any fun kv=>decide (kv.1=k))=(atKey xs k).isSome:=by
    rw [zkk,(r.val k).isSome_eq,Option.isSome_map]
  unfold putK storedH
  rw [e]
  by_cases q:(atKey xs k).isSome=true
  · rw [if_pos q,if_pos q]; exact r.repl k ry
  · rw [if_neg q,if_neg q]; exact Paired.snoc r ⟨rfl,hb,ry⟩
theorem KT.keeps {H H':Hp} {kvs:List (List Key × V)} {xs:List (List Key × Addr × Value)} (r:KT H kvs xs) (ht:∀ b ys,H b=some (.tup ys)→H' b=some (.tup ys)):KT H' kvs xs :=
  Paired.mapP r fun _ _ z=>⟨z.1,ht _ _ z.2.1,z.2.2⟩
section
variable {P:Program} {w:World} {H:Hp} {h:Heap} {a:Addr}
theorem zqn {u:HO} (ok:HOk P w H h) (e:Rd H a u):ObjOk P w H h a u:=e.ok ok
theorem zi9 {kvs:List (Key × V)} (ok:HOk P w H h) (e:Rd H a (.dK kvs)):kvs.length ≤ sizeLine∧(a == sysModules)=false∧∃ vs,KV kvs vs∧h.DictOf (zbw P w) a vs :=
  show ObjOk P w H h a (.dK kvs) from zqn ok e
theorem zrf {kvs:List (Key × V)} (ok:HOk P w H h) (e:H a=some (.dK kvs)):kvs.length ≤ sizeLine∧(a == sysModules)=false∧∃ vs,KV kvs vs∧h.DictOf (zbw P w) a vs:=zi9 ok (.inl e)
theorem zmU {ks:List Key} (ok:HOk P w H h) (e:H a=some (.tup (ks.map kV))):(tupleKind (zbw P w)).is h ks a:=by
  obtain ⟨_,its,r,o,h1,h2,n,h3⟩:=(show ObjOk P w H h a (.tup (ks.map kV)) from ok a _ e)
  exact ⟨o,its.toArray,n,h1,h2,h3,by simpa using ziY r⟩
theorem zpC {kvs:List (List Key × V)} (ok:HOk P w H h) (e:Rd H a (.dT kvs)):kvs.length ≤ sizeLine∧(a == sysModules)=false ∧
    ∃ xs,KT H kvs xs∧h.DictOfH (tupleKind (zbw P w)) a xs:=by
  obtain ⟨z,y,xs,r,o,es,ep,h1,h2,h3,h4,h5⟩:=(show ObjOk P w H h a (.dT kvs) from zqn ok e)
  refine ⟨z,y,xs,r,o,es,ep,h1,h2,h3,h4,fun x hx=>?_,h5⟩
  have all:∀ {l:List (List Key × V)} {m:List (List Key × Addr × Value)},KT H l m→∀ x ∈ m,(tupleKind (zbw P w)).is h x.1 x.2.1:=by
    intro l m q
    induction q with
    | nil=>intro x hx; exact nomatch hx
    | @cons p q ps qs hq t ih =>
      intro x hx
      rcases List.mem_cons.mp hx with e | hx
      · subst e
        exact zmU ok (by rw [← hq.1]; exact hq.2.1)
      · exact ih x hx
  exact all r x hx
theorem zrd {kvs:List (List Key × V)} (ok:HOk P w H h) (e:H a=some (.dT kvs)):kvs.length ≤ sizeLine∧(a == sysModules)=false ∧
    ∃ xs,KT H kvs xs∧h.DictOfH (tupleKind (zbw P w)) a xs:=zpC ok (.inl e)
end
def DGet (H:Hp) (a:Addr) (y:V) (r:Option V):Prop :=
  (∃ kvs k,Rd H a (.dK kvs)∧y=kV k∧r=valV kvs k)∨∃ kvs k b,Rd H a (.dT kvs)∧y = .ref b∧H b=some (.tup (k.map kV))∧r=valV kvs k
def DPut (H:Hp) (a:Addr) (y v:V) (H':Hp):Prop :=
  (∃ kvs k,H a=some (.dK kvs)∧y=kV k∧kvs.length < sizeLine∧H'=upd H a (.dK (putK kvs k v))) ∨
  ∃ kvs k b,H a=some (.dT kvs)∧y = .ref b∧H b=some (.tup (k.map kV))∧kvs.length < sizeLine∧H'=upd H a (.dT (putK kvs k v))
theorem DGet.k {H:Hp} {a:Addr} {kvs:List (Key × V)} {k:Key} (e:H a=some (.dK kvs)):DGet H a (kV k) (valV kvs k):=.inl ⟨kvs,k,.inl e,rfl,rfl⟩
theorem DPut.k {H:Hp} {a:Addr} {kvs:List (Key × V)} {k:Key} {v:V} (e:H a=some (.dK kvs)) (hl:kvs.length < sizeLine):DPut H a (kV k) v (upd H a (.dK (putK kvs k v))):=.inl ⟨kvs,k,e,rfl,hl,rfl⟩
section
variable {X:Cx} {pins:List (Addr × Obj)} {σ:St} {H:Hp} {s:Shared} {a:Addr} {y v:V} {u r:Value} {o:Option V} {A:Around} {E:Value→Shared→Prop}
theorem Inv.big (I:Inv X pins σ H s):sysModules < s.heap.objs.size:=by
  have h:mainGlobals < s.heap.objs.size:=(I.mod.glob.keeps I.bk).lt
  exact Nat.lt_trans (by decide) h
theorem zm4 {h':Heap} {t':Nat} {ob:HO} (I:Inv X pins σ H s) (mu:Mut (H a)) (hs:Heap.SameBut a s.heap h') (he:∃ q,h'.get? a=some q) (new:ObjOk X.prog X.w (upd H a ob) h' a ob) :
    Inv X pins σ (upd H a ob) { s with heap:=h',toks:=t' } :=
  I.write (x:=a) (e:=a) mu (.inl rfl) (fun b q hb z=>(hs.2 b hb).trans z) he new
theorem zpN {P:Program} {w:World} {H':Hp} {h':Heap} {kvs:List (Key × V)} {vs:List (Key × Value)} (z:kvs.length ≤ sizeLine) (hd:(a == sysModules)=false) (rel:KV kvs vs) (dd:h'.DictOf (zbw P w) a vs) :
    ObjOk P w H' h' a (.dK kvs):=⟨z,hd,vs,rel,dd⟩
theorem zlQ {H':Hp} {Q:Unit→Shared→Prop} (hu:A.units + 1 < cLine) (I:Inv X pins σ H s) (g:DPut H a y v H') (ry:RelV y u) (rv:RelV v r) (h:∀ s',Inv X pins σ H' s'→Q () s') :
    wpAny (model X.prog X.w) A (setItem (.ref a) u r) Q E s:=by
  rcases g with ⟨kvs,k,e,ey,l,eH⟩ | ⟨kvs,k,b,e,ey,eb,l,eH⟩
  · subst ey eH
    obtain ⟨z,hd,vs,rel,dd⟩:=zrf I.hok e
    have hz:vs.length ≤ sizeLine:=by rw [← rel.length]; exact z
    have hl:(putK kvs k v).length ≤ sizeLine:=by have:=zgz kvs k v; omega
    refine wpAny_setItem_pairs (hsz:=hz) (zpq ry) dd fun h' dd' hs=>h _ ?_
    have he:∃ q,h'.get? a=some q:=let ⟨q,_,_,hq,_⟩:=dd'; ⟨q,hq⟩
    exact zm4 I (by rw [e]; exact True.intro) hs he (zpN hl hd (rel.put k rv) dd')
  · subst ey eH
    cases (show u=Value.ref b from ry)
    obtain ⟨z,hd,xs,rel,dd⟩:=zrd I.hok e
    have hz:xs.length ≤ sizeLine:=by rw [← Paired.length rel]; exact z
    have hl:(putK kvs k v).length ≤ sizeLine:=by have:=zgz kvs k v; omega
    refine wpAny_setItem_heap (hsz:=hz) (tupleKind_room_in1 hu) (zmU I.hok eb) dd fun h' dd' hs=>h _ ?_
    obtain ⟨q,es,ep,hq,h2,h3,h4,_,h5⟩:=dd'
    refine zm4 I (by rw [e]; exact True.intro) hs ⟨q,hq⟩ ⟨hl,hd,_,(rel.put k eb rv).keeps fun c ys ec=>?_,q,es,ep,hq,h2,h3,h4,h5⟩
    rw [zau (zq1 ec e (fun z=>nomatch z))]
    exact ec
end
section
variable {X:Cx} {pins:List (Addr × Obj)} {σ:St} {H:Hp} {s:Shared} {a:Addr} {kvs:List (Key × V)} {k:Key} {u:Value} {A:Around} {E:Value→Shared→Prop}
theorem zrg {Q:Value→Shared→Prop} (I:Inv X pins σ H s) (e:Rd H a (.dK kvs)) (h:∀ t s',Inv X pins σ H s'→Q (.int kvs.length t) s'):wpAny (model X.prog X.w) A (call (.builtin "len") [.ref a]) Q E s:=by
  obtain ⟨z,hd,vs,rel,dd⟩:=zi9 I.hok e
  refine call_len_dict hd dd (by rw [← rel.length]; rw [sizeLine_eq] at z; omega) ?_
  rw [← rel.length]
  exact h _ _ (I.tok _)
end
def zqb (td ty tv:TE):TS:=fun D σ H=>tv σ H fun v H1=>td σ H1 fun x H2=>ty σ H2 fun y H3=>∃ a H4,x = .ref a∧DPut H3 a y v H4∧D.nx σ H4
section
variable {X:Cx} {o i e value:Expr} {pos pos' tpos:Pos} {td ty tv:TE}
theorem zpt (hu:X.A.units + 1 < cLine) (ho:PE X o td) (hi:PE X i ty) (hv:PE X value tv) (hs:swapsWith value (some (.Subscript o i pos')) pos.line X.env=pure false) :
    PS X (.Assign [.Subscript o i pos'] value pos) (zqb td ty tv):=by
  intro pins s σ H D I h
  refine wpAny_Assign_Subscript (thn (hv pins s σ H _ I h) fun r s1 ⟨v,H1,I1,rv,q1⟩=>thn (ho pins s1 σ H1 _ I1 q1) fun u s2 ⟨x,H2,I2,rx,q2⟩=>thn (hi pins s2 σ H2 _ I2 q2) fun iv s3 ⟨y,H3,I3,ry,a,H4,ex,g,q3⟩=>?_) hs
  subst ex
  obtain rfl:u=Value.ref a:=rx
  exact zlQ hu I3 g ry rv fun s4 I4=>⟨σ,H4,I4,q3⟩
end
theorem znT {P:Program} {w:World} {H:Hp} (h:Heap) (hb:sysModules < h.objs.size):ObjOk P w H (h.push { cls:=.type "dict",data:=.dict #[] }) h.objs.size (.dK []) :=
  ⟨Nat.zero_le _,beq_eq_false_iff_ne.mpr (Ne.symm (Nat.ne_of_lt hb)),[],.nil,Heap.DictOf.new h⟩
def zot:TE:=fun _ H Q=>∀ p,H p=none→Q (.ref p) (upd H p (.dK []))
section
variable {X:Cx} {pos:Pos}
theorem zno:PE X (.Dict [] [] pos) zot:=fun pins s σ H Q I h =>
  wpAny_Dict_empty ⟨.ref s.heap.objs.size,_,I.laid (a:=s.heap.objs.size) (o:=.dK []) (t':=s.toks) (fun _ _ q=>Heap.get?_push_of_some _ q) (Nat.le_refl _) (znT s.heap I.big),rfl,h _ (I.hok.fresh (Nat.le_refl _))⟩
end
structure M2 (X:Cx) (o:Expr) (m:Str) (apos:Pos) (e f:Expr) (cpos:Pos):Prop where
  base:attributeBase o m X.env (eval o X.env)=eval o X.env
  few:((backTo cpos (starEach [e,f] X.env)).all (fun x=>!x.1) && (backToKw cpos (keywordEach [] X.env)).all (fun x=>x.1.isSome)
    && decide (([e,f]:List Expr).length + ([]:List Keyword).length + (if ([]:List Keyword).isEmpty then 0 else 1) < 30))=true
  line:(apos.endLine == cpos.line)=true
  trees:backTo cpos (starEach [e,f] X.env) = [(false,eval e X.env),(false,eval f X.env)]
def IsD (H:Hp) (a:Addr):Prop:=(∃ kvs,Rd H a (.dK kvs))∨∃ kvs,Rd H a (.dT kvs)
theorem zlo {X:Cx} {pins:List (Addr × Obj)} {σ:St} {H:Hp} {s:Shared} {a:Addr} (I:Inv X pins σ H s) (d:IsD H a) :
    s.TypeIs (.ref a) "dict"∧(∀ b,Value.ref a = .ref b→∃ ob,s.heap.get? b=some ob∧ob.dict=none)∧(a == sysModules)=false:=by
  rcases d with ⟨kvs,e⟩ | ⟨kvs,e⟩
  · obtain ⟨_,hd,vs,_,dd⟩:=zi9 I.hok e
    refine ⟨dd.typeIs,fun b q=>?_,hd⟩
    cases q
    obtain ⟨ob,_,_,h1,h2,_⟩:=dd
    exact ⟨ob,h1,h2.2.1⟩
  · obtain ⟨_,hd,xs,_,dd⟩:=zpC I.hok e
    refine ⟨dd.typeIs,fun b q=>?_,hd⟩
    cases q
    obtain ⟨ob,_,_,h1,h2,_⟩:=dd
    exact ⟨ob,h1,h2.2.1⟩
section
variable {X:Cx} {pins:List (Addr × Obj)} {σ:St} {H:Hp} {s:Shared} {a:Addr} {y d:V} {u r:Value} {o:Option V} {A:Around} {E:Value→Shared→Prop}
theorem zqB {Q:Value→Shared→Prop} (hu:A.units + 1 < cLine) (I:Inv X pins σ H s) (g:DGet H a y o) (ry:RelV y u) (rd:RelV d r) (h:∀ w' s',Inv X pins σ H s'→RelV (o.getD d) w'→Q w' s') :
    wpAny (model X.prog X.w) A (call (.builtin "dict.get") [.ref a,u,r]) Q E s:=by
  rcases g with ⟨kvs,k,e,ey,l⟩ | ⟨kvs,k,b,e,ey,eb,l⟩
  · subst ey
    obtain ⟨z,hd,vs,rel,dd⟩:=zi9 I.hok e
    refine call_meetsIn PySem.F.slot_dict_get dd.typeIs PySem.F.entry_dict_get (PySem.F.args_dict_get_3 _ _ _) (meets_dict_get_default (zbw X.prog X.w) a (zpq ry) hd r) ⟨_,dd.mapOf,h _ _ (I.tok _) ?_⟩
    rw [l]
    exact (rel.val k).getD rd
  · subst ey
    cases (show u=Value.ref b from ry)
    obtain ⟨z,hd,xs,rel,dd⟩:=zpC I.hok e
    refine call_meetsIn PySem.F.slot_dict_get dd.typeIs PySem.F.entry_dict_get (PySem.F.args_dict_get_3 _ _ _) (meetsH_dict_get_default (tupleKind (zbw X.prog X.w)) a b hd r) ⟨tupleKind_room_in1 hu,k,xs,zmU I.hok eb,dd,h _ _ (I.tok _) ?_⟩
    rw [l]
    exact (rel.val k).getD rd
end
def zoE (td ty tx:TE):TE:=fun σ H Q=>td σ H fun x H1=>∃ a,x = .ref a∧IsD H1 a∧ty σ H1 fun y H2=>tx σ H2 fun z H3=>∃ o,DGet H3 a y o∧Q (o.getD z) H3
section
variable {X:Cx} {o e f:Expr} {apos cpos:Pos} {td ty tx:TE}
theorem zni (hu:X.A.units + 1 < cLine) (ho:PE X o td) (he:PE X e ty) (hf:PE X f tx) (m:M2 X o "get" apos e f cpos):PE X (.Call (.Attribute o "get" apos) [e,f] [] cpos) (zoE td ty tx):=by
  intro pins s σ H Q I h
  refine wpAny_Call_method m.base m.few m.line PySem.F.plainAttrs_dict PySem.F.slot_dict_get PySem.F.type_dict_get (thn (ho pins s σ H _ I h) fun u s1 ⟨x,H1,I1,rx,a,ex,d,q1⟩=>?_)
  subst ex
  obtain rfl:u=Value.ref a:=rx
  obtain ⟨t1,t2,_⟩:=zlo I1 d
  refine ⟨t1,t2,?_⟩
  rw [m.trees]
  refine Calls.callWith_builtin rfl (Calls.evalArgs_plain (Calls.spliced_cons (thn (he pins s1 σ H1 _ I1 q1) fun iv s2 ⟨y,H2,I2,ry,q2⟩ =>
    Calls.spliced_cons (thn (hf pins s2 σ H2 _ I2 q2) fun fv s3 ⟨z,H3,I3,rz,ov,g,q3⟩=>Calls.spliced_nil ?_))))
  exact zqB hu I3 g ry rz fun w' s4 I4 rw'=>⟨_,H3,I4,rw',q3⟩
end
section
variable {X:Cx} {pins:List (Addr × Obj)} {σ:St} {H:Hp} {s:Shared} {a:Addr} {kvs:List (Key × V)} {A:Around} {E:Value→Shared→Prop}
end
section
variable {X:Cx} {pins:List (Addr × Obj)} {σ:St} {H:Hp} {s:Shared} {a:Addr} {y:V} {u:Value} {A:Around} {E:Value→Shared→Prop}
end
end L2
namespace Att
open PySem PySem.W PySem.Calls PyProof.Rows
theorem zgN {P:Params} {h:Heap}:∀ (ns:List Int) (vs:List Value),WellAll P h vs (ns.map WData.int)→IntsAre vs ns:=by
  intro ns
  induction ns with
  | nil =>
    intro vs w
    rw [List.map_nil] at w
    cases w
    exact .nil
  | cons n ns ih =>
    intro vs w
    rw [List.map_cons] at w
    cases w with
    | cons a b =>
      cases a
      exact .cons _ _ (ih _ b)
theorem zlR {l:OpenLaw} {n:Nat} (hn:l.most=some n) {P:Params} {h:Heap} {args:List WData} {vals:List Value}
    (hpre:l.row.toRowW.claim.pre args=true) (hwl:WellAll P h vals args) :
    ∃ a vs ns,vals = [Value.ref a]∧args = [WData.list (ns.map WData.int)]∧h.get? a=some { cls:=.type "list",data:=.seq vs.toArray }∧IntsAre vs ns∧ns.length ≤ n:=by
  have hsh:WShape.hasAll [] args [.list .int]=true:=(pre_splitW hpre).1
  have hc:l.pre.holds [] { args:=args }=true:=(pre_splitW hpre).2
  obtain ⟨d,r,rfl,h1,h2⟩:=hasAllW_cons hsh
  obtain rfl:=hasAllW_nil h2
  obtain ⟨xs,rfl,h3⟩:=hasW_list h1
  obtain ⟨ns,rfl⟩:=items_int h3
  have hlen:ns.length ≤ n:=by
    unfold OpenLaw.pre at hc
    have h4:(WTm.not (.lt (.lit (.int (n:Int))) (.len (.arg 0)))).holds [] { args:=[.list (ns.map .int)] }=true:=by
      have h4:=(holds_andW hc).1
      rw [hn] at h4
      exact h4
    have h5:=condW_of h4 (w_not (w_lt w_lit (w_len_list (w_arg rfl))))
    rw [List.length_map] at h5
    refine Nat.le_of_not_lt fun q=>?_
    have q':(n:Int) < ((ns.length:Nat):Int):=by omega
    first
      | (rw [decide_eq_true q'] at h5; exact absurd h5 (by decide))
      | (simp at h5; omega)
  cases hwl with
  | cons w1 w2 =>
    cases w2
    cases w1 with
    | list ho hall=>exact ⟨_,_,ns,rfl,rfl,ho,zgN ns _ hall,hlen⟩
theorem zl2 (l:OpenLaw) (args:List WData):l.row.toRowW.claim.post args (.bool true) args=true :=
  postW_of (r:=l.row.toRowW) (X:=(true == true))
    (show WShape.has [] (.bool true) .bool=true by first | rfl | decide | simp [WShape.has,WShape.arms,WShape.armsAll])
    (show (WTm.eq .res (.lit (.bool true))).value [] { args:=args,res:=some (.bool true),after:=args }=some (.bool (true == true)) from w_eq_bool (w_res rfl) w_lit) rfl
theorem attach_call {l:OpenLaw} {n:Nat} {q:Program} {loose:List Str} {XP:(Str→Option Value)→Heap→Prop} {YP:World→Heap→Prop} {d:DefRec}
    (hn:l.most=some n) (hdf:d.params.defaults = [])
    (call:∀ (w:World) (s₀ s₁:Shared) (mg mb:Str→Option Value) (fa:Addr) (o:Obj) (pm cd doc:Value) (a:Addr) (vs:List Value) (ns:List Int),
      Ground q loose [] XP w s₀ mg mb s₁.heap→YP w s₁.heap →
      s₁.heap.get? fa=some o→o.data = .func (docDef d.name d.params d.body d.scope pm cd doc)→s₁.heap.CodeRec cd d.name→mg d.name=some (.ref fa) →
      s₁.heap.get? a=some { cls:=.type "list",data:=.seq vs.toArray }→IntsAre vs ns→ns.length ≤ n→s₁.gens = #[] →
      codeAny (model l.prog w) callerA (.call (.ref fa) ⟨[.ref a],[]⟩) (fun r s'=>r = .ok (.ret (.bool true))∧OldK s₁.heap s'.heap∧s'.os=s₁.os∧AllBare s'.gens) s₁) :
    WalkO q loose XP YP l.row.toRowW d [] (fun f vs=>PySem.call f vs):=by
  intro w s₀ s₁ mg mb G Y fa o pm cd doc dV kV ho hd hcd hD hmg hg args vals as hpre hlay hrd hwl hlo
  obtain rfl:dV = .none:=Dflts.none hD hdf
  obtain rfl:kV = .none:=Dflts.noKw hD
  obtain ⟨a,vs,ns,rfl,rfl,hobj,hints,hlen⟩:=zlR hn hpre hwl
  refine enter_call (codeAny_mono (call w s₀ s₁ mg mb fa o pm cd doc a vs ns G Y ho (fd_plain hd) hcd hmg hobj hints hlen hg) fun r s' hq=>?_)
  obtain ⟨rfl,h2,h3,h4⟩:=hq
  exact ⟨.inl ⟨.bool true,.bool true,[],rfl,fun _=>rfl,.bool true,zl2 l _,fun _=>⟨List.Pairwise.nil,fun _ hm=>(nomatch hm)⟩⟩,h2,h3,h4⟩
section
variable {prog:Program} {w:World} {A:Around} {E:Value→Shared→Prop} {s:Shared} {K:Frag}
end
end Att
namespace L2
open PySem PySem.Spec PyProof.Rows
theorem ziP:∀ {vs:List Value} {ns:List Int},IntsAre vs ns→Vals (ns.map V.int) vs
  | _,_,.nil=>.nil
  | _,_,.cons n t h=>.cons ⟨t,rfl⟩ (ziP h)
end L2
namespace L2
open PySem PySem.Spec PyProof.Rows
end L2
namespace L2
open PySem PySem.Spec PyProof.Rows
def zcC (s:Stmt):Arguments:=match s with
  | .FunctionDef _ a _ _ _ _ _ _ _ _=>a
  | _=>{ posonlyargs:=[],args:=[],vararg:=none,kwonlyargs:=[],kw_defaults:=[],kwarg:=none,defaults:=[] }
def zcg (s:Stmt):List Stmt:=match s with
  | .FunctionDef _ _ b _ _ _ _ _ _ _=>b
  | _=>[]
def zao (s:Stmt):Scope:=match s with
  | .FunctionDef _ _ _ _ _ _ sc _ _ _=>sc
  | _=>{ kind:=.function,names:=[],isGenerator:=false,isCoroutine:=false }
abbrev CX0:CXT:=fun _ _ _ _ _ _=>False
abbrev E0:XK:=fun _ _ _=>False
theorem za3 {X:Cx}:zhn CX0 X E0:=fun _ _ _ _ _ _ _ h=>h.elim
structure Fun (K:PySem.W.Frag) (x qual:Str) (st:Stmt) (f:Addr) (fd:FuncData):Prop where
  ex:∃ (oc:Value) (od:Option Addr) (kV doc pm:Value) (an:Option Addr) (cdv ct:Value) (osl:Array (Option Value)),
    fd=PySem.W.fnOf x qual (zcC st) (zcg st) (zao st) .none kV doc pm an cdv ct∧K.lookup f=some ⟨oc,od,.func fd,osl⟩∧PySem.W.codeIn K cdv qual=true
  kp:PySem.W.keepIn K (.ref f)=true
section
variable {P:Program} {w:World} {K:PySem.W.Frag} {mg:Str→Option Value} {base:Heap}
theorem Fun.ok {x qual:Str} {st:Stmt} {f:Addr} {fd:FuncData} {N ps:List Str} {k:Nat} {sp:Sp} (F:Fun K x qual st f fd) (S:FnScope N ps (zao st)) (len:∀ vs H Q E,sp vs H Q E→vs.length=ps.length)
    (hbody:∀ (cdv:Value) (A:Around) (outer:List Env) (s:Shared) (H:Hp) (vs:List V) (Q:VK) (E:XK),Room k (A.deeper (envOfC qual (zao st) s.heap.objs.size f cdv))→sp vs H Q E →
      ∃ t,PSs (cxOf CX0 P w K mg base N qual (zao st) f cdv A outer s H E).nox (zcg st) t∧t { nx:=fun _ H'=>Q .non H',rt:=Q } (start N vs) H):FnOk P w K mg base CX0 (k + 1) f fd ps sp:=by
  obtain ⟨oc,od,kV,doc,pm,an,cdv,ct,osl,rfl,lk,hcd⟩:=F.ex
  refine zoG lk hcd S len fun A outer s H vs Q E hr hsp=>?_
  obtain ⟨t,h,q⟩:=hbody cdv A outer s H vs Q E hr hsp
  exact ⟨t,h.nox,q⟩
theorem Fun.binds {x qual:Str} {st:Stmt} {f:Addr} {fd:FuncData} {ps:List Str} (F:Fun K x qual st f fd)
    (h:∀ (kV doc pm:Value) (an:Option Addr) (cdv ct:Value) (us:List Value),us.length=ps.length→bindArgs (PySem.W.fnOf x qual (zcC st) (zcg st) (zao st) .none kV doc pm an cdv ct) ⟨us,[]⟩=pure (ps.zip us)):Binds K fd ps []:=by
  obtain ⟨oc,od,kV,doc,pm,an,cdv,ct,osl,rfl,lk,hcd⟩:=F.ex
  exact .all (h kV doc pm an cdv ct)
theorem ziG {x qual:Str} {st:Stmt} {f:Addr} {oc:Value} {od an:Option Addr} {osl:Array (Option Value)} {kV doc pm cdv ct:Value} (l:K.lookup f=some ⟨oc,od,.func (PySem.W.fnOf x qual (zcC st) (zcg st) (zao st) .none kV doc pm an cdv ct),osl⟩)
    (c:PySem.W.codeIn K cdv qual=true) (k:PySem.W.keepIn K (.ref f)=true):Fun K x qual st f (PySem.W.fnOf x qual (zcC st) (zcg st) (zao st) .none kV doc pm an cdv ct):=⟨⟨oc,od,kV,doc,pm,an,cdv,ct,osl,rfl,l,c⟩,k⟩
end
theorem zbD {A:Around} {k:Nat} (hr:Room k A):A.units + 1 < cLine:=Nat.lt_of_le_of_lt (Nat.add_le_add_left (by decide:1 ≤ 64) _) hr.units
section
variable {X:Cx}
theorem pv (i:Nat) {x:Str} {pos:Pos} (hN:X.N[i]?=some x:=by rfl) (hv:Vis X.env.scope x:=by first | exact Or.inl rfl | exact Or.inr (Or.inl rfl) | exact Or.inr (Or.inr rfl)) (hd:(x == ("__debug__" : Str))=false:=by decide)
    (hcd:(x == ("__classdict__" : Str))=false:=by decide):PE X (.Name x pos) (tVar i):=zpS hN hv hd hcd
theorem zi4:zdr X (.builtin "len") (fun xs H Q=>∃ a kvs,xs = [V.ref a]∧H a=some (.dK kvs)∧Q (.int kvs.length) H):=by
  intro pins s σ H xs us Q I r h
  obtain ⟨a,kvs,rfl,ha,q⟩:=h
  obtain ⟨u,rfl,ru⟩:=zdv r
  cases ru
  exact zrg I (.inl ha) fun t s' I'=>⟨.int kvs.length,H,I',⟨t,rfl⟩,q⟩
end
def Same (H H':Hp):Prop:=∀ b o,H b=some o→H' b=some o
theorem Same.refl (H:Hp):Same H H:=fun _ _ h=>h
theorem Same.trans {H H1 H2:Hp} (a:Same H H1) (b:Same H1 H2):Same H H2:=fun c o h=>b c o (a c o h)
theorem Same.free {H H':Hp} (e:Same H H') {l:Addr} (h:H' l=Option.none):H l=Option.none:=by
  cases q:H l with
  | none=>rfl
  | some o =>
    rw [e l o q] at h
    cases h
theorem Same.seq {K:PySem.W.Frag} {H H':Hp} {a:Addr} {xs:List V} (e:Same H H') (h:SqL K H a xs):SqL K H' a xs:=by
  rcases h with (h | ⟨o,h⟩) | h
  · exact .inl (.inl (e _ _ h))
  · exact .inl (.inr ⟨o,e _ _ h⟩)
  · exact .inr h
section
variable {κ:Type} [DecidableEq κ]
end
end L2
namespace L2
open PySem PySem.Spec PyProof.Rows
def Fit (i:Int):Prop:=i.natAbs < 2 ^ 8000
theorem log2_lt {n k:Nat} (hk:0 < k) (h:n < 2 ^ k):n.log2 < k:=by
  by_cases h0:n=0
  · subst h0; simpa using hk
  · exact (Nat.log2_lt h0).mpr h
theorem Fit.log {i:Int} (h:Fit i):i.natAbs.log2 < 8000:=log2_lt (by decide) h
theorem Fit.bits {i:Int} (h:Fit i):Builtin.Int.intBits i ≤ 2 ^ 20:=by
  have h1:=h.log
  have h2:(8000:Nat) ≤ 2 ^ 20:=by decide
  unfold Builtin.Int.intBits
  split <;> omega
section
variable {X:Cx}
theorem zbs:OpR X (binaryOp .Mult) (rI (fun i j=>Fit i∧Fit j) fun i j=>.int (i * j)):=opI fun _ _ _ _ _ _ _ hc q=>mul_int q (.of_bits hc.1.bits hc.2.bits)
theorem zbd:OpR X (binaryOp .FloorDiv) (rI (fun _ j=>j ≠ 0∧Fit j) fun i j=>.int (i.fdiv j)):=opI fun _ _ _ _ _ _ _ hc q =>
  floordiv_int hc.1 q (.inl (PyProof.noPylong_of_log2 (Nat.lt_trans hc.2.log (by decide))))
end
def clsV:V→Option Value
  | .ty n=>some (.type n)
  | .ref a=>some (.ref a)
  | _=>none
section
variable {X:Cx}
theorem zjZ {c:V} {cv u:Value} (h:clsV c=some cv) (r:RelV c u):u=cv:=by
  cases c with
  | ty n=>cases h; exact r
  | ref a=>cases h; exact r
  | _=>cases h
def rIs (K:PySem.W.Frag):List V→Hp→VK→Prop:=fun xs H Q=>∃ x c cv t b,xs = [x,c]∧clsV c=some cv∧TyOf K H x t∧PySem.W.kitOne K t cv=some b∧Q (.bl b) H
theorem zc1:zdr X (.builtin "isinstance") (rIs X.K):=by
  intro pins s σ H xs us Q I r h
  obtain ⟨x,c,cv,t,b,rfl,hc,ty,hk,q⟩:=h
  obtain ⟨u,v,rfl,rx,ry⟩:=zmp r
  cases zjZ hc ry
  exact zlr I rx ty hk fun tk=>⟨.bl b,H,I.tok _,rfl,q⟩
end
def Ite (K:PySem.W.Frag) (a:Addr):It :=
  ⟨fun i H=>∃ xs x,SqL K H a xs∧xs[i]?=some x,fun i H x H'=>∃ p y,x = .ref p∧H p=none∧H'=upd H p (.tup [.int i,y])∧∀ xs,SqL K H a xs→xs[i]?=some y,fun i H=>∃ xs,SqL K H a xs∧xs.length ≤ i⟩
theorem zlS {P:Program} {w:World} {K:PySem.W.Frag} {es:List Expr} {k} {pos:Pos} (a e it:Addr) (hne:e ≠ it) :
    Turn P w K (.Tuple es k pos) (Ite K a) [e,it] e (fun i h=>(∃ old,IsEnum h e it i old)∧h.IsListIter it a i) where
  mem:=by simp
  obj:=fun i h st b hb=>by
    obtain ⟨⟨old,h1⟩,o,h2,c,d⟩:=st
    rcases List.mem_cons.mp hb with rfl | hb
    · exact ⟨_,h1,fun v z=>by cases (show Data.fields _=Data.cell v from z)⟩
    · have e':b=it:=by simpa using hb
      subst e'
      exact ⟨o,h2,fun v z=>by rw [d] at z; cases z⟩
  keep:=fun i h h' st k=>by
    obtain ⟨⟨old,h1⟩,h2⟩:=st
    exact ⟨⟨old,k e (by simp) _ h1⟩,h2.at fun o q=>k it (by simp) o q⟩
  item:=by
    intro X hP hw hK hc i pins s σ H E I hf st hg
    subst hP hw hK
    obtain ⟨xs,x,hq,hx⟩:=hg
    obtain ⟨its,rv,p,hz⟩:=I.list hq
    obtain ⟨u,hu,ru⟩:=rv.get hx
    obtain ⟨⟨old,he⟩,hit⟩:=st
    obtain ⟨f0,f1,f2,f3,f4,f5⟩:=hf e (by simp)
    obtain ⟨g0,g1,g2,g3,g4,g5⟩:=hf it (by simp)
    have hT:H s.heap.objs.size=none:=I.hok.fresh (Nat.le_refl _)
    have eT:e ≠ s.heap.objs.size:=Nat.ne_of_lt (Heap.lt_size he)
    have iT:it ≠ s.heap.objs.size:=by obtain ⟨_,z,_⟩:=hit; exact Nat.ne_of_lt (Heap.lt_size z)
    refine wpAny_pyNext_enum_item he hit p.isList (x:=u) (by simpa using hu) hne fun h' ho hit' ht hsz hk=>⟨_,rfl,?_⟩
    refine wpAny_letOwnedTupleGo_enum ho fun h'' he'' hs''=>?_
    have hs2:Heap.SameBut e h' h'':=hs''
    have ht2:h''.get? s.heap.objs.size=some { cls:=.type "tuple",data:=.seq #[.int i s.toks,u] }:=(hs2.2 _ eT.symm).trans ht
    have hk2:∀ b o,b ≠ e→b ≠ it→s.heap.get? b=some o→h''.get? b=some o:=fun b o z1 z2 q=>(hs2.2 b z1).trans (hk b o z1 z2 q)
    have nH:∀ b o,H b=some o→b ≠ e∧b ≠ it:=fun b o q=>⟨(fun z=>by rw [z,f0] at q; cases q),(fun z=>by rw [z,g0] at q; cases q)⟩
    refine ⟨.ref s.heap.objs.size,upd H s.heap.objs.size (.tup [.int i,x]),?_,rfl,⟨_,x,rfl,hT,rfl,fun ys hy=>by rw [I.list_inj hy hq]; exact hx⟩,⟨⟨_,by simpa using he''⟩,hit'.at fun o q=>(hs2.2 it hne.symm).trans q⟩,fun b hb=>?_⟩
    · show Inv X pins σ (upd H s.heap.objs.size (.tup [.int i,x])) { s with heap:=h'',toks:=s.toks + 1 }
      refine I.step (h':=h'') (g':=s.gens) (d':=s.drawn) (t':=s.toks + 1) (ch:=[e,it]) (fun b hb=>?_) (fun b o _ _ hb q _=>?_) (fun b o _ _ hb q _=>⟨o.slots,?_⟩) (fun b o hb q n=>?_) (fun b o hb q=>⟨o,?_⟩) (fun b ys q=>?_) (fun b o ys q=>?_) (fun b ps q=>⟨#[],?_⟩) (fun m hm=>?_) ?_ I.bare
      · rcases List.mem_cons.mp hb with rfl | hb
        · exact ⟨f3,f1,f4,f5⟩
        · have z:b=it:=by simpa using hb
          subst z
          exact ⟨g3,g1,g4,g5⟩
      · exact hk2 b o (fun z=>hb (by simp [z])) (fun z=>hb (by simp [z])) q
      · exact hk2 b o (fun z=>hb (by simp [z])) (fun z=>hb (by simp [z])) q
      · rw [zau (Nat.ne_of_lt (Heap.lt_size q))]; exact n
      · exact hk2 b o (fun z=>hb (by simp [z])) (fun z=>hb (by simp [z])) q
      · rw [zau (zay q hT)]; exact q
      · rw [zau (zay q hT)]; exact q
      · rw [zau (zay q hT),q]; simp
      · obtain ⟨o,es',ep,ho',r⟩:=hm
        exact ⟨o,es',ep,hk2 _ o (Ne.symm f1) (Ne.symm g1) ho',r⟩
      · intro b o q
        by_cases hb:b=s.heap.objs.size
        · subst hb
          rw [zax] at q; cases q
          exact ⟨by show 2 ≤ sizeLine; decide,[.int i s.toks,u],.cons ⟨_,rfl⟩ (.cons ru .nil),⟨_,ht2,rfl,_,rfl⟩⟩
        · rw [zau hb] at q
          refine (I.hok b o q).stay (fun c v hc' q'=>?_) (fun c q'=>by rw [zau (zay q' hT)]; exact q') fun c ys q'=>by rw [zau (zay q' hT)]; exact q'
          rcases hc' with rfl | hc'
          · exact hk2 _ v (nH _ _ q).1 (nH _ _ q).2 q'
          · exact hk2 _ v (nH _ _ hc').1 (nH _ _ hc').2 q'
    · rcases List.mem_cons.mp hb with rfl | hb
      · rw [zau eT]; exact f0
      · have z:b=it:=by simpa using hb
        subst z
        rw [zau iT]; exact g0
  done:=by
    intro X hP hw hK hc i pins s σ H E I hf st hg
    subst hP hw hK
    obtain ⟨xs,hq,hx⟩:=hg
    obtain ⟨its,rv,p,hz⟩:=I.list hq
    obtain ⟨⟨old,he⟩,hit⟩:=st
    obtain ⟨g0,g1,g2,g3,g4,g5⟩:=hf it (by simp)
    have hl:=rv.length
    exact wpAny_pyNext_enum_end (I.ok.hd hc) he hit p.isList (by simp; omega) fun h' eb=>⟨rfl,I.turned (t':=s.toks) (fun b o hb q=>eb b o hb q) g0 g1 g3 g4 g5⟩
  self:=fun _ _ _ _ _ st h=>by
    obtain ⟨⟨old,he⟩,_⟩:=st
    exact wpAny_pyIter_enum he h
section
variable {X:Cx}
def zo2 (K:PySem.W.Frag) (ta:TA):TI:=fun σ H R=>ta σ H fun vs H1=>∃ a,vs = [.ref a]∧(∃ xs,SqL K H1 a xs)∧R (Ite K a) H1
theorem zjR {es:List Expr} {k} {tp:Pos} {l:Expr} {ta:TA} {p pos:Pos} (hg:Gl X "enumerate") (hm:X.mg "enumerate"=none) (ha:PA X [l] ta) (hs:starEach [l] X.env = [(false,eval l X.env)]:=by rfl) :
    PI X (.Tuple es k tp) (.Call (.Name "enumerate" p) [l] [] pos) (zo2 X.K ta):=by
  intro pins s σ H R I h
  refine Call_ (zej I hg hm boot_enumerate (PyProof.Rows.callWith_type1 (thn (ha pos pins s σ H _ I h) fun us s1 ⟨vs,H1,I1,r1,q1⟩=>?_) hs rfl))
  obtain ⟨a,e,⟨xs,hq⟩,q⟩:=q1
  subst e
  obtain ⟨u,rfl,rx⟩:=zdv r1
  cases rx
  obtain ⟨its,rv,pl,hz⟩:=I1.list hq
  refine call_enumerate_list pl.isList fun h' he hit hsz hk=>?_
  have I2:Inv X pins σ H1 { s1 with heap:=h' }:=I1.kept (t':=s1.toks) hk
  have hne:s1.heap.objs.size + 1 ≠ s1.heap.objs.size:=by omega
  refine wpAny_pyIter_enum he ⟨s1.heap.objs.size + 1,[s1.heap.objs.size + 1,s1.heap.objs.size],_,_,H1,rfl,I2,zlS a _ _ hne,⟨⟨_,he⟩,hit⟩,fun b hb=>?_,q⟩
  have hb':s1.heap.objs.size ≤ b:=by
    rcases List.mem_cons.mp hb with rfl | hb
    · omega
    · have z:b=s1.heap.objs.size:=by simpa using hb
      exact Nat.le_of_eq z.symm
  exact I1.fpOk hb' (I1.hok.fresh hb')
end
end L2
namespace L2
open PySem PySem.Spec PyProof.Rows
theorem zfm {env:Env}:∀ (names:List (Str × NameKind)) (acc:List (Str × Addr)),(∀ y ∈ names,y.2 = .free→∃ c,env.cells.lookup y.1=some c) →
    ∃ cl,(forIn (m:=Sem) names acc fun (x:Str × NameKind) (cs:List (Str × Addr))=>if (x.2 == NameKind.free)=true then do let c ← cellOf env x.1; pure (ForInStep.yield ((x.1,c) :: cs)) else pure (ForInStep.yield cs))=pure cl ∧
      (∀ p ∈ cl,p ∈ acc∨env.cells.lookup p.1=some p.2)∧(∀ p ∈ acc,p ∈ cl)∧∀ y ∈ names,y.2 = .free→∃ c,(y.1,c) ∈ cl
  | [],acc,_=>⟨acc,by simp,fun p hp=>.inl hp,fun p hp=>hp,fun y hy=>by cases hy⟩
  | (n,k) :: r,acc,h=>by
    by_cases hk:k = .free
    · subst hk
      obtain ⟨c,hc⟩:=h (n,.free) List.mem_cons_self rfl
      obtain ⟨cl,e,h1,h2,h3⟩:=zfm r ((n,c) :: acc) fun y hy=>h y (List.mem_cons_of_mem _ hy)
      refine ⟨cl,?_,fun p hp=>?_,fun p hp=>h2 p (List.mem_cons_of_mem _ hp),fun y hy hf=>?_⟩
      · have hco:cellOf env n=pure c:=by unfold cellOf; rw [hc]
        rw [List.forIn_cons]
        simp only [beq_self_eq_true,if_true,hco,pure_bind]
        exact e
      · rcases h1 p hp with z | z
        · rcases List.mem_cons.mp z with rfl | z
          · exact .inr hc
          · exact .inl z
        · exact .inr z
      · rcases List.mem_cons.mp hy with rfl | hy
        · exact ⟨c,h2 _ List.mem_cons_self⟩
        · exact h3 y hy hf
    · obtain ⟨cl,e,h1,h2,h3⟩:=zfm r acc fun y hy=>h y (List.mem_cons_of_mem _ hy)
      refine ⟨cl,?_,h1,h2,fun y hy hf=>?_⟩
      · have hb:(k == NameKind.free)=false:=by simpa using hk
        rw [List.forIn_cons]
        simp only [hb,Bool.false_eq_true,if_false,pure_bind]
        exact e
      · rcases List.mem_cons.mp hy with rfl | hy
        · exact absurd hf hk
        · exact h3 y hy hf
theorem zeZ {f:Str→Option Addr}:∀ {cl:List (Str × Addr)} {x:Str} {c:Addr},(∀ p ∈ cl,f p.1=some p.2)→(x,c) ∈ cl→cl.lookup x=some c
  | [],_,_,_,h=>by cases h
  | (n,d) :: r,x,c,h,hm=>by
    rw [List.lookup_cons]
    cases e:x == n with
    | true =>
      have e':x=n:=by simpa using e
      subst e'
      have z1:=h (x,d) List.mem_cons_self
      have z2:=h (x,c) hm
      rw [z1] at z2
      simpa using z2
    | false =>
      rcases List.mem_cons.mp hm with z | z
      · cases z; simp at e
      · exact zeZ (fun p hp=>h p (List.mem_cons_of_mem _ hp)) z
theorem ze3 {scope:Scope} {env:Env} (h:∀ y ∈ scope.names,y.2 = .free→∃ c,env.cells.lookup y.1=some c) :
    ∃ cl,closureFor scope env=pure cl∧(∀ x c,cl.lookup x=some c→env.cells.lookup x=some c)∧∀ y ∈ scope.names,y.2 = .free→cl.lookup y.1=env.cells.lookup y.1:=by
  obtain ⟨cl,e,h1,_,h3⟩:=zfm scope.names [] h
  have all:∀ p ∈ cl,env.cells.lookup p.1=some p.2:=fun p hp=>(h1 p hp).elim (fun z=>by cases z) id
  refine ⟨cl,?_,fun x c z=>all (x,c) (PySem.mem_of_lookup z),fun y hy hf=>?_⟩
  · simp only [closureFor]
    rw [e]
    rfl
  · obtain ⟨c,hc⟩:=h3 y hy hf
    rw [all _ hc]
    exact zeZ (f:=fun x=>env.cells.lookup x) all hc
end L2
namespace L2
open PySem PySem.Spec PyProof.Rows
section
variable {prog:Program} {w:World} {A:Around} {R:Result→Shared→Prop} {s:Shared}
theorem zif {elt target iter:Expr} {ifs:List Expr} {scope:Scope} {pos:Pos} {it acc:Value} {env:Env} (I:Nat→Shared→Prop)
    (turn:∀ n s,I n s→wpAny (model prog w) A (pyNext it) (fun r s₁=>match r with
      | none=>R (.ok .next) s₁
      | some v=>wpAny (model prog w) A (letOwnedTupleGo target it v) (fun _ s₁'=>wpAny (model prog w) A (assign target env v) (fun _ s₂ =>
          wpAny (model prog w) A (forIn ifs true fun c r=>if r=true then do let ok ← isTrue c env (eval c env); pure (ForInStep.yield ok) else pure (ForInStep.yield r)) (fun ok s₃ =>
            if ok=true then wpAny (model prog w) A (eval elt env) (fun x s₄ =>
              wpAny (model prog w) A (call (.builtin "list.append") [acc,x]) (fun _ s₅=>∃ m,m < n∧I m s₅) (fun _ _=>False) s₄) (fun _ _=>False) s₃
            else ∃ m,m < n∧I m s₃) (fun _ _=>False) s₂) (fun _ _=>False) s₁') (fun _ _=>False) s₁) (fun _ _=>False) s)
    (n:Nat) (h:I n s) :
    codeAny (model prog w) A (.compLoop (.ListComp elt [⟨target,iter,ifs,0⟩] scope pos) 0 it acc env) R s:=by
  refine codeAny_loop rfl I (fun n s hI=>?_) n h
  show wpAny _ A ((compTurn (.ListComp elt [⟨target,iter,ifs,0⟩] scope pos) 0 it acc env).onRaise (fun x=>do noteFrame x env; theTreesLotGoes x)) _ _ s
  refine wpAny_noted ?_
  rw [compTurn_list]
  refine wpAny_bind (wpAny_standAt (wpAny_bind (wpAny_mono (turn n s hI) (fun r s₁ h₁=>?_) fun _ _ h'=>h'.elim)))
  cases r with
  | none=>exact wpAny_pure h₁
  | some v =>
    refine wpAny_bind (wpAny_mono h₁ (fun _ s₁' h₁'=>?_) fun _ _ h'=>h'.elim)
    refine wpAny_bind (wpAny_mono h₁' (fun _ s₂ h₂=>wpAny_bind (wpAny_mono h₂ (fun ok s₃ h₃=>?_) fun _ _ h'=>h'.elim)) fun _ _ h'=>h'.elim)
    cases ok with
    | false=>exact wpAny_pure ⟨rfl,h₃⟩
    | true =>
      exact wpAny_bind (wpAny_bind (wpAny_mono h₃ (fun x s₄ h₄=>wpAny_bind (wpAny_mono h₄ (fun _ s₅ h₅=>wpAny_pure (wpAny_pure ⟨rfl,h₅⟩)) fun _ _ h'=>h'.elim)) fun _ _ h'=>h'.elim))
end
def Cx.comp (X:Cx) (scope:Scope) (cl:List (Str × Addr)) (C:Addr) (N':List Str) (s:Shared) (H:Hp) (fp:List Addr) (pins:List (Addr × Obj)):Cx :=
  { X with N:=N',s₀:=s,H₀:=H,env:=compEnvC scope cl C X.env,outer:=X.stack,stack:=X.stack,ex:=fp,fn:=fun x=>scope.names.lookup x == some .cell,pn:=X.pn ++ pins,xe:=fun _ _=>False }
def zcW (σ:St) (ix:List Nat) (n:Nat):St:=ix.map (fun i=>(σ[i]?).getD none) ++ List.replicate n none
def zor:Option TT→TT
  | none=>fun _ H Q=>Q true H
  | some t=>t
def zqL (D:Addr) (J:It) (g:TG) (tc:Option TT) (te:TE) (Q:VK) (σ0:St) (H0:Hp):Prop :=
  ∃ W:Nat→Nat→List V→St→Hp→Prop,(∃ m,W 0 m [] σ0 H0)∧∀ i m ys σ2 H2,W i m ys σ2 H2→H2 D=some (.lst ys) ∧
    ((J.stop i H2∧Q (.ref D) H2)∨(J.go i H2∧∃ N:List V→St→Hp→Prop,(∀ ys' σ' H',N ys' σ' H'→∃ m',m' < m∧W (i + 1) m' ys' σ' H') ∧
      ∀ x H',J.yld i H2 x H'→g x σ2 H' fun σ3 H3=>zor tc σ3 H3 fun b H4=>if b=true then te σ3 H4 fun y H5=>H5 D=some (.lst ys)∧ys.length < sizeLine∧N (ys ++ [y]) σ3 (upd H5 D (.lst (ys ++ [y]))) else N ys σ3 H4))
def zoI (wi:TI) (ix:List Nat) (n:Nat) (g:TG) (tc:Option TT) (te:TE):TE:=fun σ H Q=>wi σ H fun J H1=>∀ D,H1 D=none→zqL D J g tc te Q (zcW σ ix n) (upd H1 D (.lst []))
structure CompOk (X:Cx) (scope:Scope) (N':List Str) (ix:List Nat) (n:Nat) (tg elt:Expr) (ifs:List Expr) (g:TG) (tc:Option TT) (te:TE):Prop where
  kind:scope.kind = .function
  nocell:∀ y ∈ scope.names,y.2 = .free→(y.1,NameKind.cell) ∉ scope.names
  names:∀ y ∈ scope.names,y.2 = .local→scope.names.lookup y.1=some .local
  free:∀ y ∈ scope.names,y.2 = .free→X.env.kindOf y.1=some .cell∨X.env.kindOf y.1=some .free
  len:ix.length + n=N'.length
  take:∀ (j i:Nat),ix[j]?=some i→∃ x,N'[j]?=some x∧X.N[i]?=some x∧scope.names.lookup x=some .free
  tgt:∀ (cl:List (Str × Addr)) (C:Addr) (s:Shared) (H:Hp) (fp:List Addr) (pins:List (Addr × Obj)),PG (X.comp scope cl C N' s H fp pins) tg g
  elt:∀ (cl:List (Str × Addr)) (C:Addr) (s:Shared) (H:Hp) (fp:List Addr) (pins:List (Addr × Obj)),PE (X.comp scope cl C N' s H fp pins) elt te
  test:(ifs = []∧tc=none)∨∃ c t,ifs = [c]∧tc=some t∧∀ (cl:List (Str × Addr)) (C:Addr) (s:Shared) (H:Hp) (fp:List Addr) (pins:List (Addr × Obj)),PT (X.comp scope cl C N' s H fp pins) c t
theorem zc6 {env:Env}:∀ {names:List (Str × NameKind)} {x:Str},names.lookup x=some .free →
    (names.map fun (n,k)=>if (k == NameKind.free && env.scope.kind == .function && env.kindOf n == some .cell) then (n,NameKind.cell) else (n,k)).lookup x=some .cell ∨
    (names.map fun (n,k)=>if (k == NameKind.free && env.scope.kind == .function && env.kindOf n == some .cell) then (n,NameKind.cell) else (n,k)).lookup x=some .free
  | [],_,h=>by simp at h
  | (n,k) :: r,x,h=>by
    have ih:=@zc6 env r x
    show List.lookup x ((if (k == NameKind.free && env.scope.kind == .function && env.kindOf n == some .cell)=true then (n,NameKind.cell) else (n,k)) :: _)=_∨List.lookup x ((if (k == NameKind.free && env.scope.kind == .function && env.kindOf n == some .cell)=true then (n,NameKind.cell) else (n,k)) :: _)=_
    cases hx:x == n with
    | true =>
      simp only [List.lookup_cons,hx] at h
      cases h
      by_cases hc:(NameKind.free == NameKind.free && env.scope.kind == .function && env.kindOf n == some .cell)=true
      · rw [if_pos hc]; left; simp only [List.lookup_cons,hx]
      · rw [if_neg hc]; right; simp only [List.lookup_cons,hx]
    | false =>
      simp only [List.lookup_cons,hx] at h
      by_cases hc:(k == NameKind.free && env.scope.kind == .function && env.kindOf n == some .cell)=true
      · rw [if_pos hc]; simp only [List.lookup_cons,hx]; exact ih h
      · rw [if_neg hc]; simp only [List.lookup_cons,hx]; exact ih h
theorem zfA {env:Env}:∀ {names:List (Str × NameKind)} {x:Str},
    ((names.map fun (n,k)=>if (k == NameKind.free && env.scope.kind == .function && env.kindOf n == some .cell) then (n,NameKind.cell) else (n,k)).lookup x=some .cell ∨
    (names.map fun (n,k)=>if (k == NameKind.free && env.scope.kind == .function && env.kindOf n == some .cell) then (n,NameKind.cell) else (n,k)).lookup x=some .free)→(x,NameKind.free) ∈ names∨(names.lookup x=some .cell∧(x,NameKind.cell) ∈ names)
  | [],_,h=>by simp at h
  | (n,k) :: r,x,h=>by
    have ih:=@zfA env r x
    cases hx:x == n with
    | true =>
      have e:x=n:=by simpa using hx
      subst e
      by_cases hc:(k == NameKind.free && env.scope.kind == .function && env.kindOf x == some .cell)=true
      · have hk:k = .free:=by
          have:(k == NameKind.free)=true:=by
            simp only [Bool.and_eq_true] at hc
            exact hc.1.1
          simpa using this
        subst hk
        exact .inl List.mem_cons_self
      · rw [List.map_cons] at h
        have e2:(match (x,k) with | (n,k)=>if (k == NameKind.free && env.scope.kind == .function && env.kindOf n == some .cell)=true then (n,NameKind.cell) else (n,k))=(x,k):=if_neg hc
        rw [e2] at h
        simp only [List.lookup_cons,beq_self_eq_true] at h
        rcases h with h | h
        · cases h; exact .inr ⟨by simp only [List.lookup_cons,beq_self_eq_true],List.mem_cons_self⟩
        · cases h; exact .inl List.mem_cons_self
    | false =>
      refine (ih ?_).imp (List.mem_cons_of_mem _) fun z=>⟨by simp only [List.lookup_cons,hx]; exact z.1,List.mem_cons_of_mem _ z.2⟩
      rw [List.map_cons] at h
      by_cases hc:(k == NameKind.free && env.scope.kind == .function && env.kindOf n == some .cell)=true
      · have e2:(match (n,k) with | (n,k)=>if (k == NameKind.free && env.scope.kind == .function && env.kindOf n == some .cell)=true then (n,NameKind.cell) else (n,k))=(n,NameKind.cell):=if_pos hc
        rw [e2] at h
        simpa only [List.lookup_cons,hx] using h
      · have e2:(match (n,k) with | (n,k)=>if (k == NameKind.free && env.scope.kind == .function && env.kindOf n == some .cell)=true then (n,NameKind.cell) else (n,k))=(n,k):=if_neg hc
        rw [e2] at h
        simpa only [List.lookup_cons,hx] using h
theorem zdG {x:Str} {c:Addr}:∀ (names:List (Str × NameKind)) (n:Nat) (acc:List (Str × Addr)),(x,NameKind.cell) ∈ names→(cellsFrom n names acc).lookup x=some c→(∀ y,acc.lookup x=some y→n ≤ y∨True)→n ≤ c
  | [],_,_,h,_,_=>by cases h
  | (y,k) :: r,n,acc,h,e,_=>by
    unfold cellsFrom at e
    by_cases hr:(x,NameKind.cell) ∈ r
    · split at e
      · exact Nat.le_of_succ_le (zdG r (n + 1) _ hr e fun _ _=>.inr trivial)
      · exact zdG r n _ hr e fun _ _=>.inr trivial
    · rcases List.mem_cons.mp h with z | z
      · cases z
        rw [if_pos (by rfl)] at e
        have key:∀ (r:List (Str × NameKind)) (n':Nat) (acc:List (Str × Addr)),(x,NameKind.cell) ∉ r→(cellsFrom n' r acc).lookup x=acc.lookup x:=by
          intro r
          induction r with
          | nil=>intro _ _ _; rfl
          | cons p r ih =>
            intro n' acc hp
            obtain ⟨y',k'⟩:=p
            unfold cellsFrom
            split
            · rename_i hk
              have hk':k' = .cell:=by simpa using hk
              subst hk'
              have ne:¬ x=y':=fun z=>hp (by rw [z]; exact List.mem_cons_self)
              rw [ih _ _ fun z=>hp (List.mem_cons_of_mem _ z),List.lookup_cons,show (x == y')=false by simpa using ne]
            · exact ih _ _ fun z=>hp (List.mem_cons_of_mem _ z)
        rw [key r _ _ hr] at e
        simp only [List.lookup_cons,beq_self_eq_true] at e
        cases e; exact Nat.le_refl _
      · exact absurd z hr
theorem zcN {x:Str}:∀ (names:List (Str × NameKind)) (n:Nat) (acc:List (Str × Addr)),(x,NameKind.cell) ∉ names→(cellsFrom n names acc).lookup x=acc.lookup x
  | [],_,_,_=>rfl
  | (y,k) :: r,n,acc,h=>by
    unfold cellsFrom
    split
    · rename_i hk
      have hk':k = .cell:=by simpa using hk
      subst hk'
      have ne:¬ x=y:=fun z=>h (by rw [z]; exact List.mem_cons_self)
      rw [zcN r _ _ fun z=>h (List.mem_cons_of_mem _ z),List.lookup_cons,show (x == y)=false by simpa using ne]
    · exact zcN r _ _ fun z=>h (List.mem_cons_of_mem _ z)
theorem zdF:∀ (names:List (Str × NameKind)) (n:Nat) (acc:List (Str × Addr)),(∀ x c,acc.lookup x=some c→c < n)→(∀ x y c,acc.lookup x=some c→acc.lookup y=some c→x=y) →
    ∀ x y c,(cellsFrom n names acc).lookup x=some c→(cellsFrom n names acc).lookup y=some c→x=y
  | [],_,_,_,h=>h
  | (z,k) :: r,n,acc,h1,h2=>by
    unfold cellsFrom
    split
    · have lk:∀ x c,((z,n) :: acc).lookup x=some c→(x=z∧c=n)∨acc.lookup x=some c:=fun x c h=>by
        rw [List.lookup_cons] at h
        cases hb:x == z with
        | true=>rw [hb] at h; cases h; exact .inl ⟨by simpa using hb,rfl⟩
        | false=>rw [hb] at h; exact .inr h
      refine zdF r (n + 1) _ (fun x c h=>?_) fun x y c e1 e2=>?_
      · rcases lk x c h with ⟨_,z⟩ | z
        · rw [z]; exact Nat.lt_succ_self _
        · exact Nat.lt_succ_of_lt (h1 x c z)
      · rcases lk x c e1 with ⟨a1,a2⟩ | a <;> rcases lk y c e2 with ⟨b1,b2⟩ | b
        · rw [a1,b1]
        · have:=h1 y c b; rw [a2] at this; exact absurd this (Nat.lt_irrefl _)
        · have:=h1 x c a; rw [b2] at this; exact absurd this (Nat.lt_irrefl _)
        · exact h2 x y c a b
    · exact zdF r n acc h1 h2
theorem zjx {M:Model} {A:Around} {E:Value→Shared→Prop} {s:Shared} {scope:Scope} {globals:Addr} {cl:List (Str × Addr)} {qual:Str} {env:Env} {Q:Env→Shared→Prop}
    (hQ:Q (newEnv scope s.heap.objs.size globals (cellsFrom (s.heap.objs.size + 1) scope.names cl) qual none .none (some env) builtinsNs) { s with heap:=pushCells (s.heap.push { cls:=.type "dict",data:=.dict #[] }) scope.names }) :
    wpAny M A (newFunctionEnv scope globals cl [] qual none .none (some env)) Q E s:=by
  simp only [newFunctionEnv,Option.isSome_some,if_true]
  refine wpAny_bind (wpAny_alloc ?_)
  refine wpAny_bind (wpAny_layCells _ (fun name kind cells=>by cases hkc:kind == NameKind.cell <;> simp [hkc]) _ _ _ _ ?_)
  rw [show ({ s with heap:=s.heap.push { cls:=.type "dict",data:=.dict #[] } }:Shared).heap.objs.size=s.heap.objs.size + 1 from Heap.size_push ..]
  refine wpAny_bind ?_
  rw [List.forIn_nil]
  exact wpAny_pure (wpAny_pure hQ)
section
variable {X:Cx} {scope:Scope} {N':List Str} {ix:List Nat} {n:Nat} {tg elt iter:Expr} {ifs:List Expr} {g:TG} {tc:Option TT} {te:TE} {pos:Pos}
theorem zkX {pins:List (Addr × Obj)} {σ:St} {H:Hp} {s:Shared} {fp:List Addr} {cl:List (Str × Addr)} {h1:Heap} {tk:Nat} {m:Str→Option Value} (B:CompOk X scope N' ix n tg elt ifs g tc te) (I:Inv X pins σ H s)
    (hf:∀ b ∈ fp,FpOk X pins H b) (hfo:∀ b ∈ fp,∃ o,s.heap.get? b=some o) (hcl:∀ x c,cl.lookup x=some c→X.env.cells.lookup x=some c∨(s.heap.objs.size + 1 < c∧∃ v,h1.IsCell c v)) (hcf:∀ y ∈ scope.names,y.2 = .free→cl.lookup y.1=X.env.cells.lookup y.1)
    (hinj:∀ x y c,cl.lookup x=some c→cl.lookup y=some c→x=y) (hown:∀ x,scope.names.lookup x=some .cell→∃ c,cl.lookup x=some c) (hnew:∀ x c,scope.names.lookup x=some .cell→cl.lookup x=some c→s.heap.objs.size + 1 < c)
    (hk:∀ b o,s.heap.get? b=some o→h1.get? b=some o) (hD:h1.get? s.heap.objs.size=some { cls:=.type "list",data:=.seq #[] 0 }) (hC:h1.Ns (s.heap.objs.size + 1) m) :
    Inv (X.comp scope cl (s.heap.objs.size + 1) N' s H fp pins) [] (zcW σ ix n) (upd H s.heap.objs.size (.lst [])) { s with heap:=h1,toks:=tk }:=by
  have hn:H s.heap.objs.size=none:=I.hok.fresh (Nat.le_refl _)
  have lt:∀ {b:Addr} {o:Obj},s.heap.get? b=some o→b ≠ s.heap.objs.size∧b ≠ s.heap.objs.size + 1:=fun e=>⟨Nat.ne_of_lt (Heap.lt_size e),Nat.ne_of_lt (Nat.lt_succ_of_lt (Heap.lt_size e))⟩
  have cellLt:∀ x c,X.env.cells.lookup x=some c→c < s.heap.objs.size:=fun x c e=>by
    obtain ⟨v,o,ho,_⟩:=I.cell x c e
    exact Heap.lt_size ho
  have fpLt:∀ b ∈ fp,b ≠ s.heap.objs.size + 1:=fun b hb=>by
    obtain ⟨o,e⟩:=hfo b hb
    exact (lt e).2
  · have keep:Un (frs X.stack) fp H (upd H s.heap.objs.size (.lst [])) s.heap h1:=Un.laid hk (Nat.le_refl _) hn
    refine ⟨⟨I.ok.mod, ?_, I.ok.glob, I.ok.blt, Nat.le_succ _, hinj, fun x hx => ?_, fun x c z e => Nat.le_of_lt (Nat.lt_trans (Nat.lt_succ_self _) (hnew x c (by simpa using (show (scope.names.lookup x == some NameKind.cell) = true from z)) e)), I.ok.hd, I.ok.frames, .inl rfl, fun b hb => ⟨fpLt b hb, fun x c e => (hcl x c e).elim (fun z => (hf b hb).2.2.2.2.1 x c z) fun z w => by
          obtain ⟨o,ho⟩:=hfo b hb
          have:=Heap.lt_size ho
          rw [← w] at this; exact Nat.lt_irrefl _ (Nat.lt_trans (Nat.lt_trans (Nat.lt_succ_self _) z.1) this)⟩,
        I.bs,Nat.le_trans I.ok.bsz I.sz,fun b o e hb=>?_,fun b hb z=>?_,I.stack,I.stkFree,I.ok.tb.grown I.base.tbls⟩,
      rfl,I.bare,keep,⟨m,hC,fun i x v e1 e2 e3=>?_⟩,fun x c e=>?_,?_,fun x c e=>?_,fun p hp=>?_,?_,?_⟩
    · show (relabel scope X.env).kind = .function
      exact B.kind
    · show ∃ c,cl.lookup x=some c
      rcases zfA hx with hx' | hx'
      case inr=>exact hown x hx'.1
      have z:=hcf _ hx' rfl
      dsimp only at z
      rw [z]
      exact I.ok.has x (B.free _ hx' rfl)
    · obtain ⟨_,_,_,f3,_⟩:=hf b hb
      rcases f3 with z | z
      · exact I.ok.noex b o e z
      · exact absurd (Nat.lt_of_lt_of_le (Heap.lt_size e) (Nat.le_trans I.ok.bsz z)) (Nat.lt_irrefl _)
    · rcases List.mem_cons.mp (I.stkSub b z) with e | e
      · exact (hf b hb).2.1 e
      · exact (hf b hb).2.2.1 e
    · have hj:i < ix.length:=by
        unfold zcW at e2
        by_cases hj:i < ix.length
        · exact hj
        · rw [List.getElem?_append_right (by simpa using hj),List.getElem?_replicate] at e2
          split at e2 <;> cases e2
      obtain ⟨j,hj2⟩:∃ j,ix[i]?=some j:=⟨ix[i],by simp [hj]⟩
      obtain ⟨y,y1,y2,y3⟩:=B.take i j hj2
      have exy:x=y:=by
        have z:N'[i]?=some x:=e1
        rw [y1] at z
        exact (Option.some.inj z).symm
      subst exy
      have ev:σ[j]?=some (some v):=by
        unfold zcW at e2
        rw [List.getElem?_append_left (by simpa using hj),List.getElem?_map,hj2] at e2
        have z:(σ[j]?).getD none=some v:=Option.some.inj e2
        cases q:σ[j]? with
        | none=>rw [q] at z; cases z
        | some w=>rw [q] at z; exact congrArg some z
      obtain ⟨m0,hn0,hl⟩:=I.loc
      have hm:(x,NameKind.free) ∈ scope.names:=PySem.mem_of_lookup y3
      have kx:=B.free _ hm rfl
      have vis:Vis X.env.scope x:=kx.elim (fun z=>.inr (.inl z)) fun z=>.inr (.inr z)
      obtain ⟨u,ru,lu⟩:=hl j x v y2 ev vis
      refine ⟨u,ru,.inr ⟨?_,?_⟩⟩
      · exact zc6 y3
      · rcases lu with ⟨z,_⟩ | ⟨_,c,hc,hcell⟩
        · rcases kx with w | w <;> (rw [w] at z; cases z)
        · refine ⟨c,?_,?_⟩
          · show cl.lookup x=some c
            rw [hcf _ hm rfl]
            exact hc
          · obtain ⟨o,ho,hd⟩:=hcell
            exact ⟨o,hk c o ho,hd⟩
    · rcases hcl x c e with z | ⟨_,z⟩
      · obtain ⟨v,o,ho,hd⟩:=I.cell x c z
        exact ⟨v,o,hk c o ho,hd⟩
      · exact z
    · show upd H s.heap.objs.size (.lst []) (s.heap.objs.size + 1)=none
      rw [zau (Nat.succ_ne_self _)]
      exact I.hok.fresh (Nat.le_succ _)
    · rcases hcl x c e with z | ⟨z,_⟩
      · have:=cellLt x c z
        rw [zau (Nat.ne_of_lt this)]
        exact I.freeC x c z
      · rw [zau (Nat.ne_of_gt (Nat.lt_trans (Nat.lt_succ_self _) z))]
        exact I.hok.fresh (Nat.le_of_lt (Nat.lt_trans (Nat.lt_succ_self _) z))
    · rw [List.append_nil] at hp
      obtain ⟨q1,q2,q3,q4,q5⟩:=I.pin p hp
      refine ⟨hk _ _ q1,by rw [zau (lt q1).1]; exact q2,(lt q1).2,fun z=>?_,q5⟩
      rcases List.mem_cons.mp (I.stkSub _ z) with e | e
      · exact q3 e
      · exact q4 e
    · exact I.hok.laid hk (Nat.le_refl _) ⟨Nat.zero_le _,[],0,.nil,hD⟩
    · show (zcW σ ix n).length=N'.length
      unfold zcW
      rw [List.length_append,List.length_map,List.length_replicate]
      exact B.len
theorem zlz {pins:List (Addr × Obj)} {σ σ':St} {H H':Hp} {s s':Shared} {fp:List Addr} {cl:List (Str × Addr)} {C:Addr} (I:Inv X pins σ H s) (hf:∀ b ∈ fp,FpOk X pins H b)
    (J:Inv (X.comp scope cl C N' s H fp pins) [] σ' H' s'):Inv X pins σ H' s':=by
  obtain ⟨hh,g,d,t,os'⟩:=s'
  obtain rfl:os'=s.os:=J.os
  exact I.call (h':=hh) (g':=g) (d':=d) (t':=t) (ch:=fp) J.base J.hok J.bare fun b hb=>⟨(hf b hb).2.2.2.1,(hf b hb).2.1,(hf b hb).2.2.2.2.1,(hf b hb).2.2.2.2.2⟩
theorem zkj {pins:List (Addr × Obj)} {σ:St} {H:Hp} {s:Shared} {Q:VK} {it:Addr} {fp:List Addr} {tn:Nat→Heap→Prop} {J:It} {cl:List (Str × Addr)} {RR:Value→Addr→Result→Shared→Prop} {E:Value→Shared→Prop}
    (B:CompOk X scope N' ix n tg elt ifs g tc te) (hc:X.calm=true) (I:Inv X pins σ H s) (T:Turn X.prog X.w X.K tg J fp it tn) (st:tn 0 s.heap) (hf:∀ b ∈ fp,FpOk X pins H b)
    (hcl:∀ x c,cl.lookup x=some c→X.env.cells.lookup x=some c) (hcf:∀ y ∈ scope.names,y.2 = .free→cl.lookup y.1=X.env.cells.lookup y.1)
    (body:∀ D,H D=none→zqL D J g tc te Q (zcW σ ix n) (upd H D (.lst [])))
    (hRR:∀ D C H' s' m,Inv X pins σ H' s'→s'.heap.Ns C m→FpOk X pins H' C→Q (.ref D) H'→RR (.ref D) C (.ok .next) s') :
    wpAny (model X.prog X.w) X.A (newList []) (fun acc s₃=>wpAny (model X.prog X.w) X.A (newFunctionEnv scope X.env.globals cl [] X.env.qual none .none (some X.env)) (fun cenv s₄ =>
      codeAny (model X.prog X.w) X.A (.compStart (.ListComp elt [⟨tg,iter,ifs,0⟩] scope pos) 0 (.ref it) acc { cenv with scope:=relabel scope X.env }) (RR acc cenv.locals) s₄) E s₃) E s:=by
  refine wpAny_newObj_type (zjx ?_)
  dsimp only
  generalize hH2:s.heap.push { cls:=.type "list",dict:=none,data:=.seq ([]:List Value).toArray }=H2
  have hC:H2.objs.size=s.heap.objs.size + 1:=by rw [← hH2,Heap.size_push]
  obtain ⟨cs,ecs⟩:∃ cs,cs=cellsFrom (H2.objs.size + 1) scope.names cl:=⟨_,rfl⟩
  rw [← ecs]
  obtain ⟨h₁,eh⟩:∃ h₁,h₁=pushCells (H2.push { cls:=.type "dict",data:=.dict #[] }) scope.names:=⟨_,rfl⟩
  rw [← eh]
  have kp:∀ b o,H2.get? b=some o→h₁.get? b=some o:=fun b o e=>by rw [eh]; exact pushCells_keeps _ _ b o (Heap.get?_push_of_some _ e)
  have hns₁:h₁.Ns H2.objs.size fun _=>none:=by rw [eh]; exact (Heap.Ns.new H2 (.type "dict")).keeps (pushCells_keeps _ _)
  have below:∀ b,b < s.heap.objs.size→b ≠ H2.objs.size:=fun b hb=>by rw [hC]; exact Nat.ne_of_lt (Nat.lt_succ_of_lt hb)
  have old:∀ b o,s.heap.get? b=some o→h₁.get? b=some o:=fun b o e=>kp b o (hH2 ▸ Heap.get?_push_of_some _ e)
  have hacc:h₁.get? s.heap.objs.size=some { cls:=.type "list",data:=.seq #[] 0 }:=kp _ _ (hH2 ▸ Heap.get?_push_size _ rfl)
  have clt:∀ x c,cl.lookup x=some c→c < s.heap.objs.size:=fun x c e=>by
    obtain ⟨v,o,ho,_⟩:=I.cell x c (hcl x c e)
    exact Heap.lt_size ho
  have own:∀ x c,(x,NameKind.cell) ∈ scope.names→cs.lookup x=some c→s.heap.objs.size + 1 < c:=fun x c h e=>by
    rw [ecs] at e
    have:=zdG scope.names _ cl h e fun _ _=>.inr trivial
    omega
  have hcl2:∀ x c,cs.lookup x=some c→X.env.cells.lookup x=some c∨(s.heap.objs.size + 1 < c∧∃ v,h₁.IsCell c v):=fun x c e=>by
    by_cases hx:(x,NameKind.cell) ∈ scope.names
    · refine .inr ⟨own x c hx e,none,?_⟩
      have okc:=cellsFrom_ok scope.names (H2.push { cls:=.type "dict",data:=.dict #[] }) 0 [] ⟨fun _ _ hm=>(nomatch hm),List.Pairwise.nil⟩ (Nat.zero_le _)
      have e2:(cellsFrom (H2.objs.size + 1) scope.names []).lookup x=some c:=by
        have gen:∀ (names:List (Str × NameKind)) (n:Nat) (acc:List (Str × Addr)),(x,NameKind.cell) ∈ names→(cellsFrom n names acc).lookup x=(cellsFrom n names []).lookup x:=by
          have gen2:∀ (names:List (Str × NameKind)) (n:Nat) (acc acc':List (Str × Addr)),(x,NameKind.cell) ∈ names∨acc.lookup x=acc'.lookup x→(cellsFrom n names acc).lookup x=(cellsFrom n names acc').lookup x:=by
            intro names
            induction names with
            | nil=>intro n acc acc' h; exact h.elim (fun z=>by cases z) id
            | cons p r ih =>
              intro n acc acc' h
              obtain ⟨y,k⟩:=p
              unfold cellsFrom
              split
              · rename_i hk
                have hk':k = .cell:=by simpa using hk
                subst hk'
                refine ih _ _ _ ?_
                by_cases exy:x=y
                · subst exy; exact .inr (by simp only [List.lookup_cons,beq_self_eq_true])
                · rcases h with z | z
                  · rcases List.mem_cons.mp z with w | w
                    · cases w; exact absurd rfl exy
                    · exact .inl w
                  · exact .inr (by simp only [List.lookup_cons,show (x == y)=false by simpa using exy]; exact z)
              · rename_i hk
                refine ih _ _ _ ?_
                rcases h with z | z
                · rcases List.mem_cons.mp z with w | w
                  · cases w; exact absurd rfl hk
                  · exact .inl w
                · exact .inr z
          exact fun names n acc h=>gen2 names n acc [] (.inl h)
        rw [← gen scope.names _ cl hx,← ecs]; exact e
      rw [Heap.size_push] at okc
      rw [eh]
      exact (okc.empty x c (PySem.mem_of_lookup e2)).1
    · rw [ecs,zcN _ _ _ hx] at e
      exact .inl (hcl x c e)
  have hcf2:∀ y ∈ scope.names,y.2 = .free→cs.lookup y.1=X.env.cells.lookup y.1:=fun y hy hf=>by
    rw [ecs,zcN _ _ _ (B.nocell y hy hf)]
    exact hcf y hy hf
  have hinj:∀ x y c,cs.lookup x=some c→cs.lookup y=some c→x=y:=by
    rw [ecs]
    exact zdF scope.names _ cl (fun x c e=>Nat.lt_of_lt_of_le (clt x c e) (by rw [hC]; omega)) fun x y c e1 e2=>I.ok.inj x y c (hcl x c e1) (hcl y c e2)
  have hown:∀ x,scope.names.lookup x=some .cell→∃ c,cs.lookup x=some c:=fun x h=>by
    rw [ecs]
    exact Option.isSome_iff_exists.mp (PySem.W.cellsFrom_some scope.names _ cl (.inl h))
  have hnew:∀ x c,scope.names.lookup x=some .cell→cs.lookup x=some c→s.heap.objs.size + 1 < c:=fun x c h e=>own x c (PySem.mem_of_lookup h) e
  have cne:∀ b,b < s.heap.objs.size→(∀ x c,X.env.cells.lookup x=some c→c ≠ b)→∀ x c,cs.lookup x=some c→c ≠ b:=fun b hb hold x c e z=>by
    rcases hcl2 x c e with w | ⟨w,_⟩
    · exact hold x c w z
    · rw [z] at w; exact Nat.lt_irrefl _ (Nat.lt_trans (Nat.lt_trans (Nat.lt_succ_self _) w) hb)
  have hfo:∀ b ∈ fp,∃ o,s.heap.get? b=some o:=fun b hb=>let ⟨o,e,_⟩:=T.obj 0 _ st b hb; ⟨o,e⟩
  have st1:tn 0 h₁:=T.keep 0 _ _ st fun b _ o e=>old b o e
  have hD0:H s.heap.objs.size=none:=I.hok.fresh (Nat.le_refl _)
  obtain ⟨W,⟨m0,w0⟩,turn⟩:=body _ hD0
  have J0:Inv (X.comp scope cs H2.objs.size N' s H fp pins) [] (zcW σ ix n) (upd H s.heap.objs.size (.lst [])) { s with heap:=h₁ }:=by
    rw [hC] at hns₁ ⊢
    exact zkX (tk:=s.toks) B I hf hfo hcl2 hcf2 hinj hown hnew old hacc hns₁
  have fpOk:∀ {H':Hp},(∀ b ∈ fp,H' b=none)→∀ b ∈ fp,FpOk (X.comp scope cs H2.objs.size N' s H fp pins) [] H' b:=fun hn b hb=>by
    obtain ⟨f0,f1,f2,f3,f4,f5⟩:=hf b hb
    obtain ⟨o,e⟩:=hfo b hb
    refine ⟨hn b hb,below b (Heap.lt_size e),fun z=>?_,.inl hb,cne b (Heap.lt_size e) f4,fun p hp=>f5 p ?_⟩
    · rcases List.mem_cons.mp (I.stkSub b z) with q | q
      · exact f1 q
      · exact f2 q
    · rw [List.append_nil] at hp
      exact hp
  have fp0:∀ b ∈ fp,upd H s.heap.objs.size (.lst []) b=none:=fun b hb=>by
    obtain ⟨o,e⟩:=hfo b hb
    rw [zau (Nat.ne_of_lt (Heap.lt_size e))]
    exact (hf b hb).1
  have loop:∀ s₃:Shared,s₃ = { s with heap:=h₁ } →
      codeAny (model X.prog X.w) X.A (.compLoop (.ListComp elt [⟨tg,iter,ifs,0⟩] scope pos) 0 (.ref it) (.ref s.heap.objs.size) (compEnvC scope cs H2.objs.size X.env)) (RR (.ref s.heap.objs.size) H2.objs.size) s₃:=by
    rintro s₃ rfl
    refine zif (fun k s'=>∃ i ys σ2 H3,Inv (X.comp scope cs H2.objs.size N' s H fp pins) [] σ2 H3 s'∧tn i s'.heap∧(∀ b ∈ fp,H3 b=none)∧W i k ys σ2 H3) ?_ m0 ⟨0,[],_,_,J0,st1,fp0,w0⟩
    rintro k s3 ⟨i,ys,σ3,H3,I3,st3,fr3,w3⟩
    obtain ⟨hD3,alt⟩:=turn i k ys σ3 H3 w3
    rcases alt with ⟨stop,q⟩ | ⟨go,N,hN,step⟩
    · refine thn (T.done (X.comp scope cs H2.objs.size N' s H fp pins) rfl rfl rfl hc i [] s3 σ3 H3 _ I3 (fpOk fr3) st3 stop) fun r s4 ⟨hr,I4⟩=>?_
      subst hr
      obtain ⟨m4,hn4,_⟩:=I4.loc
      refine hRR _ _ H3 s4 m4 (zlz I hf I4) hn4 ⟨I4.free,fun z=>?_,fun z=>?_,.inr (Nat.le_trans I.sz (by omega)),fun x c e z=>?_,fun p hp z=>?_⟩ q
      · have lt:=I.lt
        rw [← z,hC] at lt
        exact absurd lt (Nat.not_lt.mpr (Nat.le_succ _))
      · exact I.nofs (show s.heap.objs.size ≤ H2.objs.size by omega) z
      · obtain ⟨v,o,ho,_⟩:=I.cell x c e
        have lt:=Heap.lt_size ho
        rw [z,hC] at lt
        exact absurd lt (Nat.not_lt.mpr (Nat.le_succ _))
      · have lt:=Heap.lt_size (I.pin p hp).1
        rw [z,hC] at lt
        exact absurd lt (Nat.not_lt.mpr (Nat.le_succ _))
    · refine thn (T.item (X.comp scope cs H2.objs.size N' s H fp pins) rfl rfl rfl hc i [] s3 σ3 H3 _ I3 (fpOk fr3) st3 go) fun r s4 ⟨u,hr,h4⟩=>?_
      subst hr
      refine thn h4 fun _ s5 ⟨x,H5,I5,r5,y5,st5,fr5⟩=>?_
      have I5':=I5.pinned (fpOk fr5) (T.obj _ _ st5)
      have back:∀ {σ7:St} {H7:Hp} {s7:Shared} {ys':List V},Inv (X.comp scope cs H2.objs.size N' s H fp pins) ([] ++ zhe fp s5.heap) σ7 H7 s7→N ys' σ7 H7 →
          ∃ m,m < k∧∃ i ys σ2 H3,Inv (X.comp scope cs H2.objs.size N' s H fp pins) [] σ2 H3 s7∧tn i s7.heap∧(∀ b ∈ fp,H3 b=none)∧W i m ys σ2 H3:=fun {σ7 H7 s7 ys'} I7 n7=>by
        obtain ⟨m',hm,w7⟩:=hN ys' σ7 H7 n7
        refine ⟨m',hm,i + 1,ys',σ7,H7,I7.unpinned,T.keep _ _ _ st5 fun b hb o e=>(I7.pin (b,o) (List.mem_append_right _ (List.mem_append_right _ (zdt hb e)))).1,fun b hb=>?_,w7⟩
        obtain ⟨o,e,d⟩:=T.obj _ _ st5 b hb
        exact (I7.pin (b,o) (List.mem_append_right _ (List.mem_append_right _ (zdt hb e)))).2.1
      refine thn (B.tgt cs H2.objs.size s H fp pins _ s5 σ3 H5 x u _ I5' r5 (step x H5 y5)) fun _ s6 ⟨σ6,H6,I6,q6⟩=>?_
      have fin:∀ (b:Bool) (s7:Shared),TP (X.comp scope cs H2.objs.size N' s H fp pins) ([] ++ zhe fp s5.heap) σ6
          (fun b H4=>if b=true then te σ6 H4 fun y H5=>H5 s.heap.objs.size=some (.lst ys)∧ys.length < sizeLine∧N (ys ++ [y]) σ6 (upd H5 s.heap.objs.size (.lst (ys ++ [y]))) else N ys σ6 H4) b s7 →
          if b=true then wpAny (model X.prog X.w) X.A (eval elt (compEnvC scope cs H2.objs.size X.env)) (fun x s₄ =>
              wpAny (model X.prog X.w) X.A (call (.builtin "list.append") [.ref s.heap.objs.size,x]) (fun _ s₅=>∃ m,m < k∧∃ i ys σ2 H3,Inv (X.comp scope cs H2.objs.size N' s H fp pins) [] σ2 H3 s₅∧tn i s₅.heap∧(∀ b ∈ fp,H3 b=none)∧W i m ys σ2 H3) (fun _ _=>False) s₄) (fun _ _=>False) s7
            else ∃ m,m < k∧∃ i ys σ2 H3,Inv (X.comp scope cs H2.objs.size N' s H fp pins) [] σ2 H3 s7∧tn i s7.heap∧(∀ b ∈ fp,H3 b=none)∧W i m ys σ2 H3:=by
        rintro b s7 ⟨H7,I7,q7⟩
        cases b with
        | false =>
          rw [if_neg Bool.false_ne_true] at q7 ⊢
          exact back I7 q7
        | true =>
          rw [if_pos rfl] at q7 ⊢
          refine thn (B.elt cs H2.objs.size s H fp pins _ s7 σ6 H7 _ I7 q7) fun y s8 ⟨yv,H8,I8,r8,hD8,hz,n8⟩=>?_
          refine thn (ze1 _ s8 σ6 H8 (.ref s.heap.objs.size) [yv] (.ref s.heap.objs.size) [y] (fun _ H9=>N (ys ++ [yv]) σ6 H9) I8 rfl (.cons r8 .nil) ⟨_,ys,yv,rfl,rfl,hD8,hz,n8⟩) fun _ s9 ⟨_,H9,I9,_,n9⟩=>?_
          exact back I9 n9
      rcases B.test with ⟨e1,e2⟩ | ⟨c,t,e1,e2,ht⟩
      · subst e1; subst e2
        exact wpAny_tests_nil (fin true s6 ⟨H6,I6,q6⟩)
      · subst e1; subst e2
        exact wpAny_tests_one (thn (ht cs H2.objs.size s H fp pins _ s6 σ6 H6 _ I6 q6) fun b s7 z=>fin b s7 z)
  exact codeAny_compStart_list (loop _ rfl) (T.self X.A 0 _ _ _ st1 (loop _ rfl))
theorem zft {wi:TI} (hc:X.calm=true) (hi:PI X tg iter wi) (B:CompOk X scope N' ix n tg elt ifs g tc te) (hs:∀ x,foldedSetIterable iter X.env x=pure x:=by intro _; rfl) :
    PE X (.ListComp elt [⟨tg,iter,ifs,0⟩] scope pos) (zoI wi ix n g tc te):=by
  intro pins s σ H Q I h
  rw [eval_ListComp]
  obtain ⟨cl,hclos,hcl,hcf⟩:=ze3 (scope:=scope) (env:=X.env) fun y hy hf=>I.ok.has _ (B.free y hy hf)
  refine wpAny_comprehension_free (use:=none) rfl hs hclos B.kind B.names (thn (hi pins s σ H _ I h) fun v s1 h1=>thn h1 fun itv s2 h2=>?_)
  obtain ⟨it,fp,tn,J,H2,rfl,I2,T,st2,f2,body⟩:=h2
  refine zkj (RR:=fun acc C=>compPost (model X.prog X.w) X.A X.xe none (EP X pins σ Q) acc C) B hc I2 T st2 f2 hcl hcf body fun D C H' s' m I' hn hC q=>⟨m,hn,fun h' hs'=>?_⟩
  obtain ⟨f0,f1,f2',f3,f4,f5⟩:=hC
  exact ⟨.ref D,H',I'.turned (t':=s'.toks) (fun b o hb e=>(hs'.2 b hb).trans e) f0 f1 f3 f4 f5,rfl,q⟩
theorem zgO {wi:TI} {i:Nat} {y:Str} {py spos:Pos} (hN:X.N.Nodup) (hiN:X.N[i]?=some y) (hy:Loc X.env.scope y) (hc:X.calm=true) (hi:PI X tg iter wi) (B:CompOk X scope N' ix n tg elt ifs g tc te)
    (hsw:swapsWith (.ListComp elt [⟨tg,iter,ifs,0⟩] scope pos) (some (.Name y py)) spos.line X.env=pure true) (hf:X.fn y=true∨X.env.scope.names.lookup y=some .local:=by first | exact .inl rfl | exact .inr rfl | assumption)
    (hs:∀ x,foldedSetIterable iter X.env x=pure x:=by intro _; rfl) :
    PS X (.Assign [.Name y py] (.ListComp elt [⟨tg,iter,ifs,0⟩] scope pos) spos) (tAsg (zoI wi ix n g tc te) (zjK i)):=by
  intro pins s σ H D I h
  rw [exec_Assign_Name_used _ _ _ _ hsw]
  refine wpAny_bind (wpAny_standAt (wpAny_bind ?_))
  show wpAny _ X.A (do let _ ← comprehension (.ListComp elt [⟨tg,iter,ifs,0⟩] scope pos) scope X.env _ (newList []) false (eval iter X.env) (some (assign (.Name y py) X.env))) _ _ s
  obtain ⟨cl,hclos,hcl,hcf⟩:=ze3 (scope:=scope) (env:=X.env) fun y hy hf=>I.ok.has _ (B.free y hy hf)
  refine wpAny_bind (wpAny_mono (wpAny_comprehension_free (use:=some (assign (.Name y py) X.env)) (Q:=fun _ s'=>SP X pins D .next s') rfl hs hclos B.kind B.names
    (thn (hi pins s σ H _ I h) fun v s1 h1=>thn h1 fun itv s2 h2=>?_)) (fun _ s' hq=>wpAny_pure (wpAny_pure hq)) fun _ _ e=>e)
  obtain ⟨it,fp,tn,J,H2,rfl,I2,T,st2,f2,body⟩:=h2
  refine zkj (Q:=fun x H1=>zjK i x σ H1 D.nx) (RR:=fun acc C=>compPost (model X.prog X.w) X.A X.xe (some (assign (.Name y py) X.env)) (fun _ s'=>SP X pins D .next s') acc C) B hc I2 T st2 f2 hcl hcf body fun D' C H' s' m I' hn hC q=>?_
  obtain ⟨f0,f1,f2',f3,f4,f5⟩:=hC
  have Ip := I'.pinned (fp := [C]) (fun b hb => by have e : b = C := by simpa using hb
                                                   subst e; exact ⟨f0,f1,f2',f3,f4,f5⟩) (fun b hb=>by
    have e:b=C:=by simpa using hb
    subst e
    obtain ⟨o,es,ep,ho,hd,_⟩:=hn
    exact ⟨o,ho,fun v z=>by rw [hd] at z; cases z⟩)
  refine wpAny_assign_Name (ze7 Ip hN hiN hy (v:=.ref D') rfl (fun s'' I''=>?_) hf)
  obtain ⟨o,es,ep,ho,hd,hr⟩:=hn
  have pinC:=I''.pin (C,o) (List.mem_append_right _ (List.mem_append_right _ (zdt (by simp) ho)))
  refine ⟨m,⟨o,es,ep,pinC.1,hd,hr⟩,fun h' hs'=>?_⟩
  exact ⟨_,H',(I''.unpinned).turned (t':=s''.toks) (fun b o hb e=>(hs'.2 b hb).trans e) pinC.2.1 f1 f3 f4 f5,q⟩
end
end L2
namespace L2
open PySem PySem.Spec PyProof.Rows
section
variable {X:Cx} {scope:Scope} {tg elt:Expr} {ifs:List Expr} {g:TG} {tc:Option TT} {te:TE}
theorem zes (osc:Scope) (oN N':List Str) (ix:List Nat) (n:Nat) (hosc:X.env.scope=osc) (hoN:X.N=oN) (kind:scope.kind = .function) (nocell:(scope.names.all fun y=>y.2 != .free || scope.names.all fun z=>!(z.1 == y.1) || z.2 != .cell)=true) (names:∀ y ∈ scope.names,y.2 = .local→scope.names.lookup y.1=some .local)
    (free:(scope.names.all fun y=>y.2 != .free || (osc.names.lookup y.1 == some .cell || osc.names.lookup y.1 == some .free))=true) (len:ix.length + n=N'.length)
    (take:((List.range ix.length).all fun j=>match N'[j]?,oN[ix.getD j 0]? with | some x,some y=>x == y && scope.names.lookup x == some .free | _,_=>false)=true)
    (tgt:∀ (cl:List (Str × Addr)) (C:Addr) (s:Shared) (H:Hp) (fp:List Addr) (pins:List (Addr × Obj)),PG (X.comp scope cl C N' s H fp pins) tg g)
    (elt':∀ (cl:List (Str × Addr)) (C:Addr) (s:Shared) (H:Hp) (fp:List Addr) (pins:List (Addr × Obj)),PE (X.comp scope cl C N' s H fp pins) elt te)
    (test:(ifs = []∧tc=none)∨∃ c t,ifs = [c]∧tc=some t∧∀ (cl:List (Str × Addr)) (C:Addr) (s:Shared) (H:Hp) (fp:List Addr) (pins:List (Addr × Obj)),PT (X.comp scope cl C N' s H fp pins) c t) :
    CompOk X scope N' ix n tg elt ifs g tc te :=
  ⟨kind,fun y hy e hc=>by
    have z:=List.all_eq_true.mp nocell y hy
    rw [e] at z
    have z2:(scope.names.all fun w=>!(w.1 == y.1) || w.2 != .cell)=true:=by simpa using z
    have z3:=List.all_eq_true.mp z2 _ hc
    simp at z3,names,fun y hy e=>by
    have z:=List.all_eq_true.mp free y hy
    rw [e] at z
    have z':(osc.names.lookup y.1 == some .cell || osc.names.lookup y.1 == some .free)=true:=by simpa using z
    show X.env.scope.names.lookup y.1=_∨X.env.scope.names.lookup y.1=_
    rw [hosc]
    simpa using z',len,fun j i e=>by
    obtain ⟨hj,_⟩:=List.getElem?_eq_some_iff.mp e
    have e2:ix.getD j 0=i:=by
      rw [List.getD_eq_getElem?_getD,e]
      rfl
    have z:=List.all_eq_true.mp take j (List.mem_range.mpr hj)
    rw [e2] at z
    cases h1:N'[j]? with
    | none=>rw [h1] at z; cases z
    | some x =>
      cases h2:oN[i]? with
      | none=>rw [h1,h2] at z; cases z
      | some y =>
        rw [h1,h2] at z
        have z':x=y∧scope.names.lookup x=some .free:=by simpa using z
        obtain ⟨rfl,z2⟩:=z'
        exact ⟨x,rfl,by rw [hoN]; exact h2,z2⟩,tgt,elt',test⟩
end
structure Has (P:Program) (w:World) (K:PySem.W.Frag) (mg:Str→Option Value) (base:Heap) (CX:CXT) (k:Nat) (x:Str) (ps:List Str) (sp:Sp):Prop where
  ex:∃ (f:Addr) (fd:FuncData),FnOk P w K mg base CX k f fd ps sp∧mg x=some (.ref f)∧PySem.W.keepIn K (.ref f)=true∧Binds K fd ps []
section
variable {X:Cx} {CX:CXT} {k:Nat} {x:Str} {ps:List Str} {sp:Sp} {E:XK} {p pos:Pos} {e:Expr} {es:List Expr} {t:TA}
theorem zaL (G:Has X.prog X.w X.K X.mg X.base CX k x ps sp) (hr:Room k X.A) (hg:Gl X x) (hx:zhn CX X E)
    (ha:PA X (e :: es) t) (hdb:(x == ("__debug__" : Str))=false:=by decide) (he:starEach (e :: es) X.env=(false,eval e X.env) :: starEach es X.env:=by rfl) (hpl:(backTo pos (starEach es X.env)).any (·.1)=false:=by rfl) :
    PE X (.Call (.Name x p) (e :: es) [] pos) (zlq sp [] E t):=by
  obtain ⟨f,fd,F,hm,hk,hb⟩:=G.ex
  exact zpz F hr hg hm hk hb .nil hx ha hdb he hpl
end
structure DefAt (K:PySem.W.Frag) (x:Str) (st:Stmt) (f:Addr) (fd:FuncData):Prop where
  ns:PySem.W.nsIn K mainGlobals x=some (some (.ref f))
  fn:Fun K x x st f fd
theorem defAt_mk {K:PySem.W.Frag} {x:Str} {st:Stmt} {f:Addr} {oc:Value} {od an:Option Addr} {osl:Array (Option Value)} {kV doc pm cdv ct:Value} (a:PySem.W.nsIn K mainGlobals x=some (some (.ref f)))
    (l:K.lookup f=some ⟨oc,od,.func (PySem.W.fnOf x x (zcC st) (zcg st) (zao st) .none kV doc pm an cdv ct),osl⟩) (c:PySem.W.codeIn K cdv x=true) (k:PySem.W.keepIn K (.ref f)=true):∃ f fd,DefAt K x st f fd :=
  ⟨f,_,a,ziG l c k⟩
theorem DefAt.has {P:Program} {w:World} {K:PySem.W.Frag} {mg:Str→Option Value} {base h:Heap} {CX:CXT} {k:Nat} {x:Str} {st:Stmt} {f:Addr} {fd:FuncData} {ps:List Str} {sp:Sp} (D:DefAt K x st f fd) (X:K.In h) (G:h.Ns mainGlobals mg)
    (ok:FnOk P w K mg base CX k f fd ps sp) (b:Binds K fd ps []):Has P w K mg base CX k x ps sp:=⟨f,fd,ok,PySem.W.mg_of X G D.ns,D.fn.kp,b⟩
theorem zqK {H:Hp} {a b:Addr} {o u:HO} (hn:H b=none) (h:H a=some o):upd H b u a=some o:=(zau (zay h hn)).trans h
theorem Same.upd {H:Hp} {b:Addr} {u:HO} (hn:H b=none):Same H (upd H b u):=fun _ _ h=>zqK hn h
end L2
namespace L2
open PySem PySem.Spec PyProof.Rows
section
variable {X:Cx} {pos:Pos}
end
end L2
namespace L2
open PySem PySem.Spec PyProof.Rows
theorem kit_self {K:PySem.W.Frag} {T:String}:PySem.W.kitOne K (.type T) (.type T)=some true:=by
  unfold PySem.W.kitOne
  rw [if_pos (by simp)]
theorem kit_no {K:PySem.W.Frag} {S T:String} (h1:((Value.type S) == (Value.type T))=false) (h2:PySem.W.kitMeta T=true) (h3:(PySem.fastBuiltinMro S).map (·.contains (.type T))=some false):PySem.W.kitOne K (.type S) (.type T)=some false:=by
  unfold PySem.W.kitOne
  rw [h1,if_neg Bool.false_ne_true]
  show (if PySem.W.kitMeta T=true then PySem.W.subIn K (.type S) (.type T) else none)=some false
  rw [if_pos h2]
  exact h3
theorem kit_int_bool {K:PySem.W.Frag}:PySem.W.kitOne K (.type "int") (.type "bool")=some false:=kit_no (by decide +kernel) (by decide +kernel) (by decide +kernel)
end L2
namespace L2
open PySem PySem.Spec PyProof.Rows
structure Tr (h:Heap) (e T:Addr) (cls:Value) (dct:Option Addr) (fl:Value):Prop where
  ex:∃ (oe:Obj) (vs:Array Value) (oT:Obj) (ts:Array Value),h.get? e=some oe∧oe.cls=cls∧oe.dict=dct∧oe.data = .fields vs∧vs[1]?=some (.ref T)∧h.get? T=some oT∧oT.data = .fields ts∧ts[3]?=some fl
  ne:T ≠ e
structure FlyD (B:Heap) (l:List Env) (e:Addr) (cls:Value) (dct:Option Addr) (fl:Value) (h:Heap):Prop where
  stays:B.StaysIn h
  out:B.get? e=none
  fun':h.FunFrames B l
  tr:∃ T,B.get? T=none∧Tr h e T cls dct fl
theorem Obj.dict_mapFields (o:Obj) (f):(o.mapFields f).dict=o.dict:=by
  obtain ⟨c,d,dt,sl⟩:=o
  cases dt <;> rfl
theorem zcw {h:Heap} {a b:Addr} {o u:Obj} {vs:Array Value} (ha:h.get? a=some o) (hd:o.data = .fields vs) (hb:h.get? b=some u) (hn:∀ ws,u.data ≠ .fields ws):b ≠ a:=by
  intro z
  subst z
  rw [ha] at hb
  cases hb
  exact hn vs hd
section
variable {M:Model} {A:Around} {E:Value→Shared→Prop} {s:Shared} {B:Heap} {env:Env} {outer l:List Env} {L e:Addr} {cls:Value} {dct:Option Addr} {Q:Unit→Shared→Prop}
theorem zlN {oe:Obj} {vs:Array Value} {head:Value} {had:Bool} (hfr:A.frames=some (env :: outer)) (hl:s.heap.FunFrames B (env :: outer)) (hf:env.frame=some L) (he:s.heap.get? e=some oe) (hd:oe.data = .fields vs) (hsz:1 < vs.size)
    (hst:B.StaysIn s.heap) (hen:B.get? e=none) (h:∀ h',FlyD B (env :: outer) e oe.cls oe.dict (rawInt L) h'→s.heap.UpToSlots h'→Q () { s with heap:=h' }) :
    wpAny M A (do let a ← frameOf env; let pl ← entryPlaceOf L had; let b ← EntryCells.newEntry head a .none (rawInt L) .none pl; setField (.ref e) 1 b) Q E s:=by
  have noF:e ∉ (env :: outer).filterMap (·.frame):=fun hm=>by
    obtain ⟨_,o,ho,hn⟩:=hl.mem hm
    exact zcw he hd ho hn rfl
  refine wpAny_bind (wpAny_frameOf_fun hfr hl hf fun h₁ hs₁=>wpAny_bind (wpAny_entryPlaceOf fun pl hpl=>?_))
  have e1:h₁.get? e=some oe:=(hs₁.2.1 e noF).trans he
  have st1:B.StaysIn h₁:=fun b o q=>(hs₁.2.1 b fun hm=>by rw [(hl.mem hm).1] at q; cases q).trans (hst b o q)
  unfold EntryCells.newEntry newFields
  refine wpAny_bind (wpAny_newObj_type ?_ (hpl.sizeOk5 _ _ _ _ _))
  generalize hto:({ cls:=.type "traceback",dict:=none,data:=.fields ([head,.ref L,.none,rawInt L,.none] ++ (if pl.isEmpty then List.replicate 6 Value.none else pl)).toArray }:Obj)=ot
  have td:∃ ts,ot.data = .fields ts∧ts[3]?=some (rawInt L):=by
    subst hto
    refine ⟨_,rfl,?_⟩
    rcases hpl with rfl | ⟨_,_,_,_,_,_,_,rfl⟩ <;> simp
  have nfr:ot.isFreed=false:=by
    obtain ⟨ts,d,_⟩:=td
    exact Obj.isFreed_of_fields d
  have e2:(h₁.push ot).get? e=some oe:=Heap.get?_push_of_some _ e1
  refine wpAny_setField e2 hd hsz (h _ ?_ ?_)
  · have ne1:h₁.objs.size ≠ e:=Nat.ne_of_gt (Heap.lt_size e1)
    have kp:∀ b o,b ≠ e→h₁.get? b=some o→((h₁.push ot).update e (Obj.mapFields (·.setIfInBounds 1 (Value.ref h₁.objs.size)))).get? b=some o:=fun b o hb q=>by
      rw [Heap.get?_update_other _ _ (Ne.symm hb)]
      exact Heap.get?_push_of_some _ q
    have d3:=Obj.data_mapFields hd (·.setIfInBounds 1 (Value.ref h₁.objs.size))
    refine ⟨fun b o q=>kp b o (fun z=>by rw [z,hen] at q; cases q) (st1 b o q),hen,hl.of_keeps fun b o hb hn=>?_,h₁.objs.size,st1.fresh,⟨?_,ne1⟩⟩
    · obtain ⟨sl,q⟩:=hs₁.2.2 b o hb
      exact ⟨_,kp b _ (zcw he hd hb hn) q,rfl⟩
    · obtain ⟨ts,t1,t2⟩:=td
      refine ⟨_,_,ot,ts,Heap.get?_update_self _ e2 (Obj.isFreed_of_fields d3),Obj.cls_mapFields _ _,Obj.dict_mapFields _ _,d3,by simp [hsz],?_,t1,t2⟩
      rw [Heap.get?_update_other _ _ (Ne.symm ne1)]
      exact Heap.get?_push_size _ nfr
  · intro b o hb hn
    obtain ⟨sl,q⟩:=hs₁.2.2 b o hb
    refine ⟨sl,?_⟩
    rw [Heap.get?_update_other _ _ (Ne.symm (zcw he hd hb hn))]
    exact Heap.get?_push_of_some _ q
theorem zjm {fl:Value} (F:FlyD B l e cls dct fl s.heap) (h:∀ h',FlyD B l e cls dct .none h'→s.heap.UpToSlots h'→Q () { s with heap:=h' }):wpAny M A (setFlight (.ref e) none) Q E s:=by
  obtain ⟨T,bT,⟨oe,vs,oT,ts,he,hc,hdc,hd,h1,hT,hdT,h3⟩,ne⟩:=F.tr
  have sz:3 < ts.size:=(Array.getElem?_eq_some_iff.mp h3).1
  have oth:∀ b o,b ≠ T→s.heap.get? b=some o→(s.heap.update T (Obj.mapFields (·.setIfInBounds 3 Value.none))).get? b=some o:=fun b o hb q=>by
    rw [Heap.get?_update_other _ _ (Ne.symm hb)]
    exact q
  unfold setFlight
  refine wpAny_bind (wpAny_field he hd h1 ?_)
  rw [if_pos (show (Value.ref T != Value.none)=true by simp)]
  refine wpAny_setField hT hdT sz (h _ ⟨fun b o q=>oth b o (fun z=>by rw [z,bT] at q; cases q) (F.stays b o q),F.out,F.fun'.of_keeps fun b o hb hn=>⟨o,oth b o (zcw hT hdT hb hn) hb,rfl⟩,T,bT,⟨?_,ne⟩⟩ fun b o hb hn=>⟨o.slots,oth b o (zcw hT hdT hb hn) hb⟩)
  exact ⟨oe,vs,_,_,oth e oe (Ne.symm ne) he,hc,hdc,hd,h1,Heap.get?_update_self _ hT (Obj.isFreed_of_fields (Obj.data_mapFields hdT _)),Obj.data_mapFields hdT _,by simp [sz]⟩
theorem znv {h:Heap} {args:List Value} (hfr:A.frames=some (env :: outer)) (hf:env.frame=some L) (hst:B.StaysIn h) (hl:h.FunFrames B (env :: outer)) (hx:Heap.MadeExcOf h s.heap e cls args)
    (k:∀ h',FlyD B (env :: outer) e cls none (rawInt L) h'→s.heap.UpToSlots h'→Q () { s with heap:=h' }):wpAny M A (noteFrame (.ref e) env) Q E s:=by
  obtain ⟨t,he,_,_⟩:=hx.there
  have oe:B.get? e=none:=by
    cases q:B.get? e with
    | none=>rfl
    | some o=>have z:=hst e o q; rw [hx.new] at z; cases z
  unfold noteFrame
  simp only [hf]
  refine wpAny_bind (wpAny_field he rfl (x:=Value.none) rfl ?_)
  rw [if_neg (by decide)]
  exact zlN hfr (hl.of_keeps fun b o hb _=>⟨o,hx.keeps b o hb,rfl⟩) hf he rfl (by simp) (fun b o q=>hx.keeps b o (hst b o q)) oe k
theorem zmK (hfr:A.frames=some (env :: outer)) (hf:env.frame=some L) (F:FlyD B (env :: outer) e cls dct .none s.heap)
    (k:∀ h',FlyD B (env :: outer) e cls dct (rawInt L) h'→s.heap.UpToSlots h'→Q () { s with heap:=h' }):wpAny M A (noteFrame (.ref e) env) Q E s:=by
  obtain ⟨T,bT,⟨oe,vs,oT,ts,he,hc,hdc,hd,h1,hT,hdT,h3⟩,ne⟩:=F.tr
  have sz:3 < ts.size:=(Array.getElem?_eq_some_iff.mp h3).1
  have oth:∀ b o,b ≠ T→s.heap.get? b=some o→(s.heap.update T (Obj.mapFields (·.setIfInBounds 3 Value.none))).get? b=some o:=fun b o hb q=>by
    rw [Heap.get?_update_other _ _ (Ne.symm hb)]
    exact q
  subst hc
  subst hdc
  unfold noteFrame
  simp only [hf]
  refine wpAny_bind (wpAny_field he hd h1 ?_)
  rw [if_pos (show (Value.ref T != Value.none)=true by simp)]
  refine wpAny_bind (wpAny_field hT hdT h3 ?_)
  rw [if_neg (show ¬ ((Value.none == rawInt L)=true) by simp [rawInt])]
  refine wpAny_bind (wpAny_setField hT hdT sz ?_)
  refine zlN hfr (F.fun'.of_keeps fun b o hb hn=>⟨o,oth b o (zcw hT hdT hb hn) hb,rfl⟩) hf (oth e oe (Ne.symm ne) he) hd (Array.getElem?_eq_some_iff.mp h1).1 (fun b o q=>oth b o (fun z=>by rw [z,bT] at q; cases q) (F.stays b o q)) F.out fun h' F' up=>?_
  exact k h' F' fun b o hb hn=>up b o (oth b o (zcw hT hdT hb hn) hb) hn
theorem FlyD.pop {h:Heap} {fl:Value} (F:FlyD B (env :: outer) e cls dct fl h):FlyD B outer e cls dct fl h:=⟨F.stays,F.out,F.fun'.2.2,F.tr⟩
end
end L2
namespace L2
open PySem PySem.Spec PyProof.Rows
structure Fly (P:Program) (w:World) (outer:List Env) (H:Hp) (s:Shared) (e:Addr) (cls:Value) (dct:Option Addr) (H':Hp) (s':Shared):Prop where
  os:s'.os=s.os
  bare:AllBare s'.gens
  un:Un (frs outer) [] H H' s.heap s'.heap
  lay:∃ B,FlyD B outer e cls dct .none s'.heap∧HOk P w H' B∧∀ b o,s.heap.get? b=some o→b ∉ frs outer→∃ o',B.get? b=some o'∧(H b=none→o'=o)
def CX1 (P:Program) (w:World):CXT:=fun outer H s E e s'=>∃ (ea C:Addr) (dct:Option Addr) (H':Hp),e = .ref ea∧Fly P w outer H s ea (.ref C) dct H' s'∧E (.ref C) dct H'
theorem HOk.fly {P:Program} {w:World} {H:Hp} {B h:Heap} (x:HOk P w H B) (st:B.StaysIn h):HOk P w H h:=x.kept fun b u q=>st b u q
theorem HOk.none_of {P:Program} {w:World} {H:Hp} {B:Heap} {a:Addr} (x:HOk P w H B) (n:B.get? a=none):H a=none:=by
  cases q:H a with
  | none=>rfl
  | some o =>
    have z:=x.lt q
    have z2:=(x a o q)
    exfalso
    cases o with
    | lst xs=>obtain ⟨_,_,_,_,e⟩:=z2; rw [n] at e; cases e
    | tup xs=>obtain ⟨_,_,_,o,e,_⟩:=z2; rw [n] at e; cases e
    | dK kvs=>obtain ⟨_,_,_,_,o,_,_,e,_⟩:=z2; rw [n] at e; cases e
    | dT kvs=>obtain ⟨_,_,_,_,o,_,_,e,_⟩:=z2; rw [n] at e; cases e
    | set S n'=>obtain ⟨o,_,_,_,e,_⟩:=z2; rw [n] at e; cases e
    | ins C dx fs=>obtain ⟨_,_,_,e,_⟩:=z2; rw [n] at e; cases e
    | own y=>obtain ⟨_,e⟩:=z2; rw [n] at e; cases e
    | xd fs=>obtain ⟨_,⟨_,_,_,e,_⟩,_⟩:=z2; rw [n] at e; cases e
    | rng lo hi=>obtain ⟨_,_,_,e⟩:=z2; rw [n] at e; cases e
    | frz ob u=>obtain ⟨e,_⟩:=z2; rw [n] at e; cases e
    | tbl ps=>obtain ⟨_,_,_,_,_,_,_,e,_⟩:=z2; rw [n] at e; cases e
    | met f y=>have e:B.get? a=some _:=z2; rw [n] at e; cases e
    | ext φ=>obtain ⟨_,⟨_,e⟩,_⟩:=z2; rw [n] at e; cases e
theorem ziC {fs fr:List Addr} {H0 H1 H2:Hp} {h0 h1 h2 h3 B:Heap} {L:Addr} (U:Un fs [] H0 H1 h0 h1) (V:Un fr [] H1 H2 h1 h2) (hL:h0.objs.size ≤ L) (sub:∀ b ∈ fr,b ∈ L :: fs) (sup:∀ b ∈ fs,b ∈ fr) (frf:∀ b ∈ fs,H0 b=none)
    (ndat:∀ b ∈ fs,∀ o,h2.get? b=some o→∀ vs,o.data ≠ .fields vs) (up:h2.UpToSlots h3) (st:B.StaysIn h3) (all:∀ b o,h1.get? b=some o→b ∉ fr→∃ o',B.get? b=some o'∧(H1 b=none→o'=o)) :
    Un fs [] H0 H2 h0 h3∧∀ b o,h0.get? b=some o→b ∉ fs→∃ o',B.get? b=some o'∧(H0 b=none→o'=o):=by
  have nfr:∀ b o,h0.get? b=some o→b ∉ fs→b ∉ fr:=fun b o e hb hm=>by
    rcases List.mem_cons.mp (sub b hm) with z | z
    · exact absurd (Nat.lt_of_lt_of_le (Heap.lt_size e) hL) (by rw [z]; exact Nat.lt_irrefl _)
    · exact hb z
  have third:∀ b o,h0.get? b=some o→b ∉ fs→∃ o',B.get? b=some o'∧(H0 b=none→o'=o):=fun b o e hb=>by
    obtain ⟨o1,e1⟩:=U.there b o e (by simp)
    obtain ⟨o2,e2,z⟩:=all b o1 e1 (nfr b o e hb)
    refine ⟨o2,e2,fun n=>?_⟩
    have e1':=U.keep b o e n hb (by simp)
    rw [e1] at e1'
    cases e1'
    exact z (U.free b o e n (by simp))
  have slots:∀ b o,h0.get? b=some o→b ∈ fs→∃ sl,h3.get? b=some { o with slots:=sl }:=fun b o e hb=>by
    have n:=frf b hb
    obtain ⟨s1,e1⟩:=U.slot b o e n hb (by simp)
    obtain ⟨s2,e2⟩:=V.slot b _ e1 (U.free b o e n (by simp)) (sup b hb) (by simp)
    obtain ⟨s3,e3⟩:=up b _ e2 (ndat b hb _ e2)
    exact ⟨s3,e3⟩
  refine ⟨⟨fun b o e n hb _=>?_,fun b o e n hb _=>slots b o e hb,fun b o e n _=>?_,fun b o e _=>?_,fun b xs e=>V.tups b xs (U.tups b xs e),fun b o u e=>V.frzs b o u (U.frzs b o u e),fun b ps e=>?_⟩,third⟩
  · obtain ⟨o',e',z⟩:=third b o e hb
    rw [z n] at e'
    exact st b o e'
  · obtain ⟨o1,e1⟩:=U.there b o e (by simp)
    exact V.free b o1 e1 (U.free b o e n (by simp)) (by simp)
  · by_cases hb:b ∈ fs
    · obtain ⟨sl,q⟩:=slots b o e hb
      exact ⟨_,q⟩
    · obtain ⟨o',e',_⟩:=third b o e hb
      exact ⟨o',st b o' e'⟩
  · obtain ⟨m1,e1⟩:=U.tbls b ps e
    obtain ⟨m2,e2⟩:=V.tbls b _ e1
    exact ⟨m1 ++ m2,by rw [e2,Array.append_assoc]⟩
section
variable {P:Program} {w:World} {K:PySem.W.Frag} {mg:Str→Option Value} {base:Heap} {N:List Str} {qual:Str} {scope:Scope} {f:Addr} {cd:Value} {A:Around} {outer:List Env} {s0:Shared} {H0:Hp} {E:XK}
abbrev cx1 (P:Program) (w:World) (K:PySem.W.Frag) (mg:Str→Option Value) (base:Heap) (N:List Str) (qual:Str) (scope:Scope) (f:Addr) (cd:Value) (A:Around) (outer:List Env) (s0:Shared) (H0:Hp) (E:XK):Cx:=cxOf (CX1 P w) P w K mg base N qual scope f cd A outer s0 H0 E
theorem znm {pins:List (Addr × Obj)} {σ:St} {H:Hp} {s s':Shared} {ea C:Addr} {args:List Value} (I:Inv (cx1 P w K mg base N qual scope f cd A outer s0 H0 E) pins σ H s) (hm:Heap.MadeExcOf s.heap s'.heap ea (.ref C) args)
    (os:s'.os=s.os) (bare:AllBare s'.gens) (q:E (.ref C) none H):(cx1 P w K mg base N qual scope f cd A outer s0 H0 E).xe (.ref ea) s':=by
  have hin:∀ env ∈ (cx1 P w K mg base N qual scope f cd A outer s0 H0 E).stack,∀ a,env.frame=some a→a ∈ frs (cx1 P w K mg base N qual scope f cd A outer s0 H0 E).stack:=fun env he a ha=>List.mem_filterMap.mpr ⟨env,he,ha⟩
  have hstk:=I.stack
  show wpAny (model P w) _ (leaving _ (.ref ea)) _ _ s'
  unfold leaving
  refine wpAny_bind (znv (B:=PySem.W.hideAll s.heap (frs (cx1 P w K mg base N qual scope f cd A outer s0 H0 E).stack)) I.ok.frames rfl (fun b o e=>PySem.W.of_hideAll _ e) (PySem.W.funFrames_hide hstk hin) hm fun h1 F1 up1=>?_)
  refine zjm F1 fun h2 F2 up2=>?_
  have keepS:∀ b o,s.heap.get? b=some o→b ∉ frs (cx1 P w K mg base N qual scope f cd A outer s0 H0 E).stack→(PySem.W.hideAll s.heap (frs (cx1 P w K mg base N qual scope f cd A outer s0 H0 E).stack)).get? b=some o:=fun b o e hb=>PySem.W.hideAll_get _ e hb
  obtain ⟨u,third⟩:=ziC (h2:=s.heap) (h3:=h2) (B:=PySem.W.hideAll s.heap (frs (cx1 P w K mg base N qual scope f cd A outer s0 H0 E).stack)) (fr:=frs (cx1 P w K mg base N qual scope f cd A outer s0 H0 E).stack) I.base Un.refl I.ok.above I.stkSub
    (fun b hb=>List.mem_cons_of_mem _ hb) I.ok.frf (fun b hb o e=>by
      obtain ⟨_,o',ho',hn⟩:=hstk.mem (List.mem_cons_of_mem _ hb)
      rw [e] at ho'
      cases ho'
      exact hn) ((Heap.UpToSlots.of_keeps hm.keeps).trans (up1.trans up2)) F2.stays (fun b o e hb=>⟨o,keepS b o e hb,fun _=>rfl⟩)
  refine ⟨ea,C,none,H,rfl,⟨os.trans I.os,bare,u,_,F2.pop,?_,third⟩,q⟩
  intro a o e
  refine (I.hok a o e).stay (fun b v hb q=>keepS b v q fun z=>?_) (fun _ q=>q) fun _ _ q=>q
  have n:=I.stkFree b z
  rcases hb with rfl | hb
  · rw [e] at n; cases n
  · rw [hb] at n; cases n
theorem znK {pins:List (Addr × Obj)} {σ:St} {H:Hp} {s s':Shared} {e:Value} (I:Inv (cx1 P w K mg base N qual scope f cd A outer s0 H0 E) pins σ H s) (h:CX1 P w (cx1 P w K mg base N qual scope f cd A outer s0 H0 E).stack H s E e s') :
    (cx1 P w K mg base N qual scope f cd A outer s0 H0 E).xe e s':=by
  obtain ⟨ea,C,dct,H',rfl,F,q⟩:=h
  obtain ⟨B,fl,hok,third⟩:=F.lay
  have hstk:=I.stack
  show wpAny (model P w) _ (leaving _ (.ref ea)) _ _ s'
  unfold leaving
  refine wpAny_bind (zmK I.ok.frames rfl fl fun h1 F1 up1=>?_)
  refine zjm F1 fun h2 F2 up2=>?_
  obtain ⟨u,third'⟩:=ziC (h3:=h2) (B:=B) I.base F.un I.ok.above I.stkSub (fun b hb=>List.mem_cons_of_mem _ hb) I.ok.frf (fun b hb o e=>by
      obtain ⟨_,o',ho',hn⟩:=fl.fun'.mem (List.mem_cons_of_mem _ hb)
      rw [e] at ho'
      cases ho'
      exact hn) (up1.trans up2) F2.stays third
  exact ⟨ea,C,dct,H',rfl,⟨F.os.trans I.os,F.bare,u,B,F2.pop,hok,third'⟩,q⟩
end
theorem zlC {K:PySem.W.Frag} {h:Heap} {C:Addr} {bmB:List Value} {newId:String} (X:K.In h) (q:PySem.W.excIn K C bmB newId=true) :
    ∃ bm N nm qn bs hdct sn sub ab col dd k0 k1 k2 k3 k5 mN,h.get? C=some (excClassObj nm qn C N bs bm hdct sn sub ab col dd k0 k1 k2 k3 k5 newId)∧h.Ns N mN∧mN "__init__"=none∧OwnTail h bmB bm:=by
  unfold PySem.W.excIn at q
  split at q
  · rename_i dd cd sl ho
    split at q
    · rename_i C' bm k0 k1 k2 k3 n k5 hm hs
      simp only [Bool.and_eq_true,beq_iff_eq,Bool.not_eq_true'] at q
      obtain ⟨⟨⟨⟨⟨rfl,rfl⟩,hdel⟩,ht⟩,hok⟩,hni⟩:=q
      obtain ⟨nm,bs,mro,ns,qn,hd,sn,sub,ab,col,del⟩:=cd
      dsimp only at hm hdel hok hni
      subst hm hdel
      obtain ⟨sll⟩:=sl
      simp only at hs
      subst hs
      exact ⟨bm,ns,nm,qn,bs,hd,sn,sub,ab,col,dd,k0,k1,k2,k3,k5,_,X _ _ ho,.of_isNs (PySem.W.isNs_of_in X hok),PySem.W.nsMap_none_of_in X hok hni,PySem.W.tail_of_in X ht⟩
    · cases q
  · cases q
def Made (X:Cx) (E:St→XK):Prop:=∀ (pins:List (Addr × Obj)) (σ:St) (H:Hp) (s s':Shared) (ea C:Addr) (args:List Value),Inv X pins σ H s→Heap.MadeExcOf s.heap s'.heap ea (.ref C) args→s'.os=s.os→AllBare s'.gens→E σ (.ref C) none H→X.xe (.ref ea) s'
def zia (CX:CXT) (X:Cx) (E:St→XK):Prop:=∀ (pins:List (Addr × Obj)) (σ:St) (H:Hp) (s:Shared) (e:Value) (s':Shared),Inv X pins σ H s→CX X.stack H s (E σ) e s'→X.xe e s'
def zof (C:Addr) (E:St→XK) (t:TA):TS:=fun _ σ H=>t σ H fun vs H1=>vs.length ≤ sizeLine∧E σ (.ref C) none H1
section
variable {X:Cx} {x:Str} {np cpos pos:Pos} {e₀:Expr} {rest:List Expr} {C:Addr} {bmB bmN:List Value} {newId Bn B nid inN initId:String} {E:St→XK} {t:TA}
theorem znC (hc:X.calm=true) (hg:Gl X x) (hmx:X.mg x=some (.ref C)) (hk:PySem.W.excIn X.K C bmB newId=true) (Fn:ExcBaseFacts Bn newId inN bmN) (hBn:bmB.contains (.type Bn)=true) (FB:ExcBaseFacts B nid initId bmB) (hE:Made X E)
    (ha:PA X (e₀ :: rest) t) (he:starEach (e₀ :: rest) X.env=(false,eval e₀ X.env) :: starEach rest X.env:=by rfl) (hplain:(backTo cpos (starEach rest X.env)).any (·.1)=false:=by rfl) (hdb:(x == ("__debug__" : Str))=false:=by decide) :
    PS X (.Raise (some (.Call (.Name x np) (e₀ :: rest) [] cpos)) none pos) (zof C E t):=by
  intro pins s σ H D I h
  obtain ⟨tl,N,nm,qn,bs,hdct,sn,sub,ab,col,dd,k0,k1,k2,k3,k5,mN,hC,hN,hni,T⟩:=zlC I.ok.mod.kin hk
  refine wpAny_Raise_call_subU (C:=C) (nm:=nm) (q:=qn) (N:=N) (bs:=bs) (bm:=tl) (hdct:=hdct) (sn:=sn) (sub:=sub) (ab:=ab) (col:=col) (dd:=dd) (k0:=k0) (k1:=k1) (k2:=k2) (k3:=k3) (k5:=k5)
    Fn hBn FB (mN:=mN) (T.hasType FB.hasBase) (I.ok.hd hc) (by rw [he]; show (false || (backTo cpos (starEach rest X.env)).any (·.1))=false; rw [hplain]; rfl) hni (zeN I hg hmx ⟨rfl,?_⟩ hdb)
  have hA:=ha cpos pins s σ H _ I h
  rw [he] at hA ⊢
  refine Calls.evalArgs_plain (thn hA fun us s1 ⟨vs,H1,I1,r1,z,q⟩=>?_)
  have bk:=I1.bk
  refine ⟨rfl,by rw [← r1.length]; exact z,bk _ _ hC,hN.keeps bk,T.keeps bk,fun h' ea hm=>?_⟩
  exact hE pins σ H1 s1 { s1 with heap:=h' } ea C us I1 hm rfl I1.bare q
end
def zoy (sp:Sp) (E:St→XK) (t:TA):TE:=fun σ H Q=>t σ H fun vs H1=>sp vs H1 Q (E σ)
section
variable {X:Cx} {CX:CXT} {k:Nat} {x:Str} {ps:List Str} {sp:Sp} {E:St→XK} {p pos:Pos} {e:Expr} {es:List Expr} {t:TA}
theorem zdI (G:Has X.prog X.w X.K X.mg X.base CX k x ps sp) (hr:Room k X.A) (hg:Gl X x) (hx:zia CX X E)
    (ha:PA X (e :: es) t) (hdb:(x == ("__debug__" : Str))=false:=by decide) (he:starEach (e :: es) X.env=(false,eval e X.env) :: starEach es X.env:=by rfl) (hpl:(backTo pos (starEach es X.env)).any (·.1)=false:=by rfl) :
    PE X (.Call (.Name x p) (e :: es) [] pos) (zoy sp E t):=by
  obtain ⟨f,fd,F,hm,hk,hb⟩:=G.ex
  intro pins s σ H Q I h
  refine wpAny_Call_Name_kw (zeN I hg hm ?_ hdb)
  refine PySem.W.callWith_K (h₀:=X.base) I.ok.mod.kin hk (thn (ha pos pins s σ H _ I h) fun us s1 ⟨vs,H1,I1,r,q⟩=>⟨I1.kIn,?_⟩) he hpl
  have hl:us.length=ps.length:=by rw [← r.length]; exact F.len _ _ _ _ q
  have bd:BindsTo s1 fd ⟨us,[]⟩ (ps.zip us):=by
    have z:=hb s1 us I1.kIn (by rw [List.append_nil]; exact hl)
    rw [List.append_nil] at z
    exact z
  refine wpAny_call (codeAny_mono (F.run X.A X.stack s1 H1 ⟨us,[]⟩ us vs Q (E σ) hr I1.env0 bd r q) fun rs s' hq=>?_)
  cases rs with
  | error e'=>exact hx pins σ H1 s1 e' s' I1 hq
  | ok fl =>
    cases fl with
    | ret u=>exact I1.after hq
    | next=>exact False.elim hq
    | brk=>exact False.elim hq
    | cont=>exact False.elim hq
end
theorem ziy {K:PySem.W.Frag} {M:Model} {A:Around} {E:Value→Shared→Prop} {s:Shared} {Q:Bool→Shared→Prop} {e C D:Addr} {oe:Obj} (X:K.In s.heap) (he:s.heap.get? e=some oe) (hc:oe.cls = .ref C)
    (h1:PySem.W.kitCls K (.ref C) (.ref D)=some true) (h2:PySem.W.mroIn K D (.type "BaseException")=some true) (q:Q true s):wpAny M A (excMatches (.ref e) (.ref D)) Q E s:=by
  obtain ⟨hp,g,d,tk,os⟩:=s
  obtain ⟨l1,l2,l3⟩:=PySem.W.kit_cls (M:=M) X h1
  have l4:=PySem.W.looks_mroIn (M:=M) X h2
  have l5:PySem.W.Looks M hp (isInstance (.ref D) (.type "tuple")) false:=l1.andThen (PySem.W.Looks.of_pure tc_notTuple)
  have l6:PySem.W.Looks M hp (typeOf (.ref e)) (.ref C):=by
    rw [← hc]
    exact (PySem.W.Looks.ld he).andThen .now
  have l7:PySem.W.Looks M hp (isExcClass (.ref D)) true:=l2.andThen (by rw [if_pos rfl]; exact l4)
  unfold excMatches
  repeat (first | with_reducible refine PySem.W.Looks.at l5 ?_ | with_reducible refine PySem.W.Looks.at l6 ?_ | with_reducible refine PySem.W.Looks.at l7 ?_ | with_reducible refine PySem.W.Looks.at l3 ?_ | wp_step)
  exact q
def excO (C:Addr) (dct:Option Addr) (ea:Addr):HO:=.ext fun h=>∃ ob,h.get? ea=some ob∧ob.cls = .ref C∧ob.dict=dct∧∃ vs,ob.data = .fields vs
theorem Inv.track {X:Cx} {pins:List (Addr × Obj)} {σ:St} {H:Hp} {s:Shared} {ea:Addr} {o:HO} (I:Inv X pins σ H s) (hn:H ea=none) (h0:X.s₀.heap.get? ea=none) (hL:ea ≠ X.env.locals) (hc:∀ x c,X.env.cells.lookup x=some c→c ≠ ea)
    (hp:∀ p ∈ X.pn ++ pins,p.1 ≠ ea) (hnew:ObjOk X.prog X.w (upd H ea o) s.heap ea o):Inv X pins σ (upd H ea o) s:=by
  have ne:∀ {b:Addr} {u:HO},H b=some u→b ≠ ea:=fun q z=>by rw [z,hn] at q; cases q
  refine ⟨I.ok,I.os,I.bare,⟨I.base.keep,I.base.slot,fun b ob q n hx=>?_,I.base.there,fun b xs q=>?_,fun b ob u q=>?_,fun b ps q=>?_⟩,I.loc,I.cell,?_,fun x c q=>?_,fun p q=>?_,fun b u q=>?_,I.len⟩
  · rw [zau (fun z=>by rw [z,h0] at q; cases q)]
    exact I.base.free b ob q n hx
  · have z:=I.base.tups b xs q
    rw [zau (ne z)]; exact z
  · have z:=I.base.frzs b ob u q
    rw [zau (ne z)]; exact z
  · obtain ⟨m,z⟩:=I.base.tbls b ps q
    exact ⟨m,by rw [zau (ne z)]; exact z⟩
  · rw [zau (Ne.symm hL)]; exact I.free
  · rw [zau (hc x c q)]; exact I.freeC x c q
  · obtain ⟨a1,a2,a3,a4,a5⟩:=I.pin p q
    exact ⟨a1,by rw [zau (hp p q)]; exact a2,a3,a4,a5⟩
  · by_cases hb:b=ea
    · subst hb
      rw [zax] at q
      cases q
      exact hnew
    · rw [zau hb] at q
      exact (I.hok b u q).stay (fun c v _ z=>z) (fun c z=>by rw [zau (ne z)]; exact z) fun c xs z=>by rw [zau (ne z)]; exact z
def Cx.suite (X:Cx) (ea:Addr):Cx:={ X with A:=X.A.mark (some (.ref ea)),calm:=false,xe:=fun _ _=>False }
theorem Inv.suite {X:Cx} {pins:List (Addr × Obj)} {σ:St} {H:Hp} {s:Shared} (I:Inv X pins σ H s) (ea:Addr):Inv (X.suite ea) pins σ H s :=
  ⟨⟨I.ok.mod,I.ok.kind,I.ok.glob,I.ok.blt,I.ok.above,I.ok.inj,I.ok.has,I.ok.cab,fun z=>(by cases (show false=true from z)),I.ok.frames,I.ok.stk,I.ok.exf,I.ok.bs,I.ok.bsz,I.ok.noex,I.ok.exfs,I.ok.funs,I.ok.frf,I.ok.tb⟩,I.os,I.bare,I.base,I.loc,I.cell,I.free,I.freeC,I.pin,I.hok,I.len⟩
theorem Inv.unsuite {X:Cx} {pins:List (Addr × Obj)} {σ:St} {H:Hp} {s:Shared} {ea:Addr} (ok:X.Ok) (I:Inv (X.suite ea) pins σ H s):Inv X pins σ H s :=
  ⟨ok,I.os,I.bare,I.base,I.loc,I.cell,I.free,I.freeC,I.pin,I.hok,I.len⟩
def tTry (K:PySem.W.Frag) (D':Addr) (tb:(St→XK)→TS) (i:Nat) (th:TS):TS:=fun D σ H =>
  tb (fun σ' cls dct H'=>∃ C,cls = .ref C∧PySem.W.kitCls K (.ref C) (.ref D')=some true∧∀ ea,H' ea=none→th { nx:=fun σ2 H2=>D.nx (σ2.set i none) H2,rt:=D.rt,bk:=fun σ2 H2=>D.bk (σ2.set i none) H2,ct:=fun σ2 H2=>D.ct (σ2.set i none) H2 } (σ'.set i (some (.ref ea))) (upd H' ea (excO C dct ea))) D σ H
section
variable {P:Program} {w:World} {X:Cx} {x n:Str} {np hpos pos:Pos} {body:List Stmt} {b₀:Stmt} {suite:List Stmt} {D':Addr} {tb:(St→XK)→TS} {th:TS} {i:Nat}
theorem zfe {pins:List (Addr × Obj)} {σ:St} {H:Hp} {s:Shared} {Q:Unit→Shared→Prop} (I:Inv X pins σ H s) (hN:X.N.Nodup) (hi:X.N[i]?=some n) (hn:X.env.kindOf n=some .local)
    (k:∀ s',Inv X pins (σ.set i none) H s'→Q () s'):wpAny (model X.prog X.w) X.A (do bindName X.env n .none; unbindBehindTheSuite X.env n hpos) Q X.xe s:=by
  have hk:X.env.scope.names.lookup n=some .local:=hn
  refine wpAny_bind (wpAny_bindName (ze7 I hN hi (.inl hk) (v:=.non) rfl (fun s1 I1=>?_) (.inr hk)))
  obtain ⟨m,hm,hl⟩:=I1.loc
  have li:i < σ.length:=by
    rw [I.len]
    exact (List.getElem?_eq_some_iff.mp hi).1
  obtain ⟨u,ru,lu⟩:=hl i n .non hi (by rw [List.getElem?_set_self li]) (.inl hk)
  have hv:m n=some u:=by
    rcases lu with ⟨_,z⟩ | ⟨z,_⟩
    · exact z
    · rcases z with z | z <;> (rw [hn] at z; cases z)
  unfold unbindBehindTheSuite
  refine wpAny_onRaise (wpAny_unbindName_local hn hm hv (by rw [I.ok.kind]; rfl) fun h' u' hm' hs'=>k _ ?_)
  have I2:Inv X pins (σ.set i none) H s1:=I1.weak (by simp) fun j v e=>by
    by_cases hj:j=i
    · subst hj
      rw [List.getElem?_set_self li] at e
      cases e
    · rw [List.getElem?_set_ne (Ne.symm hj)] at e ⊢
      exact e
  have kp:∀ b o,b ≠ X.env.locals→s1.heap.get? b=some o→h'.get? b=some o:=fun b o hb e=>(hs'.2 b hb).trans e
  have e0:∀ b o,X.s₀.heap.get? b=some o→b ≠ X.env.locals:=fun b o e=>Nat.ne_of_lt (Nat.lt_of_lt_of_le (Heap.lt_size e) I.ok.above)
  refine ⟨I2.ok,I2.os,I2.bare,⟨fun b o e n' hb hx=>kp b o (e0 b o e) (I2.base.keep b o e n' hb hx),fun b o e n' hb hx=>?_,I2.base.free,fun b o e hx=>?_,I2.base.tups,I2.base.frzs,I2.base.tbls⟩,⟨_,hm',fun j y v e1 e2 e3=>?_⟩,fun y c e=>?_,I2.free,I2.freeC,fun p hp=>?_,?_,I2.len⟩
  · obtain ⟨sl,q⟩:=I2.base.slot b o e n' hb hx
    exact ⟨sl,kp b _ (e0 b o e) q⟩
  · obtain ⟨o',q⟩:=I2.base.there b o e hx
    exact ⟨o',kp b o' (e0 b o e) q⟩
  · by_cases hj:j=i
    · subst hj
      rw [List.getElem?_set_self li] at e2
      cases e2
    · rw [List.getElem?_set_ne (Ne.symm hj)] at e2
      have ny:y ≠ n:=fun z=>by
        subst z
        exact hj (zhB hN e1 hi)
      obtain ⟨u2,r2,l2⟩:=hl j y v e1 (by rw [List.getElem?_set_ne (Ne.symm hj)]; exact e2) e3
      refine ⟨u2,r2,?_⟩
      rcases l2 with ⟨k1,k2⟩ | ⟨k1,c,k2,ob,k3,k4⟩
      · exact .inl ⟨k1,by show (if y=n then u' else m y)=_; rw [if_neg ny]; exact k2⟩
      · exact .inr ⟨k1,c,k2,ob,kp c ob (I1.cne y c k2) k3,k4⟩
  · obtain ⟨v,ob,k3,k4⟩:=I2.cell y c e
    exact ⟨v,ob,kp c ob (I2.cne y c e) k3,k4⟩
  · obtain ⟨a1,a2,a3,a4,a5⟩:=I2.pin p hp
    exact ⟨kp _ _ a3 a1,a2,a3,a4,a5⟩
  · intro a o e
    refine (I2.hok a o e).stay (fun b v hb q=>kp b v (fun z=>?_) q) (fun _ q=>q) fun _ _ q=>q
    have fr:=I2.free
    rcases hb with rfl | hb
    · rw [z,fr] at e; cases e
    · rw [z,fr] at hb; cases hb
def Cx.guard (X:Cx) (pl:List (Addr × Obj)) (xe:Value→Shared→Prop):Cx:={ X with pn:=pl,xe:=xe }
theorem Inv.guard {pins:List (Addr × Obj)} {σ:St} {H:Hp} {s:Shared} (I:Inv X pins σ H s) (xe:Value→Shared→Prop):Inv (X.guard (X.pn ++ pins) xe) [] σ H s :=
  ⟨⟨I.ok.mod,I.ok.kind,I.ok.glob,I.ok.blt,I.ok.above,I.ok.inj,I.ok.has,I.ok.cab,I.ok.hd,I.ok.frames,I.ok.stk,I.ok.exf,I.ok.bs,I.ok.bsz,I.ok.noex,I.ok.exfs,I.ok.funs,I.ok.frf,I.ok.tb⟩,I.os,I.bare,I.base,I.loc,I.cell,I.free,I.freeC,
    fun p hp=>I.pin p (by rw [List.append_nil] at hp; exact hp),I.hok,I.len⟩
theorem Inv.unguard {pins pins':List (Addr × Obj)} {σ:St} {H:Hp} {s:Shared} {xe:Value→Shared→Prop} (ok:X.Ok) (I:Inv (X.guard (X.pn ++ pins) xe) pins' σ H s):Inv X pins σ H s :=
  ⟨ok,I.os,I.bare,I.base,I.loc,I.cell,I.free,I.freeC,fun p hp=>I.pin p (List.mem_append_left _ hp),I.hok,I.len⟩
theorem zqS (hex:X.ex = []) (hst:X.stack=X.env :: X.outer) (hfr:X.env.frame=some X.env.locals) (hN:X.N.Nodup) (hi:X.N[i]?=some n) (hn:X.env.kindOf n=some .local) (hg:Gl X x) (hmx:X.mg x=some (.ref D')) (hD:PySem.W.mroIn X.K D' (.type "BaseException")=some true)
    (hb:∀ (E:St→XK) (pl:List (Addr × Obj)) (xe:Value→Shared→Prop),zia (CX1 X.prog X.w) (X.guard pl xe) E→PSs (X.guard pl xe) body (tb E)) (hh:∀ ea,PSs (X.suite ea) (b₀ :: suite) th) (hdb:(x == ("__debug__" : Str))=false:=by decide) :
    PS X (.Try body [.ExceptHandler (some (.Name x np)) (some n) (b₀ :: suite) hpos] [] [] pos) (tTry X.K D' tb i th):=by
  intro pins s σ H D I h
  have ok:=I.ok
  refine wpAny_Try_except ?_
  refine wpAny_mono (hb _ (X.pn ++ pins) (fun e s₁=>wpAny (model X.prog X.w) X.A (noteFrame e X.env) (fun _ s₂=>wpAny (model X.prog X.w) X.A (setFlight e none) (fun _ s₃=>wpAny (model X.prog X.w) X.A (handleBy e X.env [.ExceptHandler (some (.Name x np)) (some n) (b₀ :: suite) hpos]) (SP X pins D) X.xe s₃) X.xe s₂) X.xe s₁) ?_ [] s σ H D (I.guard _) h) (fun f s1 q=>?_) fun _ _ q=>q
  · -- an exception of the body
    intro pins' σ' H1 s1 e s2 I1 hcx
    obtain ⟨ea,C,dct,H',rfl,F,C',hC',hm,hth⟩:=hcx
    cases hC'
    have J1:Inv X pins σ' H1 s1:=I1.unguard ok
    have F':Fly X.prog X.w (X.env :: X.outer) H1 s1 ea (.ref C) dct H' s2:=by
      rw [← hst]
      exact F
    obtain ⟨Fos,Fbare,Fun,B,fl,hok,third⟩:=F'
    have fr2:X.A.frames=some (X.env :: X.outer):=by rw [← hst]; exact ok.frames
    -- whatever the heap behind
    have land:∀ h' ,FlyD B (X.env :: X.outer) ea (.ref C) dct .none h'→s2.heap.UpToSlots h'→Inv X pins σ' H' { s2 with heap:=h' }:=fun h' F' up=>by
      obtain ⟨u,_⟩:=ziC (fs:=frs (X.env :: X.outer)) (fr:=frs (X.env :: X.outer)) (h0:=s1.heap) (h1:=s1.heap) (h3:=h') (B:=B) (L:=s1.heap.objs.size) Un.refl Fun (Nat.le_refl _) (fun b hb=>List.mem_cons_of_mem _ hb) (fun b hb=>hb)
        (fun b hb=>J1.stkFree b (by rw [hst]; exact hb)) (fun b hb o e=>by
          obtain ⟨_,o',ho',hn'⟩:=fl.fun'.mem hb
          rw [e] at ho'
          cases ho'
          exact hn') up F'.stays third
      obtain ⟨hh2,g2,d2,t2,os2⟩:=s2
      obtain rfl:os2=s1.os:=Fos
      show Inv X pins σ' H' { s1 with heap:=h',gens:=g2,drawn:=d2,toks:=t2 }
      exact J1.call (h':=h') (g':=g2) (d':=d2) (t':=t2) (ch:=[]) (by rw [hst]; exact u) (hok.fly F'.stays) Fbare fun b z=>absurd z (by simp)
    show wpAny (model X.prog X.w) X.A (noteFrame (.ref ea) X.env) _ _ s2
    refine zmK fr2 hfr fl fun h1 F1 up1=>?_
    refine zjm F1 fun h2 F2 up2=>?_
    have J2:=land h2 F2 (up1.trans up2)
    obtain ⟨T,_,⟨oe,vs,_,_,he,hc,hdc,hd,_⟩,_⟩:=F2.tr
    refine wpAny_handleBy_cons (codeAny_handlers_test (zeN (X:=X.suite ea) (J2.suite ea) hg hmx ?_ hdb)) (by intro z; cases z)
    refine ziy (K:=X.K) J2.kIn he hc hm hD ?_
    refine codeAny_handlers_suite_as ?_
    refine zjm F2 fun h3 F3 up3=>?_
    have J3:=land h3 F3 ((up1.trans up2).trans up3)
    obtain ⟨T3,_,⟨oe3,vs3,_,_,he3,hc3,hdc3,hd3,_⟩,_⟩:=F3.tr
    have nH:H' ea=none:=hok.none_of F3.out
    have nfr:ea ∉ frs X.stack:=fun z=>by
      rw [hst] at z
      obtain ⟨_,o',ho',hn'⟩:=F3.fun'.mem z
      exact zcw he3 hd3 ho' hn' rfl
    have nB:∀ b o,s1.heap.get? b=some o→b ∉ frs X.stack→b ≠ ea:=fun b o e hb z=>by
      obtain ⟨o',e',_⟩:=third b o e (by rw [← hst]; exact hb)
      rw [z,F3.out] at e'
      cases e'
    have nL:ea ≠ X.env.locals:=fun z=>nfr (by
      rw [hst,z]
      exact List.mem_filterMap.mpr ⟨X.env,List.mem_cons_self,hfr⟩)
    have J4:Inv (X.suite ea) pins σ' (upd H' ea (excO C dct ea)) { s2 with heap:=h3 }:=(J3.suite ea).track nH (by
        cases z:X.s₀.heap.get? ea with
        | none=>exact z
        | some o =>
          obtain ⟨o1,e1⟩:=J1.base.there ea o z (by rw [hex]; simp)
          exact absurd rfl (nB ea o1 e1 nfr)) nL (fun y c e z=>by
        obtain ⟨v,ob,k3,k4⟩:=J3.cell y c e
        rw [z] at k3
        have k3':h3.get? ea=some ob:=k3
        rw [he3] at k3'
        cases k3'
        rw [hd3] at k4
        cases k4) (fun p hp=>by
        obtain ⟨a1,_,a3,a4,_⟩:=J1.pin p hp
        exact nB p.1 p.2 a1 fun z=>(List.mem_cons.mp (J1.stkSub p.1 z)).elim a3 a4)
      ⟨⟨oe3,he3,hc3,hdc3,vs3,hd3⟩,⟨oe3,he3⟩,fun g1 g2 z k=>by
        obtain ⟨ob,z1,z2⟩:=z
        exact ⟨ob,k ob z1,z2⟩⟩
    refine ze7 (X:=X.suite ea) J4 hN hi (.inl hn) (v:=.ref ea) rfl (fun s5 I5=>?_) (.inr hn)
    refine wpAny_mono (hh ea pins s5 _ _ _ I5 (hth ea nH)) (fun f s6 q6=>?_) fun _ _ z=>z.elim
    cases f with
    | next =>
      obtain ⟨σ6,H6,I6,q6⟩:=q6
      exact zfe (I6.unsuite ok) hN hi hn fun s7 I7=>⟨_,_,I7,q6⟩
    | brk =>
      obtain ⟨σ6,H6,I6,q6⟩:=q6
      exact zfe (I6.unsuite ok) hN hi hn fun s7 I7=>⟨_,_,I7,q6⟩
    | cont =>
      obtain ⟨σ6,H6,I6,q6⟩:=q6
      exact zfe (I6.unsuite ok) hN hi hn fun s7 I7=>⟨_,_,I7,q6⟩
    | ret v =>
      obtain ⟨v6,σ6,H6,I6,r6,q6⟩:=q6
      exact zfe (I6.unsuite ok) hN hi hn fun s7 I7=>⟨v6,_,_,I7,r6,q6⟩
  · cases f with
    | next =>
      obtain ⟨σ6,H6,I6,q6⟩:=q
      exact wpAny_execs_nil ⟨σ6,H6,I6.unguard ok,q6⟩
    | brk =>
      obtain ⟨σ6,H6,I6,q6⟩:=q
      exact ⟨σ6,H6,I6.unguard ok,q6⟩
    | cont =>
      obtain ⟨σ6,H6,I6,q6⟩:=q
      exact ⟨σ6,H6,I6.unguard ok,q6⟩
    | ret v =>
      obtain ⟨v6,σ6,H6,I6,r6,q6⟩:=q
      exact ⟨v6,σ6,H6,I6.unguard ok,r6,q6⟩
end
end L2
namespace L2
open PySem PySem.Spec PyProof.Rows
structure ExcCls (K:PySem.W.Frag) (C:Addr):Prop where
  ga:PySem.W.findIn K (.ref C) "__getattribute__"=some (some (.builtin "BaseException.__getattribute__"))
  gn:PySem.W.findIn K (.ref C) "__getattr__"=some none
  hd:PySem.W.hasDictIn K C=true
  ha:PySem.W.findIn K (.ref C) "__class__"=some (some (.builtin "object.__class__"))
  hn:PySem.W.specialIn K (.builtin "object.__class__") "__get__"=some (some (.builtin "getset_descriptor.__get__"))
  htk:PySem.W.takesIn K (.builtin "object.__class__")=some true
  hm:PySem.W.mroIn K C (.type "object")=some true
  hb:PySem.W.mroIn K C (.type "BaseException")=some true
theorem zjn {K:PySem.W.Frag} {C:Addr} {od:Option Obj} {name:Str} {a g:Value} (hc:(PySem.W.clsIn K C).isSome=true) (ha:PySem.W.findIn K (.ref C) name=some (some a)) (hg:PySem.W.specialIn K a "__get__"=some (some g)) (ht:PySem.W.takesIn K a=some true) :
    PySem.W.findObj K C od name=some (.bind g a):=by
  obtain ⟨cd,hc⟩:=Option.isSome_iff_exists.mp hc
  unfold PySem.W.findObj
  rw [hc,Option.bind_some,ha,Option.bind_some]
  simp only [hg]
  show (PySem.W.takesIn K a).bind _=_
  rw [ht]
  rfl
set_option maxHeartbeats 4000000 in
theorem zle {K:PySem.W.Frag} {x C:Addr} {ox:Obj} {od:Option Obj} {prog:Program} {w:World} {A:Around} {E:Value→Shared→Prop} {Q:Option Value→Shared→Prop} {s:Shared} (Z:ExcCls K C) (X:K.In s.heap) (I:PySem.W.InstAt s.heap x ox C od)
    (k:Q (some (.ref C)) { s with toks:=s.toks + 1 }):wpAny (model prog w) A (getAttr? (.ref x) "__class__") Q E s:=by
  have hf:PySem.W.findObj K C od "__class__"=some (.bind (.builtin "getset_descriptor.__get__") (.builtin "object.__class__")):=zjn (by obtain ⟨cd,hc,_⟩:=PySem.W.any_some Z.hd; rw [hc]; rfl) Z.ha Z.hn Z.htk
  have X':=X
  have I':=I
  have Z':=Z
  obtain ⟨hh,g,d,t,os⟩:=s
  have L0:=I.type (M:=model prog w)
  have L1:=PySem.W.looks_findIn (M:=model prog w) X Z.ga
  have L2:=PySem.W.looks_findIn (M:=model prog w) X Z.gn
  have L3:=PySem.W.looks_find (M:=model prog w) X I hf
  have L4:PySem.W.Looks (model prog w) hh (isInstance (.ref x) (.type "BaseException")) true:=L0.andThen (PySem.W.looks_mroIn X Z.hb)
  have f3:=F.attr_ValueError.ga.bind (.ref x)
  have hx0:((false:Bool) && onTheHeap (Value.builtin "BaseException.__getattribute__"))=false:=rfl
  have hx2:(Value.builtin "BaseException.__getattribute__" == Value.builtin "object.__getattribute__")=false:=by decide +kernel
  have hx1:(onTheHeap (Value.ref C) && Value.builtin "BaseException.__getattribute__" == Value.builtin "object.__getattribute__")=false:=by rw [hx2]; rfl
  unfold getAttr? getAttrBy?
  refine wpAny_bind (wpAny_mkText (wpAny_bind (wpAny_attempt ?_)))
  repeat (any_goals (first | assumption | with_reducible refine PySem.W.Looks.at L0 ?_ | with_reducible refine PySem.W.Looks.at L1 ?_ | with_reducible refine PySem.W.Looks.at L2 ?_ | wp_step))
  have hk:builtinKind "BaseException.__getattribute__"=some .slot:=by decide +kernel
  have hsplit:splitId "BaseException.__getattribute__"=some ("BaseException","__getattribute__"):=by decide +kernel
  have har:=F.args_bexc_ga (.ref x) (.str "__class__" t)
  refine codeAny_call_builtin F.attr_ValueError.ga.plain F.entry_bexc_ga ?_
  simp only [checkBuiltinCall,hk,hsplit]
  refine wpAny_bind ?_
  refine PySem.W.Looks.at L4 ?_
  repeat (any_goals (first | assumption | with_reducible refine PySem.W.Looks.at L4 ?_ | with_reducible refine PySem.W.Looks.at L0 ?_ | with_reducible refine PySem.W.Looks.at L3 ?_ | wp_step))
  exact PySem.W.class_get (s:=⟨hh,g,d,t + 1,os⟩) (ox:=ox) (od:=od) X I Z.hm (wpAny_pure (PySem.W.handed_on rfl (wpAny_pure k)))
theorem zkw {K:PySem.W.Frag} {x C:Addr} (Z:ExcCls K C):PySem.W.KitX K (.ref x) (.ref C) (fun h=>∃ ox od,PySem.W.InstAt h x ox C od) where
  ty:=fun _ _ _ I=>by
    obtain ⟨ox,od,I⟩:=I
    exact I.type
  it:=fun _ _ X _=>by
    obtain ⟨cd,hc,_⟩:=PySem.W.any_some Z.hd
    unfold PySem.W.clsIn at hc
    split at hc
    · rename_i ho
      intro A' Q' E' s' k q
      unfold isType loadHead
      exact wpAny_bind (wpAny_loadPart (k _ _ (X _ _ ho)) (wpAny_pure q))
    · cases hc
  ne:=fun h tp dd its n sl X htp=>by
    obtain ⟨cd,hc,_⟩:=PySem.W.any_some Z.hd
    refine Bool.eq_false_iff.mpr fun q=>?_
    have e:C=tp:=Value.ref.inj (beq_iff_eq.mp q)
    subst e
    unfold PySem.W.clsIn at hc
    split at hc
    · rename_i ho
      have z:=(X _ _ ho).symm.trans htp
      cases z
    · cases hc
  ca:=fun {prog w A E Q s} X I k=>by
    obtain ⟨ox,od,I⟩:=I
    exact zle Z X I k
theorem zh4 {K:PySem.W.Frag} {C D:Addr} {b:Bool} (h1:PySem.W.hasDictIn K D=true) (h2:PySem.W.typeIn K (.ref D)=some (.type "type")) (h3:PySem.W.mroIn K C (.ref D)=some b):PySem.W.kitCls K (.ref C) (.ref D)=some b:=by
  obtain ⟨cd,hc,_⟩:=PySem.W.any_some h1
  show (if ((PySem.W.clsIn K D).isSome && PySem.W.typeIn K (.ref D) == some (.type "type"))=true then PySem.W.subIn K (.ref C) (.ref D) else none)=some b
  rw [hc,h2,if_pos (by simp)]
  exact h3
theorem zdm {K:PySem.W.Frag} {C D:Addr} {b:Bool} (h1:PySem.W.hasDictIn K D=true) (h2:PySem.W.typeIn K (.ref D)=some (.type "type")) (h3:PySem.W.mroIn K C (.ref D)=some b) (h4:PySem.W.mroIn K C (.ref C)=some true):PySem.W.kitOne K (.ref C) (.ref D)=some b:=by
  unfold PySem.W.kitOne
  by_cases e:C=D
  · subst e
    rw [if_pos (by simp)]
    exact h4.symm.trans h3
  · rw [if_neg (by simpa using e)]
    exact zh4 h1 h2 h3
theorem zkc {K:PySem.W.Frag} {C:Addr} {S:String} {b:Bool} (h1:PySem.W.kitMeta S=true) (h2:PySem.W.mroIn K C (.type S)=some b):PySem.W.kitOne K (.ref C) (.type S)=some b:=by
  unfold PySem.W.kitOne
  rw [if_neg (by simp)]
  show (if PySem.W.kitMeta S=true then PySem.W.subIn K (.ref C) (.type S) else none)=some b
  rw [if_pos h1]
  exact h2
theorem zed:PySem.W.kitMeta "ValueError"=true:=by decide +kernel
section
variable {X:Cx}
def rIsX (K:PySem.W.Frag):List V→Hp→VK→Prop:=fun xs H Q=>∃ a C dct c cv b,xs = [.ref a,c]∧clsV c=some cv∧H a=some (excO C dct a)∧(∀ dx,dct=some dx→∃ fs,H dx=some (.xd fs))∧ExcCls K C∧PySem.W.kitOne K (.ref C) cv=some b∧Q (.bl b) H
theorem zbo:zdr X (.builtin "isinstance") (rIsX X.K):=by
  intro pins s σ H xs us Q I r h
  obtain ⟨a,C,dct,c,cv,b,rfl,hc,hH,hdx,Z,hk,q⟩:=h
  obtain ⟨u,v,rfl,rx,ry⟩:=zmp r
  cases zjZ hc ry
  cases (show u=Value.ref a from rx)
  obtain ⟨⟨ob,h1,h2,h3,vs,h4⟩,_⟩:=I.hok a _ hH
  cases dct with
  | none=>exact PySem.W.kia_one (zkw Z) I.kIn ⟨ob,none,h1,h2,by unfold PySem.W.notCls; rw [h4],by rw [h3]; trivial⟩ hk (fun z=>nomatch z) fun tk=>⟨.bl b,H,I.tok _,rfl,q⟩
  | some dx =>
    obtain ⟨fs,efs⟩:=hdx dx rfl
    obtain ⟨_,⟨od,_,_,hod,_⟩,_⟩:=(show ObjOk X.prog X.w H s.heap dx (.xd fs) from I.hok dx _ efs)
    exact PySem.W.kia_one (zkw Z) I.kIn ⟨ob,some od,h1,h2,by unfold PySem.W.notCls; rw [h4],by rw [h3]; exact hod⟩ hk (fun z=>nomatch z) fun tk=>⟨.bl b,H,I.tok _,rfl,q⟩
end
section
variable {P:Program} {w:World} {K:PySem.W.Frag} {mg:Str→Option Value} {base:Heap} {N:List Str} {qual:Str} {scope:Scope} {f:Addr} {cd:Value} {A:Around} {outer:List Env} {s0:Shared} {H0:Hp} {E:XK}
theorem zrj:Made (cx1 P w K mg base N qual scope f cd A outer s0 H0 E) (fun _=>E):=fun _ _ _ _ _ _ _ _ I hm os bare q=>znm I hm os bare q
theorem zjt:zia (CX1 P w) (cx1 P w K mg base N qual scope f cd A outer s0 H0 E) (fun _=>E):=fun _ _ _ _ _ _ I h=>znK I h
theorem zps {X:Cx}:zhn (CX1 P w) X E0:=fun _ _ _ _ _ _ _ h=>by
  obtain ⟨_,_,_,_,_,_,z⟩:=h
  exact z.elim
theorem Fun.ok1 {x qual:Str} {st:Stmt} {f:Addr} {fd:FuncData} {N ps:List Str} {k:Nat} {sp:Sp} (F:Fun K x qual st f fd) (S:FnScope N ps (zao st)) (len:∀ vs H Q E,sp vs H Q E→vs.length=ps.length)
    (hbody:∀ (cdv:Value) (A:Around) (outer:List Env) (s:Shared) (H:Hp) (vs:List V) (Q:VK) (E:XK),Room k (A.deeper (envOfC qual (zao st) s.heap.objs.size f cdv))→sp vs H Q E →
      ∃ t,PSs (cx1 P w K mg base N qual (zao st) f cdv A outer s H E) (zcg st) t∧t { nx:=fun _ H'=>Q .non H',rt:=Q } (start N vs) H):FnOk P w K mg base (CX1 P w) (k + 1) f fd ps sp:=by
  obtain ⟨oc,od,kV,doc,pm,an,cdv,ct,osl,rfl,lk,hcd⟩:=F.ex
  exact zoG lk hcd S len fun A outer s H vs Q E hr hsp=>hbody cdv A outer s H vs Q E hr hsp
end
end L2
namespace PM
open PySem L2
inductive D where
  | non | bl (b:Bool) | int (i:Int) | str (x:Str) | tup (l:List D) | lst (l:List D) | dct (ks:List Key) (l:List D) | scr (l:List Int) | exc (c:Nat) | fd (ks:List Key) (l:List D) | obj (c:Nat) (ks:List Str) (l:List D)
structure Kx where
  f:W.Frag
  ca:Nat→Addr
  an:Nat→Str
def XA (K:Kx) (F:Hp) (c:Nat) (dct:Option Addr):Prop:=if c < 16 then dct=none else ∃ dx,dct=some dx∧F dx=some (.xd [(K.an c,.int (((c / 16:Nat):Int) - 1))])
section
variable (K:Kx)
mutual
def Rep (F:Hp):D→V→Prop
  | .non,v=>v = .non
  | .bl b,v=>v = .bl b
  | .int i,v=>v = .int i
  | .str x,v=>v = .str x
  | .scr l,v=>∃ a,v = .ref a∧SqL K.f F a (l.map V.int)
  | .exc c,v=>∃ a dct,v = .ref a∧F a=some (excO (K.ca c) dct a)∧XA K F c dct
  | .tup l,v=>∃ a vs,v = .ref a∧F a=some (.tup vs)∧RepL F l vs
  | .fd ks l,v=>∃ a o kvs,v = .ref a∧F a=some (.frz o (.dK kvs))∧kvs.map (·.1)=ks∧RepL F l (kvs.map (·.2))
  | .obj c ks l,v=>∃ a dx fs,v = .ref a∧F a=some (.ins (K.ca c) dx fs)∧fs.map (·.1)=ks∧RepL F l (fs.map (·.2))
  | .lst l,v=>∃ a vs,v = .ref a∧Rd F a (.lst vs)∧RepL F l vs
  | .dct ks l,v=>∃ a kvs,v = .ref a∧F a=some (.dK kvs)∧kvs.map (·.1)=ks∧RepL F l (kvs.map (·.2))
def RepL (F:Hp):List D→List V→Prop
  | [],vs=>vs = []
  | d :: l,vs=>∃ v r,vs=v :: r∧Rep F d v∧RepL F l r
end
end
def ifC {α:Type} (p:Prop) (a b:α):α:=@ite α p (Classical.propDecidable p) a b
@[simp] theorem zbn {α:Type} {p:Prop} {a b:α} (h:p):ifC p a b=a:=if_pos h
theorem zly {α:Type} {p:Prop} {a b:α} (h:¬ p):ifC p a b=b:=if_neg h
structure Xc where
  c:Nat
inductive R (α:Type) where
  | no | ok (a:α) | ex (x:Xc)
namespace R
def bind {α β:Type}:R α→(α→R β)→R β
  | .no,_=>.no
  | .ok a,f=>f a
  | .ex x,_=>.ex x
@[simp] theorem bind_ok {α β:Type} (a:α) (f:α→R β):(R.ok a).bind f=f a:=rfl
@[simp] theorem zri {α β:Type} (f:α→R β):(R.no:R α).bind f = .no:=rfl
@[simp] theorem zrh {α β:Type} (x:Xc) (f:α→R β):(R.ex x:R α).bind f = .ex x:=rfl
end R
inductive Sl where
  | no | v (d:D) | o (d:D) | l (d:D) | p (ll:List (List Int))
abbrev En:=List Sl
inductive O where
  | no | nx (δ:En) | rt (d:D) | ro (d:D) | bk (δ:En) | ct (δ:En) | ex (δ:En) (x:Xc)
structure Ext (F H F' H':Hp):Prop where
  ff:Same F F'
  hh:Same H H'
  fh:Same F' H'
  nw:∀ p o,F p=none→H p=some o→F' p=none
theorem Ext.refl {F H:Hp} (s:Same F H):Ext F H F H:=⟨.refl _,.refl _,s,fun _ _ h _=>h⟩
theorem Ext.trans {F H F1 H1 F2 H2:Hp} (a:Ext F H F1 H1) (b:Ext F1 H1 F2 H2):Ext F H F2 H2 :=
  ⟨a.ff.trans b.ff,a.hh.trans b.hh,b.fh,fun p o h1 h2=>b.nw p o (a.nw p o h1 h2) (a.hh p o h2)⟩
theorem Ext.new {F H:Hp} {p:Addr} {o:HO} (s:Same F H) (h:H p=none):Ext F H (upd F p o) (upd H p o):=by
  have hf:=s.free h
  refine ⟨Same.upd hf,Same.upd h,fun b u q=>?_,fun q u h1 h2=>?_⟩
  · by_cases e:b=p
    · subst e; rw [zax] at q ⊢; exact q
    · rw [zau e] at q ⊢; exact s _ _ q
  · rw [zau (zay h2 h)]; exact h1
theorem Ext.newO {F H:Hp} {p:Addr} {o:HO} (s:Same F H) (h:H p=none):Ext F H F (upd H p o):=by
  refine ⟨.refl _,Same.upd h,s.trans (Same.upd h),fun q u h1 h2=>h1⟩
theorem Same.rd {H H':Hp} {a:Addr} {u:HO} (e:Same H H') (h:Rd H a u):Rd H' a u:=h.elim (fun h=>.inl (e _ _ h)) fun ⟨o,h⟩=>.inr ⟨o,e _ _ h⟩
section
variable {K:Kx} {F F' H H':Hp}
theorem XA.mono {c:Nat} {dct:Option Addr} (h:XA K F c dct) (e:Same F F'):XA K F' c dct:=by
  unfold XA at h ⊢
  split
  · rename_i hc; rw [if_pos hc] at h; exact h
  · rename_i hc
    rw [if_neg hc] at h
    obtain ⟨dx,h1,h2⟩:=h
    exact ⟨dx,h1,e _ _ h2⟩
mutual
theorem Rep.mono (e:Same F F'):∀ (d:D) {v:V},Rep K F d v→Rep K F' d v
  | .non,v,h=>by simpa only [Rep] using h
  | .bl b,v,h=>by simpa only [Rep] using h
  | .int b,v,h=>by simpa only [Rep] using h
  | .str b,v,h=>by simpa only [Rep] using h
  | .exc c,v,h=>by
    simp only [Rep] at h ⊢
    obtain ⟨a,dct,h1,h2,h3⟩:=h
    exact ⟨a,dct,h1,e _ _ h2,h3.mono e⟩
  | .fd ks l,v,h=>by
    simp only [Rep] at h ⊢
    obtain ⟨a,o,vs,h1,h2,h0,h3⟩:=h
    exact ⟨a,o,vs,h1,e _ _ h2,h0,RepL.mono e l h3⟩
  | .obj c ks l,v,h=>by
    simp only [Rep] at h ⊢
    obtain ⟨a,o,vs,h1,h2,h0,h3⟩:=h
    exact ⟨a,o,vs,h1,e _ _ h2,h0,RepL.mono e l h3⟩
  | .scr l,v,h=>by
    simp only [Rep] at h ⊢
    obtain ⟨a,h1,h2⟩:=h
    exact ⟨a,h1,e.seq h2⟩
  | .tup l,v,h=>by
    simp only [Rep] at h ⊢
    obtain ⟨a,vs,h1,h2,h3⟩:=h
    exact ⟨a,vs,h1,e _ _ h2,RepL.mono e l h3⟩
  | .lst l,v,h=>by
    simp only [Rep] at h ⊢
    obtain ⟨a,vs,h1,h2,h3⟩:=h
    exact ⟨a,vs,h1,PM.Same.rd e h2,RepL.mono e l h3⟩
  | .dct ks l,v,h=>by
    simp only [Rep] at h ⊢
    obtain ⟨a,vs,h1,h2,h0,h3⟩:=h
    exact ⟨a,vs,h1,e _ _ h2,h0,RepL.mono e l h3⟩
theorem RepL.mono (e:Same F F'):∀ (l:List D) {vs:List V},RepL K F l vs→RepL K F' l vs
  | [],vs,h=>by simpa only [RepL] using h
  | d :: l,vs,h=>by
    simp only [RepL] at h ⊢
    obtain ⟨v,r,h1,h2,h3⟩:=h
    exact ⟨v,r,h1,Rep.mono e d h2,RepL.mono e l h3⟩
end
theorem RepL.length:∀ {l:List D} {vs:List V},RepL K F l vs→vs.length=l.length
  | [],vs,h=>by simp only [RepL] at h; subst h; rfl
  | d :: l,vs,h=>by
    simp only [RepL] at h
    obtain ⟨v,r,rfl,_,h3⟩:=h
    simp [RepL.length h3]
theorem RepL.get:∀ {l:List D} {vs:List V} {i:Nat} {d:D},RepL K F l vs→l[i]?=some d→∃ v,vs[i]?=some v∧Rep K F d v
  | [],vs,i,d,h,e=>by simp at e
  | x :: l,vs,0,d,h,e=>by
    simp only [RepL] at h
    obtain ⟨v,r,rfl,h2,h3⟩:=h
    simp at e; subst e
    exact ⟨v,rfl,h2⟩
  | x :: l,vs,i + 1,d,h,e=>by
    simp only [RepL] at h
    obtain ⟨v,r,rfl,h2,h3⟩:=h
    obtain ⟨u,h4,h5⟩:=RepL.get h3 (i:=i) (d:=d) (by simpa using e)
    exact ⟨u,by simpa using h4,h5⟩
theorem RepL.nil:RepL K F [] []:=by simp only [RepL]
theorem RepL.cons {d:D} {l:List D} {v:V} {vs:List V} (h1:Rep K F d v) (h2:RepL K F l vs):RepL K F (d :: l) (v :: vs):=by
  simp only [RepL]; exact ⟨v,vs,rfl,h1,h2⟩
theorem RepL.append:∀ {l:List D} {vs:List V} {l':List D} {vs':List V},RepL K F l vs→RepL K F l' vs'→RepL K F (l ++ l') (vs ++ vs')
  | [],vs,l',vs',h,h'=>by simp only [RepL] at h; subst h; exact h'
  | d :: l,vs,l',vs',h,h'=>by
    simp only [RepL] at h
    obtain ⟨v,r,rfl,h2,h3⟩:=h
    exact .cons h2 (RepL.append h3 h')
theorem RepL.drop:∀ {l:List D} {vs:List V} (n:Nat),RepL K F l vs→RepL K F (l.drop n) (vs.drop n)
  | l,vs,0,h=>h
  | [],vs,n + 1,h=>by simp only [RepL] at h; subst h; exact .nil
  | d :: l,vs,n + 1,h=>by
    simp only [RepL] at h
    obtain ⟨v,r,rfl,h2,h3⟩:=h
    exact RepL.drop n h3
theorem RepL.take:∀ {l:List D} {vs:List V} (n:Nat),RepL K F l vs→RepL K F (l.take n) (vs.take n)
  | l,vs,0,h=>by simpa using RepL.nil
  | [],vs,n + 1,h=>by simp only [RepL] at h; subst h; exact .nil
  | d :: l,vs,n + 1,h=>by
    simp only [RepL] at h
    obtain ⟨v,r,rfl,h2,h3⟩:=h
    exact .cons h2 (RepL.take n h3)
theorem RepL.set:∀ {l:List D} {vs:List V} {d:D} {v:V} (i:Nat),RepL K F l vs→Rep K F d v→RepL K F (l.set i d) (vs.set i v)
  | [],vs,d,v,i,h,_=>by simp only [RepL] at h; subst h; exact .nil
  | x :: l,vs,d,v,0,h,h'=>by
    simp only [RepL] at h
    obtain ⟨u,r,rfl,h2,h3⟩:=h
    exact .cons h' h3
  | x :: l,vs,d,v,i + 1,h,h'=>by
    simp only [RepL] at h
    obtain ⟨u,r,rfl,h2,h3⟩:=h
    exact .cons h2 (RepL.set i h3 h')
theorem RepL.ints {ns:List Int}:RepL K F (ns.map .int) (ns.map .int):=by
  induction ns with
  | nil=>exact .nil
  | cons a l ih=>exact .cons rfl ih
end
section
variable (K:Kx)
def Top (F H:Hp):D→V→Prop
  | .lst l,v=>∃ a vs,v = .ref a∧Rd H a (.lst vs)∧RepL K F l vs
  | .dct ks l,v=>∃ a kvs,v = .ref a∧H a=some (.dK kvs)∧kvs.map (·.1)=ks∧RepL K F l (kvs.map (·.2))
  | .obj c ks l,v=>∃ a dx fs,v = .ref a∧H a=some (.ins (K.ca c) dx fs)∧fs.map (·.1)=ks∧RepL K F l (fs.map (·.2))
  | d,v=>Rep K F d v
def Own (F H:Hp):D→Addr→Prop
  | .lst l,a=>∃ vs,H a=some (.lst vs)∧RepL K F l vs
  | .dct ks l,a=>∃ kvs,H a=some (.dK kvs)∧kvs.map (·.1)=ks∧RepL K F l (kvs.map (·.2))
  | .obj c ks l,a=>∃ dx fs,H a=some (.ins (K.ca c) dx fs)∧fs.map (·.1)=ks∧RepL K F l (fs.map (·.2))
  | _,_=>False
structure Tab (H:Hp) (a:Addr) (bs:List Addr) (ll:List (List Int)):Prop where
  top:H a=some (.lst (bs.map .ref))
  len:bs.length=ll.length
  row:∀ (i:Nat) (b:Addr) (l:List Int),bs[i]?=some b→ll[i]?=some l→H b=some (.lst (l.map .int))
  nd:(a :: bs).Nodup
def SlOk (H0 F H:Hp):Option Sl→Option (Option V)→Prop
  | some (.v d),s=>∃ u,s=some (some u)∧Rep K F d u
  | some (.o d),s=>∃ a,s=some (some (.ref a))∧H0 a=none∧F a=none∧Own K F H d a
  | some (.l d),s=>∃ a,s=some (some (.ref a))∧H0 a=none∧F a=none∧Own K F H d a
  | some (.p ll),s=>∃ a bs,s=some (some (.ref a))∧Tab H a bs ll∧∀ b ∈ a :: bs,H0 b=none∧F b=none
  | _,_=>True
end
def Sl.own:Option Sl→Bool
  | some (.o _)=>true
  | some (.l _)=>true
  | some (.p _)=>true
  | _=>false
structure EnvOk (K:Kx) (Λ:List (Nat × Addr × HO)) (F0 H0 F H:Hp) (σ:St) (δ:En):Prop where
  ext:Ext F0 H0 F H
  len:σ.length=δ.length
  slot:∀ i:Nat,SlOk K H0 F H δ[i]? σ[i]?
  dist:∀ (i j:Nat) (a:Addr),i ≠ j→Sl.own δ[i]?=true→Sl.own δ[j]?=true→σ[i]?=some (some (.ref a))→σ[j]?=some (some (.ref a))→False
  lent:∀ x ∈ Λ,(∃ d,δ[x.1]?=some (.l d))∧σ[x.1]?=some (some (.ref x.2.1))∧H x.2.1=some x.2.2
  tabs:∀ (i:Nat) (ll:List (List Int)) (a:Addr) (vs:List V),δ[i]?=some (.p ll)→σ[i]?=some (some (.ref a))→H a=some (.lst vs)→(∀ (j:Nat) (b:Addr),j ≠ i→Sl.own δ[j]?=true→σ[j]?=some (some (.ref b))→V.ref b ∉ vs)∧∀ (j:Nat) (ll':List (List Int)),δ[j]?=some (.p ll')→j=i
section
variable {K:Kx} {Λ:List (Nat × Addr × HO)} {F0 H0 F H F' H' F1 H1:Hp} {σ:St} {δ:En}
theorem Own.mono (e1:Same F F') (e2:Same H H'):∀ {d:D} {a:Addr},Own K F H d a→Own K F' H' d a
  | .lst l,a,h=>let ⟨vs,h1,h2⟩:=h; ⟨vs,e2 _ _ h1,h2.mono e1⟩
  | .dct ks l,a,h=>let ⟨vs,h1,h0,h2⟩:=h; ⟨vs,e2 _ _ h1,h0,h2.mono e1⟩
  | .non,_,h=>h.elim
  | .bl _,_,h=>h.elim
  | .int _,_,h=>h.elim
  | .str _,_,h=>h.elim
  | .tup _,_,h=>h.elim
  | .scr _,_,h=>h.elim
  | .exc _,_,h=>h.elim
  | .fd _ _,_,h=>h.elim
  | .obj c ks l,a,h=>let ⟨dx,vs,h1,h0,h2⟩:=h; ⟨dx,vs,e2 _ _ h1,h0,h2.mono e1⟩
theorem Own.obj:∀ {d:D} {a:Addr},Own K F H d a→∃ o,H a=some o
  | .lst l,a,h=>let ⟨vs,h1,h2⟩:=h; ⟨_,h1⟩
  | .dct ks l,a,h=>let ⟨vs,h1,h2⟩:=h; ⟨_,h1⟩
  | .non,_,h=>h.elim
  | .bl _,_,h=>h.elim
  | .int _,_,h=>h.elim
  | .str _,_,h=>h.elim
  | .tup _,_,h=>h.elim
  | .scr _,_,h=>h.elim
  | .exc _,_,h=>h.elim
  | .fd _ _,_,h=>h.elim
  | .obj c ks l,a,h=>let ⟨dx,vs,h1,h2⟩:=h; ⟨_,h1⟩
theorem Own.at (e:H' a=H a):∀ {d:D},Own K F H d a→Own K F H' d a
  | .lst l,h=>let ⟨vs,h1,h2⟩:=h; ⟨vs,e.trans h1,h2⟩
  | .dct ks l,h=>let ⟨vs,h1,h0,h2⟩:=h; ⟨vs,e.trans h1,h0,h2⟩
  | .non,h=>h.elim
  | .bl _,h=>h.elim
  | .int _,h=>h.elim
  | .str _,h=>h.elim
  | .tup _,h=>h.elim
  | .scr _,h=>h.elim
  | .exc _,h=>h.elim
  | .fd _ _,h=>h.elim
  | .obj c ks l,h=>let ⟨dx,vs,h1,h0,h2⟩:=h; ⟨dx,vs,e.trans h1,h0,h2⟩
theorem Rep.top (s:Same F H):∀ {d:D} {v:V},Rep K F d v→Top K F H d v
  | .lst l,v,h=>by
    simp only [Rep] at h
    obtain ⟨a,vs,h1,h2,h3⟩:=h
    exact ⟨a,vs,h1,PM.Same.rd s h2,h3⟩
  | .dct ks l,v,h=>by
    simp only [Rep] at h
    obtain ⟨a,vs,h1,h2,h3⟩:=h
    exact ⟨a,vs,h1,s _ _ h2,h3⟩
  | .non,_,h=>h
  | .bl _,_,h=>h
  | .int _,_,h=>h
  | .str _,_,h=>h
  | .tup _,_,h=>h
  | .scr _,_,h=>h
  | .exc _,_,h=>h
  | .fd _ _,_,h=>h
  | .obj c ks l,v,h=>by
    simp only [Rep] at h
    obtain ⟨a,dx,vs,h1,h2,h3⟩:=h
    exact ⟨a,dx,vs,h1,s _ _ h2,h3⟩
theorem Own.top:∀ {d:D} {a:Addr},Own K F H d a→Top K F H d (.ref a)
  | .lst l,a,h=>let ⟨vs,h1,h2⟩:=h; ⟨a,vs,rfl,.inl h1,h2⟩
  | .dct ks l,a,h=>let ⟨vs,h1,h2⟩:=h; ⟨a,vs,rfl,h1,h2⟩
  | .non,_,h=>h.elim
  | .bl _,_,h=>h.elim
  | .int _,_,h=>h.elim
  | .str _,_,h=>h.elim
  | .tup _,_,h=>h.elim
  | .scr _,_,h=>h.elim
  | .exc _,_,h=>h.elim
  | .fd _ _,_,h=>h.elim
  | .obj c ks l,a,h=>let ⟨dx,vs,h1,h2⟩:=h; ⟨a,dx,vs,rfl,h1,h2⟩
theorem Top.mono (e1:Same F F') (e2:Same H H'):∀ {d:D} {v:V},Top K F H d v→Top K F' H' d v
  | .lst l,v,h=>let ⟨a,vs,h1,h2,h3⟩:=h; ⟨a,vs,h1,PM.Same.rd e2 h2,h3.mono e1⟩
  | .dct ks l,v,h=>let ⟨a,vs,h1,h2,h0,h3⟩:=h; ⟨a,vs,h1,e2 _ _ h2,h0,h3.mono e1⟩
  | .non,_,h=>h
  | .bl _,_,h=>h
  | .int _,_,h=>h
  | .str _,_,h=>h
  | .tup l,v,h=>Rep.mono e1 (.tup l) h
  | .scr l,v,h=>Rep.mono e1 (.scr l) h
  | .exc l,v,h=>Rep.mono e1 (.exc l) h
  | .fd ks l,v,h=>Rep.mono e1 (.fd ks l) h
  | .obj c ks l,v,h=>let ⟨a,dx,vs,h1,h2,h0,h3⟩:=h; ⟨a,dx,vs,h1,e2 _ _ h2,h0,h3.mono e1⟩
theorem Own.freeze {p:Addr} {d:D} (x:Ext F H F' H') (h0:F' p=none) (h1:H p=none) (o:Own K F' H' d p):∃ F'',Ext F H F'' H'∧Same F' F''∧Rep K F'' d (.ref p):=by
  obtain ⟨u,hu⟩:=o.obj
  have hs:Same F' (upd F' p u):=Same.upd h0
  refine ⟨upd F' p u,⟨x.ff.trans hs,x.hh,fun b w q=>?_,fun q w h2 h3=>?_⟩,hs,?_⟩
  · by_cases e:b=p
    · subst e; rw [zax] at q; cases q; exact hu
    · rw [zau e] at q; exact x.fh _ _ q
  · rw [zau (zay h3 h1)]; exact x.nw q w h2 h3
  · cases d with
    | lst l =>
      obtain ⟨vs,h2,h3⟩:=o
      rw [hu] at h2; cases h2
      simp only [Rep]
      exact ⟨p,vs,rfl,.inl zax,h3.mono hs⟩
    | dct ks l =>
      obtain ⟨vs,h2,h3,h4⟩:=o
      rw [hu] at h2; cases h2
      simp only [Rep]
      exact ⟨p,vs,rfl,zax,h3,h4.mono hs⟩
    | obj c ks l =>
      obtain ⟨dx,vs,h2,h3,h4⟩:=o
      rw [hu] at h2; cases h2
      simp only [Rep]
      exact ⟨p,dx,vs,rfl,zax,h3,h4.mono hs⟩
    | _=>exact o.elim
theorem Tab.mono {a:Addr} {bs:List Addr} {ll:List (List Int)} (e:Same H H') (t:Tab H a bs ll):Tab H' a bs ll:=⟨e _ _ t.top,t.len,fun i b l h1 h2=>e _ _ (t.row i b l h1 h2),t.nd⟩
theorem Tab.obj {a:Addr} {bs:List Addr} {ll:List (List Int)} (t:Tab H a bs ll):∀ b ∈ a :: bs,∃ o,H b=some o:=fun b hb=>by
  rcases List.mem_cons.mp hb with rfl | hb
  · exact ⟨_,t.top⟩
  · obtain ⟨i,hi,e⟩:=List.getElem_of_mem hb
    have hl:i < ll.length:=by rw [← t.len]; exact hi
    exact ⟨_,t.row i b ll[i] (by rw [List.getElem?_eq_getElem hi,e]) (List.getElem?_eq_getElem hl)⟩
theorem Tab.at' {a:Addr} {bs:List Addr} {ll:List (List Int)} (t:Tab H a bs ll) (e:∀ b ∈ a :: bs,H' b=H b):Tab H' a bs ll :=
  ⟨(e a (by simp)).trans t.top,t.len,fun i b l h1 h2=>(e b (List.mem_cons_of_mem _ (List.mem_of_getElem? h1))).trans (t.row i b l h1 h2),t.nd⟩
theorem refs_mem {bs:List Addr} {b:Addr}:V.ref b ∈ bs.map V.ref ↔ b ∈ bs:=by
  constructor
  · intro h
    obtain ⟨c,hc,e⟩:=List.mem_map.mp h
    cases e; exact hc
  · exact fun h=>List.mem_map.mpr ⟨b,h,rfl⟩
theorem SlOk.mono (e:Ext F H F' H'):∀ {x:Option Sl} {s:Option (Option V)},SlOk K H0 F H x s→SlOk K H0 F' H' x s
  | some (.v d),s,h=>let ⟨u,h1,h2⟩:=h; ⟨u,h1,Rep.mono e.ff d h2⟩
  | some (.o d),s,h=>let ⟨a,h1,h2,h3,h4⟩:=h; let ⟨o,ho⟩:=h4.obj; ⟨a,h1,h2,e.nw a o h3 ho,h4.mono e.ff e.hh⟩
  | some (.l d),s,h=>let ⟨a,h1,h2,h3,h4⟩:=h; let ⟨o,ho⟩:=h4.obj; ⟨a,h1,h2,e.nw a o h3 ho,h4.mono e.ff e.hh⟩
  | some (.p ll),s,h=>let ⟨a,bs,h1,h2,h3⟩:=h; ⟨a,bs,h1,h2.mono e.hh,fun b hb=>let ⟨o,ho⟩:=h2.obj b hb; ⟨(h3 b hb).1,e.nw b o (h3 b hb).2 ho⟩⟩
  | some .no,_,_=>trivial
  | none,_,_=>trivial
theorem EnvOk.tab (I:EnvOk K Λ F0 H0 F H σ δ) {i:Nat} {ll:List (List Int)} (hx:δ[i]?=some (.p ll)):∃ a bs,σ[i]?=some (some (.ref a))∧Tab H a bs ll∧(∀ b ∈ a :: bs,H0 b=none∧F b=none)∧(∀ (j:Nat) (b:Addr),j ≠ i→Sl.own δ[j]?=true→σ[j]?=some (some (.ref b))→b ∉ a :: bs)∧∀ (j:Nat) (ll':List (List Int)),δ[j]?=some (.p ll')→j=i:=by
  have z:=I.slot i
  rw [hx] at z
  obtain ⟨a,bs,h1,h2,h3⟩:=z
  obtain ⟨t1,t2⟩:=I.tabs i ll a _ hx h1 h2.top
  refine ⟨a,bs,h1,h2,h3,fun j b hj ho hs hb=>?_,t2⟩
  rcases List.mem_cons.mp hb with e | hb
  · subst e
    exact I.dist i j b (Ne.symm hj) (by rw [hx]; rfl) ho h1 hs
  · exact t1 j b hj ho hs (refs_mem.mpr hb)
theorem EnvOk.tabsOf {δ':En} {σ':St} (I:EnvOk K Λ F0 H0 F H σ δ) (h1:∀ (i:Nat) (ll:List (List Int)),δ'[i]?=some (.p ll)→δ[i]?=some (.p ll)∧σ'[i]?=σ[i]?) (h2:∀ (i:Nat) (a:Addr) (ll:List (List Int)),δ[i]?=some (.p ll)→σ[i]?=some (some (.ref a))→H' a=H a)
    (h3:∀ (i j:Nat) (ll:List (List Int)) (a b:Addr) (bs:List Addr),δ[i]?=some (.p ll)→σ[i]?=some (some (.ref a))→Tab H a bs ll→j ≠ i→Sl.own δ'[j]?=true→σ'[j]?=some (some (.ref b))→(Sl.own δ[j]?=true∧σ[j]?=some (some (.ref b)))∨b ∉ bs) :
    ∀ (i:Nat) (ll:List (List Int)) (a:Addr) (vs:List V),δ'[i]?=some (.p ll)→σ'[i]?=some (some (.ref a))→H' a=some (.lst vs)→(∀ (j:Nat) (b:Addr),j ≠ i→Sl.own δ'[j]?=true→σ'[j]?=some (some (.ref b))→V.ref b ∉ vs)∧∀ (j:Nat) (ll':List (List Int)),δ'[j]?=some (.p ll')→j=i:=by
  intro i ll a vs g1 g2 g3
  obtain ⟨d1,d2⟩:=h1 i ll g1
  rw [d2] at g2
  obtain ⟨a',bs,t1,t2,t3,t4,t5⟩:=I.tab d1
  rw [g2] at t1; cases t1
  rw [h2 i a ll d1 g2,t2.top] at g3; cases g3
  refine ⟨fun j b hj ho hs hb=>?_,fun j ll' hj=>t5 j ll' (h1 j ll' hj).1⟩
  rcases h3 i j ll a b bs d1 g2 t2 hj ho hs with ⟨o1,o2⟩ | o
  · exact t4 j b hj o1 o2 (List.mem_cons_of_mem _ (refs_mem.mp hb))
  · exact o (refs_mem.mp hb)
theorem EnvOk.grow (I:EnvOk K Λ F0 H0 F H σ δ) (e:Ext F H F' H'):EnvOk K Λ F0 H0 F' H' σ δ :=
  ⟨I.ext.trans e,I.len,fun i=>(I.slot i).mono e,I.dist,fun x hx=>let ⟨h1,h2,h3⟩:=I.lent x hx; ⟨h1,h2,e.hh _ _ h3⟩,I.tabsOf (fun i ll h=>⟨h,rfl⟩) (fun i a ll h1 h2=>by
    obtain ⟨a',bs,t1,t2,_⟩:=I.tab h1
    rw [h2] at t1; cases t1
    rw [t2.top,e.hh _ _ t2.top]) fun i j ll a b bs _ _ _ _ ho hs=>.inl ⟨ho,hs⟩⟩
theorem EnvOk.same (I:EnvOk K Λ F0 H0 F H σ δ):Same F H:=I.ext.fh
theorem Ext.base (a:Ext F0 H0 F1 H1) (b:Ext F1 H0 F' H'):Ext F0 H0 F' H' :=
  ⟨a.ff.trans b.ff,b.hh,b.fh,fun p o h1 h2=>b.nw p o (a.nw p o h1 h2) h2⟩
theorem EnvOk.up (I:EnvOk K Λ F0 H0 F H σ δ):EnvOk K Λ F H0 F H σ δ :=
  ⟨⟨.refl _,I.ext.hh,I.ext.fh,fun p o h1 h2=>h1⟩,I.len,I.slot,I.dist,I.lent,I.tabs⟩
theorem EnvOk.down (a:Ext F0 H0 F1 H1) (I:EnvOk K Λ F1 H0 F H σ δ):EnvOk K Λ F0 H0 F H σ δ :=
  ⟨a.base I.ext,I.len,I.slot,I.dist,I.lent,I.tabs⟩
theorem EnvOk.put {i:Nat} {d:D} {v:V} (I:EnvOk K Λ F0 H0 F H σ δ) (hl:∃ x,δ[i]?=some x∧∀ d,x ≠ .l d) (r:Rep K F d v):EnvOk K Λ F0 H0 F H (σ.set i (some v)) (δ.set i (.v d)):=by
  obtain ⟨x,hx,hn⟩:=hl
  have hi:i < δ.length:=(List.getElem?_eq_some_iff.mp hx).1
  have hi':i < σ.length:=by rw [I.len]; exact hi
  refine ⟨I.ext,by simp [I.len],fun j=>?_,fun j k a hjk h1 h2 h3 h4=>?_,fun y hy=>?_,I.tabsOf (fun k ll h=>by
      by_cases e:i=k
      · subst e; rw [List.getElem?_set_self hi] at h; cases h
      · rw [List.getElem?_set_ne e] at h; exact ⟨h,List.getElem?_set_ne e⟩) (fun _ _ _ _ _=>rfl) fun k j ll a b bs _ _ _ _ ho hs=>.inl (by
      by_cases e:i=j
      · subst e; rw [List.getElem?_set_self hi] at ho; cases ho
      · rw [List.getElem?_set_ne e] at ho hs; exact ⟨ho,hs⟩)⟩
  · by_cases e:i=j
    · subst e
      rw [List.getElem?_set_self hi,List.getElem?_set_self hi']
      exact ⟨v,rfl,r⟩
    · rw [List.getElem?_set_ne e,List.getElem?_set_ne e]
      exact I.slot j
  · have ne:∀ k:Nat,Sl.own (δ.set i (.v d))[k]?=true→i ≠ k:=by
      rintro k h rfl
      rw [List.getElem?_set_self hi] at h
      cases h
    have n1:=ne j h1
    have n2:=ne k h2
    rw [List.getElem?_set_ne n1] at h1 h3
    rw [List.getElem?_set_ne n2] at h2 h4
    exact I.dist j k a hjk h1 h2 h3 h4
  · obtain ⟨⟨d',h1⟩,h2,h3⟩:=I.lent y hy
    have n:i ≠ y.1:=by
      intro e
      rw [← e,hx] at h1
      exact hn d' (Option.some.inj h1)
    exact ⟨⟨d',by rw [List.getElem?_set_ne n]; exact h1⟩,by rw [List.getElem?_set_ne n]; exact h2,h3⟩
theorem EnvOk.putO {i:Nat} {d:D} {p:Addr} (I:EnvOk K Λ F0 H0 F H σ δ) (hl:∃ x,δ[i]?=some x∧∀ d,x ≠ .l d) (e:Ext F H F' H') (h0:F' p=none) (h1:H p=none) (o:Own K F' H' d p) :
    EnvOk K Λ F0 H0 F' H' (σ.set i (some (.ref p))) (δ.set i (.o d)):=by
  obtain ⟨x,hx,hn⟩:=hl
  have hi:i < δ.length:=(List.getElem?_eq_some_iff.mp hx).1
  have hi':i < σ.length:=by rw [I.len]; exact hi
  have fresh:∀ k:Nat,Sl.own δ[k]?=true→σ[k]? ≠ some (some (V.ref p)):=fun k hk e=>by
    have z:=I.slot k
    cases q:δ[k]? with
    | none=>rw [q] at hk; cases hk
    | some y =>
      rw [q] at hk z
      cases y with
      | no=>cases hk
      | v d=>cases hk
      | o d =>
        obtain ⟨a,z1,_,_,z4⟩:=z
        rw [e] at z1; cases z1
        obtain ⟨u,hu⟩:=z4.obj
        rw [h1] at hu; cases hu
      | l d =>
        obtain ⟨a,z1,_,_,z4⟩:=z
        rw [e] at z1; cases z1
        obtain ⟨u,hu⟩:=z4.obj
        rw [h1] at hu; cases hu
      | p ll =>
        obtain ⟨a,bs,z1,z2,_⟩:=z
        rw [e] at z1; cases z1
        rw [z2.top] at h1; cases h1
  have J:=I.grow e
  refine ⟨J.ext,by simp [I.len],fun j=>?_,fun j k a hjk g1 g2 g3 g4=>?_,fun y hy=>?_,I.tabsOf (fun k ll h=>by
      by_cases e:i=k
      · subst e; rw [List.getElem?_set_self hi] at h; cases h
      · rw [List.getElem?_set_ne e] at h; exact ⟨h,List.getElem?_set_ne e⟩) (fun k a ll g1 g2=>by
      obtain ⟨a',bs,t1,t2,_⟩:=I.tab g1
      rw [g2] at t1; cases t1
      rw [t2.top,e.hh _ _ t2.top]) fun k j ll a b bs _ _ t _ ho hs=>by
      by_cases e:i=j
      · subst e
        rw [List.getElem?_set_self hi'] at hs
        cases hs
        refine .inr fun hb=>?_
        obtain ⟨u,hu⟩:=t.obj p (List.mem_cons_of_mem _ hb)
        rw [h1] at hu; cases hu
      · rw [List.getElem?_set_ne e] at ho hs; exact .inl ⟨ho,hs⟩⟩
  · by_cases e:i=j
    · subst e
      rw [List.getElem?_set_self hi,List.getElem?_set_self hi']
      exact ⟨p,rfl,I.ext.hh.free h1,h0,o⟩
    · rw [List.getElem?_set_ne e,List.getElem?_set_ne e]
      exact J.slot j
  · by_cases e1:i=j
    · subst e1
      rw [List.getElem?_set_self hi'] at g3
      cases g3
      rw [List.getElem?_set_ne hjk] at g2 g4
      exact fresh k g2 g4
    · by_cases e2:i=k
      · subst e2
        rw [List.getElem?_set_self hi'] at g4
        cases g4
        rw [List.getElem?_set_ne e1] at g1 g3
        exact fresh j g1 g3
      · rw [List.getElem?_set_ne e1] at g1 g3
        rw [List.getElem?_set_ne e2] at g2 g4
        exact I.dist j k a hjk g1 g2 g3 g4
  · obtain ⟨⟨d',g1⟩,g2,g3⟩:=J.lent y hy
    have n:i ≠ y.1:=by
      intro e
      rw [← e,hx] at g1
      exact hn d' (Option.some.inj g1)
    exact ⟨⟨d',by rw [List.getElem?_set_ne n]; exact g1⟩,by rw [List.getElem?_set_ne n]; exact g2,g3⟩
theorem EnvOk.chg {i:Nat} {d d':D} {a:Addr} {u:HO} (I:EnvOk K Λ F0 H0 F H σ δ) (hx:δ[i]?=some (.o d)) (ha:σ[i]?=some (some (.ref a))) (o:Own K F (upd H a u) d' a) :
    EnvOk K Λ F0 H0 F (upd H a u) σ (δ.set i (.o d')):=by
  have hi:i < δ.length:=(List.getElem?_eq_some_iff.mp hx).1
  have z:=I.slot i
  rw [hx] at z
  obtain ⟨a',z1,z2,z3,z4⟩:=z
  rw [ha] at z1; cases z1
  have oth:∀ (k:Nat) (b:Addr),i ≠ k→Sl.own δ[k]?=true→σ[k]?=some (some (.ref b))→b ≠ a:=fun k b hk h1 h2 e=>by
    subst e
    exact I.dist i k b hk (by rw [hx]; rfl) h1 ha h2
  refine ⟨⟨I.ext.ff,fun b w q=>?_,fun b w q=>?_,I.ext.nw⟩,by simp [I.len],fun j=>?_,fun j k b hjk g1 g2 g3 g4=>?_,fun y hy=>?_,I.tabsOf (fun k ll h=>by
      by_cases e:i=k
      · subst e; rw [List.getElem?_set_self hi] at h; cases h
      · rw [List.getElem?_set_ne e] at h; exact ⟨h,rfl⟩) (fun k r ll g1 g2=>zau (by
      by_cases e:i=k
      · subst e; rw [hx] at g1; cases g1
      · exact oth k r e (by rw [g1]; rfl) g2)) fun k j ll r b bs _ _ _ _ ho hs=>.inl (by
      by_cases e:i=j
      · subst e; exact ⟨by rw [hx]; rfl,hs⟩
      · rw [List.getElem?_set_ne e] at ho; exact ⟨ho,hs⟩)⟩
  · rw [zau (zay q z2)]; exact I.ext.hh b w q
  · rw [zau (zay q z3)]; exact I.ext.fh b w q
  · by_cases e:i=j
    · subst e
      rw [List.getElem?_set_self hi]
      exact ⟨a,ha,z2,z3,o⟩
    · rw [List.getElem?_set_ne e]
      have w:=I.slot j
      cases q:δ[j]? with
      | none=>trivial
      | some y =>
        rw [q] at w
        cases y with
        | no=>trivial
        | v d=>exact w
        | o d =>
          obtain ⟨b,w1,w2,w3,w4⟩:=w
          exact ⟨b,w1,w2,w3,w4.at (zau (oth j b e (by rw [q]; rfl) w1))⟩
        | l d =>
          obtain ⟨b,w1,w2,w3,w4⟩:=w
          exact ⟨b,w1,w2,w3,w4.at (zau (oth j b e (by rw [q]; rfl) w1))⟩
        | p ll =>
          obtain ⟨r,bs,t1,t2,t3,t4,t5⟩:=I.tab q
          exact ⟨r,bs,t1,t2.at' fun b hb=>zau fun e'=>t4 i a e (by rw [hx]; rfl) ha (e' ▸ hb),t3⟩
  · have ow:∀ k:Nat,Sl.own (δ.set i (.o d'))[k]?=true→Sl.own δ[k]?=true:=by
      intro k h
      by_cases e:i=k
      · subst e; rw [hx]; rfl
      · rw [List.getElem?_set_ne e] at h; exact h
    exact I.dist j k b hjk (ow j g1) (ow k g2) g3 g4
  · obtain ⟨⟨d2,g1⟩,g2,g3⟩:=I.lent y hy
    have n:i ≠ y.1:=by
      intro e
      rw [← e,hx] at g1
      cases g1
    exact ⟨⟨d2,by rw [List.getElem?_set_ne n]; exact g1⟩,g2,by rw [zau (oth y.1 y.2.1 n (by rw [g1]; rfl) g2)]; exact g3⟩
end
end PM
namespace PM
open PySem L2
abbrev XOT:=Xc→Hp→Hp→Value→Option Addr→Prop
def Aft {α:Type} (E:St→XK) (XO:XOT) (σ:St) (F H:Hp) (P:α→Hp→Hp→Prop):R α→Prop
  | .no=>False
  | .ok a=>∀ F' H',Ext F H F' H'→P a F' H'
  | .ex x=>∀ C dct F' H',Ext F H F' H'→XO x F' H' C dct→E σ C dct H'
section
variable {E:St→XK} {XO:XOT} {σ:St} {F H F1 H1:Hp} {α β:Type} {P P':α→Hp→Hp→Prop}
theorem Aft.mono (e:Ext F H F1 H1):∀ {r:R α},Aft E XO σ F H P r→Aft E XO σ F1 H1 P r
  | .no,h=>h
  | .ok _,h=>fun F' H' e'=>h F' H' (e.trans e')
  | .ex _,h=>fun C dct F' H' e' x=>h C dct F' H' (e.trans e') x
theorem Aft.imp (i:∀ a F1 H1,Ext F H F1 H1→P a F1 H1→P' a F1 H1):∀ {r:R α},Aft E XO σ F H P r→Aft E XO σ F H P' r
  | .no,h=>h
  | .ok _,h=>fun F' H' e'=>i _ F' H' e' (h F' H' e')
  | .ex _,h=>h
theorem Aft.bind {P:β→Hp→Hp→Prop} {f:α→R β}:∀ {r:R α},Aft E XO σ F H P (r.bind f)→Aft E XO σ F H (fun a F1 H1=>Aft E XO σ F1 H1 P (f a)) r
  | .no,h=>h
  | .ok _,h=>fun F' H' e'=>Aft.mono e' h
  | .ex _,h=>h
end
inductive Prd (T:D→V→Prop):List D→List V→Prop where
  | nil:Prd T [] []
  | cons {d:D} {v:V} {ds:List D} {vs:List V}:T d v→Prd T ds vs→Prd T (d :: ds) (v :: vs)
section
variable (K:Kx) (XO:XOT) (E:St→XK)
def SE (t:TE) (m:En→R D):Prop:=∀ Λ F0 H0 F H σ δ Q,EnvOk K Λ F0 H0 F H σ δ→Aft E XO σ F H (fun d F' H'=>∀ v,Rep K F' d v→Q v H') (m δ)→t σ H Q
def SEr (t:TE) (m:En→R D):Prop:=∀ Λ F0 H0 F H σ δ Q,EnvOk K Λ F0 H0 F H σ δ→Aft E XO σ F H (fun d F' H'=>∀ v,Top K F' H' d v→Q v H') (m δ)→t σ H Q
def SEo (t:TE) (m:En→R D):Prop:=∀ Λ F0 H0 F H σ δ Q,EnvOk K Λ F0 H0 F H σ δ→Aft E XO σ F H (fun d F' H'=>∀ p,F' p=none→H p=none→Own K F' H' d p→Q (.ref p) H') (m δ)→t σ H Q
def ST (t:TT) (m:En→R Bool):Prop:=∀ Λ F0 H0 F H σ δ Q,EnvOk K Λ F0 H0 F H σ δ→Aft E XO σ F H (fun b _ H'=>Q b H') (m δ)→t σ H Q
def SA (t:TA) (m:En→R (List D)):Prop:=∀ Λ F0 H0 F H σ δ Q,EnvOk K Λ F0 H0 F H σ δ→Aft E XO σ F H (fun ds F' H'=>∀ vs,RepL K F' ds vs→Q vs H') (m δ)→t σ H Q
def SAr (t:TA) (m:En→R (List D)):Prop:=∀ Λ F0 H0 F H σ δ Q,EnvOk K Λ F0 H0 F H σ δ→Aft E XO σ F H (fun ds F' H'=>∀ vs,Prd (Top K F' H') ds vs→Q vs H') (m δ)→t σ H Q
end
section
variable {K:Kx} {XO:XOT} {E:St→XK} {t ta tb te:TE} {m ma mb me:En→R D}
theorem SE.r (h:SE K XO E t m):SEr K XO E t m:=fun Λ F0 H0 F H σ δ Q I a=>h Λ F0 H0 F H σ δ Q I (a.imp fun d F1 H1 e p v r=>p v (r.top e.fh))
theorem SEo.e (h:SEo K XO E t m):SE K XO E t m:=fun Λ F0 H0 F H σ δ Q I a=>h Λ F0 H0 F H σ δ Q I (by
  cases q:m δ with
  | no=>rw [q] at a; exact a
  | ex x=>rw [q] at a; exact a
  | ok d =>
    rw [q] at a
    intro F1 H1 e p h0 h1 o
    obtain ⟨F2,e2,s2,r⟩:=o.freeze e h0 h1
    exact a F2 H1 e2 _ r)
def mVar (i:Nat) (δ:En):R D:=match δ[i]? with | some (.v d)=>.ok d | _=>.no
def mRd (i:Nat) (δ:En):R D:=match δ[i]? with | some (.v d)=>.ok d | some (.o d)=>.ok d | some (.l d)=>.ok d | _=>.no
theorem zag {i:Nat}:SE K XO E (tVar i) (mVar i):=by
  intro Λ F0 H0 F H σ δ Q I a
  unfold mVar at a
  have z:=I.slot i
  split at a
  · rename_i d q
    rw [q] at z
    obtain ⟨u,h1,h2⟩:=z
    exact ⟨u,h1,a F H (.refl I.same) u h2⟩
  · exact a.elim
theorem zac {i:Nat}:SEr K XO E (tVar i) (mRd i):=by
  intro Λ F0 H0 F H σ δ Q I a
  unfold mRd at a
  have z:=I.slot i
  split at a
  · rename_i d q
    rw [q] at z
    obtain ⟨u,h1,h2⟩:=z
    exact ⟨u,h1,a F H (.refl I.same) u (h2.top I.same)⟩
  · rename_i d q
    rw [q] at z
    obtain ⟨u,h1,_,_,h2⟩:=z
    exact ⟨_,h1,a F H (.refl I.same) _ h2.top⟩
  · rename_i d q
    rw [q] at z
    obtain ⟨u,h1,_,_,h2⟩:=z
    exact ⟨_,h1,a F H (.refl I.same) _ h2.top⟩
  · exact a.elim
def mC (d:D) (_:En):R D:=.ok d
theorem zai {i:Int}:SE K XO E (tC (.int i)) (mC (.int i)):=fun Λ F0 H0 F H σ δ Q I a=>a F H (.refl I.same) _ (by simp only [Rep])
theorem zfX {i:Bool}:SE K XO E (tC (.bl i)) (mC (.bl i)):=fun Λ F0 H0 F H σ δ Q I a=>a F H (.refl I.same) _ (by simp only [Rep])
theorem zfU:SE K XO E (tC .non) (mC .non):=fun Λ F0 H0 F H σ δ Q I a=>a F H (.refl I.same) _ (by simp only [Rep])
theorem zcF {i:Str}:SE K XO E (tC (.str i)) (mC (.str i)):=fun Λ F0 H0 F H σ δ Q I a=>a F H (.refl I.same) _ (by simp only [Rep])
def R.of {α:Type}:Option α→R α
  | some a=>.ok a
  | none=>.no
@[simp] theorem R.of_some {α:Type} (a:α):R.of (some a) = .ok a:=rfl
@[simp] theorem R.of_none {α:Type}:R.of (none:Option α) = .no:=rfl
def m2 (f:D→D→Option D) (ma mb:En→R D) (δ:En):R D:=(ma δ).bind fun x=>(mb δ).bind fun y=>R.of (f x y)
def m1 (f:D→Option D) (ma:En→R D) (δ:En):R D:=(ma δ).bind fun x=>R.of (f x)
@[simp] theorem zf3 {f:D→D→Option D} {ma mb:En→R D} {δ:En}:m2 f ma mb δ=(ma δ).bind fun x=>(mb δ).bind fun y=>R.of (f x y):=rfl
@[simp] theorem zrw {f:D→Option D} {ma:En→R D} {δ:En}:m1 f ma δ=(ma δ).bind fun x=>R.of (f x):=rfl
variable (K) in
def SR (r:R2) (f:D→D→Option D):Prop:=∀ F H x y dx dy d Q,Same F H→Top K F H dx x→Top K F H dy y→f dx dy=some d→(∀ v F' H',Ext F H F' H'→Rep K F' d v→Q v H')→r x y H Q
variable (K) in
def SRo (r:R2) (f:D→D→Option D):Prop:=∀ F H x y dx dy d Q,Same F H→Top K F H dx x→Top K F H dy y→f dx dy=some d→(∀ p F' H',Ext F H F' H'→F' p=none→H p=none→Own K F' H' d p→Q (.ref p) H')→r x y H Q
theorem zan {r:R2} {f:D→D→Option D} (hr:SR K r f) (ha:SEr K XO E ta ma) (hb:SEr K XO E tb mb):SE K XO E (tOp r ta tb) (m2 f ma mb):=by
  intro Λ F0 H0 F H σ δ Q I a
  refine ha Λ F0 H0 F H σ δ _ I (a.bind.imp fun dx F1 H1 e1 a1 x rx=>?_)
  refine hb Λ F0 H0 F1 H1 σ δ _ (I.grow e1) (a1.bind.imp fun dy F2 H2 e2 a2 y ry=>?_)
  cases q:f dx dy with
  | none=>rw [q] at a2; exact a2.elim
  | some d =>
    rw [q] at a2
    exact hr F2 H2 x y dx dy d Q e2.fh (rx.mono e2.ff e2.hh) ry q fun v F' H' e r=>a2 F' H' e v r
theorem zeK {r:R2} {f:D→D→Option D} (hr:SRo K r f) (ha:SEr K XO E ta ma) (hb:SEr K XO E tb mb):SEo K XO E (tOp r ta tb) (m2 f ma mb):=by
  intro Λ F0 H0 F H σ δ Q I a
  refine ha Λ F0 H0 F H σ δ _ I (a.bind.imp fun dx F1 H1 e1 a1 x rx=>?_)
  refine hb Λ F0 H0 F1 H1 σ δ _ (I.grow e1) (a1.bind.imp fun dy F2 H2 e2 a2 y ry=>?_)
  cases q:f dx dy with
  | none=>rw [q] at a2; exact a2.elim
  | some d =>
    rw [q] at a2
    exact hr F2 H2 x y dx dy d Q e2.fh (rx.mono e2.ff e2.hh) ry q fun p F' H' e h0 h1 o=>a2 F' H' e p h0 (e1.hh.free (e2.hh.free h1)) o
variable (K) in
def SU (r:V→Hp→VK→Prop) (f:D→Option D):Prop:=∀ F H x dx d Q,Same F H→Top K F H dx x→f dx=some d→(∀ v F' H',Ext F H F' H'→Rep K F' d v→Q v H')→r x H Q
theorem zjC {r:V→Hp→VK→Prop} {f:D→Option D} (hr:SU K r f) (ha:SEr K XO E ta ma):SE K XO E (tUn r ta) (m1 f ma):=by
  intro Λ F0 H0 F H σ δ Q I a
  refine ha Λ F0 H0 F H σ δ _ I (a.bind.imp fun dx F1 H1 e1 a1 x rx=>?_)
  cases q:f dx with
  | none=>rw [q] at a1; exact a1.elim
  | some d =>
    rw [q] at a1
    exact hr F1 H1 x dx d Q e1.fh rx q fun v F' H' e r=>a1 F' H' e v r
def mNil (_:En):R (List D):=.ok []
def zaa (ma:En→R D) (mr:En→R (List D)) (δ:En):R (List D):=(ma δ).bind fun x=>(mr δ).bind fun l=>.ok (x :: l)
theorem zat:SA K XO E tNil mNil:=fun Λ F0 H0 F H σ δ Q I a=>a F H (.refl I.same) _ .nil
theorem zad {tr:TA} {mr:En→R (List D)} (ha:SE K XO E ta ma) (hr:SA K XO E tr mr):SA K XO E (zdl ta tr) (zaa ma mr):=by
  intro Λ F0 H0 F H σ δ Q I a
  refine ha Λ F0 H0 F H σ δ _ I (a.bind.imp fun dx F1 H1 e1 a1 x rx=>?_)
  refine hr Λ F0 H0 F1 H1 σ δ _ (I.grow e1) (a1.bind.imp fun dy F2 H2 e2 a2 y ry=>?_)
  exact a2 F2 H2 (.refl e2.fh) _ (.cons (Rep.mono e2.ff _ rx) ry)
theorem zaD:SAr K XO E tNil mNil:=fun Λ F0 H0 F H σ δ Q I a=>a F H (.refl I.same) _ .nil
theorem zaq {tr:TA} {mr:En→R (List D)} (ha:SEr K XO E ta ma) (hr:SAr K XO E tr mr):SAr K XO E (zdl ta tr) (zaa ma mr):=by
  intro Λ F0 H0 F H σ δ Q I a
  refine ha Λ F0 H0 F H σ δ _ I (a.bind.imp fun dx F1 H1 e1 a1 x rx=>?_)
  refine hr Λ F0 H0 F1 H1 σ δ _ (I.grow e1) (a1.bind.imp fun dy F2 H2 e2 a2 y ry=>?_)
  exact a2 F2 H2 (.refl e2.fh) _ (.cons (rx.mono e2.ff e2.hh) ry)
def mTup (ml:En→R (List D)) (δ:En):R D:=(ml δ).bind fun l=>ifC (l.length ≤ sizeLine) (.ok (.tup l)) .no
def mLst (ml:En→R (List D)) (δ:En):R D:=(ml δ).bind fun l=>ifC (l.length ≤ sizeLine) (.ok (.lst l)) .no
theorem zjb {tl:TA} {ml:En→R (List D)} (h:SA K XO E tl ml):SE K XO E (tTup tl) (mTup ml):=by
  intro Λ F0 H0 F H σ δ Q I a
  refine h Λ F0 H0 F H σ δ _ I (a.bind.imp fun ds F1 H1 e1 a1 vs r=>?_)
  unfold ifC at a1
  split at a1
  · rename_i hl
    refine ⟨by rw [r.length]; exact hl,fun p hp=>a1 _ _ (.new e1.fh hp) _ ?_⟩
    simp only [Rep]
    exact ⟨p,vs,rfl,zax,r.mono (Same.upd (e1.fh.free hp))⟩
  · exact a1.elim
theorem zb3 {tl:TA} {ml:En→R (List D)} (h:SA K XO E tl ml):SEo K XO E (tLst tl) (mLst ml):=by
  intro Λ F0 H0 F H σ δ Q I a
  refine h Λ F0 H0 F H σ δ _ I (a.bind.imp fun ds F1 H1 e1 a1 vs r=>?_)
  unfold ifC at a1
  split at a1
  · rename_i hl
    refine ⟨by rw [r.length]; exact hl,fun p hp=>a1 _ _ (.newO e1.fh hp) _ (e1.fh.free hp) (e1.hh.free hp) ⟨vs,zax,r⟩⟩
  · exact a1.elim
theorem znn:SEo K XO E zot (mC (.dct [] [])):=fun Λ F0 H0 F H σ δ Q I a p hp=>a F _ (.newO I.same hp) p (I.same.free hp) hp ⟨[],zax,rfl,.nil⟩
def asB:D→Option Bool
  | .bl b=>some b
  | _=>none
def zal (me:En→R D) (δ:En):R Bool:=(me δ).bind fun d=>R.of (asB d)
theorem zaG (h:SE K XO E te me):ST K XO E (zpQ te) (zal me):=by
  intro Λ F0 H0 F H σ δ Q I a
  refine h Λ F0 H0 F H σ δ _ I (a.bind.imp fun d F1 H1 e1 a1 v r=>?_)
  cases d with
  | bl b=>simp only [Rep] at r; exact ⟨b,r,a1 F1 H1 (.refl e1.fh)⟩
  | _=>exact a1.elim
theorem st_b (h:SE K XO E te me):ST K XO E (tB te) (zal me):=zaG h
variable {tA tB':TT} {nA nB:En→R Bool}
def mAnd (nA nB:En→R Bool) (δ:En):R Bool:=(nA δ).bind fun b=>if b=true then nB δ else .ok false
def mOr (nA nB:En→R Bool) (δ:En):R Bool:=(nA δ).bind fun b=>if b=true then .ok true else nB δ
def mNot (nA:En→R Bool) (δ:En):R Bool:=(nA δ).bind fun b=>.ok (!b)
theorem zpW (h:ST K XO E tA nA) (h':ST K XO E tB' nB):ST K XO E (tAnd tA tB') (mAnd nA nB):=by
  intro Λ F0 H0 F H σ δ Q I a
  refine h Λ F0 H0 F H σ δ _ I (a.bind.imp fun b F1 H1 e1 a1=>?_)
  cases b with
  | true=>exact h' Λ F0 H0 F1 H1 σ δ _ (I.grow e1) a1
  | false=>exact a1 F1 H1 (.refl e1.fh)
theorem zgk (h:ST K XO E tA nA) (h':ST K XO E tB' nB):ST K XO E (tOr tA tB') (mOr nA nB):=by
  intro Λ F0 H0 F H σ δ Q I a
  refine h Λ F0 H0 F H σ δ _ I (a.bind.imp fun b F1 H1 e1 a1=>?_)
  cases b with
  | false=>exact h' Λ F0 H0 F1 H1 σ δ _ (I.grow e1) a1
  | true=>exact a1 F1 H1 (.refl e1.fh)
theorem zfB (h:ST K XO E tA nA):ST K XO E (tNot tA) (mNot nA):=by
  intro Λ F0 H0 F H σ δ Q I a
  exact h Λ F0 H0 F H σ δ _ I (a.bind.imp fun b F1 H1 e1 a1=>a1 F1 H1 (.refl e1.fh))
def zi7 (ma mb:En→R D) (δ:En):R D:=(ma δ).bind fun d=>(R.of (asB d)).bind fun b=>if b=true then mb δ else .ok (.bl false)
theorem zlw (h:SE K XO E ta ma) (h':SE K XO E tb mb):SE K XO E (zp1 ta tb) (zi7 ma mb):=by
  intro Λ F0 H0 F H σ δ Q I a
  refine h Λ F0 H0 F H σ δ _ I (a.bind.imp fun d F1 H1 e1 a1 v r=>?_)
  cases d with
  | bl b =>
    simp only [Rep] at r
    refine ⟨b,r,?_⟩
    cases b with
    | true=>exact h' Λ F0 H0 F1 H1 σ δ _ (I.grow e1) a1
    | false=>exact a1 F1 H1 (.refl e1.fh) _ (by simp only [Rep])
  | _=>exact a1.elim
def spM (K:Kx) (XO:XOT) (f:List D→R D):Sp:=fun vs H Q E=>∃ F ds,Same F H∧RepL K F ds vs∧Aft (fun _=>E) XO [] F H (fun d F' H'=>∀ v,Rep K F' d v→Q v H') (f ds)
def zbS (f:List D→R D) (ml:En→R (List D)) (δ:En):R D:=(ml δ).bind f
def R.nev {α:Type}:R α→R α
  | .ex _=>.no
  | r=>r
@[simp] theorem R.nev_ok {α:Type} (a:α):(R.ok a).nev = .ok a:=rfl
def zak (f:List D→R D) (ml:En→R (List D)) (δ:En):R D:=(ml δ).bind fun l=>(f l).nev
theorem Aft.any {α:Type} {E E':St→XK} {σ σ':St} {F H:Hp} {P:α→Hp→Hp→Prop} {r:R α} (h:Aft E XO σ F H P r.nev):Aft E' XO σ' F H P r:=by
  cases r with
  | no=>exact h
  | ok a=>exact h
  | ex x=>exact h.elim
theorem zcM {f:List D→R D} {tl:TA} {ml:En→R (List D)} (h:SA K XO E tl ml):SE K XO E (zoy (spM K XO f) E tl) (zbS f ml):=by
  intro Λ F0 H0 F H σ δ Q I a
  refine h Λ F0 H0 F H σ δ _ I (a.bind.imp fun ds F1 H1 e1 a1 vs r=>⟨F1,ds,e1.fh,r,?_⟩)
  cases q:f ds with
  | no=>rw [q] at a1; exact a1
  | ok d=>rw [q] at a1; exact a1
  | ex x=>rw [q] at a1; exact a1
theorem zaC {f:List D→R D} {tl:TA} {ml:En→R (List D)} {E':XK} (h:SA K XO E tl ml):SE K XO E (zlq (spM K XO f) [] E' tl) (zak f ml):=by
  intro Λ F0 H0 F H σ δ Q I a
  refine h Λ F0 H0 F H σ δ _ I (a.bind.imp fun ds F1 H1 e1 a1 vs r=>⟨F1,ds,e1.fh,by rw [List.append_nil]; exact r,a1.any⟩)
variable (K) in
def SG (g:TG) (b:D→En→Option En):Prop:=∀ Λ F0 H0 F H σ δ d v δ' Q,EnvOk K Λ F0 H0 F H σ δ→Rep K F d v→b d δ=some δ'→(∀ σ',EnvOk K Λ F0 H0 F H σ' δ'→Q σ' H)→g v σ H Q
variable (K) in
def SGs (g:TGs) (b:List D→En→Option En):Prop:=∀ Λ F0 H0 F H σ δ d v δ' Q,EnvOk K Λ F0 H0 F H σ δ→RepL K F d v→b d δ=some δ'→(∀ σ',EnvOk K Λ F0 H0 F H σ' δ'→Q σ' H)→g v σ H Q
def zaw (i:Nat) (d:D) (δ:En):Option En:=match δ[i]? with | none=>none | some (.l _)=>none | some _=>some (δ.set i (.v d))
def zbu (i:Nat) (d:D) (δ:En):Option En:=match δ[i]? with | some .no=>some (δ.set i (.v d)) | _=>none
def bNil (l:List D) (δ:En):Option En:=match l with | []=>some δ | _=>none
def zbR (b:D→En→Option En) (c:List D→En→Option En) (l:List D) (δ:En):Option En:=match l with | d :: r=>(b d δ).bind (c r) | []=>none
def bTup (n:Nat) (c:List D→En→Option En) (d:D) (δ:En):Option En:=match d with | .tup l=>if l.length=n then c l δ else none | _=>none
theorem zaA {i:Nat}:SG K (zjK i) (zaw i):=by
  intro Λ F0 H0 F H σ δ d v δ' Q I r e q
  unfold zaw at e
  split at e
  · cases e
  · cases e
  · rename_i x h2 h1
    cases e
    exact q _ (I.put ⟨x,h1,fun d' z=>h2 d' (by rw [z])⟩ r)
theorem zbZ {i:Nat}:SG K (zjK i) (zbu i):=by
  intro Λ F0 H0 F H σ δ d v δ' Q I r e q
  unfold zbu at e
  split at e
  · rename_i h1
    cases e
    exact q _ (I.put ⟨_,h1,fun d' z=>by cases z⟩ r)
  · cases e
theorem zgm:SGs K gNil bNil:=by
  intro Λ F0 H0 F H σ δ d v δ' Q I r e q
  cases d with
  | nil=>simp only [RepL] at r; cases e; exact ⟨r,q _ I⟩
  | cons x l=>cases e
theorem zct {g:TG} {h:TGs} {b:D→En→Option En} {c:List D→En→Option En} (hg:SG K g b) (hh:SGs K h c):SGs K (zqk g h) (zbR b c):=by
  intro Λ F0 H0 F H σ δ d v δ' Q I r e q
  cases d with
  | nil=>cases e
  | cons x l =>
    simp only [RepL] at r
    obtain ⟨u,w,rfl,r1,r2⟩:=r
    change (b x δ).bind (c l)=some δ' at e
    cases z:b x δ with
    | none=>rw [z] at e; cases e
    | some δ1 =>
      rw [z] at e
      exact ⟨u,w,rfl,hg Λ F0 H0 F H σ δ x u δ1 _ I r1 z fun σ1 I1=>hh Λ F0 H0 F H σ1 δ1 l w δ' Q I1 r2 e q⟩
theorem zi6 {n:Nat} {h:TGs} {c:List D→En→Option En} (hh:SGs K h c):SG K (gTup K.f n h) (bTup n c):=by
  intro Λ F0 H0 F H σ δ d v δ' Q I r e q
  cases d with
  | tup l =>
    simp only [Rep] at r
    obtain ⟨a,vs,rfl,h1,h2⟩:=r
    simp only [bTup] at e
    split at e
    · rename_i hn
      exact ⟨a,vs,rfl,.inl (.inl (I.same _ _ h1)),by rw [h2.length]; exact hn,hh Λ F0 H0 F H σ δ l vs δ' Q I h2 e q⟩
    · cases e
  | _=>cases e
def Weak (δ δ':En):Prop:=δ.length=δ'.length∧∀ i:Nat,δ[i]?=some .no∨δ[i]?=δ'[i]?
theorem Weak.refl (δ:En):Weak δ δ:=⟨rfl,fun _=>.inr rfl⟩
theorem Weak.trans {a b c:En} (h:Weak a b) (h':Weak b c):Weak a c:=⟨h.1.trans h'.1,fun i=>by
  rcases h.2 i with z | z
  · exact .inl z
  · rcases h'.2 i with y | y
    · exact .inl (z.trans y)
    · exact .inr (z.trans y)⟩
def BW (b:D→En→Option En):Prop:=∀ d δ δ',b d δ=some δ'→Weak δ δ'
def BWs (b:List D→En→Option En):Prop:=∀ d δ δ',b d δ=some δ'→Weak δ δ'
theorem zcD {i:Nat}:BW (zbu i):=by
  intro d δ δ' e
  unfold zbu at e
  split at e
  · rename_i h1
    cases e
    refine ⟨by simp,fun j=>?_⟩
    by_cases h:i=j
    · subst h; exact .inl h1
    · exact .inr (by rw [List.getElem?_set_ne h])
  · cases e
theorem zoR:BWs bNil:=by
  intro d δ δ' e
  cases d with
  | nil=>cases e; exact .refl _
  | cons x l=>cases e
theorem zks {b:D→En→Option En} {c:List D→En→Option En} (h:BW b) (h':BWs c):BWs (zbR b c):=by
  intro d δ δ' e
  cases d with
  | nil=>cases e
  | cons x l =>
    change (b x δ).bind (c l)=some δ' at e
    cases z:b x δ with
    | none=>rw [z] at e; cases e
    | some δ1=>rw [z] at e; exact (h _ _ _ z).trans (h' _ _ _ e)
theorem zpZ {n:Nat} {c:List D→En→Option En} (h:BWs c):BW (bTup n c):=by
  intro d δ δ' e
  cases d with
  | tup l =>
    simp only [bTup] at e
    split at e
    · exact h _ _ _ e
    · cases e
  | _=>cases e
variable (K) in
def IsIt (J:It) (P:Hp→Hp→Prop) (ds:List D):Prop:=∀ F2 H2,P F2 H2→∀ i:Nat,(∀ d,ds[i]?=some d→J.go i H2∧∀ x H',J.yld i H2 x H'→∃ F3,Ext F2 H2 F3 H'∧Rep K F3 d x)∧(ds[i]?=none→J.stop i H2)
variable (K XO E) in
def SI (wi:TI) (m:En→R (List D)):Prop:=∀ Λ F0 H0 F H σ δ R,EnvOk K Λ F0 H0 F H σ δ→Aft E XO σ F H (fun ds F1 H1=>∀ J,IsIt K J (fun F2 H2=>Same F1 F2∧Same F2 H2) ds→R J H1) (m δ)→wi σ H R
variable (K XO E) in
def SIc (wi:TI) (m:En→R (List D)):Prop:=∀ Λ F0 H0 F H σ δ R,EnvOk K Λ F0 H0 F H σ δ→Aft E XO σ F H (fun ds F1 H1=>∀ J,IsIt K J (fun F2 H2=>Ext F1 H1 F2 H2) ds→R J H1) (m δ)→wi σ H R
theorem SI.c {wi:TI} {m:En→R (List D)} (h:SI K XO E wi m):SIc K XO E wi m:=fun Λ F0 H0 F H σ δ R I a=>h Λ F0 H0 F H σ δ R I (a.imp fun ds F1 H1 e p J hJ=>p J fun F2 H2 x=>hJ F2 H2 ⟨x.ff,x.fh⟩)
def asL:D→Option (List D)
  | .lst l=>some l
  | .scr l=>some (l.map .int)
  | _=>none
def mItL (ml:En→R D) (δ:En):R (List D):=(ml δ).bind fun d=>R.of (asL d)
theorem zfd {a:Addr} {ds:List D} {vs:List V} {F1:Hp} {P:Hp→Hp→Prop} (r:RepL K F1 ds vs) (h:∀ F2 H2,P F2 H2→Same F1 F2∧Same F2 H2∧SqL K.f H2 a vs):IsIt K (Itl K.f a) P ds:=by
  intro F2 H2 p i
  obtain ⟨s1,s2,q⟩:=h F2 H2 p
  refine ⟨fun d hd=>?_,fun hn=>?_⟩
  · obtain ⟨v,hv,rv⟩:=r.get hd
    refine ⟨⟨vs,v,q,hv⟩,fun x H' y=>?_⟩
    obtain ⟨rfl,y⟩:=y
    have z:=y vs q
    rw [hv] at z; cases z
    exact ⟨F2,.refl s2,Rep.mono s1 _ rv⟩
  · exact ⟨vs,q,by rw [r.length]; exact List.getElem?_eq_none_iff.mp hn⟩
theorem zjs (h:SE K XO E te me):SI K XO E (zo5 K.f te) (mItL me):=by
  intro Λ F0 H0 F H σ δ R I a
  refine h Λ F0 H0 F H σ δ _ I (a.bind.imp fun d F1 H1 e1 a1 v r=>?_)
  cases d with
  | lst l =>
    simp only [Rep] at r
    obtain ⟨a,vs,rfl,h1,h2⟩:=r
    exact ⟨a,rfl,⟨vs,.inl (PM.Same.rd e1.fh h1)⟩,a1 F1 H1 (.refl e1.fh) _ (zfd h2 fun F2 H2 x=>⟨x.1,x.2,.inl (PM.Same.rd x.2 (PM.Same.rd x.1 h1))⟩)⟩
  | scr l =>
    simp only [Rep] at r
    obtain ⟨a,rfl,h1⟩:=r
    exact ⟨a,rfl,⟨_,e1.fh.seq h1⟩,a1 F1 H1 (.refl e1.fh) _ (zfd .ints fun F2 H2 x=>⟨x.1,x.2,x.2.seq (x.1.seq h1)⟩)⟩
  | _=>exact a1.elim
theorem zdf (h:SEr K XO E te me):SIc K XO E (zo5 K.f te) (mItL me):=by
  intro Λ F0 H0 F H σ δ R I a
  refine h Λ F0 H0 F H σ δ _ I (a.bind.imp fun d F1 H1 e1 a1 v r=>?_)
  cases d with
  | lst l =>
    obtain ⟨a,vs,rfl,h1,h2⟩:=r
    exact ⟨a,rfl,⟨vs,.inl h1⟩,a1 F1 H1 (.refl e1.fh) _ (zfd h2 fun F2 H2 x=>⟨x.ff,x.fh,.inl (PM.Same.rd x.hh h1)⟩)⟩
  | scr l =>
    simp only [Top,Rep] at r
    obtain ⟨a,rfl,h1⟩:=r
    exact ⟨a,rfl,⟨_,e1.fh.seq h1⟩,a1 F1 H1 (.refl e1.fh) _ (zfd .ints fun F2 H2 x=>⟨x.ff,x.fh,x.fh.seq (x.ff.seq h1)⟩)⟩
  | _=>exact a1.elim
def zfF (lo:Int) (n:Nat):List D:=(List.range n).map fun (k:Nat)=>D.int (lo + (k:Int))
theorem zha {lo:Int} {n:Nat} {P:Hp→Hp→Prop} (h:∀ F2 H2,P F2 H2→Same F2 H2):IsIt K (Itr lo n) P (zfF lo n):=by
  intro F2 H2 p i
  unfold zfF
  rw [List.getElem?_map]
  have er:(List.range n)[i]?=if i < n then some i else none:=by
    by_cases hi:i < n
    · rw [if_pos hi,List.getElem?_range hi]
    · rw [if_neg hi,List.getElem?_eq_none_iff]; simpa using hi
  rw [er]
  refine ⟨fun d hd=>?_,fun hn=>?_⟩
  · by_cases hi:i < n
    · rw [if_pos hi] at hd
      cases hd
      refine ⟨hi,fun x H' y=>?_⟩
      obtain ⟨rfl,rfl⟩:=y
      exact ⟨F2,.refl (h F2 _ p),by simp only [Rep]⟩
    · rw [if_neg hi] at hd; cases hd
  · by_cases hi:i < n
    · rw [if_pos hi] at hn; cases hn
    · exact Nat.le_of_not_lt hi
def rng (l:List D):Option (List D):=match l with
  | [.int j]=>ifC (-(2 ^ 62) ≤ j∧j < 2 ^ 62) (some (zfF 0 j.toNat)) none
  | [.int i,.int j]=>ifC (-(2 ^ 62) ≤ i∧i < 2 ^ 62∧-(2 ^ 62) ≤ j∧j < 2 ^ 62) (some (zfF i (j - i).toNat)) none
  | _=>none
def mRng (ml:En→R (List D)) (δ:En):R (List D):=(ml δ).bind fun l=>R.of (rng l)
theorem RepL.one {F:Hp} {d:D} {vs:List V} (r:RepL K F [d] vs):∃ v,vs = [v]∧Rep K F d v:=by
  simp only [RepL] at r
  obtain ⟨v,r',rfl,h,rfl⟩:=r
  exact ⟨v,rfl,h⟩
theorem RepL.two {F:Hp} {d e:D} {vs:List V} (r:RepL K F [d,e] vs):∃ v u,vs = [v,u]∧Rep K F d v∧Rep K F e u:=by
  simp only [RepL] at r
  obtain ⟨v,r',rfl,h,v2,r2,rfl,h2,rfl⟩:=r
  exact ⟨v,v2,rfl,h,h2⟩
theorem zid {tl:TA} {ml:En→R (List D)} (hn:∀ δ l,ml δ = .ok l→l.length=1) (h:SA K XO E tl ml):SI K XO E (zqh tl) (mRng ml):=by
  intro Λ F0 H0 F H σ δ R I a
  unfold mRng at a
  cases hm:ml δ with
  | no=>rw [hm] at a; exact a.elim
  | ex x=>refine h Λ F0 H0 F H σ δ _ I ?_; rw [hm] at a ⊢; exact a
  | ok l =>
    refine h Λ F0 H0 F H σ δ _ I ?_
    rw [hm] at a ⊢
    intro F1 H1 e1 vs r
    have h1:=hn δ l hm
    match l,h1 with
    | [d],_ =>
      obtain ⟨v,rfl,rv⟩:=r.one
      have a1:=Aft.mono e1 a
      cases d with
      | int j =>
        simp only [Rep] at rv
        subst rv
        change Aft E XO σ F1 H1 _ (PM.R.of (ifC (-(2 ^ 62) ≤ j∧j < 2 ^ 62) _ _)) at a1
        by_cases hj : -(2 ^ 62) ≤ j∧j < 2 ^ 62
        · rw [zbn hj] at a1
          exact ⟨j,rfl,hj.1,hj.2,a1 F1 H1 (.refl e1.fh) _ (zha fun F2 H2 x=>x.2)⟩
        · rw [zly hj] at a1; exact a1.elim
      | _=>exact a1.elim
theorem zmZ {tl:TA} {ml:En→R (List D)} (hn:∀ δ l,ml δ = .ok l→l.length=2) (h:SA K XO E tl ml):SI K XO E (zqI tl) (mRng ml):=by
  intro Λ F0 H0 F H σ δ R I a
  unfold mRng at a
  cases hm:ml δ with
  | no=>rw [hm] at a; exact a.elim
  | ex x=>refine h Λ F0 H0 F H σ δ _ I ?_; rw [hm] at a ⊢; exact a
  | ok l =>
    refine h Λ F0 H0 F H σ δ _ I ?_
    rw [hm] at a ⊢
    intro F1 H1 e1 vs r
    have h1:=hn δ l hm
    match l,h1 with
    | [d,d'],_ =>
      obtain ⟨v,u,rfl,rv,ru⟩:=r.two
      have a1:=Aft.mono e1 a
      cases d with
      | int i =>
        cases d' with
        | int j =>
          simp only [Rep] at rv ru
          subst rv ru
          change Aft E XO σ F1 H1 _ (PM.R.of (ifC (-(2 ^ 62) ≤ i∧i < 2 ^ 62∧-(2 ^ 62) ≤ j∧j < 2 ^ 62) _ _)) at a1
          by_cases hj : -(2 ^ 62) ≤ i∧i < 2 ^ 62∧-(2 ^ 62) ≤ j∧j < 2 ^ 62
          · rw [zbn hj] at a1
            exact ⟨i,j,rfl,hj,a1 F1 H1 (.refl e1.fh) _ (zha fun F2 H2 x=>x.2)⟩
          · rw [zly hj] at a1; exact a1.elim
        | _=>exact a1.elim
      | _=>exact a1.elim
theorem len1 {ma:En→R D}:∀ δ l,zaa ma mNil δ = .ok l→l.length=1:=by
  intro δ l h
  unfold zaa mNil at h
  cases e:ma δ with
  | ok d=>rw [e] at h; cases h; rfl
  | no=>rw [e] at h; cases h
  | ex x=>rw [e] at h; cases h
theorem len2 {ma mb:En→R D}:∀ δ l,zaa ma (zaa mb mNil) δ = .ok l→l.length=2:=by
  intro δ l h
  unfold zaa mNil at h
  cases e:ma δ with
  | ok d =>
    rw [e] at h
    cases e2:mb δ with
    | ok d=>rw [R.bind_ok,e2] at h; cases h; rfl
    | no=>rw [R.bind_ok,e2] at h; cases h
    | ex x=>rw [R.bind_ok,e2] at h; cases h
  | no=>rw [e] at h; cases h
  | ex x=>rw [e] at h; cases h
def zh1 (l:List D):List D:=l.mapIdx fun i d=>.tup [.int i,d]
theorem zig {a:Addr} {ds:List D} {vs:List V} {F1:Hp} {P:Hp→Hp→Prop} (r:RepL K F1 ds vs) (h:∀ F2 H2,P F2 H2→Same F1 F2∧Same F2 H2∧SqL K.f H2 a vs):IsIt K (Ite K.f a) P (zh1 ds):=by
  intro F2 H2 p i
  obtain ⟨s1,s2,q⟩:=h F2 H2 p
  unfold zh1
  rw [List.getElem?_mapIdx]
  refine ⟨fun d hd=>?_,fun hn=>?_⟩
  · cases e:ds[i]? with
    | none=>rw [e] at hd; cases hd
    | some x =>
      rw [e] at hd
      cases hd
      obtain ⟨v,hv,rv⟩:=r.get e
      refine ⟨⟨vs,v,q,hv⟩,fun x' H' y=>?_⟩
      obtain ⟨p',y',rfl,hp,rfl,y⟩:=y
      have z:=y vs q
      rw [hv] at z; cases z
      refine ⟨_,.new s2 hp,?_⟩
      simp only [Rep]
      exact ⟨p',_,rfl,zax,.cons (by simp only [Rep]) (.cons (Rep.mono (s1.trans (Same.upd (s2.free hp))) _ rv) .nil)⟩
  · cases e:ds[i]? with
    | none=>exact ⟨vs,q,by rw [r.length]; exact List.getElem?_eq_none_iff.mp e⟩
    | some x=>rw [e] at hn; cases hn
def asL':D→Option (List D)
  | .lst l=>some l
  | _=>none
def zk7:List D→Option (List D)
  | [d]=>(asL' d).map zh1
  | _=>none
def zjB (ml:En→R (List D)) (δ:En):R (List D):=(ml δ).bind fun l=>R.of (zk7 l)
theorem zhb {l r:List D} (h:zk7 l=some r):∃ x,l = [.lst x]∧r=zh1 x:=by
  cases l with
  | nil=>cases h
  | cons d t =>
    cases t with
    | cons _ _=>cases h
    | nil =>
      cases d with
      | lst x=>cases h; exact ⟨x,rfl,rfl⟩
      | _=>cases h
theorem zmT {tl:TA} {ml:En→R (List D)} (h:SA K XO E tl ml):SI K XO E (zo2 K.f tl) (zjB ml):=by
  intro Λ F0 H0 F H σ δ R I a
  refine h Λ F0 H0 F H σ δ _ I (a.bind.imp fun ds F1 H1 e1 a1 vs r=>?_)
  cases q:zk7 ds with
  | none=>rw [q] at a1; exact a1.elim
  | some z =>
    rw [q] at a1
    obtain ⟨l,rfl,rfl⟩:=zhb q
    obtain ⟨v,rfl,r'⟩:=RepL.one r
    simp only [Rep] at r'
    obtain ⟨a,vs,rfl,h1,h2⟩:=r'
    exact ⟨a,rfl,⟨vs,.inl (PM.Same.rd e1.fh h1)⟩,a1 F1 H1 (.refl e1.fh) _ (zig h2 fun F2 H2 x=>⟨x.1,x.2,.inl (PM.Same.rd x.2 (PM.Same.rd x.1 h1))⟩)⟩
theorem zn8 {tl:TA} {ml:En→R (List D)} (h:SAr K XO E tl ml):SIc K XO E (zo2 K.f tl) (zjB ml):=by
  intro Λ F0 H0 F H σ δ R I a
  refine h Λ F0 H0 F H σ δ _ I (a.bind.imp fun ds F1 H1 e1 a1 vs r=>?_)
  cases q:zk7 ds with
  | none=>rw [q] at a1; exact a1.elim
  | some z =>
    rw [q] at a1
    obtain ⟨l,rfl,rfl⟩:=zhb q
    cases r with
    | cons r r' =>
      cases r'
      obtain ⟨a,vs,rfl,h1,h2⟩:=r
      exact ⟨a,rfl,⟨vs,.inl h1⟩,a1 F1 H1 (.refl e1.fh) _ (zig h2 fun F2 H2 x=>⟨x.ff,x.fh,.inl (PM.Same.rd x.hh h1)⟩)⟩
end
end PM
namespace PM
open PySem L2
section
variable (K:Kx) (XO:XOT) (E:St→XK)
def AftS (Λ:List (Nat × Addr × HO)) (F0 H0:Hp) (Dn:Ends):O→Prop
  | .no=>False
  | .nx δ=>∀ σ F H,EnvOk K Λ F0 H0 F H σ δ→Dn.nx σ H
  | .bk δ=>∀ σ F H,EnvOk K Λ F0 H0 F H σ δ→Dn.bk σ H
  | .ct δ=>∀ σ F H,EnvOk K Λ F0 H0 F H σ δ→Dn.ct σ H
  | .rt d=>∀ v F H,Ext F0 H0 F H→Rep K F d v→Dn.rt v H
  | .ro d=>∀ p F H,Ext F0 H0 F H→F p=none→H0 p=none→Own K F H d p→Dn.rt (.ref p) H
  | .ex δ x=>∀ σ F H C dct,EnvOk K Λ F0 H0 F H σ δ→XO x F H C dct→E σ C dct H
def SS (t:TS) (m:En→O):Prop:=∀ Λ F0 H0 F H σ δ Dn,EnvOk K Λ F0 H0 F H σ δ→AftS K XO E Λ F0 H0 Dn (m δ)→t Dn σ H
end
def R.toO {α:Type} (r:R α) (δ:En) (f:α→O):O:=match r with | .no=>.no | .ok a=>f a | .ex x=>.ex δ x
@[simp] theorem R.toO_ok {α:Type} (a:α) (δ:En) (f:α→O):(R.ok a).toO δ f=f a:=rfl
@[simp] theorem R.toO_no {α:Type} (δ:En) (f:α→O):(R.no:R α).toO δ f = .no:=rfl
@[simp] theorem R.toO_ex {α:Type} (x:Xc) (δ:En) (f:α→O):(R.ex x:R α).toO δ f = .ex δ x:=rfl
section
variable {K:Kx} {XO:XOT} {E:St→XK} {ta tb te:TE} {ma mb me:En→R D} {t u:TS} {m n:En→O} {Λ:List (Nat × Addr × HO)} {F0 H0 F H F1 H1:Hp} {σ:St} {δ:En} {Dn:Ends}
theorem AftS.of {α:Type} {r:R α} {f:α→O} (I:EnvOk K Λ F0 H0 F H σ δ) (a:AftS K XO E Λ F0 H0 Dn (r.toO δ f)):Aft E XO σ F H (fun a _ _=>AftS K XO E Λ F0 H0 Dn (f a)) r:=by
  cases r with
  | no=>exact a
  | ok b=>exact fun _ _ _=>a
  | ex x=>exact fun C dct F' H' e h=>a σ F' H' C dct (I.grow e) h
theorem AftS.up (e:Ext F0 H0 F1 H1):∀ {o:O},AftS K XO E Λ F0 H0 Dn o→AftS K XO E Λ F1 H0 Dn o
  | .no,h=>h
  | .nx _,h=>fun σ F H I=>h σ F H (I.down e)
  | .bk _,h=>fun σ F H I=>h σ F H (I.down e)
  | .ct _,h=>fun σ F H I=>h σ F H (I.down e)
  | .rt _,h=>fun v F H x=>h v F H (e.base x)
  | .ro _,h=>fun p F H x=>h p F H (e.base x)
  | .ex _ _,h=>fun σ F H C d I=>h σ F H C d (I.down e)
def zaM (δ:En):O:=.nx δ
def mSeq (m n:En→O) (δ:En):O:=match m δ with | .nx δ'=>n δ' | r=>r
theorem zaJ:SS K XO E zqe zaM:=fun Λ F0 H0 F H σ δ Dn I a=>a σ F H I
theorem zap (h:SS K XO E t m) (h':SS K XO E u n):SS K XO E (tSeq t u) (mSeq m n):=by
  intro Λ F0 H0 F H σ δ Dn I a
  refine h Λ F0 H0 F H σ δ _ I ?_
  unfold mSeq at a
  cases q:m δ with
  | no=>rw [q] at a; exact a
  | nx δ'=>rw [q] at a; exact fun σ' F' H' I'=>h' Λ F0 H0 F' H' σ' δ' Dn I' a
  | rt d=>rw [q] at a; exact a
  | ro d=>rw [q] at a; exact a
  | bk δ'=>rw [q] at a; exact a
  | ct δ'=>rw [q] at a; exact a
  | ex δ' x=>rw [q] at a; exact a
def mRet (me:En→R D) (δ:En):O:=(me δ).toO δ .rt
theorem zaF (h:SE K XO E te me):SS K XO E (tRet te) (mRet me):=by
  intro Λ F0 H0 F H σ δ Dn I a
  exact h Λ F0 H0 F H σ δ _ I ((AftS.of I a).imp fun d F1 H1 e p v r=>p v F1 H1 (I.ext.trans e) r)
def zfa (me:En→R D) (δ:En):O:=(me δ).toO δ .ro
theorem zgp (h:SEo K XO E te me):SS K XO E (tRet te) (zfa me):=by
  intro Λ F0 H0 F H σ δ Dn I a
  exact h Λ F0 H0 F H σ δ _ I ((AftS.of I a).imp fun d F1 H1 e p v h0 h1 o=>p v F1 H1 (I.ext.trans e) h0 (I.ext.hh.free h1) o)
def zkY (i:Nat) (δ:En):O:=match δ[i]? with | some (.o d)=>.ro d | _=>.no
theorem zhs {i:Nat}:SS K XO E (tRet (tVar i)) (zkY i):=by
  intro Λ F0 H0 F H σ δ Dn I a
  unfold zkY at a
  split at a
  · rename_i d q
    have z:=I.slot i
    rw [q] at z
    obtain ⟨p,z1,z2,z3,z4⟩:=z
    exact ⟨_,z1,a p F H I.ext z3 z2 z4⟩
  · exact a.elim
def mDo (me:En→R D) (δ:En):O:=(me δ).toO δ fun _=>.nx δ
theorem zgK (h:SE K XO E te me):SS K XO E (zpg te) (mDo me):=by
  intro Λ F0 H0 F H σ δ Dn I a
  exact h Λ F0 H0 F H σ δ _ I ((AftS.of I a).imp fun d F1 H1 e p v r=>p σ F1 H1 (I.grow e))
def mIfS (n:En→R Bool) (m m':En→O) (δ:En):O:=(n δ).toO δ fun b=>if b=true then m δ else m' δ
theorem zbk {tc:TT} {nc:En→R Bool} (h:ST K XO E tc nc) (ha:SS K XO E t m) (hb:SS K XO E u n):SS K XO E (tIfS tc t u) (mIfS nc m n):=by
  intro Λ F0 H0 F H σ δ Dn I a
  refine h Λ F0 H0 F H σ δ _ I ((AftS.of I a).imp fun b F1 H1 e p=>?_)
  cases b with
  | true=>exact ha Λ F0 H0 F1 H1 σ δ Dn (I.grow e) p
  | false=>exact hb Λ F0 H0 F1 H1 σ δ Dn (I.grow e) p
def O.of:Option En→O
  | some δ=>.nx δ
  | none=>.no
@[simp] theorem O.of_some (δ:En):O.of (some δ) = .nx δ:=rfl
@[simp] theorem O.of_none:O.of none = .no:=rfl
def mAsg (me:En→R D) (b:D→En→Option En) (δ:En):O:=(me δ).toO δ fun d=>O.of (b d δ)
theorem zaV {g:TG} {b:D→En→Option En} (h:SE K XO E te me) (hg:SG K g b):SS K XO E (tAsg te g) (mAsg me b):=by
  intro Λ F0 H0 F H σ δ Dn I a
  refine h Λ F0 H0 F H σ δ _ I ((AftS.of I a).imp fun d F1 H1 e p v r=>?_)
  cases q:b d δ with
  | none=>rw [q] at p; exact p.elim
  | some δ'=>rw [q] at p; exact hg Λ F0 H0 F1 H1 σ δ d v δ' _ (I.grow e) r q fun σ' I'=>p σ' F1 H1 I'
def bNew (i:Nat) (d:D) (δ:En):Option En:=match δ[i]? with | none=>none | some (.l _)=>none | some _=>some (δ.set i (.o d))
theorem zfT {i:Nat} (h:SEo K XO E te me):SS K XO E (tAsg te (zjK i)) (mAsg me (bNew i)):=by
  intro Λ F0 H0 F H σ δ Dn I a
  refine h Λ F0 H0 F H σ δ _ I ((AftS.of I a).imp fun d F1 H1 e p v h0 h1 o=>?_)
  unfold bNew at p
  split at p
  · exact p.elim
  · exact p.elim
  · rename_i x h3 h2
    exact p _ F1 H1 (I.putO ⟨x,h2,fun d' z=>h3 d' (by rw [z])⟩ e h0 h1 o)
def zd4 (b:D→En→Option En) (m:En→O):List D→En→O
  | [],δ=>.nx δ
  | d :: l,δ=>match b d δ with
    | none=>.no
    | some δ1=>match m δ1 with
      | .nx δ2=>zd4 b m l δ2
      | .ct δ2=>zd4 b m l δ2
      | .bk δ2=>.nx δ2
      | r=>r
def mFor (mi:En→R (List D)) (b:D→En→Option En) (m:En→O) (δ:En):O:=(mi δ).toO δ fun l=>zd4 b m l δ
theorem zoX {J:It} {P:Hp→Hp→Prop} {g:TG} {b:D→En→Option En} {ds:List D} (hJ:IsIt K J P ds) (hP:∀ σ δ F H,EnvOk K Λ F0 H0 F H σ δ→P F H) (hg:SG K g b) (hb:SS K XO E t m) (I:EnvOk K Λ F0 H0 F H σ δ)
    (a:AftS K XO E Λ F0 H0 Dn (zd4 b m ds δ)):∃ W:Nat→Nat→St→Hp→Prop,(∃ k,W 0 k σ H)∧∀ i k σ H,W i k σ H →
      (J.stop i H∧Dn.nx σ H)∨(J.go i H∧∃ N:St→Hp→Prop,(∀ σ' H',N σ' H'→∃ k',k' < k∧W (i + 1) k' σ' H')∧∀ x H',J.yld i H x H'→g x σ H' fun σ2 H2=>t { Dn with nx:=N,ct:=N,bk:=Dn.nx } σ2 H2):=by
  let W:Nat→Nat→St→Hp→Prop:=fun i k σ H=>∃ F δ,EnvOk K Λ F0 H0 F H σ δ∧k=ds.length - i∧i ≤ ds.length∧AftS K XO E Λ F0 H0 Dn (zd4 b m (ds.drop i) δ)
  refine ⟨W,⟨ds.length,F,δ,I,rfl,Nat.zero_le _,a⟩,?_⟩
  rintro i k σ H ⟨F,δ,I,rfl,hi,a⟩
  have hP':=hP σ δ F H I
  by_cases hlt:i < ds.length
  · have e:ds.drop i=ds[i] :: ds.drop (i + 1):=List.drop_eq_getElem_cons hlt
    obtain ⟨h1,h2⟩:=(hJ F H hP' i).1 ds[i] (by simp [hlt])
    refine .inr ⟨h1,W (i + 1) (ds.length - (i + 1)),fun σ' H' w=>⟨_,by omega,w⟩,fun x H' y=>?_⟩
    obtain ⟨F3,e3,r⟩:=h2 x H' y
    rw [e] at a
    unfold zd4 at a
    cases q:b ds[i] δ with
    | none=>rw [q] at a; exact a.elim
    | some δ1 =>
      rw [q] at a
      refine hg Λ F0 H0 F3 H' σ δ _ x δ1 _ (I.grow e3) r q fun σ1 I1=>hb Λ F0 H0 F3 H' σ1 δ1 _ I1 ?_
      cases q2:m δ1 with
      | no=>simp only [q2] at a; exact a
      | nx δ2=>simp only [q2] at a; exact fun σ' F' H' I'=>⟨F',δ2,I',rfl,hlt,a⟩
      | ct δ2=>simp only [q2] at a; exact fun σ' F' H' I'=>⟨F',δ2,I',rfl,hlt,a⟩
      | bk δ2=>simp only [q2] at a; exact a
      | rt d=>simp only [q2] at a; exact a
      | ro d=>simp only [q2] at a; exact a
      | ex δ' x=>simp only [q2] at a; exact a
  · have e:i=ds.length:=by omega
    subst e
    rw [List.drop_length] at a
    exact .inl ⟨(hJ F H hP' _).2 (by simp),a σ F H I⟩
theorem zfP {wi:TI} {mi:En→R (List D)} {g:TG} {b:D→En→Option En} (hi:SI K XO E wi mi) (hg:SG K g b) (hb:SS K XO E t m):SS K XO E (tFor wi g t) (mFor mi b m):=by
  intro Λ F0 H0 F H σ δ Dn I a
  refine hi Λ F0 H0 F H σ δ _ I ((AftS.of I a).imp fun ds F1 H1 e p J hJ=>?_)
  have I1:=I.grow e
  exact zoX (F0:=F1) hJ (fun σ δ F H I=>⟨I.ext.ff,I.ext.fh⟩) hg hb I1.up (p.up I1.ext)
def zeB (c:En→R Bool) (m:En→O):Nat→En→O
  | 0,_=>.no
  | n + 1,δ=>(c δ).toO δ fun b=>if b=true then (match m δ with | .nx δ2=>zeB c m n δ2 | .ct δ2=>zeB c m n δ2 | .bk δ2=>.nx δ2 | r=>r) else .nx δ
open Classical in
def zhf (c:En→R Bool) (m:En→O) (δ:En):O:=if h:∃ n,zeB c m n δ ≠ .no then zeB c m (choose h) δ else .no
theorem zoa {tc:TT} {nc:En→R Bool} (hc:ST K XO E tc nc) (hb:SS K XO E t m):SS K XO E (zoA tc t) (zhf nc m):=by
  intro Λ F0 H0 F H σ δ Dn I a
  unfold zhf at a
  split at a
  · rename_i h
    refine ⟨fun k σ H=>∃ F δ,EnvOk K Λ F0 H0 F H σ δ∧AftS K XO E Λ F0 H0 Dn (zeB nc m k δ),⟨_,F,δ,I,a⟩,?_⟩
    rintro k σ H ⟨F,δ,I,a⟩
    cases k with
    | zero=>exact a.elim
    | succ k =>
      unfold zeB at a
      refine hc Λ F0 H0 F H σ δ _ I ((AftS.of I a).imp fun b F1 H1 e p=>?_)
      cases b with
      | false=>exact p σ F1 H1 (I.grow e)
      | true =>
        refine ⟨fun σ H=>∃ F δ,EnvOk K Λ F0 H0 F H σ δ∧AftS K XO E Λ F0 H0 Dn (zeB nc m k δ),fun σ' H' w=>⟨k,Nat.lt_succ_self _,w⟩,hb Λ F0 H0 F1 H1 σ δ _ (I.grow e) ?_⟩
        rw [if_pos rfl] at p
        cases q2:m δ with
        | no=>simp only [q2] at p; exact p
        | nx δ2=>simp only [q2] at p; exact fun σ' F' H' I'=>⟨F',δ2,I',p⟩
        | ct δ2=>simp only [q2] at p; exact fun σ' F' H' I'=>⟨F',δ2,I',p⟩
        | bk δ2=>simp only [q2] at p; exact p
        | rt d=>simp only [q2] at p; exact p
        | ro d=>simp only [q2] at p; exact p
        | ex δ' x=>simp only [q2] at p; exact p
  · exact a.elim
end
end PM
namespace PM
open PySem L2
def asK:D→Option Key
  | .int i=>some (.inl i)
  | .str x=>some (.inr x)
  | _=>none
def getK (ks:List Key) (l:List D) (k:Key):Option D:=match ks,l with
  | a :: r,d :: t=>if a=k then some d else getK r t k
  | _,_=>none
def putL (ks:List Key) (l:List D) (k:Key) (x:D):List D:=match ks,l with
  | a :: r,d :: t=>(if a=k then x else d) :: putL r t k x
  | _,t=>t
def putD (ks:List Key) (l:List D) (k:Key) (x:D):D:=if ks.any (fun a=>decide (a=k))=true then .dct ks (putL ks l k x) else .dct (ks ++ [k]) (l ++ [x])
section
variable {K:Kx} {F H:Hp}
theorem zlb {d:D} {v:V} {k:Key} (h:asK d=some k) (r:Rep K F d v):v=kV k:=by
  cases d with
  | int i=>cases h; simp only [Rep] at r; exact r
  | str i=>cases h; simp only [Rep] at r; exact r
  | _=>cases h
theorem zoo {k:Key}:∀ {kvs:List (Key × V)} {ks:List Key} {l:List D},kvs.map (·.1)=ks→RepL K F l (kvs.map (·.2)) →
    (∀ d,getK ks l k=some d→∃ v,valV kvs k=some v∧Rep K F d v)∧(getK ks l k=none→valV kvs k=none)
  | [],ks,l,h1,h2=>by
    subst h1
    refine ⟨fun d h=>?_,fun _=>rfl⟩
    simp [getK] at h
  | (a,v) :: kvs,ks,l,h1,h2=>by
    subst h1
    cases l with
    | nil=>simp [RepL] at h2
    | cons d t =>
      simp only [List.map_cons,RepL] at h2
      obtain ⟨v',r,e,h3,h4⟩:=h2
      cases e
      have ih:=zoo (k:=k) (kvs:=kvs) rfl h4
      simp only [List.map_cons,getK]
      by_cases hk:a=k
      · rw [if_pos hk]
        refine ⟨fun d' e=>?_,fun e=>by cases e⟩
        cases e
        exact ⟨v,by simp [valV,hk],h3⟩
      · rw [if_neg hk]
        have e:valV ((a,v) :: kvs) k=valV kvs k:=by simp [valV,hk]
        rw [e]
        exact ih
theorem zqX {kvs:List (Key × V)} {ks:List Key} (h:kvs.map (·.1)=ks):kvs.length=ks.length:=by rw [← h,List.length_map]
theorem zmd {k:Key} {x:D} {u:V} (hu:Rep K F x u):∀ {kvs:List (Key × V)} {ks:List Key} {l:List D},kvs.map (·.1)=ks→RepL K F l (kvs.map (·.2)) →
    RepL K F (putL ks l k x) ((kvs.map (fun kv=>if kv.1=k then (kv.1,u) else kv)).map (·.2))
  | [],ks,l,h1,h2=>by
    subst h1
    cases l with
    | nil=>exact .nil
    | cons d t=>simp [RepL] at h2
  | (a,v) :: kvs,ks,l,h1,h2=>by
    subst h1
    cases l with
    | nil=>simp [RepL] at h2
    | cons d t =>
      simp only [List.map_cons,RepL] at h2
      obtain ⟨v',r,e,h3,h4⟩:=h2
      cases e
      have ih:=zmd (k:=k) hu (kvs:=kvs) rfl h4
      simp only [List.map_cons,putL]
      refine .cons ?_ ih
      by_cases hk:a=k
      · rw [if_pos hk,if_pos hk]; exact hu
      · rw [if_neg hk,if_neg hk]; exact h3
theorem zqV {k:Key} {x:D} {u:V} {a:Addr} (hu:Rep K F x u) {kvs:List (Key × V)} {ks:List Key} {l:List D} (h1:kvs.map (·.1)=ks) (h2:RepL K F l (kvs.map (·.2))):Own K F (upd H a (.dK (putK kvs k u))) (putD ks l k x) a:=by
  have e:ks.any (fun a=>decide (a=k))=kvs.any (fun kv=>decide (kv.1=k)):=by rw [← h1,List.any_map]; rfl
  unfold putD putK
  rw [e]
  split
  · refine ⟨_,zax,?_,zmd hu h1 h2⟩
    rw [← h1,List.map_map]
    refine List.map_congr_left fun kv _=>?_
    simp only [Function.comp]
    split <;> rfl
  · exact ⟨_,zax,by rw [List.map_append,h1]; rfl,by rw [List.map_append]; exact h2.append (.cons hu .nil)⟩
end
section
variable {K:Kx} {XO:XOT} {E:St→XK} {ta tb te ty td:TE} {ma mb me my md:En→R D} {t u:TS} {m n:En→O} {Λ:List (Nat × Addr × HO)} {F0 H0 F H F1 H1:Hp} {σ:St} {δ:En} {Dn:Ends}
theorem EnvOk.own {i:Nat} {d:D} (I:EnvOk K Λ F0 H0 F H σ δ) (hx:δ[i]?=some (.o d)):∃ a,σ[i]?=some (some (.ref a))∧Own K F H d a:=by
  have z:=I.slot i
  rw [hx] at z
  obtain ⟨a,z1,z2,z3,z4⟩:=z
  exact ⟨a,z1,z4⟩
def zdk (i:Nat) (me:En→R D) (δ:En):O:=match δ[i]? with
  | some (.o (.lst l))=>(me δ).toO δ fun d=>ifC (l.length < sizeLine) (.nx (δ.set i (.o (.lst (l ++ [d]))))) .no
  | _=>.no
theorem zgj {i:Nat} (h:SE K XO E te me):SS K XO E (zpg (tBM K.f "list" zm0 (tVar i) (zdl te tNil))) (zdk i me):=by
  intro Λ F0 H0 F H σ δ Dn I a
  unfold zdk at a
  split at a
  · rename_i l q
    obtain ⟨p,s1,vs,s2,s3⟩:=I.own q
    refine ⟨_,s1,.inl ⟨rfl,vs,.inl (.inl s2)⟩,?_⟩
    refine h Λ F0 H0 F H σ δ _ I ((AftS.of I a).imp fun d F1 H1 e c v r=>?_)
    unfold ifC at c
    split at c
    · rename_i hl
      refine ⟨p,vs,v,rfl,rfl,e.hh _ _ s2,by rw [s3.length]; exact hl,?_⟩
      exact c σ F1 _ ((I.grow e).chg q s1 ⟨_,zax,(s3.mono e.ff).append (.cons r .nil)⟩)
    · exact c.elim
  · exact a.elim
def zkK (i:Nat) (mi me:En→R D) (δ:En):O:=match δ[i]? with
  | some (.o (.lst l))=>(me δ).toO δ fun d=>(mi δ).toO δ fun k=>match k with
    | .int k=>(match ixN l.length k with | some j=>.nx (δ.set i (.o (.lst (l.set j d)))) | none=>.no)
    | _=>.no
  | _=>.no
theorem zmy {i:Nat} {ti:TE} {mi:En→R D} (hi:SE K XO E ti mi) (h:SE K XO E te me):SS K XO E (tAsg te (gSub (tVar i) ti zpr)) (zkK i mi me):=by
  intro Λ F0 H0 F H σ δ Dn I a
  unfold zkK at a
  split at a
  · rename_i l q
    obtain ⟨p,s1,vs,s2,s3⟩:=I.own q
    refine h Λ F0 H0 F H σ δ _ I ((AftS.of I a).imp fun d F1 H1 e c v r=>⟨_,s1,?_⟩)
    refine hi Λ F0 H0 F1 H1 σ δ _ (I.grow e) ((AftS.of (I.grow e) c).imp fun k F2 H2 e2 c2 v2 r2=>?_)
    cases k with
    | int k =>
      simp only [Rep] at r2
      subst r2
      dsimp only at c2
      cases z:ixN l.length k with
      | none=>rw [z] at c2; exact c2.elim
      | some j =>
        rw [z] at c2
        refine ⟨p,vs,k,j,rfl,rfl,e2.hh _ _ (e.hh _ _ s2),by rw [s3.length]; exact z,?_⟩
        exact c2 σ F2 _ (((I.grow e).grow e2).chg q s1 ⟨_,zax,((s3.mono e.ff).mono e2.ff).set j (Rep.mono e2.ff _ r)⟩)
    | _=>exact c2.elim
  · exact a.elim
def zjA (f:Int→Int→Int) (i:Nat) (mi me:En→R D) (δ:En):O:=match δ[i]? with
  | some (.o (.lst l))=>(mi δ).toO δ fun k=>(match k with
    | .int k=>(match ixN l.length k with
      | some j=>(match l[j]? with
        | some (.int x)=>(me δ).toO δ fun y=>(match y with | .int y=>.nx (δ.set i (.o (.lst (l.set j (.int (f x y)))))) | _=>.no)
        | _=>.no)
      | none=>.no)
    | _=>.no)
  | _=>.no
theorem zju {f:Int→Int→Int} {i:Nat} {ti:TE} {mi:En→R D} (hi:SE K XO E ti mi) (h:SE K XO E te me):SS K XO E (zqN (tVar i) ti te (rIxL K.f) (ipI f) zpr) (zjA f i mi me):=by
  intro Λ F0 H0 F H σ δ Dn I a
  unfold zjA at a
  split at a
  · rename_i l q
    obtain ⟨p,s1,vs,s2,s3⟩:=I.own q
    refine ⟨_,s1,?_⟩
    refine hi Λ F0 H0 F H σ δ _ I ((AftS.of I a).imp fun k F1 H1 e c v r=>?_)
    cases k with
    | int k =>
      simp only [Rep] at r
      subst r
      dsimp only at c
      cases z:ixN l.length k with
      | none=>rw [z] at c; exact c.elim
      | some j =>
        rw [z] at c
        dsimp only at c
        cases z2:l[j]? with
        | none=>rw [z2] at c; exact c.elim
        | some d =>
          rw [z2] at c
          cases d with
          | int x =>
            obtain ⟨w,w1,w2⟩:=s3.get z2
            simp only [Rep] at w2
            subst w2
            have h1:=e.hh _ _ s2
            refine ⟨p,vs,k,_,rfl,rfl,.inl (.inl h1),by unfold atI; rw [s3.length,z]; exact w1,?_⟩
            refine h Λ F0 H0 F1 H1 σ δ _ (I.grow e) ((AftS.of (I.grow e) c).imp fun y F2 H2 e2 c2 v2 r2=>?_)
            cases y with
            | int y =>
              simp only [Rep] at r2
              subst r2
              refine ⟨x,y,rfl,rfl,p,vs,k,j,rfl,rfl,e2.hh _ _ h1,by rw [s3.length]; exact z,?_⟩
              exact c2 σ F2 _ (((I.grow e).grow e2).chg q s1 ⟨_,zax,((s3.mono e.ff).mono e2.ff).set j (by simp only [Rep])⟩)
            | _=>exact c2.elim
          | _=>exact c.elim
    | _=>exact c.elim
  · exact a.elim
def znJ (i:Nat) (mk me:En→R D) (δ:En):O:=match δ[i]? with
  | some (.o (.dct ks l))=>(me δ).toO δ fun d=>(mk δ).toO δ fun k=>match asK k with
    | some k=>ifC (ks.length < sizeLine) (.nx (δ.set i (.o (putD ks l k d)))) .no
    | none=>.no
  | _=>.no
theorem zpB {i:Nat} {tk:TE} {mk:En→R D} (hk:SE K XO E tk mk) (h:SE K XO E te me):SS K XO E (zqb (tVar i) tk te) (znJ i mk me):=by
  intro Λ F0 H0 F H σ δ Dn I a
  unfold znJ at a
  split at a
  · rename_i ks l q
    obtain ⟨p,s1,vs,s2,s0,s3⟩:=I.own q
    refine h Λ F0 H0 F H σ δ _ I ((AftS.of I a).imp fun d F1 H1 e c v r=>⟨_,s1,?_⟩)
    refine hk Λ F0 H0 F1 H1 σ δ _ (I.grow e) ((AftS.of (I.grow e) c).imp fun k F2 H2 e2 c2 v2 r2=>?_)
    cases z:asK k with
    | none=>rw [z] at c2; exact c2.elim
    | some k =>
      rw [z] at c2
      dsimp only at c2
      unfold ifC at c2
      split at c2
      · rename_i hl
        cases zlb z r2
        refine ⟨p,_,rfl,DPut.k (e2.hh _ _ (e.hh _ _ s2)) (by rw [zqX s0]; exact hl),?_⟩
        exact c2 σ F2 _ (((I.grow e).grow e2).chg q s1 (zqV (Rep.mono e2.ff _ r) s0 ((s3.mono e.ff).mono e2.ff)))
      · exact c2.elim
  · exact a.elim
theorem znB {ks:List Key} {l:List D} {x:V} {k:Key} (h:Top K F H (.dct ks l) x):∃ p o,x = .ref p∧DGet H p (kV k) o∧(∀ d,getK ks l k=some d→∃ v,o=some v∧Rep K F d v)∧(getK ks l k=none→o=none):=by
  obtain ⟨a,kvs,rfl,h1,h2,h3⟩:=h
  exact ⟨a,_,rfl,.k h1,zoo h2 h3⟩
def i2 (f:Int→Int→D) (x y:D):Option D:=match x,y with | .int i,.int j=>some (f i j) | _,_=>none
def i2c (C:Int→Int→Prop) (f:Int→Int→D) (x y:D):Option D:=match x,y with | .int i,.int j=>ifC (C i j) (some (f i j)) none | _,_=>none
theorem zkS {g:Int→Int→V} {f:Int→Int→D} (h:∀ i j F,Rep K F (f i j) (g i j)):SR K (rI0 g) (i2 f):=by
  intro F H x y dx dy d Q s hx hy e q
  cases dx with
  | int i =>
    cases dy with
    | int j =>
      cases e
      simp only [Top,Rep] at hx hy
      exact ⟨i,j,hx,hy,q _ F H (.refl s) (h i j F)⟩
    | _=>cases e
  | _=>cases e
theorem zj5 {C:Int→Int→Prop} {g:Int→Int→V} {f:Int→Int→D} (h:∀ i j F,Rep K F (f i j) (g i j)):SR K (rI C g) (i2c C f):=by
  intro F H x y dx dy d Q s hx hy e q
  cases dx with
  | int i =>
    cases dy with
    | int j =>
      simp only [Top,Rep] at hx hy
      simp only [i2c] at e
      unfold ifC at e
      split at e
      · rename_i hc
        cases e
        exact ⟨i,j,hx,hy,hc,q _ F H (.refl s) (h i j F)⟩
      · cases e
    | _=>cases e
  | _=>cases e
def oAdd:D→D→Option D:=i2 fun i j=>.int (i + j)
def oSub:D→D→Option D:=i2 fun i j=>.int (i - j)
def oMul:D→D→Option D:=i2c (fun i j=>Fit i∧Fit j) fun i j=>.int (i * j)
def oDiv:D→D→Option D:=i2c (fun _ j=>j ≠ 0∧Fit j) fun i j=>.int (i.fdiv j)
def oMod:D→D→Option D:=i2c (fun _ j=>0 < j) fun i j=>.int (i % j)
def oPow:D→D→Option D:=i2c CPow fun i j=>.int (i ^ j.toNat)
def oLt:D→D→Option D:=i2 fun i j=>.bl (decide (i < j))
def oLe:D→D→Option D:=i2 fun i j=>.bl (decide (i ≤ j))
def oGt:D→D→Option D:=i2 fun i j=>.bl (decide (j < i))
def oGe:D→D→Option D:=i2 fun i j=>.bl (decide (j ≤ i))
theorem zby:SR K (rI0 fun i j=>.int (i + j)) oAdd:=zkS fun _ _ _=>by simp only [Rep]
theorem zee:SR K (rI0 fun i j=>.int (i - j)) oSub:=zkS fun _ _ _=>by simp only [Rep]
theorem zbV:SR K (rI (fun i j=>Fit i∧Fit j) fun i j=>.int (i * j)) oMul:=zj5 fun _ _ _=>by simp only [Rep]
theorem zcb:SR K (rI (fun _ j=>j ≠ 0∧Fit j) fun i j=>.int (i.fdiv j)) oDiv:=zj5 fun _ _ _=>by simp only [Rep]
theorem zbl:SR K (rI (fun _ j=>0 < j) fun i j=>.int (i % j)) oMod:=zj5 fun _ _ _=>by simp only [Rep]
theorem zgA:SR K (rI CPow fun i j=>.int (i ^ j.toNat)) oPow:=zj5 fun _ _ _=>by simp only [Rep]
theorem zmY:SR K (rI0 fun i j=>.bl (decide (i < j))) oLt:=zkS fun _ _ _=>by simp only [Rep]
theorem zp2:SR K (rI0 fun i j=>.bl (decide (i ≤ j))) oLe:=zkS fun _ _ _=>by simp only [Rep]
theorem zdA:SR K (rI0 fun i j=>.bl (decide (j < i))) oGt:=zkS fun _ _ _=>by simp only [Rep]
theorem zqY:SR K (rI0 fun i j=>.bl (decide (j ≤ i))) oGe:=zkS fun _ _ _=>by simp only [Rep]
def oNeg:D→Option D
  | .int i=>some (.int (-i))
  | _=>none
theorem zgg:SU K (rU fun i=>.int (-i)) oNeg:=by
  intro F H x dx d Q s hx e q
  cases dx with
  | int i=>cases e; simp only [Top,Rep] at hx; exact ⟨i,hx,q _ F H (.refl s) (by simp only [Rep])⟩
  | _=>cases e
def fl:D→Option V
  | .non=>some .non
  | .bl b=>some (.bl b)
  | .int i=>some (.int i)
  | .str x=>some (.str x)
  | _=>none
theorem zkx {d:D} {v x:V} (h:fl d=some v) (r:Top K F H d x):x=v:=by
  cases d with
  | non=>cases h; simpa only [Top,Rep] using r
  | bl _=>cases h; simpa only [Top,Rep] using r
  | int _=>cases h; simpa only [Top,Rep] using r
  | str _=>cases h; simpa only [Top,Rep] using r
  | _=>cases h
def oEq (x y:D):Option D:=match fl x,fl y with | some a,some b=>if scal a b=true then some (.bl (decide (a=b))) else none | _,_=>none
def oNe (x y:D):Option D:=match fl x,fl y with | some a,some b=>if scal a b=true then some (.bl (!decide (a=b))) else none | _,_=>none
theorem zeS:SR K rEq oEq:=by
  intro F H x y dx dy d Q s hx hy e q
  unfold oEq at e
  split at e
  · rename_i a b h1 h2
    split at e
    · rename_i hs
      cases e
      cases zkx h1 hx; cases zkx h2 hy
      exact ⟨hs,q _ F H (.refl s) (by simp only [Rep])⟩
    · cases e
  · cases e
theorem znj:SR K rNe oNe:=by
  intro F H x y dx dy d Q s hx hy e q
  unfold oNe at e
  split at e
  · rename_i a b h1 h2
    split at e
    · rename_i hs
      cases e
      cases zkx h1 hx; cases zkx h2 hy
      exact ⟨hs,q _ F H (.refl s) (by simp only [Rep])⟩
    · cases e
  · cases e
def isN:D→Bool
  | .non=>true
  | _=>false
theorem zpp {d:D} {x:V} (r:Top K F H d x):decide (x = .non)=isN d:=by
  cases d with
  | non=>simp only [Top,Rep] at r; subst r; rfl
  | bl _=>simp only [Top,Rep] at r; subst r; rfl
  | int _=>simp only [Top,Rep] at r; subst r; rfl
  | str _=>simp only [Top,Rep] at r; subst r; rfl
  | tup _=>simp only [Top,Rep] at r; obtain ⟨a,_,rfl,_⟩:=r; rfl
  | lst _=>obtain ⟨a,_,rfl,_⟩:=r; rfl
  | dct _ _=>obtain ⟨a,_,rfl,_⟩:=r; rfl
  | scr _=>simp only [Top,Rep] at r; obtain ⟨a,rfl,_⟩:=r; rfl
  | exc _=>simp only [Top,Rep] at r; obtain ⟨a,_,rfl,_⟩:=r; rfl
  | fd _ _=>simp only [Top,Rep] at r; obtain ⟨a,_,_,rfl,_⟩:=r; rfl
  | obj _ _ _=>simp only [Top,Rep] at r; obtain ⟨a,_,_,rfl,_⟩:=r; rfl
def oIs (x y:D):Option D:=match y with | .non=>some (.bl (isN x)) | _=>none
theorem zo0:SR K (fun x y H Q=>y = .non∧Q (.bl (decide (x = .non))) H) oIs:=by
  intro F H x y dx dy d Q s hx hy e q
  cases dy with
  | non=>cases e; simp only [Top,Rep] at hy; exact ⟨hy,q _ F H (.refl s) (by simp only [Rep]; rw [zpp hx])⟩
  | _=>cases e
def oIxL (x y:D):Option D:=match x,y with | .lst l,.int i=>atI l i | .scr l,.int i=>(atI l i).map .int | _,_=>none
def oIxT (x y:D):Option D:=match x,y with | .tup l,.int i=>atI l i | _,_=>none
theorem zjp {l:List D} {vs:List V} {i:Int} {d:D} (r:RepL K F l vs) (h:atI l i=some d):∃ v,atI vs i=some v∧Rep K F d v:=by
  unfold atI at h ⊢
  rw [r.length]
  cases q:ixN l.length i with
  | none=>rw [q] at h; cases h
  | some j=>rw [q] at h; exact r.get h
theorem zdS:SR K (rIxL K.f) oIxL:=by
  intro F H x y dx dy d Q s hx hy e q
  cases dx with
  | lst l =>
    cases dy with
    | int i =>
      obtain ⟨a,vs,rfl,h1,h2⟩:=hx
      simp only [Top,Rep] at hy
      obtain ⟨v,g1,g2⟩:=zjp h2 e
      exact ⟨a,vs,i,v,rfl,hy,.inl h1,g1,q _ F H (.refl s) g2⟩
    | _=>cases e
  | scr l =>
    cases dy with
    | int i =>
      simp only [Top,Rep] at hx hy
      obtain ⟨a,rfl,h1⟩:=hx
      simp only [oIxL] at e
      cases z:atI l i with
      | none=>rw [z] at e; cases e
      | some n =>
        rw [z] at e; cases e
        obtain ⟨v,g1,g2⟩:=zjp (F:=F) (K:=K) (l:=l.map .int) (vs:=l.map V.int) (i:=i) (d:=.int n) .ints (by
          unfold atI at z ⊢
          rw [List.length_map]
          cases q:ixN l.length i with
          | none=>rw [q] at z; cases z
          | some j =>
            rw [q] at z
            change l[j]?=some n at z
            show (l.map D.int)[j]?=_
            rw [List.getElem?_map,z]; rfl)
        exact ⟨a,_,i,v,rfl,hy,s.seq h1,g1,q _ F H (.refl s) g2⟩
    | _=>cases e
  | _=>cases e
theorem zhi:SR K (rIxT K.f) oIxT:=by
  intro F H x y dx dy d Q s hx hy e q
  cases dx with
  | tup l =>
    cases dy with
    | int i =>
      simp only [Top,Rep] at hx hy
      obtain ⟨a,vs,rfl,h1,h2⟩:=hx
      obtain ⟨v,g1,g2⟩:=zjp h2 e
      exact ⟨a,vs,i,v,rfl,hy,.inl (.inl (s _ _ h1)),g1,q _ F H (.refl s) g2⟩
    | _=>cases e
  | _=>cases e
end
end PM
namespace PM
open PySem L2
section
variable {K:Kx} {XO:XOT} {E:St→XK} {ta tb te ty td:TE} {ma mb me my md:En→R D} {t u:TS} {m n:En→O} {Λ:List (Nat × Addr × HO)} {F0 H0 F H F1 H1:Hp} {σ:St} {δ:En} {Dn:Ends}
abbrev EN:St→XK:=fun _ _ _ _=>False
def zhH:Sl→Sl
  | .o d=>.l d
  | .p _=>.no
  | s=>s
def zbf (δ:En) (ix:List Nat) (n:Nat):En:=ix.map (fun i=>zhH (δ[i]?.getD .no)) ++ List.replicate n .no
def zc8 (f:D→R (Option D)):List D→R (List D)
  | []=>.ok []
  | d :: l=>(f d).bind fun o=>(zc8 f l).bind fun r=>.ok (o.toList ++ r)
def zeF (b:D→En→Option En) (nc:Option (En→R Bool)) (me:En→R D) (δ:En) (d:D):R (Option D):=match b d δ with
  | none=>.no
  | some δ1=>(match nc with
    | none=>(me δ1).nev.bind fun x=>.ok (some x)
    | some c=>(c δ1).nev.bind fun k=>if k=true then (me δ1).nev.bind fun x=>.ok (some x) else .ok none)
def zeC (mi:En→R (List D)) (ix:List Nat) (n:Nat) (b:D→En→Option En) (nc:Option (En→R Bool)) (me:En→R D) (δ:En):R D :=
  (mi δ).bind fun ds=>ifC (ds.length ≤ sizeLine) ((zc8 (zeF b nc me (zbf δ ix n)) ds).nev.bind fun l=>.ok (.lst l)) .no
theorem zmE {ix:List Nat} {n:Nat} (I:EnvOk K Λ F0 H0 F H σ δ) (hix:ix.Nodup) :
    ∃ Λc,EnvOk K Λc F0 H0 F H (zcW σ ix n) (zbf δ ix n)∧(∀ i:Nat,Sl.own (zbf δ ix n)[i]?=true→∃ x ∈ Λc,x.1=i)∧∀ x ∈ Λc,∃ o,H x.2.1=some o:=by
  have gd:∀ j:Nat,j < ix.length→(zbf δ ix n)[j]?=some (zhH (δ[ix.getD j 0]?.getD .no)):=fun j hj=>by
    unfold zbf
    rw [List.getElem?_append_left (by simpa using hj),List.getElem?_map,List.getElem?_eq_getElem hj]
    simp [List.getD_eq_getElem?_getD,List.getElem?_eq_getElem hj]
  have gs:∀ j:Nat,j < ix.length→(zcW σ ix n)[j]?=some ((σ[ix.getD j 0]?).getD none):=fun j hj=>by
    unfold zcW
    rw [List.getElem?_append_left (by simpa using hj),List.getElem?_map,List.getElem?_eq_getElem hj]
    simp [List.getD_eq_getElem?_getD,List.getElem?_eq_getElem hj]
  have gn:∀ j:Nat,¬ j < ix.length→(zbf δ ix n)[j]?=some .no∨(zbf δ ix n)[j]?=none:=fun j hj=>by
    unfold zbf
    rw [List.getElem?_append_right (by simpa using hj),List.getElem?_replicate]
    split
    · exact .inl rfl
    · exact .inr rfl
  have own:∀ j:Nat,Sl.own (zbf δ ix n)[j]?=true→j < ix.length∧∃ d a o,δ[ix.getD j 0]?=some d∧Sl.own (some d)=true∧(zbf δ ix n)[j]?=some (zhH d)∧(∃ e,zhH d = .l e)∧σ[ix.getD j 0]?=some (some (.ref a))∧(zcW σ ix n)[j]?=some (some (.ref a))∧H a=some o∧H0 a=none∧F a=none:=fun j h=>by
    by_cases hj:j < ix.length
    · refine ⟨hj,?_⟩
      rw [gd j hj] at h
      have z:=I.slot (ix.getD j 0)
      cases q:δ[ix.getD j 0]? with
      | none=>rw [q] at h; cases h
      | some s =>
        rw [q] at h z
        cases s with
        | no=>cases h
        | v d=>cases h
        | o d =>
          obtain ⟨a,z1,z2,z3,z4⟩:=z
          obtain ⟨o,ho⟩:=z4.obj
          exact ⟨_,a,o,rfl,rfl,by rw [gd j hj,q]; rfl,⟨d,rfl⟩,z1,by rw [gs j hj,z1]; rfl,ho,z2,z3⟩
        | l d =>
          obtain ⟨a,z1,z2,z3,z4⟩:=z
          obtain ⟨o,ho⟩:=z4.obj
          exact ⟨_,a,o,rfl,rfl,by rw [gd j hj,q]; rfl,⟨d,rfl⟩,z1,by rw [gs j hj,z1]; rfl,ho,z2,z3⟩
        | p ll=>cases h
    · rcases gn j hj with z | z <;> (rw [z] at h; cases h)
  let Λc:List (Nat × Addr × HO):=(List.range ix.length).filterMap fun (j:Nat)=>match (zcW σ ix n)[j]? with
    | some (some (V.ref a))=>if Sl.own (zbf δ ix n)[j]?=true then (H a).map fun o=>(j,a,o) else none
    | _=>none
  have mem:∀ x ∈ Λc,(zcW σ ix n)[x.1]?=some (some (.ref x.2.1))∧Sl.own (zbf δ ix n)[x.1]?=true∧H x.2.1=some x.2.2:=fun x hx=>by
    obtain ⟨j,_,h⟩:=List.mem_filterMap.mp hx
    split at h
    · rename_i a q
      split at h
      · rename_i ow
        cases q2:H a with
        | none=>rw [q2] at h; cases h
        | some o=>rw [q2] at h; cases h; exact ⟨q,ow,q2⟩
      · cases h
    · cases h
  have noTab:∀ (j:Nat) (ll:List (List Int)),(zbf δ ix n)[j]? ≠ some (.p ll):=fun j ll h=>by
    by_cases hj:j < ix.length
    · rw [gd j hj] at h
      cases q:δ[ix.getD j 0]? with
      | none=>rw [q] at h; cases h
      | some s=>rw [q] at h; cases s <;> cases h
    · rcases gn j hj with z | z <;> (rw [z] at h; cases h)
  refine ⟨Λc,⟨I.ext,?_,fun j=>?_,fun i j a hij h1 h2 h3 h4=>?_,fun x hx=>?_,fun j ll a vs h=>absurd h (noTab j ll)⟩,fun j h=>?_,fun x hx=>⟨_,(mem x hx).2.2⟩⟩
  · unfold zcW zbf
    simp
  · by_cases hj:j < ix.length
    · rw [gd j hj,gs j hj]
      have z:=I.slot (ix.getD j 0)
      cases q:δ[ix.getD j 0]? with
      | none=>trivial
      | some s =>
        rw [q] at z
        cases s with
        | no=>trivial
        | v d=>obtain ⟨u,z1,z2⟩:=z; exact ⟨u,by rw [z1]; rfl,z2⟩
        | o d=>obtain ⟨a,z1,z2⟩:=z; exact ⟨a,by rw [z1]; rfl,z2⟩
        | l d=>obtain ⟨a,z1,z2⟩:=z; exact ⟨a,by rw [z1]; rfl,z2⟩
        | p ll=>trivial
    · rcases gn j hj with z | z <;> (rw [z]; trivial)
  · obtain ⟨i1,d1,a1,o1,i2,i3,i4,i5,i6,i7,i8⟩:=own i h1
    obtain ⟨j1,d2,a2,o2,j2,j3,j4,j5,j6,j7,j8⟩:=own j h2
    rw [i7] at h3; cases h3
    rw [j7] at h4; cases h4
    refine I.dist (ix.getD i 0) (ix.getD j 0) a (fun e=>hij ?_) (by rw [i2]; exact i3) (by rw [j2]; exact j3) i6 j6
    rw [List.getD_eq_getElem?_getD,List.getD_eq_getElem?_getD,List.getElem?_eq_getElem i1,List.getElem?_eq_getElem j1] at e
    exact ((List.getElem?_inj i1 hix).mp (by rw [List.getElem?_eq_getElem i1,List.getElem?_eq_getElem j1]; exact congrArg some e))
  · obtain ⟨m1,m2,m3⟩:=mem x hx
    obtain ⟨_,d,_,_,_,_,h4,⟨e,h5⟩,_⟩:=own x.1 m2
    exact ⟨⟨e,by rw [h4,h5]⟩,m1,m3⟩
  · obtain ⟨i1,d1,a1,o1,i2,i3,i4,i5,i6,i7,i8,_⟩:=own j h
    refine ⟨(j,a1,o1),List.mem_filterMap.mpr ⟨j,List.mem_range.mpr i1,?_⟩,rfl⟩
    rw [i7]
    show (if Sl.own (zbf δ ix n)[j]?=true then (H a1).map fun o=>(j,a1,o) else none)=_
    rw [if_pos h,i8]
    rfl
theorem EnvOk.side {p:Addr} {w:HO} (I:EnvOk K Λ F0 H0 F H σ δ) (ho:∀ i:Nat,Sl.own δ[i]?=true→∃ x ∈ Λ,x.1=i) (hp:∀ x ∈ Λ,x.2.1 ≠ p) (h0:H0 p=none) (h1:F p=none):EnvOk K Λ F0 H0 F (upd H p w) σ δ:=by
  have ne:∀ (i:Nat) (a:Addr),Sl.own δ[i]?=true→σ[i]?=some (some (.ref a))→a ≠ p:=fun i a h h'=>by
    obtain ⟨x,hx,e⟩:=ho i h
    have z:=(I.lent x hx).2.1
    rw [e,h'] at z
    cases z
    exact hp x hx
  have noTab:∀ (j:Nat) (ll:List (List Int)),δ[j]? ≠ some (.p ll):=fun j ll h=>by
    obtain ⟨x,hx,e⟩:=ho j (by rw [h]; rfl)
    obtain ⟨d,hd⟩:=(I.lent x hx).1
    rw [e,h] at hd; cases hd
  refine ⟨⟨I.ext.ff,fun b o q=>?_,fun b o q=>?_,I.ext.nw⟩,I.len,fun i=>?_,I.dist,fun x hx=>?_,fun j ll a vs h=>absurd h (noTab j ll)⟩
  · rw [zau (zay q h0)]; exact I.ext.hh b o q
  · rw [zau (zay q h1)]; exact I.ext.fh b o q
  · have z:=I.slot i
    cases q:δ[i]? with
    | none=>trivial
    | some s =>
      rw [q] at z
      cases s with
      | no=>trivial
      | v d=>exact z
      | o d=>obtain ⟨a,z1,z2,z3,z4⟩:=z; exact ⟨a,z1,z2,z3,z4.at (zau (ne i a (by rw [q]; rfl) z1))⟩
      | l d=>obtain ⟨a,z1,z2,z3,z4⟩:=z; exact ⟨a,z1,z2,z3,z4.at (zau (ne i a (by rw [q]; rfl) z1))⟩
      | p ll=>exact absurd q (noTab i ll)
  · obtain ⟨z1,z2,z3⟩:=I.lent x hx
    exact ⟨z1,z2,by rw [zau (hp x hx)]; exact z3⟩
theorem EnvOk.weakL {δ':En} (w:Weak δ δ') (hl:∀ x ∈ Λ,∃ d,δ[x.1]?=some (.l d)) (I:EnvOk K Λ F0 H0 F H σ δ'):EnvOk K Λ F0 H0 F H σ δ:=by
  refine ⟨I.ext,I.len.trans w.1.symm,fun i=>?_,fun i j a hij h1 h2 h3 h4=>?_,fun x hx=>⟨hl x hx,(I.lent x hx).2⟩,I.tabsOf (fun k ll h=>⟨(w.2 k).elim (fun z=>by rw [z] at h; cases h) fun z=>by rw [← z]; exact h,rfl⟩) (fun _ _ _ _ _=>rfl) fun k j ll r b bs _ _ _ _ ho hs=>.inl ⟨(w.2 j).elim (fun z=>by rw [z] at ho; cases ho) fun z=>by rw [← z]; exact ho,hs⟩⟩
  · rcases w.2 i with z | z
    · rw [z]; trivial
    · rw [z]; exact I.slot i
  · have ow:∀ k:Nat,Sl.own δ[k]?=true→Sl.own δ'[k]?=true:=fun k h=>by
      rcases w.2 k with z | z
      · rw [z] at h; cases h
      · rw [← z]; exact h
    exact I.dist i j a hij (ow i h1) (ow j h2) h3 h4
theorem zjQ {f:D→R (Option D)} {d:D} {l r:List D} (h:(zc8 f (d :: l)).nev = .ok r):∃ o r',f d = .ok o∧(zc8 f l).nev = .ok r'∧r=o.toList ++ r':=by
  unfold zc8 at h
  cases q:f d with
  | no=>rw [q] at h; cases h
  | ex x=>rw [q] at h; cases h
  | ok o =>
    rw [q] at h
    cases q2:zc8 f l with
    | no=>rw [R.bind_ok,q2] at h; cases h
    | ex x=>rw [R.bind_ok,q2] at h; cases h
    | ok r'=>rw [R.bind_ok,q2] at h; cases h; exact ⟨o,r',rfl,rfl,rfl⟩
theorem nev_ok {α:Type} {r:R α} {a:α} (h:r.nev = .ok a):r = .ok a:=by
  cases r with
  | no=>cases h
  | ok b=>cases h; rfl
  | ex x=>cases h
theorem zcc {wi:TI} {mi:En→R (List D)} {ix:List Nat} {n:Nat} {g:TG} {b:D→En→Option En} {tc:Option TT} {nc:Option (En→R Bool)}
    (hi:SIc K XO E wi mi) (hix:ix.Nodup) (hg:SG K g b) (hw:BW b) (hc:(tc=none∧nc=none)∨∃ c k,tc=some c∧nc=some k∧ST K XO EN c k) (he:SE K XO EN te me):SEo K XO E (zoI wi ix n g tc te) (zeC mi ix n b nc me):=by
  intro Λ F0 H0 F H σ δ Q I a
  refine hi Λ F0 H0 F H σ δ _ I (a.bind.imp fun ds F1 H1 e1 a1 J hJ p hp=>?_)
  unfold ifC at a1
  split at a1
  case isFalse=>exact a1.elim
  rename_i hsz
  have I1:=I.grow e1
  obtain ⟨Λc,Ic,hown,hall⟩:=zmE (n:=n) I1 hix
  cases qg:(zc8 (zeF b nc me (zbf δ ix n)) ds).nev with
  | no=>rw [qg] at a1; exact a1.elim
  | ex x=>cases q2:zc8 (zeF b nc me (zbf δ ix n)) ds <;> (rw [q2] at qg; cases qg)
  | ok l =>
  rw [qg] at a1
  have hlent:∀ x ∈ Λc,∃ d,(zbf δ ix n)[x.1]?=some (.l d):=fun x hx=>(Ic.lent x hx).1
  have hpn:∀ x ∈ Λc,x.2.1 ≠ p:=fun x hx e=>by
    obtain ⟨o,ho⟩:=hall x hx
    rw [e,hp] at ho; cases ho
  have p0:H0 p=none:=I1.ext.hh.free hp
  have f1:F1 p=none:=e1.fh.free hp
  refine ⟨fun i k ys σ2 H2=>∃ F2 l1 l2,EnvOk K Λc F0 H0 F2 H2 σ2 (zbf δ ix n)∧Ext F1 H1 F2 H2∧H2 p=some (.lst ys)∧F2 p=none∧RepL K F2 l1 ys∧(zc8 (zeF b nc me (zbf δ ix n)) (ds.drop i)).nev = .ok l2∧l=l1 ++ l2∧k=ds.length - i∧i ≤ ds.length∧ys.length ≤ i,
    ⟨_,F1,[],l,?_,.newO e1.fh hp,zax,f1,.nil,qg,rfl,rfl,Nat.zero_le _,Nat.le_refl _⟩,?_⟩
  · exact Ic.grow (.newO e1.fh hp)
  rintro i k ys σ2 H2 ⟨F2,l1,l2,I2,x2,hD,hF,r,qd,rfl,rfl,hil,hys⟩
  refine ⟨hD,?_⟩
  by_cases hlt:i < ds.length
  · have e:ds.drop i=ds[i] :: ds.drop (i + 1):=List.drop_eq_getElem_cons hlt
    rw [e] at qd
    obtain ⟨o,l3,q1,q3,rfl⟩:=zjQ qd
    obtain ⟨h1,h2⟩:=(hJ F2 H2 x2 i).1 ds[i] (by simp [hlt])
    refine .inr ⟨h1,fun ys' σ' H'=>∃ F' l1',EnvOk K Λc F0 H0 F' H' σ' (zbf δ ix n)∧Ext F1 H1 F' H'∧H' p=some (.lst ys')∧F' p=none∧RepL K F' l1' ys'∧l1 ++ (o.toList ++ l3)=l1' ++ l3∧ys'.length ≤ i + 1,
      fun ys' σ' H' ⟨F',l1',w1,w2,w3,w4,w5,w6,w7⟩=>⟨_,by omega,F',l1',l3,w1,w2,w3,w4,w5,q3,w6,rfl,hlt,w7⟩,fun x H' y=>?_⟩
    obtain ⟨F3,e3,rx⟩:=h2 x H' y
    have hp2:∀ {F5 H5:Hp},Ext F2 H2 F5 H5→H5 p=some (.lst ys)∧F5 p=none:=fun z=>⟨z.hh _ _ hD,z.nw p _ hF hD⟩
    unfold zeF at q1
    cases qb:b ds[i] (zbf δ ix n) with
    | none=>rw [qb] at q1; cases q1
    | some δ1 =>
      rw [qb] at q1
      have hwk:=hw _ _ _ qb
      refine hg Λc F0 H0 F3 H' σ2 _ _ x δ1 _ (I2.grow e3) rx qb fun σ3 I3=>?_
      have fin:∀ F4 H4,Ext F3 H' F4 H4→(me δ1).nev.bind (fun x=>R.ok (some x)) = .ok o→te σ3 H4 fun y H5=>H5 p=some (.lst ys)∧ys.length < sizeLine ∧
          ∃ F' l1',EnvOk K Λc F0 H0 F' (upd H5 p (.lst (ys ++ [y]))) σ3 (zbf δ ix n)∧Ext F1 H1 F' (upd H5 p (.lst (ys ++ [y])))∧upd H5 p (.lst (ys ++ [y])) p=some (.lst (ys ++ [y]))∧F' p=none∧RepL K F' l1' (ys ++ [y])∧l1 ++ (o.toList ++ l3)=l1' ++ l3∧(ys ++ [y]).length ≤ i + 1:=by
        intro F4 H4 e4 qe
        cases qm:me δ1 with
        | no=>rw [qm] at qe; cases qe
        | ex x=>rw [qm] at qe; cases qe
        | ok d =>
          rw [qm] at qe
          cases qe
          refine he Λc F0 H0 F4 H4 σ3 δ1 _ (I3.grow e4) ?_
          rw [qm]
          intro F5 H5 e5 v rv
          have z:=e3.trans (e4.trans e5)
          obtain ⟨z1,z2⟩:=hp2 z
          refine ⟨z1,by omega,F5,l1 ++ [d],(((I3.grow e4).grow e5).weakL hwk hlent).side hown hpn p0 z2,?_,zax,z2,(r.mono z.ff).append (.cons rv .nil),by simp,by simpa using hys⟩
          have w:=x2.trans z
          exact ⟨w.ff,fun c o q=>by rw [zau (zay q hp)]; exact w.hh c o q,fun c o q=>by rw [zau (zay q z2)]; exact w.fh c o q,w.nw⟩
      rcases hc with ⟨rfl,rfl⟩ | ⟨c,kc,rfl,rfl,hcc⟩
      · have z:=fin F3 H' (.refl e3.fh) q1
        unfold zor
        simp only [if_true]
        exact z
      · simp only at q1
        refine hcc Λc F0 H0 F3 H' σ3 δ1 _ I3 ?_
        cases qk:kc δ1 with
        | no=>rw [qk] at q1; cases q1
        | ex x=>rw [qk] at q1; cases q1
        | ok bb =>
          rw [qk] at q1
          intro F4 H4 e4
          cases bb with
          | true=>rw [if_pos rfl]; exact fin F4 H4 e4 q1
          | false =>
            rw [if_neg Bool.false_ne_true]
            have eo:o=none:=by
              rw [R.nev_ok,R.bind_ok,if_neg Bool.false_ne_true] at q1
              cases q1; rfl
            subst eo
            have z:=e3.trans e4
            obtain ⟨z1,z2⟩:=hp2 z
            exact ⟨F4,l1,(I3.grow e4).weakL hwk hlent,x2.trans z,z1,z2,r.mono z.ff,rfl,by omega⟩
  · have e:i=ds.length:=by omega
    subst e
    rw [List.drop_length] at qd
    cases qd
    refine .inl ⟨(hJ F2 H2 x2 _).2 (by simp),a1 F2 H2 x2 p hF (e1.hh.free hp) ⟨ys,hD,?_⟩⟩
    rw [List.append_nil]
    exact r
def zcH (n:Nat) (ds:List D):En:=ds.map .v ++ List.replicate n .no
def runF (np nv:Nat) (m:En→O) (ds:List D):R D:=if ds.length=np then (match m (zcH nv ds) with | .rt d=>.ok d | .nx _=>.ok .non | .ex _ x=>.ex x | _=>.no) else .no
theorem zjX {np nv:Nat} {N:List Str} {ds:List D} {vs:List V} (s:Same F H) (r:RepL K F ds vs) (hn:N.length=np + nv) (hl:ds.length=np):EnvOk K [] F H F H (L2.start N vs) (zcH nv ds):=by
  have hv:=r.length
  unfold L2.start zcH
  have en:N.length - vs.length=nv:=by omega
  rw [en]
  refine ⟨.refl s,by simp [hv],fun i=>?_,fun i j a _ h1 _ _ _=>?_,fun x hx=>(by cases hx),fun i ll a vs h1=>(by
    by_cases hi:i < ds.length
    · rw [List.getElem?_append_left (by simpa using hi),List.getElem?_map,List.getElem?_eq_getElem hi] at h1
      cases h1
    · rw [List.getElem?_append_right (by simpa using hi),List.getElem?_replicate] at h1
      split at h1 <;> cases h1)⟩
  · by_cases hi:i < ds.length
    · rw [List.getElem?_append_left (by simpa using hi),List.getElem?_append_left (by simp; omega),List.getElem?_map,List.getElem?_map,List.getElem?_eq_getElem hi]
      obtain ⟨v,h1,h2⟩:=r.get (List.getElem?_eq_getElem hi)
      rw [h1]
      exact ⟨v,rfl,h2⟩
    · rw [List.getElem?_append_right (by simpa using hi),List.getElem?_replicate]
      split <;> trivial
  · by_cases hi:i < ds.length
    · rw [List.getElem?_append_left (by simpa using hi),List.getElem?_map,List.getElem?_eq_getElem hi] at h1
      cases h1
    · rw [List.getElem?_append_right (by simpa using hi),List.getElem?_replicate] at h1
      split at h1 <;> cases h1
theorem zb8 {np nv:Nat} {N:List Str} {vs:List V} {Q:VK} {E:XK} (h:SS K XO (fun _=>E) t m) (hn:N.length=np + nv) (sp:spM K XO (runF np nv m) vs H Q E):t { nx:=fun _ H'=>Q .non H',rt:=Q } (L2.start N vs) H:=by
  obtain ⟨F,ds,s,r,a⟩:=sp
  unfold runF at a
  split at a
  · rename_i hl
    refine h [] F H F H _ _ _ (zjX s r hn hl) ?_
    cases q:m (zcH nv ds) with
    | no=>rw [q] at a; exact a
    | nx δ=>rw [q] at a; exact fun σ F' H' I=>a F' H' I.ext _ (by simp only [Rep])
    | rt d=>rw [q] at a; exact fun v F' H' e r=>a F' H' e v r
    | ro d=>rw [q] at a; exact a.elim
    | bk δ=>rw [q] at a; exact a.elim
    | ct δ=>rw [q] at a; exact a.elim
    | ex δ x=>rw [q] at a; exact fun σ F' H' C dct I w=>a C dct F' H' I.ext w
  · exact a.elim
def runO (np nv:Nat) (m:En→O) (ds:List D):R D:=if ds.length=np then (match m (zcH nv ds) with | .ro d=>.ok d | .ex _ x=>.ex x | _=>.no) else .no
def spO (K:Kx) (XO:XOT) (f:List D→R D):Sp:=fun vs H Q E=>∃ F ds,Same F H∧RepL K F ds vs∧Aft (fun _=>E) XO [] F H (fun d F' H'=>∀ p,F' p=none→H p=none→Own K F' H' d p→Q (.ref p) H') (f ds)
theorem zfW {np nv:Nat} {N:List Str} {vs:List V} {Q:VK} {E:XK} (h:SS K XO (fun _=>E) t m) (hn:N.length=np + nv) (sp:spO K XO (runO np nv m) vs H Q E):t { nx:=fun _ H'=>Q .non H',rt:=Q } (L2.start N vs) H:=by
  obtain ⟨F,ds,s,r,a⟩:=sp
  unfold runO at a
  split at a
  · rename_i hl
    refine h [] F H F H _ _ _ (zjX s r hn hl) ?_
    cases q:m (zcH nv ds) with
    | no=>rw [q] at a; exact a
    | nx δ=>rw [q] at a; exact a.elim
    | rt d=>rw [q] at a; exact a.elim
    | ro d=>rw [q] at a; exact fun p F' H' e h0 h1 o=>a F' H' e p h0 h1 o
    | bk δ=>rw [q] at a; exact a.elim
    | ct δ=>rw [q] at a; exact a.elim
    | ex δ x=>rw [q] at a; exact fun σ F' H' C dct I w=>a C dct F' H' I.ext w
  · exact a.elim
theorem zem {np nv:Nat} {vs:List V} {Q:VK} {E:XK} (sp:spO K XO (runO np nv m) vs H Q E):vs.length=np:=by
  obtain ⟨F,ds,s,r,a⟩:=sp
  unfold runO at a
  split at a
  · rename_i hl; rw [r.length]; exact hl
  · exact a.elim
theorem za0 {np nv:Nat} {vs:List V} {Q:VK} {E:XK} (sp:spM K XO (runF np nv m) vs H Q E):vs.length=np:=by
  obtain ⟨F,ds,s,r,a⟩:=sp
  unfold runF at a
  split at a
  · rename_i hl; rw [r.length]; exact hl
  · exact a.elim
theorem zpP {f:List D→R D} {ns:List Int} {a:Addr} {Q:VK} {E:XK} (hf:f [.scr ns] = .ok (.bl true)) (h:SqL K.f H a (ns.map V.int)) (q:∀ H',Q (.bl true) H'):spM K XO f [.ref a] H Q E:=by
  refine ⟨fun b=>if b=a then H b else none,[.scr ns],fun b o e=>?_,.cons ?_ .nil,?_⟩
  · dsimp only at e
    split at e
    · exact e
    · cases e
  · simp only [Rep]
    refine ⟨a,rfl,?_⟩
    rcases h with (h | ⟨o,h⟩) | h
    · exact .inl (.inl (by dsimp only; rw [if_pos rfl]; exact h))
    · exact .inl (.inr ⟨o,by dsimp only; rw [if_pos rfl]; exact h⟩)
    · exact .inr h
  · rw [hf]
    intro F' H' _ v r
    simp only [Rep] at r
    subst r
    exact q H'
theorem zbL {f:List D→R D} {tl:TA} {ml:En→R (List D)} {E':XK} (h:SA K XO E tl ml):SEo K XO E (zlq (spO K XO f) [] E' tl) (zak f ml):=by
  intro Λ F0 H0 F H σ δ Q I a
  refine h Λ F0 H0 F H σ δ _ I (a.bind.imp fun ds F1 H1 e1 a1 vs r=>⟨F1,ds,e1.fh,by rw [List.append_nil]; exact r,?_⟩)
  exact Aft.imp (fun d F2 H2 e2 p q h0 h1 o=>p q h0 (e1.hh.free h1) o) (Aft.any a1)
mutual
def zfZ:D→Bool
  | .tup l=>zkh l
  | .lst _=>false
  | .dct _ _=>false
  | .scr _=>false
  | .exc _=>false
  | .fd _ _=>false
  | .obj _ _ _=>false
  | _=>true
def zkh:List D→Bool
  | []=>true
  | d :: l=>zfZ d && zkh l
end
variable (K) in
def Bor (F H:Hp) (d:D) (v:V):Prop:=Rep K F d v∨∃ a,v = .ref a∧Own K F H d a
variable (K XO E) in
def SAb (t:TA) (m:En→R (List D)):Prop:=∀ Λ F0 H0 F H σ δ Q,EnvOk K Λ F0 H0 F H σ δ→Aft E XO σ F H (fun ds F' H'=>∀ vs,Prd (Bor K F' H') ds vs→Q vs H') (m δ)→t σ H Q
theorem Bor.mono {F H F' H':Hp} (e:Ext F H F' H') {d:D} {v:V}:Bor K F H d v→Bor K F' H' d v
  | .inl h=>.inl (Rep.mono e.ff _ h)
  | .inr ⟨a,h1,h2⟩=>.inr ⟨a,h1,h2.mono e.ff e.hh⟩
theorem zlI:SAb K XO E tNil mNil:=fun Λ F0 H0 F H σ δ Q I a=>a F H (.refl I.same) _ .nil
theorem zn0 {tr:TA} {mr:En→R (List D)} (ha:SE K XO E ta ma) (hr:SAb K XO E tr mr):SAb K XO E (zdl ta tr) (zaa ma mr):=by
  intro Λ F0 H0 F H σ δ Q I a
  refine ha Λ F0 H0 F H σ δ _ I (a.bind.imp fun dx F1 H1 e1 a1 x rx=>?_)
  refine hr Λ F0 H0 F1 H1 σ δ _ (I.grow e1) (a1.bind.imp fun dy F2 H2 e2 a2 y ry=>?_)
  exact a2 F2 H2 (.refl e2.fh) _ (.cons (.inl (Rep.mono e2.ff _ rx)) ry)
theorem znd {i:Nat} {tr:TA} {mr:En→R (List D)} (hr:SAb K XO E tr mr):SAb K XO E (zdl (tVar i) tr) (zaa (mRd i) mr):=by
  intro Λ F0 H0 F H σ δ Q I a
  have key:∀ d v,mRd i δ = .ok d→σ[i]?=some (some v)→Bor K F H d v→zdl (tVar i) tr σ H Q:=fun d v hm hs b=>by
    unfold zaa at a
    rw [hm] at a
    refine ⟨v,hs,hr Λ F0 H0 F H σ δ _ I (Aft.imp (fun dy F2 H2 e2 a2 y ry=>?_) (Aft.bind a))⟩
    exact a2 F2 H2 (.refl e2.fh) _ (.cons (b.mono e2) ry)
  have z:=I.slot i
  unfold zaa at a
  cases q:δ[i]? with
  | none =>
    have e:mRd i δ = .no:=by unfold mRd; rw [q]
    rw [e] at a; exact a.elim
  | some s =>
    rw [q] at z
    cases s with
    | no =>
      have e:mRd i δ = .no:=by unfold mRd; rw [q]
      rw [e] at a; exact a.elim
    | v d=>obtain ⟨u,z1,z2⟩:=z; exact key d u (by unfold mRd; rw [q]) z1 (.inl z2)
    | o d=>obtain ⟨u,z1,_,_,z2⟩:=z; exact key d _ (by unfold mRd; rw [q]) z1 (.inr ⟨u,rfl,z2⟩)
    | l d=>obtain ⟨u,z1,_,_,z2⟩:=z; exact key d _ (by unfold mRd; rw [q]) z1 (.inr ⟨u,rfl,z2⟩)
    | p ll =>
      have e:mRd i δ = .no:=by unfold mRd; rw [q]
      rw [e] at a; exact a.elim
def zd1 (F H:Hp):Hp:=fun b=>match F b with
  | some o=>some o
  | none=>match H b with
    | some (.lst vs)=>some (.lst vs)
    | some (.dK kvs)=>some (.dK kvs)
    | some (.frz o u)=>some (.frz o u)
    | some (.ins C dx fs)=>some (.ins C dx fs)
    | _=>none
theorem zeQ {F H:Hp}:Same F (zd1 F H):=fun b o h=>by unfold zd1; rw [h]
theorem zmv {F H:Hp} (s:Same F H):Same (zd1 F H) H:=fun b o h=>by
  unfold zd1 at h
  cases q:F b with
  | some u=>rw [q] at h; cases h; exact s _ _ q
  | none =>
    simp only [q] at h
    cases q2:H b with
    | none=>rw [q2] at h; cases h
    | some u=>cases u <;> simp only [q2] at h <;> cases h <;> rfl
theorem zlu {F H:Hp} (s:Same F H):∀ {d:D} {v:V},Bor K F H d v→Rep K (zd1 F H) d v:=by
  intro d v h
  rcases h with h | ⟨a,rfl,h⟩
  · exact Rep.mono zeQ _ h
  · cases d with
    | lst l =>
      obtain ⟨vs,h1,h2⟩:=h
      simp only [Rep]
      refine ⟨a,vs,rfl,.inl ?_,h2.mono zeQ⟩
      unfold zd1
      cases q:F a with
      | some u=>rw [s _ _ q] at h1; exact h1
      | none=>simp only [h1]
    | dct ks l =>
      obtain ⟨vs,h1,h0,h2⟩:=h
      simp only [Rep]
      refine ⟨a,vs,rfl,?_,h0,h2.mono zeQ⟩
      unfold zd1
      cases q:F a with
      | some u=>rw [s _ _ q] at h1; exact h1
      | none=>simp only [h1]
    | obj c ks l =>
      obtain ⟨dx,vs,h1,h0,h2⟩:=h
      simp only [Rep]
      refine ⟨a,dx,vs,rfl,?_,h0,h2.mono zeQ⟩
      unfold zd1
      cases q:F a with
      | some u=>rw [s _ _ q] at h1; exact h1
      | none=>simp only [h1]
    | _=>exact h.elim
theorem zkq {F H:Hp} (s:Same F H):∀ {ds:List D} {vs:List V},Prd (Bor K F H) ds vs→RepL K (zd1 F H) ds vs
  | _,_,.nil=>.nil
  | _,_,.cons h t=>.cons (zlu s h) (zkq s t)
open Classical in
def minH (F H F':Hp):Hp:=fun b=>if F b=none∧H b ≠ none then none else F' b
theorem zpU {F H F' H':Hp} (e:Ext (zd1 F H) H F' H') {a:Addr} {o:HO} (h:F' a=some o) (h1:∀ vs,o ≠ .lst vs) (h2:∀ kvs,o ≠ .dK kvs) (h3:∀ q u,o ≠ .frz q u) (h4:∀ C dx fs,o ≠ .ins C dx fs):minH F H F' a=some o:=by
  unfold minH
  split
  · rename_i hc
    exfalso
    cases qh:H a with
    | none=>exact hc.2 qh
    | some u =>
      have np:zd1 F H a=match H a with | some (.lst vs)=>some (.lst vs) | some (.dK kvs)=>some (.dK kvs) | some (.frz o u)=>some (.frz o u) | some (.ins C dx fs)=>some (.ins C dx fs) | _=>none:=by
        unfold zd1; rw [hc.1]
      cases u with
      | lst vs=>rw [qh] at np; have z:=e.ff a _ np; rw [h] at z; cases z; exact h1 vs rfl
      | dK vs=>rw [qh] at np; have z:=e.ff a _ np; rw [h] at z; cases z; exact h2 vs rfl
      | frz q w=>rw [qh] at np; have z:=e.ff a _ np; rw [h] at z; cases z; exact h3 q w rfl
      | ins C dx fs=>rw [qh] at np; have z:=e.ff a _ np; rw [h] at z; cases z; exact h4 C dx fs rfl
      | _=>rw [qh] at np; have z:=e.nw a _ np qh; rw [h] at z; cases z
  · exact h
mutual
theorem zmq {F H F' H':Hp} (e:Ext (zd1 F H) H F' H'):∀ (d:D) {v:V},zfZ d=true→Rep K F' d v→Rep K (minH F H F') d v
  | .non,v,_,h=>by simp only [Rep] at h ⊢; exact h
  | .bl _,v,_,h=>by simp only [Rep] at h ⊢; exact h
  | .int _,v,_,h=>by simp only [Rep] at h ⊢; exact h
  | .str _,v,_,h=>by simp only [Rep] at h ⊢; exact h
  | .lst _,v,c,h=>by simp only [zfZ] at c; cases c
  | .dct _ _,v,c,h=>by simp only [zfZ] at c; cases c
  | .scr _,v,c,h=>by simp only [zfZ] at c; cases c
  | .exc _,v,c,h=>by simp only [zfZ] at c; cases c
  | .fd _ _,v,c,h=>by simp only [zfZ] at c; cases c
  | .obj _ _ _,v,c,h=>by simp only [zfZ] at c; cases c
  | .tup l,v,c,h=>by
    simp only [zfZ] at c
    simp only [Rep] at h ⊢
    obtain ⟨a,vs,h1,h2,h3⟩:=h
    exact ⟨a,vs,h1,zpU e h2 (fun _ z=>by cases z) (fun _ z=>by cases z) (fun _ _ z=>by cases z) (fun _ _ _ z=>by cases z),zkA e l c h3⟩
theorem zkA {F H F' H':Hp} (e:Ext (zd1 F H) H F' H'):∀ (l:List D) {vs:List V},zkh l=true→RepL K F' l vs→RepL K (minH F H F') l vs
  | [],vs,_,h=>by simp only [RepL] at h ⊢; exact h
  | d :: l,vs,c,h=>by
    simp only [zkh,Bool.and_eq_true] at c
    simp only [RepL] at h ⊢
    obtain ⟨v,r,h1,h2,h3⟩:=h
    exact ⟨v,r,h1,zmq e d c.1 h2,zkA e l c.2 h3⟩
end
theorem zpJ {F H F' H':Hp} (e:Ext (zd1 F H) H F' H'):Ext F H (minH F H F') H':=by
  refine ⟨fun b o h=>?_,e.hh,fun b o h=>?_,fun p o h1 h2=>?_⟩
  · unfold minH
    rw [if_neg (fun hc=>by rw [h] at hc; cases hc.1)]
    exact e.ff b o (zeQ b o h)
  · unfold minH at h
    split at h
    · cases h
    · exact e.fh b o h
  · unfold minH
    rw [if_pos ⟨h1,by rw [h2]; intro z; cases z⟩]
def zgE (f:List D→R D) (ml:En→R (List D)) (δ:En):R D:=(ml δ).bind fun l=>(f l).nev.bind fun d=>if zfZ d=true then .ok d else .no
theorem zj0 {f:List D→R D} {tl:TA} {ml:En→R (List D)} {E':XK} (h:SAb K XO E tl ml):SE K XO E (zlq (spM K XO f) [] E' tl) (zgE f ml):=by
  intro Λ F0 H0 F H σ δ Q I a
  refine h Λ F0 H0 F H σ δ _ I (a.bind.imp fun ds F1 H1 e1 a1 vs r=>⟨zd1 F1 H1,ds,zmv e1.fh,by rw [List.append_nil]; exact zkq e1.fh r,?_⟩)
  cases q:f ds with
  | no=>rw [q] at a1; exact a1.elim
  | ex x=>rw [q] at a1; exact a1.elim
  | ok d =>
    rw [q] at a1
    intro F2 H2 e2 v rv
    simp only [R.nev_ok,R.bind_ok] at a1
    split at a1
    · rename_i hc
      exact a1 _ H2 (zpJ e2) v (zmq e2 d hc rv)
    · exact a1.elim
variable (K) in
def SC (r:List V→Hp→VK→Prop) (f:List D→Option D):Prop:=∀ F H vs ds d Q,Same F H→Prd (Top K F H) ds vs→f ds=some d→(∀ v F' H',Ext F H F' H'→Rep K F' d v→Q v H')→r vs H Q
variable (K) in
def SCo (r:List V→Hp→VK→Prop) (f:List D→Option D):Prop:=∀ F H vs ds d Q,Same F H→Prd (Top K F H) ds vs→f ds=some d→(∀ p F' H',Ext F H F' H'→F' p=none→H p=none→Own K F' H' d p→Q (.ref p) H')→r vs H Q
def mCB (f:List D→Option D) (ml:En→R (List D)) (δ:En):R D:=(ml δ).bind fun l=>R.of (f l)
theorem zbr {r:List V→Hp→VK→Prop} {f:List D→Option D} {tl:TA} {ml:En→R (List D)} (hr:SC K r f) (h:SAr K XO E tl ml):SE K XO E (tCB r tl) (mCB f ml):=by
  intro Λ F0 H0 F H σ δ Q I a
  refine h Λ F0 H0 F H σ δ _ I (a.bind.imp fun ds F1 H1 e1 a1 vs rv=>?_)
  cases q:f ds with
  | none=>rw [q] at a1; exact a1.elim
  | some d=>rw [q] at a1; exact hr F1 H1 vs ds d Q e1.fh rv q fun v F' H' e r=>a1 F' H' e v r
theorem zjc {r:List V→Hp→VK→Prop} {f:List D→Option D} {tl:TA} {ml:En→R (List D)} (hr:SCo K r f) (h:SAr K XO E tl ml):SEo K XO E (tCB r tl) (mCB f ml):=by
  intro Λ F0 H0 F H σ δ Q I a
  refine h Λ F0 H0 F H σ δ _ I (a.bind.imp fun ds F1 H1 e1 a1 vs rv=>?_)
  cases q:f ds with
  | none=>rw [q] at a1; exact a1.elim
  | some d=>rw [q] at a1; exact hr F1 H1 vs ds d Q e1.fh rv q fun p F' H' e h0 h1 o=>a1 F' H' e p h0 (e1.hh.free h1) o
def fLen:List D→Option D
  | [.lst l]=>some (.int l.length)
  | [.scr l]=>some (.int l.length)
  | [.tup l]=>some (.int l.length)
  | _=>none
theorem zbH:SC K (fun xs H Q=>∃ p ys,xs = [.ref p]∧(SqL K.f H p ys∨SqT K.f H p ys)∧Q (.int ys.length) H) fLen:=by
  intro F H vs ds d Q s r e q
  unfold fLen at e
  split at e
  · cases e
    cases r with
    | cons r r' =>
      cases r'
      obtain ⟨a,xs,rfl,h1,h2⟩:=r
      exact ⟨a,xs,rfl,.inl (.inl h1),q _ F H (.refl s) (by simp only [Rep]; rw [h2.length])⟩
  · cases e
    cases r with
    | cons r r' =>
      cases r'
      simp only [Top,Rep] at r
      obtain ⟨a,rfl,h1⟩:=r
      exact ⟨a,_,rfl,.inl (s.seq h1),q _ F H (.refl s) (by simp only [Rep]; rw [List.length_map])⟩
  · cases e
    cases r with
    | cons r r' =>
      cases r'
      simp only [Top,Rep] at r
      obtain ⟨a,xs,rfl,h1,h2⟩:=r
      exact ⟨a,xs,rfl,.inr (.inl (.inl (s _ _ h1))),q _ F H (.refl s) (by simp only [Rep]; rw [h2.length])⟩
  · cases e
def zgZ:List D→Option D
  | [.dct ks _]=>some (.int ks.length)
  | _=>none
theorem zlm:SC K (fun xs H Q=>∃ a kvs,xs = [V.ref a]∧H a=some (.dK kvs)∧Q (.int kvs.length) H) zgZ:=by
  intro F H vs ds d Q s r e q
  unfold zgZ at e
  split at e
  · cases e
    cases r with
    | cons r r' =>
      cases r'
      obtain ⟨a,xs,rfl,h1,h2,h3⟩:=r
      exact ⟨a,xs,rfl,h1,q _ F H (.refl s) (by simp only [Rep]; rw [zqX h2])⟩
  · cases e
def fAbs:List D→Option D
  | [.int i]=>some (.int (if i < 0 then -i else i))
  | _=>none
theorem zol:SC K (fun xs H Q=>∃ i,xs = [.int i]∧Q (.int (if i < 0 then -i else i)) H) fAbs:=by
  intro F H vs ds d Q s r e q
  unfold fAbs at e
  split at e
  · rename_i i
    cases e
    cases r with
    | cons r r' =>
      cases r'
      simp only [Top,Rep] at r
      subst r
      exact ⟨i,rfl,q _ F H (.refl s) (by simp only [Rep])⟩
  · cases e
def zeP:List D→Option D
  | [.lst l]=>some (.lst l)
  | [.tup l]=>some (.lst l)
  | _=>none
theorem zhX:SCo K (fun xs H Q=>∃ p ys,xs = [.ref p]∧(SqL K.f H p ys∨SqT K.f H p ys)∧∀ l,H l=none→Q (.ref l) (upd H l (.lst ys))) zeP:=by
  intro F H vs ds d Q s r e q
  unfold zeP at e
  split at e
  · cases e
    cases r with
    | cons r r' =>
      cases r'
      obtain ⟨a,xs,rfl,h1,h2⟩:=r
      exact ⟨a,xs,rfl,.inl (.inl h1),fun p hp=>q _ F _ (.newO s hp) (s.free hp) hp ⟨xs,zax,h2⟩⟩
  · cases e
    cases r with
    | cons r r' =>
      cases r'
      simp only [Top,Rep] at r
      obtain ⟨a,xs,rfl,h1,h2⟩:=r
      exact ⟨a,xs,rfl,.inr (.inl (.inl (s _ _ h1))),fun p hp=>q _ F _ (.newO s hp) (s.free hp) hp ⟨xs,zax,h2⟩⟩
  · cases e
def asI:D→Option Int
  | .int i=>some i
  | _=>none
def mNoP (_:En):R (Option Int):=.ok none
def zbN (me:En→R D) (δ:En):R (Option Int):=(me δ).bind fun d=>(R.of (asI d)).bind fun i=>.ok (some i)
variable (K XO E) in
def SO (t:TO) (m:En→R (Option Int)):Prop:=∀ Λ F0 H0 F H σ δ Q,EnvOk K Λ F0 H0 F H σ δ→Aft E XO σ F H (fun o _ H'=>Q o H') (m δ)→t σ H Q
theorem zhC:SO K XO E zmr mNoP:=fun Λ F0 H0 F H σ δ Q I a=>a F H (.refl I.same)
theorem zcR (h:SE K XO E te me):SO K XO E (zqM te) (zbN me):=by
  intro Λ F0 H0 F H σ δ Q I a
  refine h Λ F0 H0 F H σ δ _ I (a.bind.imp fun d F1 H1 e1 a1 v r=>?_)
  cases d with
  | int i=>simp only [Rep] at r; exact ⟨i,r,a1 F1 H1 (.refl e1.fh)⟩
  | _=>exact a1.elim
def cutD (xs:List D) (lo hi:Option Int):List D:=(xs.drop (HT.sIx xs.length 0 lo)).take (HT.sIx xs.length xs.length hi - HT.sIx xs.length 0 lo)
def mSl (me:En→R D) (ml mh:En→R (Option Int)) (δ:En):R D:=(me δ).bind fun d=>(ml δ).bind fun lo=>(mh δ).bind fun hi=>(R.of (asL d)).bind fun l=>.ok (.lst (cutD l lo hi))
theorem zbX {tl th:TO} {ml mh:En→R (Option Int)} (h:SEr K XO E te me) (hl:SO K XO E tl ml) (hh:SO K XO E th mh):SEo K XO E (tSl (rSlL K.f) te tl th) (mSl me ml mh):=by
  intro Λ F0 H0 F H σ δ Q I a
  refine h Λ F0 H0 F H σ δ _ I (a.bind.imp fun d F1 H1 e1 a1 v r=>?_)
  refine hl Λ F0 H0 F1 H1 σ δ _ (I.grow e1) (a1.bind.imp fun lo F2 H2 e2 a2=>?_)
  refine hh Λ F0 H0 F2 H2 σ δ _ ((I.grow e1).grow e2) (a2.bind.imp fun hi F3 H3 e3 a3=>?_)
  cases d with
  | lst l =>
    obtain ⟨p,vs,rfl,h1,h2⟩:=r
    refine ⟨p,vs,rfl,.inl (PM.Same.rd e3.hh (PM.Same.rd e2.hh h1)),fun q hq=>a3 F3 _ (.newO e3.fh hq) q (e3.fh.free hq) (e1.hh.free (e2.hh.free (e3.hh.free hq))) ⟨_,zax,?_⟩⟩
    unfold cutD cutV
    rw [← h2.length]
    exact (((h2.mono e2.ff).mono e3.ff).drop _).take _
  | scr l =>
    simp only [Top,Rep] at r
    obtain ⟨p,rfl,h1⟩:=r
    refine ⟨p,_,rfl,e3.hh.seq (e2.hh.seq (e1.fh.seq h1)),fun q hq=>a3 F3 _ (.newO e3.fh hq) q (e3.fh.free hq) (e1.hh.free (e2.hh.free (e3.hh.free hq))) ⟨_,zax,?_⟩⟩
    unfold cutD cutV
    rw [List.length_map,List.length_map]
    exact (RepL.ints.drop _).take _
  | _=>exact a3.elim
end
end PM
namespace PM
open PySem L2
def oCat (x y:D):Option D:=match x,y with | .lst l,.lst r=>ifC (l.length + r.length ≤ sizeLine) (some (.lst (l ++ r))) none | _,_=>none
def zbi:Nat→D→Bool
  | _,.non=>true
  | _,.int _=>true
  | n + 1,.tup l=>l.all (zbi n)
  | n + 1,.lst l=>l.all (zbi n)
  | _,_=>false
open Classical in
def oEqD (x y:D):Option D:=ifC (zbi 8 x=true∧zbi 8 y=true) (some (.bl (decide (x=y)))) none
open Classical in
def oNeD (x y:D):Option D:=ifC (zbi 8 x=true∧zbi 8 y=true) (some (.bl (!decide (x=y)))) none
def isiB:String→D→Bool
  | "int",.int _=>true
  | "int",.bl _=>true
  | "bool",.bl _=>true
  | "list",.lst _=>true
  | "tuple",.tup _=>true
  | "str",.str _=>true
  | _,_=>false
def okI:D→Bool
  | .scr _=>false
  | .exc _=>false
  | .fd _ _=>false
  | .obj _ _ _=>false
  | _=>true
def oIsi (c:String) (d:D):Option D:=match d with | .scr _=>none | .exc _=>none | .fd _ _=>none | .obj _ _ _=>none | d=>some (.bl (isiB c d))
def asIs:List D→Option (List Int)
  | []=>some []
  | .int i :: l=>(asIs l).map (i :: ·)
  | _=>none
theorem zb1 (ns:List Int):asIs (ns.map .int)=some ns:=by
  induction ns with
  | nil=>rfl
  | cons a l ih=>simp [asIs,ih]
theorem zcx {l:List D} {ns:List Int} (h:asIs l=some ns):l=ns.map .int:=by
  induction l generalizing ns with
  | nil=>cases h; rfl
  | cons d l ih =>
    cases d with
    | int i =>
      simp only [asIs] at h
      cases q:asIs l with
      | none=>rw [q] at h; cases h
      | some m=>rw [q] at h; cases h; rw [ih q]; rfl
    | _=>cases h
def fSum:List D→Option D
  | [.lst l]=>(asIs l).map fun ns=>.int ns.sum
  | _=>none
def maxI:List Int→Int→Int
  | [],m=>m
  | a :: l,m=>maxI l (if a > m then a else m)
def zh7 (l:List D) (d:D):Option D:=match l with
  | [.lst []]=>some d
  | [.lst (.int a :: l)]=>(asIs l).map fun ns=>.int (maxI ns a)
  | _=>none
def zk4 (ml:En→R (List D)) (md:En→R D) (δ:En):R D:=(ml δ).bind fun l=>(md δ).bind fun d=>R.of (zh7 l d)
theorem zlD {c:En→R Bool} {m:En→O} {δ:En} {n:Nat} {o:O} (h:zeB c m n δ=o) (ho:o ≠ .no):zhf c m δ=o:=by
  have mono:∀ k n δ,zeB c m n δ ≠ .no→zeB c m (n + k) δ=zeB c m n δ:=by
    intro k n
    induction n with
    | zero=>intro δ h; exact absurd rfl h
    | succ n ih =>
      intro δ h
      have e:n + 1 + k=(n + k) + 1:=by omega
      rw [e]
      unfold zeB at h ⊢
      cases q:c δ with
      | no=>rfl
      | ex x=>rfl
      | ok b =>
        rw [q] at h
        cases b with
        | false=>rfl
        | true =>
          simp only [R.toO_ok,if_true] at h ⊢
          cases q2:m δ <;> simp only [q2] at h ⊢ <;> exact ih _ h
  have hex:∃ n,zeB c m n δ ≠ .no:=⟨n,by rw [h]; exact ho⟩
  unfold zhf
  rw [dif_pos hex]
  have h1:=mono n (Classical.choose hex) δ (Classical.choose_spec hex)
  have h2:=mono (Classical.choose hex) n δ (by rw [h]; exact ho)
  rw [← h1,Nat.add_comm,h2,h]
theorem zmD {c:En→R Bool} {m:En→O} {α:Type} (env:α→En) (go:α→Bool) (nxt:α→α) (P:α→Prop) (μ:α→Nat) (hc:∀ a,P a→c (env a) = .ok (go a)) (hs:∀ a,P a→go a=true→m (env a) = .nx (env (nxt a))∧P (nxt a)∧μ (nxt a) < μ a)
    (a:α) (h:P a):∃ b,P b∧go b=false∧zhf c m (env a) = .nx (env b)∧∃ k,b=Nat.repeat nxt k a:=by
  have key:∀ n a,P a→μ a < n→∃ b,P b∧go b=false∧zeB c m n (env a) = .nx (env b)∧∃ k,b=Nat.repeat nxt k a:=by
    intro n
    induction n with
    | zero=>intro a _ h; omega
    | succ n ih =>
      intro a hp hm
      cases g:go a with
      | false=>exact ⟨a,hp,g,by unfold zeB; rw [hc a hp,g]; rfl,0,rfl⟩
      | true =>
        obtain ⟨h1,h2,h3⟩:=hs a hp g
        obtain ⟨b,b1,b2,b3,k,b4⟩:=ih (nxt a) h2 (by omega)
        refine ⟨b,b1,b2,?_,k + 1,?_⟩
        · unfold zeB
          rw [hc a hp,g]
          simp only [R.toO_ok,if_true,h1]
          exact b3
        · rw [b4]
          clear b4 b3 b2 b1 b h3 h2 h1 hm hp ih
          induction k with
          | zero=>rfl
          | succ k ih=>show nxt (Nat.repeat nxt k (nxt a))=nxt (Nat.repeat nxt (k + 1) a); rw [ih]
  obtain ⟨b,b1,b2,b3,k⟩:=key (μ a + 1) a h (Nat.lt_succ_self _)
  exact ⟨b,b1,b2,zlD b3 (by intro z; cases z),k⟩
theorem zg8 {β:Type} {f:D→R (Option D)} (enc:β→D) (g:β→Option D):∀ (l:List β),(∀ x ∈ l,f (enc x) = .ok (g x))→zc8 f (l.map enc) = .ok (l.filterMap g)
  | [],_=>rfl
  | x :: l,h=>by
    rw [List.map_cons]
    unfold zc8
    rw [h x List.mem_cons_self,R.bind_ok,zg8 enc g l fun y hy=>h y (List.mem_cons_of_mem _ hy)]
    cases q:g x with
    | none=>rw [List.filterMap_cons_none q]; rfl
    | some d=>rw [List.filterMap_cons_some q]; rfl
theorem small {n:Nat} (h:n ≤ 100000):n ≤ sizeLine:=Nat.le_trans h (by decide)
end PM
namespace PM
open PySem L2
theorem fitN {i:Int} (n:Nat) (h:i.natAbs ≤ n) (h2:n < 2 ^ 8000:=by decide +kernel):Fit i:=Nat.lt_of_le_of_lt h h2
@[simp] theorem zkr (i j:Int):oAdd (.int i) (.int j)=some (.int (i + j)):=rfl
@[simp] theorem zro (i j:Int):oSub (.int i) (.int j)=some (.int (i - j)):=rfl
theorem zel {i j:Int} (h:Fit i) (h':Fit j):oMul (.int i) (.int j)=some (.int (i * j)):=zbn (p:=Fit i∧Fit j) ⟨h,h'⟩
theorem zqA {i j:Int} (h:j ≠ 0) (h':Fit j):oDiv (.int i) (.int j)=some (.int (i.fdiv j)):=zbn (p:=j ≠ 0∧Fit j) ⟨h,h'⟩
theorem zc0 {i j:Int} (h:0 < j) (h':Fit j):oDiv (.int i) (.int j)=some (.int (i / j)):=by
  rw [zqA (by omega) h',Int.fdiv_eq_ediv_of_nonneg _ (by omega)]
theorem za7 {i j:Int} (h:0 < j):oMod (.int i) (.int j)=some (.int (i % j)):=zbn (p:=0 < j) h
theorem zl5 {i j:Int} (h:CPow i j):oPow (.int i) (.int j)=some (.int (i ^ j.toNat)):=zbn (p:=CPow i j) h
@[simp] theorem zru (i j:Int):oLt (.int i) (.int j)=some (.bl (decide (i < j))):=rfl
@[simp] theorem zrv (i j:Int):oLe (.int i) (.int j)=some (.bl (decide (i ≤ j))):=rfl
@[simp] theorem zqy (i j:Int):oGt (.int i) (.int j)=some (.bl (decide (j < i))):=rfl
@[simp] theorem zrt (i j:Int):oGe (.int i) (.int j)=some (.bl (decide (j ≤ i))):=rfl
@[simp] theorem zrq (i:Int):oNeg (.int i)=some (.int (-i)):=rfl
@[simp] theorem zrB (i j:Int):oEq (.int i) (.int j)=some (.bl (decide (i=j))):=by simp [oEq,fl,scal]
@[simp] theorem zrs (i j:Int):oNe (.int i) (.int j)=some (.bl (!decide (i=j))):=by simp [oNe,fl,scal]
@[simp] theorem zry (d:D):oIs d .non=some (.bl (isN d)):=rfl
@[simp] theorem zrz (b:Bool):asB (.bl b)=some b:=rfl
@[simp] theorem zrx (l:List D):asL (.lst l)=some l:=rfl
@[simp] theorem znx (i:Int):asI (.int i)=some i:=rfl
@[simp] theorem zrr (l:List D):fLen [.lst l]=some (.int l.length):=rfl
@[simp] theorem zrp (l:List D):fLen [.tup l]=some (.int l.length):=rfl
@[simp] theorem zrl (k:List Key) (l:List D):zgZ [.dct k l]=some (.int k.length):=rfl
@[simp] theorem zq8 (l:List D):zeP [.lst l]=some (.lst l):=rfl
@[simp] theorem zq9 (a b:D):oIxT (.tup [a,b]) (.int 0)=some a:=rfl
@[simp] theorem zqZ (a b:D):oIxT (.tup [a,b]) (.int 1)=some b:=rfl
theorem atI_nat {α:Type} {l:List α} {k:Nat} {d:α} (h:l[k]?=some d):atI l (k:Int)=some d:=by
  have hk:=(List.getElem?_eq_some_iff.mp h).1
  unfold atI ixN
  rw [if_pos (by omega),if_pos (by omega)]
  exact h
theorem zqF {l:List D} {k:Nat} {d:D} (h:l[k]?=some d):oIxL (.lst l) (.int (k:Int))=some d:=atI_nat h
theorem zp5 {l:List D} {i:Int} {d:D} (h0:0 ≤ i) (h:l[i.toNat]?=some d):oIxL (.lst l) (.int i)=some d:=by
  have e:i=((i.toNat:Nat):Int):=by omega
  rw [e]
  exact zqF h
theorem rng1 {n:Int} (h0:0 ≤ n) (h:n ≤ 100000):rng [.int n]=some (zfF 0 n.toNat):=by
  show ifC _ _ _=_
  rw [zbn (by omega)]
theorem rng2 {a b:Int} (h0 : -100000 ≤ a∧a ≤ 100000) (h : -100000 ≤ b∧b ≤ 100000):rng [.int a,.int b]=some (zfF a (b - a).toNat):=by
  show ifC _ _ _=_
  rw [zbn (by omega)]
theorem zoS (n:Nat):zfF 0 n=(List.range n).map fun (k:Nat)=>D.int (k:Int):=by
  unfold zfF
  exact List.map_congr_left fun k _=>by simp
theorem zgb (l:List D):zh1 l=(l.zipIdx).map fun p=>D.tup [.int (p.2:Int),p.1]:=by
  unfold zh1
  rw [List.mapIdx_eq_zipIdx_map]
@[simp] theorem zrA (a b:α):([a,b].length ≤ sizeLine)=True:=by simp [sizeLine]
end PM
namespace PM
open PySem L2
def sv:Option D→Sl
  | none=>.no
  | some d=>.v d
theorem zhJ {i:Nat} {d:D} {δ:En} {o:Option D} (h:δ[i]?=some (sv o)):zaw i d δ=some (δ.set i (.v d)):=by
  unfold zaw
  rw [h]
  cases o <;> rfl
@[simp] theorem zre:sv none = .no:=rfl
@[simp] theorem zq6 (d:D):sv (some d) = .v d:=rfl
theorem zqw (L:List Int) (t:Int):(L.map (.inl:Int→Key)).any (fun a=>decide (a = .inl t))=decide (t ∈ L):=by
  rw [Bool.eq_iff_iff]
  simp only [List.any_eq_true,List.mem_map,decide_eq_true_eq]
  constructor
  · rintro ⟨x,⟨a,h1,rfl⟩,h2⟩
    cases h2; exact h1
  · intro h
    exact ⟨_,⟨t,h,rfl⟩,rfl⟩
def iL (l:List Int):D:=.lst (l.map .int)
theorem zey {α:Type} {f:D→R (Option D)} (enc:α→D) (g:α→D) (l:List α) (h:∀ x ∈ l,f (enc x) = .ok (some (g x))):zc8 f (l.map enc) = .ok (l.map g):=by
  rw [zg8 enc (fun x=>some (g x)) l h,List.filterMap_eq_map']
end PM
namespace PM
open PySem L2
theorem zdE {mi:En→R (List D)} {ix:List Nat} {n:Nat} {b:D→En→Option En} {nc:Option (En→R Bool)} {me:En→R D} {δ:En} {l r:List D} (h1:mi δ = .ok l) (hl:l.length ≤ 100000)
    (h2:zc8 (zeF b nc me (zbf δ ix n)) l = .ok r):zeC mi ix n b nc me δ = .ok (.lst r):=by
  unfold zeC
  rw [h1,R.bind_ok,zbn (small hl),h2]
  rfl
theorem zd6 {mi:En→R (List D)} {b:D→En→Option En} {m:En→O} {δ:En} {l:List D} (h:mi δ = .ok l):mFor mi b m δ=zd4 b m l δ:=by
  unfold mFor
  rw [h]
  rfl
theorem zaW {np nv:Nat} {m:En→O} {ds:List D} {d:D} (h:m (zcH nv ds) = .rt d) (hl:ds.length=np:=by rfl):runF np nv m ds = .ok d:=by
  unfold runF
  rw [if_pos hl,h]
theorem zoO {np nv:Nat} {m:En→O} {ds:List D} {δ:En} (h:m (zcH nv ds) = .nx δ) (hl:ds.length=np:=by rfl):runF np nv m ds = .ok .non:=by
  unfold runF
  rw [if_pos hl,h]
theorem zdB {np nv:Nat} {m:En→O} {ds:List D} {d:D} (h:m (zcH nv ds) = .ro d) (hl:ds.length=np:=by rfl):runO np nv m ds = .ok d:=by
  unfold runO
  rw [if_pos hl,h]
theorem zaj {m n:En→O} {δ δ':En} (h:m δ = .nx δ'):mSeq m n δ=n δ':=by unfold mSeq; rw [h]
theorem zaI {me:En→R D} {b:D→En→Option En} {δ δ':En} {d:D} (h:me δ = .ok d) (h2:b d δ=some δ'):mAsg me b δ = .nx δ':=by unfold mAsg; rw [h,R.toO_ok,h2]; rfl
theorem za9 {n:En→R Bool} {m m':En→O} {δ:En} (h:n δ = .ok true):mIfS n m m' δ=m δ:=by unfold mIfS; rw [h]; rfl
theorem zaZ {n:En→R Bool} {m m':En→O} {δ:En} (h:n δ = .ok false):mIfS n m m' δ=m' δ:=by unfold mIfS; rw [h]; rfl
theorem zew {β:Type} {b:D→En→Option En} {m:En→O} (enc:β→D) (P:List β→En→Prop) (all:List β)
    (step:∀ pre x post δ,all=pre ++ x :: post→P pre δ→∃ δ1 δ2,b (enc x) δ=some δ1∧(m δ1 = .nx δ2∨m δ1 = .ct δ2)∧P (pre ++ [x]) δ2) (δ:En) (h:P [] δ):∃ δ2,zd4 b m (all.map enc) δ = .nx δ2∧P all δ2:=by
  have key:∀ (post pre:List β) (δ:En),all=pre ++ post→P pre δ→∃ δ2,zd4 b m (post.map enc) δ = .nx δ2∧P all δ2:=by
    intro post
    induction post with
    | nil=>intro pre δ e h; exact ⟨δ,rfl,by rw [e,List.append_nil]; exact h⟩
    | cons x post ih =>
      intro pre δ e h
      obtain ⟨δ1,δ2,h1,h2,h3⟩:=step pre x post δ e h
      obtain ⟨δ3,h4,h5⟩:=ih (pre ++ [x]) δ2 (by rw [e]; simp) h3
      refine ⟨δ3,?_,h5⟩
      rw [List.map_cons]
      unfold zd4
      rw [h1]
      rcases h2 with h2 | h2 <;> (simp only [h2]; exact h4)
  exact key all [] δ rfl h
end PM
namespace PM
open PySem L2
@[simp] theorem zpx (l:List Int):fLen [iL l]=some (.int l.length):=by simp [iL]
@[simp] theorem zrn (l:List Int):asL (iL l)=some (l.map .int):=rfl
end PM
namespace PM
open PySem L2
theorem zn6 {l:List D} {k:Nat} (h:k ≤ l.length):cutD l none (some (k:Int))=l.take k:=by
  unfold cutD
  have e:HT.sIx l.length l.length (some (k:Int))=k:=by
    show (if (k:Int) < 0 then ((k:Int) + (l.length:Int)).toNat else min (k:Int).toNat l.length)=k
    rw [if_neg (by omega)]; omega
  rw [e]
  show (l.drop 0).take (k - 0)=_
  simp
theorem znM {l:List D} {k:Nat} (h:k ≤ l.length):cutD l (some (k:Int)) none=l.drop k:=by
  unfold cutD
  have e:HT.sIx l.length 0 (some (k:Int))=k:=by
    show (if (k:Int) < 0 then ((k:Int) + (l.length:Int)).toNat else min (k:Int).toNat l.length)=k
    rw [if_neg (by omega)]; omega
  rw [e]
  show (l.drop k).take (l.length - k)=_
  rw [List.take_of_length_le (by simp)]
theorem znH (l:List Int) (lo hi:Option Int):∃ cs:List Int,cutD (l.map .int) lo hi=cs.map .int∧cs.length ≤ l.length:=by
  refine ⟨(l.drop (HT.sIx l.length 0 lo)).take (HT.sIx l.length l.length hi - HT.sIx l.length 0 lo),?_,by rw [List.length_take,List.length_drop]; omega⟩
  unfold cutD
  rw [List.length_map,List.map_take,List.map_drop]
theorem zkm {l r:List D} (h:l.length + r.length ≤ 100000):oCat (.lst l) (.lst r)=some (.lst (l ++ r)):=by
  show ifC _ _ _=_
  rw [zbn (small h)]
theorem zo1 {x y:D} (hx:zbi 8 x=true) (hy:zbi 8 y=true) (h:x=y):oEqD x y=some (.bl true):=by
  unfold oEqD
  rw [zbn ⟨hx,hy⟩]
  simp [h]
theorem zh2 {x y:D} (hx:zbi 8 x=true) (hy:zbi 8 y=true) (h:x=y):oNeD x y=some (.bl false):=by
  unfold oNeD
  rw [zbn ⟨hx,hy⟩]
  simp [h]
theorem zb0 (l:List Int):zbi 8 (iL l)=true:=by
  show (l.map D.int).all (zbi 7)=true
  rw [List.all_map,List.all_eq_true]
  intro x _; rfl
end PM
namespace PM
open PySem L2 PyProof.Rows
section
variable {K:Kx} {ca:Nat→Addr} {an:Nat→Str} {XO:XOT} {E:L2.St→XK} {ta tb te:TE} {ma mb me:En→R D} {X:Cx}
def zqc:R2:=fun x y H Q=>∃ l b xs zs,x = .ref l∧y = .ref b∧Rd H l (.lst xs)∧Rd H b (.lst zs)∧xs.length + zs.length ≤ sizeLine∧∀ p,H p=none→Q (.ref p) (upd H p (.lst (xs ++ zs)))
theorem zdj:OpR X (binaryOp .Add) zqc:=by
  intro pins s σ H x y v u Q I rx ry h
  obtain ⟨l,b,xs,zs,rfl,rfl,hH,hB,hz,q⟩:=h
  cases rx
  cases ry
  obtain ⟨z,its,n,r,e⟩:=hH.ok I.hok
  obtain ⟨z2,its2,n2,r2,e2⟩:=hB.ok I.hok
  have hl:=r.length
  have hl2:=r2.length
  refine PySem.P.add_list e e2 ?_ (by rw [List.size_toArray,List.size_toArray]; omega)
  have ea:its.toArray ++ its2.toArray=(its ++ its2).toArray:=by simp
  rw [ea]
  exact ⟨.ref _,_,I.lnew (t':=s.toks) (r.append r2) (by rw [List.length_append]; omega),rfl,q _ I.fresh⟩
theorem zeM:SRo K zqc oCat:=by
  intro F H x y dx dy d Q s hx hy e q
  cases dx with
  | lst l =>
    cases dy with
    | lst r =>
      simp only [oCat] at e
      unfold ifC at e
      split at e
      · rename_i hc
        cases e
        obtain ⟨a,vs,rfl,h1,h2⟩:=hx
        obtain ⟨b,ws,rfl,g1,g2⟩:=hy
        exact ⟨a,b,vs,ws,rfl,rfl,h1,g1,by rw [h2.length,g2.length]; exact hc,fun p hp=>q p F _ (.newO s hp) (s.free hp) hp ⟨_,zax,h2.append g2⟩⟩
      · cases e
    | _=>cases e
  | _=>cases e
theorem zce {F:Hp}:∀ {ns:List Int} {xs:List V},RepL K F (ns.map .int) xs→xs=ns.map V.int
  | [],xs,h=>by simpa only [List.map_nil,RepL] using h
  | n :: ns,xs,h=>by
    simp only [List.map_cons,RepL,Rep] at h
    obtain ⟨v,r,rfl,rfl,h3⟩:=h
    rw [zce h3]; rfl
def rSum:List V→Hp→VK→Prop:=fun xs H Q=>∃ (p:Addr) (ns:List Int),xs = [.ref p]∧Rd H p (.lst (ns.map V.int))∧Q (.int ns.sum) H
theorem zlY {ds:List D} {d:D} (h:fSum ds=some d):∃ ns:List Int,ds = [.lst (ns.map .int)]∧d = .int ns.sum:=by
  unfold fSum at h
  split at h
  · rename_i l
    cases z:asIs l with
    | none=>rw [z] at h; cases h
    | some ns=>rw [z] at h; cases h; exact ⟨ns,by rw [zcx z],rfl⟩
  · cases h
theorem zko:SC K rSum fSum:=by
  intro F H vs ds d Q s r e q
  obtain ⟨ns,rfl,rfl⟩:=zlY e
  cases r with
  | cons r r' =>
    cases r'
    obtain ⟨a,xs,rfl,h1,h2⟩:=r
    have ex:=zce h2
    subst ex
    exact ⟨a,ns,rfl,h1,q _ F H (.refl s) (by simp only [Rep])⟩
theorem zcI (hc:X.calm=true):zdr X (.builtin "sum") rSum:=by
  intro pins s σ H xs us Q I r h
  obtain ⟨p,ns,rfl,hq,q⟩:=h
  obtain ⟨u,rfl,rx⟩:=zdv r
  cases rx
  obtain ⟨z,its,n,rv,e⟩:=hq.ok I.hok
  obtain ⟨ts,rfl,htl⟩:∃ ts:List Tok,its=(ns.zip ts).map (fun p=>Value.int p.1 p.2)∧ts.length=ns.length:=by
    clear e hq q z
    induction ns generalizing its with
    | nil=>cases rv; exact ⟨[],rfl,rfl⟩
    | cons a l ih =>
      cases rv with
      | cons h t =>
        obtain ⟨tk,rfl⟩:=h
        obtain ⟨ts,rfl,hl⟩:=ih _ t
        exact ⟨tk :: ts,rfl,by simp [hl]⟩
  have ei:((ns.zip ts).map (fun p=>Value.int p.1 p.2)).toArray=intItems (ns.zip ts).toArray:=by simp [intItems]
  rw [ei] at e
  refine sum_intListG (I.ok.hd hc) ⟨_,e,rfl,n,rfl⟩ fun h' tk t' hk=>?_
  have es:preSum (numAt (ns.zip ts).toArray) (ns.zip ts).toArray.size=ns.sum:=by
    rw [preSum_eq,List.take_of_length_le (by simp)]
    have:(ns.zip ts).map (·.1)=ns:=List.map_fst_zip (by omega)
    show ((ns.zip ts).map (·.1)).sum=_
    rw [this]
  rw [es]
  exact ⟨.int ns.sum,H,I.kept (t':=tk) hk,⟨_,rfl⟩,q⟩
theorem zoK {K:W.Frag} {S T:String} (h2:PySem.W.kitMeta T=true) (h3:(PySem.fastBuiltinMro S).map (·.contains (.type T))=some true):PySem.W.kitOne K (.type S) (.type T)=some true:=by
  unfold PySem.W.kitOne
  split
  · rfl
  · show (if PySem.W.kitMeta T=true then PySem.W.subIn K (.type S) (.type T) else none)=some true
    rw [if_pos h2]
    exact h3
def zic:D→String
  | .non=>"NoneType"
  | .bl _=>"bool"
  | .int _=>"int"
  | .str _=>"str"
  | .tup _=>"tuple"
  | .lst _=>"list"
  | .dct _ _=>"dict"
  | .scr _=>"list"
  | .exc _=>"object"
  | .fd _ _=>"object"
  | .obj _ _ _=>"object"
theorem zf9 {K:W.Frag}:PySem.W.kitOne K (.type "NoneType") (.type "int")=some false:=L2.kit_no (by decide +kernel) (by decide +kernel) (by decide +kernel)
theorem kit_int_bool {K:W.Frag}:PySem.W.kitOne K (.type "bool") (.type "int")=some true:=zoK (by decide +kernel) (by decide +kernel)
theorem zjl {K:W.Frag}:PySem.W.kitOne K (.type "int") (.type "int")=some true:=L2.kit_self
theorem zjN {K:W.Frag}:PySem.W.kitOne K (.type "str") (.type "int")=some false:=L2.kit_no (by decide +kernel) (by decide +kernel) (by decide +kernel)
theorem zhp {K:W.Frag}:PySem.W.kitOne K (.type "tuple") (.type "int")=some false:=L2.kit_no (by decide +kernel) (by decide +kernel) (by decide +kernel)
theorem zi3 {K:W.Frag}:PySem.W.kitOne K (.type "list") (.type "int")=some false:=L2.kit_no (by decide +kernel) (by decide +kernel) (by decide +kernel)
theorem zis {K:W.Frag}:PySem.W.kitOne K (.type "dict") (.type "int")=some false:=L2.kit_no (by decide +kernel) (by decide +kernel) (by decide +kernel)
theorem zfj {K:W.Frag}:PySem.W.kitOne K (.type "NoneType") (.type "bool")=some false:=L2.kit_no (by decide +kernel) (by decide +kernel) (by decide +kernel)
theorem zh9 {K:W.Frag}:PySem.W.kitOne K (.type "bool") (.type "bool")=some true:=L2.kit_self
theorem zij {K:W.Frag}:PySem.W.kitOne K (.type "int") (.type "bool")=some false:=L2.kit_no (by decide +kernel) (by decide +kernel) (by decide +kernel)
theorem ziW {K:W.Frag}:PySem.W.kitOne K (.type "str") (.type "bool")=some false:=L2.kit_no (by decide +kernel) (by decide +kernel) (by decide +kernel)
theorem zg4 {K:W.Frag}:PySem.W.kitOne K (.type "tuple") (.type "bool")=some false:=L2.kit_no (by decide +kernel) (by decide +kernel) (by decide +kernel)
theorem zhy {K:W.Frag}:PySem.W.kitOne K (.type "list") (.type "bool")=some false:=L2.kit_no (by decide +kernel) (by decide +kernel) (by decide +kernel)
theorem zhr {K:W.Frag}:PySem.W.kitOne K (.type "dict") (.type "bool")=some false:=L2.kit_no (by decide +kernel) (by decide +kernel) (by decide +kernel)
theorem zga {K:W.Frag}:PySem.W.kitOne K (.type "NoneType") (.type "str")=some false:=L2.kit_no (by decide +kernel) (by decide +kernel) (by decide +kernel)
theorem ziE {K:W.Frag}:PySem.W.kitOne K (.type "bool") (.type "str")=some false:=L2.kit_no (by decide +kernel) (by decide +kernel) (by decide +kernel)
theorem zjD {K:W.Frag}:PySem.W.kitOne K (.type "int") (.type "str")=some false:=L2.kit_no (by decide +kernel) (by decide +kernel) (by decide +kernel)
theorem zji {K:W.Frag}:PySem.W.kitOne K (.type "str") (.type "str")=some true:=L2.kit_self
theorem zhK {K:W.Frag}:PySem.W.kitOne K (.type "tuple") (.type "str")=some false:=L2.kit_no (by decide +kernel) (by decide +kernel) (by decide +kernel)
theorem ziH {K:W.Frag}:PySem.W.kitOne K (.type "list") (.type "str")=some false:=L2.kit_no (by decide +kernel) (by decide +kernel) (by decide +kernel)
theorem ziZ {K:W.Frag}:PySem.W.kitOne K (.type "dict") (.type "str")=some false:=L2.kit_no (by decide +kernel) (by decide +kernel) (by decide +kernel)
theorem zn2 {K:W.Frag} (d:D) (h:okI d=true):PySem.W.kitOne K (.type (zic d)) (.type "int")=some (isiB "int" d):=by
  cases d with
  | non=>exact zf9
  | bl b=>exact kit_int_bool
  | int b=>exact zjl
  | str b=>exact zjN
  | tup b=>exact zhp
  | lst b=>exact zi3
  | dct b b'=>exact zis
  | scr b=>cases h
  | exc b=>cases h
  | fd b b'=>cases h
  | obj b b' b''=>cases h
theorem zmM {K:W.Frag} (d:D) (h:okI d=true):PySem.W.kitOne K (.type (zic d)) (.type "bool")=some (isiB "bool" d):=by
  cases d with
  | non=>exact zfj
  | bl b=>exact zh9
  | int b=>exact zij
  | str b=>exact ziW
  | tup b=>exact zg4
  | lst b=>exact zhy
  | dct b b'=>exact zhr
  | scr b=>cases h
  | exc b=>cases h
  | fd b b'=>cases h
  | obj b b' b''=>cases h
theorem znQ {K:W.Frag} (d:D) (h:okI d=true):PySem.W.kitOne K (.type (zic d)) (.type "str")=some (isiB "str" d):=by
  cases d with
  | non=>exact zga
  | bl b=>exact ziE
  | int b=>exact zjD
  | str b=>exact zji
  | tup b=>exact zhK
  | lst b=>exact ziH
  | dct b b'=>exact ziZ
  | scr b=>cases h
  | exc b=>cases h
  | fd b b'=>cases h
  | obj b b' b''=>cases h
theorem zmI {c:String} (hk:∀ d,okI d=true→PySem.W.kitOne K.f (.type (zic d)) (.type c)=some (isiB c d)) (ha:SEr K XO E ta ma):SE K XO E (tCB (rIs K.f) (zdl ta (zdl (tC (.ty c)) tNil))) (m1 (oIsi c) ma):=by
  intro Λ F0 H0 F H σ δ Q I a
  refine ha Λ F0 H0 F H σ δ _ I (a.bind.imp fun d F1 H1 e1 a1 x rx=>?_)
  by_cases hs':okI d=true
  case neg =>
    cases d with
    | scr _=>exact a1.elim
    | exc _=>exact a1.elim
    | fd _ _=>exact a1.elim
    | obj _ _ _=>exact a1.elim
    | _=>exact absurd rfl hs'
  have a2:Aft E XO σ F1 H1 (fun d F' H'=>∀ v,Rep K F' d v→Q v H') (.ok (.bl (isiB c d))):=by
    cases d with
    | scr l=>cases hs'
    | exc l=>cases hs'
    | fd _ _=>cases hs'
    | obj _ _ _=>cases hs'
    | _=>exact a1
  have fin:=a2 F1 H1 (.refl e1.fh) (.bl (isiB c d)) (by simp only [Rep])
  suffices h:TyOf K.f H1 x (.type (zic d)) from ⟨x,.ty c,.type c,_,_,rfl,rfl,h,hk d hs',fin⟩
  cases d with
  | non=>simp only [Top,Rep] at rx; subst rx; exact .non
  | bl b=>simp only [Top,Rep] at rx; subst rx; exact .bl _
  | int b=>simp only [Top,Rep] at rx; subst rx; exact .int _
  | str b=>simp only [Top,Rep] at rx; subst rx; exact .str _
  | tup l =>
    simp only [Top,Rep] at rx
    obtain ⟨p,vs,rfl,h1,h2⟩:=rx
    exact .tup (e1.fh _ _ h1)
  | lst l =>
    obtain ⟨p,vs,rfl,h1,h2⟩:=rx
    rcases h1 with h | ⟨o,h⟩
    · exact .lst h
    · exact .frz h
  | dct ks l=>obtain ⟨p,kvs,rfl,h1,h2⟩:=rx; exact .dK h1
  | scr l=>cases hs'
  | exc l=>cases hs'
  | fd _ _=>cases hs'
  | obj _ _ _=>cases hs'
def toPy:Nat→D→PyData
  | _,.non=>.none
  | _,.int i=>.int i
  | n + 1,.tup l=>.tuple (l.map (toPy n))
  | n + 1,.lst l=>.list (l.map (toPy n))
  | _,_=>.none
theorem zgc:∀ (n:Nat) (d:D),zbi n d=true→(toPy n d).canLay0=true∧(toPy n d).depth ≤ n:=by
  intro n
  induction n with
  | zero =>
    intro d h
    cases d with
    | non=>exact ⟨rfl,Nat.le_refl _⟩
    | int i=>exact ⟨rfl,Nat.le_refl _⟩
    | _=>cases h
  | succ n ih =>
    have all:∀ l:List D,l.all (zbi n)=true→PyData.canLayAll0 (l.map (toPy n))=true∧PyData.depthAll (l.map (toPy n)) ≤ n:=by
      intro l
      induction l with
      | nil=>intro _; exact ⟨rfl,Nat.zero_le _⟩
      | cons a l ih2 =>
        intro h
        rw [List.all_cons,Bool.and_eq_true] at h
        obtain ⟨h1,h2⟩:=ih a h.1
        obtain ⟨h3,h4⟩:=ih2 h.2
        refine ⟨?_,?_⟩
        · simp only [List.map_cons,PyData.canLayAll0,h1,h3,Bool.and_self]
        · simp only [List.map_cons,PyData.depthAll]; omega
    intro d h
    cases d with
    | non=>exact ⟨rfl,Nat.zero_le _⟩
    | int i=>exact ⟨rfl,Nat.zero_le _⟩
    | tup l=>obtain ⟨h1,h2⟩:=all l h; exact ⟨by simpa only [toPy,PyData.canLay0] using h1,by simp only [toPy,PyData.depth]; omega⟩
    | lst l=>obtain ⟨h1,h2⟩:=all l h; exact ⟨by simpa only [toPy,PyData.canLay0] using h1,by simp only [toPy,PyData.depth]; omega⟩
    | _=>cases h
open Classical in
theorem zma:∀ (n:Nat) (d d':D),zbi n d=true→zbi n d'=true→PyData.eqv (toPy n d) (toPy n d')=decide (d=d'):=by
  intro n
  induction n with
  | zero =>
    intro d d' h h'
    cases d with
    | non=>cases d' <;> first | (simp [toPy,PyData.eqv]; done) | cases h'
    | int i =>
      cases d' with
      | int j=>simp only [toPy,PyData.eqv]; by_cases e:i=j <;> simp [e]
      | _=>first | (simp [toPy,PyData.eqv]; done) | cases h'
    | _=>cases h
  | succ n ih =>
    have all:∀ l l':List D,l.all (zbi n)=true→l'.all (zbi n)=true→PyData.eqvAll (l.map (toPy n)) (l'.map (toPy n))=decide (l=l'):=by
      intro l
      induction l with
      | nil=>intro l' _ _; cases l' <;> simp [PyData.eqvAll]
      | cons a l ih2 =>
        intro l' h h'
        cases l' with
        | nil=>simp [PyData.eqvAll]
        | cons b l' =>
          rw [List.all_cons,Bool.and_eq_true] at h h'
          simp only [List.map_cons,PyData.eqvAll,ih a b h.1 h'.1,ih2 l' h.2 h'.2]
          by_cases e1:a=b <;> by_cases e2:l=l' <;> simp [e1,e2]
    intro d d' h h'
    cases d with
    | non=>cases d' <;> first | (simp [toPy,PyData.eqv]; done) | cases h'
    | int i =>
      cases d' with
      | int j=>simp only [toPy,PyData.eqv]; by_cases e:i=j <;> simp [e]
      | _=>first | (simp [toPy,PyData.eqv]; done) | cases h'
    | tup l =>
      cases d' with
      | tup l'=>simp only [toPy,PyData.eqv,all l l' h h']; simp
      | _=>first | (simp [toPy,PyData.eqv]; done) | cases h'
    | lst l =>
      cases d' with
      | lst l'=>simp only [toPy,PyData.eqv,all l l' h h']; simp
      | _=>first | (simp [toPy,PyData.eqv]; done) | cases h'
    | _=>cases h
theorem znE {pins:List (Addr × Obj)} {σ:L2.St} {H F:Hp} {s:Shared} (I:Inv X pins σ H s) (sm:Same F H):∀ (n:Nat) (d:D) (v:V) (u:Value),zbi n d=true→Rep ⟨X.K,ca,an⟩ F d v→RelV v u→∃ as,Reads s.heap u (toPy n d) as:=by
  intro n
  induction n with
  | zero =>
    intro d v u h r ru
    cases d with
    | non=>simp only [Rep] at r; subst r; cases ru; exact ⟨_,.none⟩
    | int i=>simp only [Rep] at r; subst r; obtain ⟨t,rfl⟩:=ru; exact ⟨_,.int i t⟩
    | _=>cases h
  | succ n ih =>
    have all:∀ (l:List D) (vs:List V) (us:List Value),l.all (zbi n)=true→RepL ⟨X.K,ca,an⟩ F l vs→Vals vs us→∃ as,ReadsAll s.heap us (l.map (toPy n)) as:=by
      intro l
      induction l with
      | nil=>intro vs us _ r ru; simp only [RepL] at r; subst r; cases ru; exact ⟨_,.nil⟩
      | cons a l ih2 =>
        intro vs us h r ru
        rw [List.all_cons,Bool.and_eq_true] at h
        simp only [RepL] at r
        obtain ⟨v,r',rfl,r1,r2⟩:=r
        cases ru with
        | cons ru ru' =>
          obtain ⟨as,h1⟩:=ih a v _ h.1 r1 ru
          obtain ⟨bs,h2⟩:=ih2 r' _ h.2 r2 ru'
          exact ⟨_,.cons h1 h2⟩
    intro d v u h r ru
    cases d with
    | non=>simp only [Rep] at r; subst r; cases ru; exact ⟨_,.none⟩
    | int i=>simp only [Rep] at r; subst r; obtain ⟨t,rfl⟩:=ru; exact ⟨_,.int i t⟩
    | tup l =>
      simp only [Rep] at r
      obtain ⟨a,vs,rfl,h1,h2⟩:=r
      cases ru
      obtain ⟨its,rv,⟨o,e,c,k,dd⟩,_⟩:=I.tuple (show SqT X.K H a vs from .inl (.inl (sm _ _ h1)))
      obtain ⟨as,h3⟩:=all l vs its h h2 rv
      exact ⟨_,.tuple e c dd (by simpa using h3)⟩
    | lst l =>
      simp only [Rep] at r
      obtain ⟨a,vs,rfl,h1,h2⟩:=r
      cases ru
      obtain ⟨its,rv,⟨o,k,e,c,_,dd⟩,_⟩:=I.list (show SqL X.K H a vs from .inl (PM.Same.rd sm h1))
      obtain ⟨as,h3⟩:=all l vs its h h2 rv
      exact ⟨_,.list e c dd (by simpa using h3)⟩
    | _=>cases h
theorem ze2 {pins:List (Addr × Obj)} {σ:L2.St} {H F:Hp} {s:Shared} (I:Inv X pins σ H s) (sm:Same F H) {n:Nat} {d:D} {v:V} {u:Value} (h:zbi n d=true) (r:Top ⟨X.K,ca,an⟩ F H d v) (ru:RelV v u):∃ as,Reads s.heap u (toPy n d) as:=by
  have r':Rep ⟨X.K,ca,an⟩ (zd1 F H) d v:=by
    cases d with
    | lst l =>
      obtain ⟨a,vs,rfl,h1,h2⟩:=r
      rcases h1 with h1 | ⟨o,h1⟩
      · exact zlu sm (.inr ⟨a,rfl,vs,h1,h2⟩)
      · simp only [Rep]
        refine ⟨a,vs,rfl,.inr ⟨o,?_⟩,h2.mono zeQ⟩
        unfold zd1
        cases q:F a with
        | some u=>rw [sm _ _ q] at h1; exact h1
        | none=>simp only [h1]
    | dct ks l=>cases n <;> cases h
    | obj c ks l=>cases n <;> cases h
    | _=>exact Rep.mono zeQ _ r
  exact znE I (zmv sm) n d v u h r' ru
open Classical in
def rEqD (K:Kx) (neg:Bool):R2:=fun x y H Q=>∃ (F:Hp) (dx dy:D),Same F H∧Top K F H dx x∧Top K F H dy y∧zbi 8 dx=true∧zbi 8 dy=true∧Q (.bl (if neg=true then !decide (dx=dy) else decide (dx=dy))) H
theorem zqj (hu:X.A.units + 64 < cLine):OpR X (compareOp .Eq) (rEqD ⟨X.K,ca,an⟩ false):=by
  intro pins s σ H x y v u Q I rx ry h
  obtain ⟨F,dx,dy,sm,tx,ty,px,py,q⟩:=h
  obtain ⟨as,ra⟩:=ze2 I sm px tx rx
  obtain ⟨bs,rb⟩:=ze2 I sm py ty ry
  obtain ⟨l1,l2⟩:=zgc 8 dx px
  obtain ⟨m1,m2⟩:=zgc 8 dy py
  refine SeqAt.compareEq_reads ra rb l1 m1 (by omega) ?_
  rw [zma 8 dx dy px py]
  exact ⟨.bl _,H,I,rfl,q⟩
theorem zj4 (hu:X.A.units + 64 < cLine):OpR X (compareOp .NotEq) (rEqD ⟨X.K,ca,an⟩ true):=by
  intro pins s σ H x y v u Q I rx ry h
  obtain ⟨F,dx,dy,sm,tx,ty,px,py,q⟩:=h
  obtain ⟨as,ra⟩:=ze2 I sm px tx rx
  obtain ⟨bs,rb⟩:=ze2 I sm py ty ry
  obtain ⟨l1,l2⟩:=zgc 8 dx px
  obtain ⟨m1,m2⟩:=zgc 8 dy py
  refine SeqAt.compareNe_reads ra rb l1 m1 (by omega) ?_
  rw [zma 8 dx dy px py]
  exact ⟨.bl _,H,I,rfl,q⟩
theorem zqt:SR K (rEqD K false) oEqD:=by
  intro F H x y dx dy d Q s hx hy e q
  unfold oEqD ifC at e
  split at e
  · rename_i h
    cases e
    exact ⟨F,dx,dy,s,hx,hy,h.1,h.2,q _ F H (.refl s) (by simp only [Rep]; rfl)⟩
  · cases e
theorem zke:SR K (rEqD K true) oNeD:=by
  intro F H x y dx dy d Q s hx hy e q
  unfold oNeD ifC at e
  split at e
  · rename_i h
    cases e
    exact ⟨F,dx,dy,s,hx,hy,h.1,h.2,q _ F H (.refl s) (by simp only [Rep]; rfl)⟩
  · cases e
end
end PM
namespace L2
open PySem PySem.Spec PyProof.Rows
section
variable {X:Cx}
end
end L2
namespace PM
open PySem L2
section
variable {K:Kx} {XO:XOT} {E:L2.St→XK}
end
end PM
namespace PM
open PySem L2
def xoK (K:Kx):XOT:=fun x F _ C dct=>C = .ref (K.ca x.c)∧XA K F x.c dct
def zoi (c:Nat) (ml:En→R (List D)) (δ:En):O:=(ml δ).toO δ fun l=>ifC (l.length ≤ sizeLine) (.ex δ ⟨c⟩) .no
section
variable {K:Kx} {E:L2.St→XK} {ta:TE} {ma:En→R D} {t u:TS} {m n:En→O} {Λ:List (Nat × Addr × HO)} {F0 H0 F H:Hp} {σ:L2.St} {δ:En}
theorem znu {C:Addr} {c:Nat} {tl:TA} {ml:En→R (List D)} (hC:C=K.ca c) (hax:c < 16) (h:SA K (xoK K) E tl ml):SS K (xoK K) E (zof C E tl) (zoi c ml):=by
  intro Λ F0 H0 F H σ δ Dn I a
  refine h Λ F0 H0 F H σ δ _ I ((AftS.of I a).imp fun l F1 H1 e p vs r=>?_)
  unfold ifC at p
  split at p
  · rename_i hl
    exact ⟨by rw [r.length]; exact hl,p σ F1 H1 _ _ (I.grow e) ⟨by rw [hC],by unfold XA; rw [if_pos hax]⟩⟩
  · exact p.elim
theorem EnvOk.unset {i:Nat} (I:EnvOk K Λ F0 H0 F H σ δ) (hl:∃ x,δ[i]?=some x∧∀ d,x ≠ .l d):EnvOk K Λ F0 H0 F H (σ.set i none) (δ.set i .no):=by
  obtain ⟨x,hx,hn⟩:=hl
  have hi:i < δ.length:=(List.getElem?_eq_some_iff.mp hx).1
  refine ⟨I.ext,by simp [I.len],fun j=>?_,fun j k a hjk h1 h2 h3 h4=>?_,fun y hy=>?_,I.tabsOf (fun k ll h=>by
      by_cases e:i=k
      · subst e; rw [List.getElem?_set_self hi] at h; cases h
      · rw [List.getElem?_set_ne e] at h; exact ⟨h,List.getElem?_set_ne e⟩) (fun _ _ _ _ _=>rfl) fun k j ll a b bs _ _ _ _ ho hs=>.inl (by
      by_cases e:i=j
      · subst e; rw [List.getElem?_set_self hi] at ho; cases ho
      · rw [List.getElem?_set_ne e] at ho hs; exact ⟨ho,hs⟩)⟩
  · by_cases e:i=j
    · subst e
      rw [List.getElem?_set_self hi]
      trivial
    · rw [List.getElem?_set_ne e,List.getElem?_set_ne e]
      exact I.slot j
  · have ne:∀ k:Nat,Sl.own (δ.set i .no)[k]?=true→i ≠ k:=by
      rintro k h rfl
      rw [List.getElem?_set_self hi] at h
      cases h
    have n1:=ne j h1
    have n2:=ne k h2
    rw [List.getElem?_set_ne n1] at h1 h3
    rw [List.getElem?_set_ne n2] at h2 h4
    exact I.dist j k a hjk h1 h2 h3 h4
  · obtain ⟨⟨d',h1⟩,h2,h3⟩:=I.lent y hy
    have n:i ≠ y.1:=by
      intro e
      rw [← e,hx] at h1
      exact hn d' (Option.some.inj h1)
    exact ⟨⟨d',by rw [List.getElem?_set_ne n]; exact h1⟩,by rw [List.getElem?_set_ne n]; exact h2,h3⟩
def zfH (i:Nat) (δ:En):Option En:=match δ[i]? with | none=>none | some (.l _)=>none | some _=>some (δ.set i .no)
theorem zgw {i:Nat} {δ':En} (h:zfH i δ=some δ') (I:EnvOk K Λ F0 H0 F H σ δ):EnvOk K Λ F0 H0 F H (σ.set i none) δ':=by
  unfold zfH at h
  split at h
  · cases h
  · cases h
  · rename_i x h2 h1
    cases h
    exact I.unset ⟨x,h1,fun d' z=>h2 d' (by rw [z])⟩
def zkf (i:Nat):O→O
  | .nx δ=>(match zfH i δ with | some δ'=>.nx δ' | none=>.no)
  | .bk δ=>(match zfH i δ with | some δ'=>.bk δ' | none=>.no)
  | .ct δ=>(match zfH i δ with | some δ'=>.ct δ' | none=>.no)
  | .ex _ _=>.no
  | r=>r
def mTry (mb:En→O) (sub:Nat→Bool) (i:Nat) (mh:En→O) (δ:En):O:=match mb δ with
  | .ex δ' x=>if sub x.c=true then (match zaw i (.exc x.c) δ' with | some δ1=>zkf i (mh δ1) | none=>.no) else .no
  | r=>r
theorem zqu {D':Addr} {tb:(L2.St→XK)→TS} {th:TS} {mb mh:En→O} {sub:Nat→Bool} {i:Nat} (hsub:∀ c,sub c=true→PySem.W.kitCls K.f (.ref (K.ca c)) (.ref D')=some true)
    (hb:∀ E',SS K (xoK K) E' (tb E') mb) (hh:SS K (xoK K) EN th mh):SS K (xoK K) E (tTry K.f D' tb i th) (mTry mb sub i mh):=by
  intro Λ F0 H0 F H σ δ Dn I a
  refine hb _ Λ F0 H0 F H σ δ Dn I ?_
  unfold mTry at a
  cases q:mb δ with
  | no=>rw [q] at a; exact a
  | nx δ'=>rw [q] at a; exact a
  | rt d=>rw [q] at a; exact a
  | ro d=>rw [q] at a; exact a
  | bk δ'=>rw [q] at a; exact a
  | ct δ'=>rw [q] at a; exact a
  | ex δ' x =>
    rw [q] at a
    simp only at a
    split at a
    · rename_i hs
      rintro σ1 F1 H1 C dct I1 ⟨rfl,hxa⟩
      refine ⟨_,rfl,hsub _ hs,fun ea hea=>?_⟩
      have sF:Same F1 (upd F1 ea (excO (K.ca x.c) dct ea)):=Same.upd (I1.same.free hea)
      have I2:=I1.grow (Ext.new (o:=excO (K.ca x.c) dct ea) I1.same hea)
      cases qb:zaw i (.exc x.c) δ' with
      | none=>rw [qb] at a; exact a.elim
      | some δ1 =>
        rw [qb] at a
        simp only at a
        refine zaA (K:=K) Λ F0 H0 _ _ σ1 δ' (.exc x.c) (.ref ea) δ1 (fun σ2 H2=>th { nx:=fun σ2 H2=>Dn.nx (σ2.set i none) H2,rt:=Dn.rt,bk:=fun σ2 H2=>Dn.bk (σ2.set i none) H2,ct:=fun σ2 H2=>Dn.ct (σ2.set i none) H2 } σ2 H2) I2 ?_ qb fun σ2 I3=>?_
        · simp only [Rep]
          exact ⟨ea,dct,rfl,zax,hxa.mono sF⟩
        · refine hh Λ F0 H0 _ _ σ2 δ1 _ I3 ?_
          cases qh:mh δ1 with
          | no=>rw [qh] at a; exact a
          | rt d=>rw [qh] at a; exact a
          | ro d=>rw [qh] at a; exact a
          | ex _ _=>rw [qh] at a; exact a.elim
          | nx δ2 =>
            rw [qh] at a
            simp only [zkf] at a
            cases z:zfH i δ2 with
            | none=>rw [z] at a; exact a.elim
            | some δ3=>rw [z] at a; exact fun σ F H J=>a _ F H (zgw z J)
          | bk δ2 =>
            rw [qh] at a
            simp only [zkf] at a
            cases z:zfH i δ2 with
            | none=>rw [z] at a; exact a.elim
            | some δ3=>rw [z] at a; exact fun σ F H J=>a _ F H (zgw z J)
          | ct δ2 =>
            rw [qh] at a
            simp only [zkf] at a
            cases z:zfH i δ2 with
            | none=>rw [z] at a; exact a.elim
            | some δ3=>rw [z] at a; exact fun σ F H J=>a _ F H (zgw z J)
    · exact a.elim
def zcv (tab:Nat→Option Bool) (d:D):Option D:=match d with | .exc c=>(tab c).map .bl | _=>none
theorem zfw {w:V} {cv:Value} {tab:Nat→Option Bool} (hw:clsV w=some cv) (hk:∀ c b,tab c=some b→ExcCls K.f (K.ca c)∧PySem.W.kitOne K.f (.ref (K.ca c)) cv=some b) (ha:SEr K XO E ta ma) :
    SE K XO E (tCB (rIsX K.f) (zdl ta (zdl (tC w) tNil))) (m1 (zcv tab) ma):=by
  intro Λ F0 H0 F H σ δ Q I a
  refine ha Λ F0 H0 F H σ δ _ I (a.bind.imp fun d F1 H1 e1 a1 x rx=>?_)
  cases d with
  | exc c =>
    simp only [Top,Rep] at rx
    obtain ⟨p,dct,rfl,h1,hxa⟩:=rx
    simp only [zcv] at a1
    cases z:tab c with
    | none=>rw [z] at a1; exact a1.elim
    | some b =>
      rw [z] at a1
      obtain ⟨k1,k2⟩:=hk c b z
      exact ⟨p,_,dct,w,cv,b,rfl,hw,e1.fh _ _ h1,fun dx ed=>by
        unfold XA at hxa
        split at hxa
        · rw [hxa] at ed; cases ed
        · obtain ⟨dx',e2,e3⟩:=hxa
          rw [e2] at ed; cases ed
          exact ⟨_,e1.fh _ _ e3⟩,k1,k2,a1 F1 H1 (.refl e1.fh) _ (by simp only [Rep])⟩
  | _=>exact a1.elim
end
end PM
namespace L2
open PySem PySem.Spec PyProof.Rows
section
variable {P:Program} {w:World} {B:Around} {Z:Result→Shared→Prop} {J S:Addr} {fp wr:List Addr} {n:Nat} {Pv:Nat→Value→Prop} {Sn:Nat→Heap→Prop}
theorem zhT:(toString "max" ++ toString ".loop" : String) = "max.loop":=by decide
theorem zq3 (W:Walks P w B.in1 J fp wr n Pv Sn) (bt:Nat→Nat→Bool) (cmp:CmpOf P w B.in1 .Gt Pv bt) (nS:S ∉ fp) (df:Value):∀ (r i:Nat) (s:Shared) (best:Value) (c:Nat),i + 1 + r=n→Sn (i + 1) s.heap→Pv (argBest bt i) best →
    s.heap.get? S=some { cls:=.type "list",dict:=none,data:=.seq #[best,best] c,slots:=#[] } →
    (∀ v h' tk,Pv (argBest bt (n - 1)) v→(∀ b o,b ∉ wr→b ≠ S→s.heap.get? b=some o→h'.get? b=some o)→Z (.ok (.ret v)) { s with heap:=h',toks:=tk }) →
    codeAny (model P w) B (.builtin "max.loop" ⟨[.ref J,.none,.ref S],[("default",df)]⟩) Z s:=by
  have nw:S ∉ wr:=fun z=>nS (W.sub _ z)
  intro r
  induction r with
  | zero =>
    intro i s best c hr st pb atS fin
    have ei:i + 1=n:=hr
    refine codeAny_builtin F.entry_max_loop ((Around.under_plainId F.plain_max_loop (A:=B) _).symm ▸ ?_)
    refine wpAny_bind (wpAny_seqItems atS rfl (wpAny_bind (wpAny_tryCatch (W.done s _ _ (ei ▸ st) fun h1 tk kp=>?_))))
    have atS1:=kp S _ nw atS
    refine wpAny_bind (wpAny_updateSeq atS1 rfl (wpAny_bind (wpAny_letGo (wpAny_pure (fin best _ tk ?_ fun b o g1 g2 e=>?_)))))
    · rw [← ei]; exact pb
    · exact (Heap.get?_update_other _ _ (Ne.symm g2)).trans (kp b o g1 e)
  | succ r ih =>
    intro i s best c hr st pb atS fin
    have lt:i + 1 < n:=by omega
    refine codeAny_builtin F.entry_max_loop ((Around.under_plainId F.plain_max_loop (A:=B) _).symm ▸ ?_)
    refine wpAny_bind (wpAny_seqItems atS rfl (wpAny_bind (wpAny_tryCatch (W.item (i + 1) s _ _ lt st fun v h1 tk pv st1 kp=>?_))))
    have atS1:=kp S _ nw atS
    refine wpAny_bind (wpAny_pure (wpAny_bind (wpAny_tryCatch (wpAny_holding (wpAny_bind (cmp (i + 1) (argBest bt i) v best _ _ _ pv pb (wpAny_bind (wpAny_holding (wpAny_truthy_bool (wpAny_bind (wpAny_letGo (wpAny_pure ?_))))))))))))
    cases hb:bt (i + 1) (argBest bt i) with
    | true =>
      simp only [if_true]
      refine wpAny_bind (wpAny_updateSeq atS1 rfl (wpAny_bind (wpAny_letGo ?_)))
      rw [zhT]
      refine wpAny_pure ⟨plainId_quiet F.plain_max_loop _,ih (i + 1) _ v _ (by omega) (W.frame _ _ _ st1 fun b g o e=>(Heap.get?_update_other _ _ (fun z:S=b=>nS (z ▸ g))).trans e) ?_ (Heap.get?_update_self _ atS1 rfl) fun v2 h2 tk2 p2 k2=>?_⟩
      · simp only [argBest,hb,if_true]; exact pv
      · exact fin v2 h2 tk2 p2 fun b o g1 g2 e=>k2 b o g1 g2 ((Heap.get?_update_other _ _ (Ne.symm g2)).trans (kp b o g1 e))
    | false =>
      simp only [Bool.false_eq_true,if_false]
      refine wpAny_bind (wpAny_letGo ?_)
      rw [zhT]
      refine wpAny_pure ⟨plainId_quiet F.plain_max_loop _,ih (i + 1) _ best c (by omega) st1 ?_ atS1 fun v2 h2 tk2 p2 k2=>?_⟩
      · simp only [argBest,hb,Bool.false_eq_true,if_false]; exact pb
      · exact fin v2 h2 tk2 p2 fun b o g1 g2 e=>k2 b o g1 g2 (kp b o g1 e)
theorem znw (W:Walks P w B.in1 J fp wr n Pv Sn) (bt:Nat→Nat→Bool) (cmp:CmpOf P w B.in1 .Gt Pv bt) (nS:S ∉ fp) (df:Value) {s:Shared} {c:Nat} (st:Sn 0 s.heap) (atS:s.heap.get? S=some { cls:=.type "list",dict:=none,data:=.seq #[] c,slots:=#[] })
    (f0:n=0→∀ h' tk,(∀ b o,b ∉ wr→b ≠ S→s.heap.get? b=some o→h'.get? b=some o)→Z (.ok (.ret df)) { s with heap:=h',toks:=tk })
    (fin:0 < n→∀ v h' tk,Pv (argBest bt (n - 1)) v→(∀ b o,b ∉ wr→b ≠ S→s.heap.get? b=some o→h'.get? b=some o)→Z (.ok (.ret v)) { s with heap:=h',toks:=tk }) :
    codeAny (model P w) B (.builtin "max.loop" ⟨[.ref J,.none,.ref S],[("default",df)]⟩) Z s:=by
  have nw:S ∉ wr:=fun z=>nS (W.sub _ z)
  refine codeAny_builtin F.entry_max_loop ((Around.under_plainId F.plain_max_loop (A:=B) _).symm ▸ ?_)
  refine wpAny_bind (wpAny_seqItems atS rfl ?_)
  by_cases h0:n=0
  · refine wpAny_bind (wpAny_tryCatch (W.done s _ _ (h0 ▸ st) fun h1 tk kp=>?_))
    exact wpAny_bind (wpAny_rule (wpAny_pure (f0 h0 h1 tk fun b o g1 _ e=>kp b o g1 e)))
  · have hp:0 < n:=by omega
    refine wpAny_bind (wpAny_tryCatch (W.item 0 s _ _ hp st fun v h1 tk pv st1 kp=>?_))
    have atS1:=kp S _ nw atS
    refine wpAny_bind (wpAny_pure (wpAny_bind (wpAny_updateSeq atS1 rfl ?_)))
    rw [zhT]
    refine wpAny_pure ⟨plainId_quiet F.plain_max_loop _,zq3 W bt cmp nS df (n - 1) 0 _ v _ (by omega) (W.frame _ _ _ st1 fun b g o e=>(Heap.get?_update_other _ _ (fun z:S=b=>nS (z ▸ g))).trans e) pv (Heap.get?_update_self _ atS1 rfl) fun v2 h2 tk2 p2 k2=>?_⟩
    exact fin hp v2 h2 tk2 p2 fun b o g1 g2 e=>k2 b o g1 g2 ((Heap.get?_update_other _ _ (Ne.symm g2)).trans (kp b o g1 e))
end
section
variable {P:Program} {w:World} {B:Around} {E:Value→Shared→Prop} {s:Shared} {Q:Value→Shared→Prop} {l:Addr} {xs:Array (Int × Tok)} {df:Value}
theorem zoV (a b:Value):argsOk "max" ⟨[a],[("default",b)]⟩:=by
  unfold argsOk
  kernel_rfl
theorem zpE (hh:B.handled=none) (hl:s.heap.IsList l (intItems xs)) (f0:xs.size=0→∀ h' tk,(∀ b o,s.heap.get? b=some o→h'.get? b=some o)→Q df { s with heap:=h',toks:=tk })
    (fin:0 < xs.size→∀ v h' tk,(intItems xs)[argBest (fun i j=>decide (numAt xs i > numAt xs j)) (xs.size - 1)]?=some v→(∀ b o,s.heap.get? b=some o→h'.get? b=some o)→Q v { s with heap:=h',toks:=tk }) :
    wpAny (model P w) B (call (.builtin "max") [.ref l] [("default",df)]) Q E s:=by
  have main:wpAny (model P w) B.in1 (Builtin.«max» ⟨[.ref l],[("default",df)]⟩) (fun r s'=>match r with
      | .done f=>(match (Except.ok f:Result) with | .ok (.ret v)=>Q v s' | .ok _=>False | .error e=>E e s')
      | .again c'=>c'.quiet=true∧codeAny (model P w) B c' (fun r s'=>match r with | .ok (.ret v)=>Q v s' | .ok _=>False | .error e=>E e s') s') E s:=by
    show wpAny _ B.in1 (Builtin.Builtins.bindParams "max" ["key","default"] 0 ⟨[],[("default",df)]⟩ >>= _) _ _ s
    refine wpAny_bind (wpAny_of_eq (show Builtin.Builtins.bindParams "max" ["key","default"] 0 ⟨[],[("default",df)]⟩=pure [none,some df] from rfl) (wpAny_bind (wpAny_pure (wpAny_bind (iter_intList hl fun s2 e st below ne=>?_)))))
    subst e
    refine wpAny_bind (wpAny_newObj_type ?_)
    rw [zhT]
    have out:∀ b ∈ [s.heap.objs.size,l],b ≠ (s.heap.push { cls:=.type "list_iterator",data:=.fields #[.ref l,.int 0 0] }).objs.size:=fun b hb z=>absurd (below b hb) (by rw [z]; exact Nat.lt_irrefl _)
    have W:=Walks.list (prog:=P) (w:=w) (A:=B.in1) hh s.heap.objs.size l ne (intItems xs)
    refine wpAny_pure ⟨plainId_quiet F.plain_max_loop _,znw W _ (CmpOf.ints_gt (numAt xs) (fun _ _=>intItems_at)) (fun z=>out _ z rfl) df (W.frame _ _ _ st fun b _ o e=>Heap.get?_push_of_some _ e) (Heap.get?_push_size _ rfl) (fun h0 h' tk kp=>?_) fun hp v h' tk pv kp=>?_⟩
    · refine f0 (by simpa [intItems] using h0) h' tk fun b o e=>?_
      have e1:=Heap.get?_push_of_some { cls:=.type "list_iterator",data:=.fields #[.ref l,.int 0 0] } e
      exact kp b o (fun z => by have : b = s.heap.objs.size := by simpa using z
                                exact Nat.lt_irrefl _ (this ▸ Heap.lt_size e)) (Nat.ne_of_lt (Heap.lt_size e1)) (Heap.get?_push_of_some _ e1)
    · refine fin (by simpa [intItems] using hp) v h' tk (by simpa [intItems] using pv) fun b o e=>?_
      have e1:=Heap.get?_push_of_some { cls:=.type "list_iterator",data:=.fields #[.ref l,.int 0 0] } e
      exact kp b o (fun z => by have : b = s.heap.objs.size := by simpa using z
                                exact Nat.lt_irrefl _ (this ▸ Heap.lt_size e)) (Nat.ne_of_lt (Heap.lt_size e1)) (Heap.get?_push_of_some _ e1)
  refine wpAny_call (codeAny_call_builtin F.plain_max F.entry_max ?_)
  simp only [checkBuiltinCall,F.kind_max]
  cases sg:Manifest.signature? "max" with
  | none=>exact wpAny_pure main
  | some q =>
    have ok:=zoV (.ref l) df
    simp only [argsOk,sg] at ok
    show wpAny _ B.in1 (Bind.checkArgs "max" q ⟨[.ref l],[("default",df)]⟩) _ _ s
    rw [show Bind.checkArgs "max" q ⟨[.ref l],[("default",df)]⟩=pure () from ok]
    exact wpAny_pure main
end
end L2
namespace L2
open PySem PySem.Spec PyProof.Rows
def zpY (ta:TA) (td:TE):TE:=fun σ H Q=>ta σ H fun vs H1=>(zdl td tNil) σ H1 fun zs H2=>∃ (y:V) (a:Addr) (ns:List Int),zs = [y]∧vs = [.ref a]∧Rd H2 a (.lst (ns.map V.int))∧Q (match ns with | []=>y | n :: l=>.int (PM.maxI l n)) H2
theorem maxI_ge:∀ (l:List Int) (m:Int),m ≤ PM.maxI l m∧(∀ a ∈ l,a ≤ PM.maxI l m)∧(PM.maxI l m=m∨PM.maxI l m ∈ l)
  | [],m=>⟨Int.le_refl _,fun _ h=>(by cases h),.inl rfl⟩
  | a :: l,m=>by
    obtain ⟨h1,h2,h3⟩:=maxI_ge l (if a > m then a else m)
    unfold PM.maxI
    have e:(if a > m then a else m)=a∧a > m∨(if a > m then a else m)=m∧¬ a > m:=by split <;> simp_all
    refine ⟨by omega,fun b hb=>?_,?_⟩
    · rcases List.mem_cons.mp hb with rfl | hb
      · omega
      · exact h2 b hb
    · rcases h3 with h3 | h3
      · rcases e with ⟨e,_⟩ | ⟨e,_⟩
        · exact .inr (by rw [h3,e]; exact List.mem_cons_self)
        · exact .inl (by rw [h3,e])
      · exact .inr (List.mem_cons_of_mem _ h3)
section
variable {X:Cx}
theorem zlk {e d:Expr} {ta:TA} {td:TE} {p pos kp:Pos} (hc:X.calm=true) (hg:Gl X "max") (hm:X.mg "max"=none) (ha:PA X [e] ta) (hd:PE X d td)
    (he:backTo pos (starEach [e] X.env)=(false,eval e X.env) :: backTo pos (starEach [] X.env):=by rfl) (hpl:(backTo pos (starEach [e] X.env)).any (·.1)=false:=by rfl):PE X (.Call (.Name "max" p) [e] [⟨some "default",d,kp⟩] pos) (zpY ta td):=by
  intro pins s σ H Q I h
  refine wpAny_Call_Name_kw (zej I hg hm boot_max ?_)
  refine callWith_kw (thn (ha pos pins s σ H _ I h) fun us s1 ⟨vs,H1,I1,r1,q1⟩=>?_) he hpl
  refine thn (zpu hd zpO pos pins s1 σ H1 _ I1 q1) fun ws s2 ⟨zs,H2,I2,rz,y,a,ns,e1,e2,hq,q⟩=>?_
  subst e1 e2
  obtain ⟨u,rfl,rx⟩:=zdv r1
  cases rx
  obtain ⟨df,rfl,ry⟩:=zdv rz
  obtain ⟨z,its,n,rv,eh⟩:=hq.ok I2.hok
  obtain ⟨ts,rfl,htl⟩:∃ ts:List Tok,its=(ns.zip ts).map (fun p=>Value.int p.1 p.2)∧ts.length=ns.length:=by
    clear eh hq q z
    induction ns generalizing its with
    | nil=>cases rv; exact ⟨[],rfl,rfl⟩
    | cons a l ih =>
      cases rv with
      | cons h t =>
        obtain ⟨tk,rfl⟩:=h
        obtain ⟨ts,rfl,hl⟩:=ih _ t
        exact ⟨tk :: ts,rfl,by simp [hl]⟩
  have ei:((ns.zip ts).map (fun p=>Value.int p.1 p.2)).toArray=intItems (ns.zip ts).toArray:=by simp [intItems]
  rw [ei] at eh
  have en:∀ j,numAt (ns.zip ts).toArray j=ns.getD j 0:=fun j=>by
    rw [numAt_eq]
    have:(ns.zip ts).map (·.1)=ns:=List.map_fst_zip (by omega)
    show ((ns.zip ts).map (·.1)).getD j 0=_
    rw [this]
  have esz:(ns.zip ts).toArray.size=ns.length:=by simp; omega
  show wpAny _ _ (call (.builtin "max") [.ref a] [("default",df)]) _ _ s2
  refine zpE (I2.ok.hd hc) ⟨_,eh,rfl,n,rfl⟩ (fun h0 h' tk hk=>?_) fun hp v h' tk hv hk=>?_
  · rw [esz] at h0
    have:ns = []:=List.length_eq_zero_iff.mp h0
    subst this
    exact ⟨y,H2,I2.kept (t':=tk) hk,ry,q⟩
  · rw [esz] at hp
    cases ns with
    | nil=>simp at hp
    | cons m l =>
      obtain ⟨t,rfl⟩:=intItems_at hv
      refine ⟨.int (PM.maxI l m),H2,I2.kept (t':=tk) hk,⟨t,?_⟩,q⟩
      congr 1
      obtain ⟨g1,g2⟩:=argBest_gt (numAt ((m :: l).zip ts).toArray) (((m :: l).zip ts).toArray.size - 1)
      obtain ⟨k1,k2,k3⟩:=maxI_ge l m
      have lb:∀ a ∈ m :: l,a ≤ numAt ((m :: l).zip ts).toArray (argBest (fun i j=>decide (numAt ((m :: l).zip ts).toArray i > numAt ((m :: l).zip ts).toArray j)) (((m :: l).zip ts).toArray.size - 1)):=fun a ha=>by
        obtain ⟨j,hj,ej⟩:=List.getElem_of_mem ha
        have:=g2 j (by rw [esz]; omega)
        rw [en j,List.getD_eq_getElem?_getD,List.getElem?_eq_getElem hj,ej] at this
        exact this
      have ub:numAt ((m :: l).zip ts).toArray (argBest (fun i j=>decide (numAt ((m :: l).zip ts).toArray i > numAt ((m :: l).zip ts).toArray j)) (((m :: l).zip ts).toArray.size - 1)) ≤ PM.maxI l m:=by
        generalize argBest (fun i j=>decide (numAt ((m :: l).zip ts).toArray i > numAt ((m :: l).zip ts).toArray j)) (((m :: l).zip ts).toArray.size - 1)=j at g1
        rw [en j]
        rw [esz] at g1
        have hj:j < (m :: l).length:=by omega
        have hm:(m :: l).getD j 0 ∈ m :: l:=by rw [List.getD_eq_getElem?_getD,List.getElem?_eq_getElem hj]; exact List.getElem_mem hj
        rcases List.mem_cons.mp hm with z | z
        · rw [z]; exact k1
        · exact k2 _ z
      have hm:PM.maxI l m ∈ m :: l:=k3.elim (fun z=>by rw [z]; exact List.mem_cons_self) fun z=>List.mem_cons_of_mem _ z
      exact Int.le_antisymm ub (lb _ hm)
end
end L2
namespace PM
open PySem L2
section
variable {K:Kx} {XO:XOT} {E:L2.St→XK} {td te:TE} {md me:En→R D}
theorem zk9 {ds:List D} {d r:D} (h:zh7 ds d=some r):∃ ns:List Int,ds = [.lst (ns.map .int)]∧r=match ns with | []=>d | n :: l=>.int (maxI l n):=by
  unfold zh7 at h
  split at h
  · cases h; exact ⟨[],rfl,rfl⟩
  · rename_i a l
    cases z:asIs l with
    | none=>rw [z] at h; cases h
    | some ns=>rw [z] at h; cases h; exact ⟨a :: ns,by rw [zcx z]; rfl,rfl⟩
  · cases h
theorem zll {tl:TA} {ml:En→R (List D)} (hl:SAr K XO E tl ml) (hd:SE K XO E td md):SE K XO E (zpY tl td) (zk4 ml md):=by
  intro Λ F0 H0 F H σ δ Q I a
  refine hl Λ F0 H0 F H σ δ _ I (a.bind.imp fun ds F1 H1 e1 a1 vs r=>?_)
  refine hd Λ F0 H0 F1 H1 σ δ _ (I.grow e1) (a1.bind.imp fun d F2 H2 e2 a2 y ry=>?_)
  cases q:zh7 ds d with
  | none=>rw [q] at a2; exact a2.elim
  | some z =>
    rw [q] at a2
    obtain ⟨ns,rfl,rfl⟩:=zk9 q
    cases r with
    | cons r r' =>
      cases r'
      obtain ⟨p,xs,rfl,h1,h2⟩:=r
      have ex:=zce h2
      subst ex
      refine ⟨y,p,ns,rfl,rfl,PM.Same.rd e2.hh h1,a2 F2 H2 (.refl e2.fh) _ ?_⟩
      cases ns with
      | nil=>exact ry
      | cons n l=>simp only [Rep]
end
end PM
namespace L2
open PySem PySem.Spec PyProof.Rows
section
variable {X:Cx}
theorem zra {o:Expr} {m:Str} {apos:Pos} {e f:Expr} {cpos:Pos} (h1:attributeBase o m X.env (eval o X.env)=eval o X.env:=by rfl)
    (h2:((backTo cpos (starEach [e,f] X.env)).all (fun x=>!x.1) && (backToKw cpos (keywordEach [] X.env)).all (fun x=>x.1.isSome) && decide (([e,f]:List Expr).length + ([]:List Keyword).length + (if ([]:List Keyword).isEmpty then 0 else 1) < 30))=true:=by rfl)
    (h3:(apos.endLine == cpos.line)=true:=by rfl) (h4:backTo cpos (starEach [e,f] X.env) = [(false,eval e X.env),(false,eval f X.env)]:=by rfl):M2 X o m apos e f cpos:=⟨h1,h2,h3,h4⟩
end
end L2
namespace PM
open PySem L2
section
variable {K:Kx} {XO:XOT} {E:L2.St→XK} {td ty tx:TE} {md my mx:En→R D}
def zq5:D→Option (List Key × List D)
  | .dct ks l=>some (ks,l)
  | _=>none
def zmf (md my mx:En→R D) (δ:En):R D:=(md δ).bind fun d=>(R.of (zq5 d)).bind fun p=>(my δ).bind fun k=>(mx δ).bind fun x=>R.of ((asK k).map fun k=>(getK p.1 p.2 k).getD x)
theorem zpl (hd:SEr K XO E td md) (hy:SE K XO E ty my) (hx:SE K XO E tx mx):SE K XO E (zoE td ty tx) (zmf md my mx):=by
  intro Λ F0 H0 F H σ δ Q I a
  refine hd Λ F0 H0 F H σ δ _ I (a.bind.imp fun d F1 H1 e1 a1 x rx=>?_)
  cases d with
  | dct ks l =>
    have rx':=rx
    obtain ⟨p,kvs,rfl,h1,_⟩:=rx'
    refine ⟨p,rfl,.inl ⟨kvs,.inl h1⟩,?_⟩
    change Aft E XO σ F1 H1 _ ((my δ).bind fun k=>(mx δ).bind fun x=>R.of ((asK k).map fun k=>(getK ks l k).getD x)) at a1
    refine hy Λ F0 H0 F1 H1 σ δ _ (I.grow e1) (a1.bind.imp fun k F2 H2 e2 a2 y ry=>?_)
    refine hx Λ F0 H0 F2 H2 σ δ _ ((I.grow e1).grow e2) (a2.bind.imp fun xd F3 H3 e3 a3 z rz=>?_)
    cases q:asK k with
    | none=>rw [q] at a3; exact a3.elim
    | some key =>
      rw [q] at a3
      obtain ⟨p',o,ep,g,g1,g2⟩:=znB (k:=key) ((rx.mono e2.ff e2.hh).mono e3.ff e3.hh)
      cases ep
      cases zlb q ry
      refine ⟨o,g,a3 F3 H3 (.refl e3.fh) _ ?_⟩
      cases w:getK ks l key with
      | none=>rw [g2 w]; simpa only [w,Option.getD_none] using rz
      | some dd=>obtain ⟨v,rfl,r⟩:=g1 dd w; simpa only [w,Option.getD_some] using r
  | _=>exact a1.elim
end
end PM
namespace L2
open PySem PySem.Spec PyProof.Rows
section
variable {X:Cx}
def zph (ta:TA):TE:=fun σ H Q=>ta σ H fun vs H1=>∃ j:Int,vs = [.int j]∧∀ r,H1 r=none→Q (.ref r) (upd H1 r (.rng 0 j))
theorem zlj {a:Expr} {ta:TA} {p pos:Pos} (hg:Gl X "range") (hm:X.mg "range"=none) (ha:PA X [a] ta) (hs:starEach [a] X.env = [(false,eval a X.env)]:=by rfl):PE X (.Call (.Name "range" p) [a] [] pos) (zph ta):=by
  intro pins s σ H Q I h
  refine Call_ (zej I hg hm boot_range (PyProof.Rows.callWith_type1 (thn (ha pos pins s σ H _ I h) fun us s1 ⟨vs,H1,I1,r1,q1⟩=>?_) hs rfl))
  obtain ⟨j,e,q⟩:=q1
  subst e
  obtain ⟨u,rfl,t,rfl⟩:=zdv r1
  refine call_range_1 ⟨.ref s1.heap.objs.size,_,?_,rfl,q _ (I1.hok.fresh (Nat.le_refl _))⟩
  exact I1.laid (fun b o e=>Heap.get?_push_of_some _ e) (Nat.le_refl _) ⟨_,_,_,Heap.get?_push_size _ rfl⟩
def zoD:List V→Hp→VK→Prop:=fun xs H Q=>∃ (r:Addr) (j:Int),xs = [.ref r]∧H r=some (.rng 0 j)∧(0 ≤ j∧j ≤ 100000)∧∀ l,H l=none→Q (.ref l) (upd H l (.lst ((List.range j.toNat).map fun k:Nat=>.int (k:Int))))
theorem zkC (hc:X.calm=true):zdr X (.type "list") zoD:=by
  intro pins s σ H xs us Q I r h
  obtain ⟨ra,j,rfl,hr,hj,q⟩:=h
  obtain ⟨u,rfl,rx⟩:=zdv r
  cases rx
  obtain ⟨t1,t2,t3,e⟩:=I.hok ra _ hr
  have sz:Builtin.Range.rangeSize 0 j 1=(j.toNat:Int):=by rw [rangeSize_one]; split <;> omega
  refine call_list_range (I.ok.hd hc) e (small_one (by decide) (by decide) (by omega) (by omega)) sz (by omega) fun h' tk acc c' kp hl items=>?_
  refine ⟨.ref s.heap.objs.size,_,?_,rfl,q _ (I.hok.fresh (Nat.le_refl _))⟩
  obtain ⟨i1,i2⟩:=items
  refine I.laid kp (Nat.le_refl _) ⟨(by rw [List.length_map,List.length_range]; exact Nat.le_trans (show j.toNat ≤ 100000 by omega) (show 100000 ≤ sizeLine by decide)),acc.toList,c',?_,by simpa using hl⟩
  have key:∀ (n:Nat) (l:List Value) (o:Nat),l.length=n→(∀ k v,l[k]?=some v→∃ t,v=Value.int ((o + k:Nat):Int) t)→Vals ((List.range' o n).map fun k:Nat=>V.int (k:Int)) l:=by
    intro n
    induction n with
    | zero=>intro l o h1 _; rw [List.length_eq_zero_iff.mp h1]; exact .nil
    | succ n ih =>
      intro l o h1 h2
      cases l with
      | nil=>simp at h1
      | cons v l =>
        obtain ⟨t,rfl⟩:=h2 0 v rfl
        refine .cons ⟨t,rfl⟩ (ih l (o + 1) (by simpa using h1) fun k v hk=>?_)
        obtain ⟨t',e'⟩:=h2 (k + 1) v (by simpa using hk)
        exact ⟨t',by rw [e']; congr 2; omega⟩
  have:=key j.toNat acc.toList 0 (by simpa using i1) fun k v hk=>by
    obtain ⟨t,e'⟩:=i2 k v (by simpa using hk)
    exact ⟨t,by rw [e']; congr 1; simp⟩
  rw [List.range_eq_range']
  exact this
end
end L2
namespace PM
open PySem L2
section
variable {K:Kx} {XO:XOT} {E:L2.St→XK}
def lstR (l:List D):Option D:=match l with
  | [.int j]=>ifC (0 ≤ j∧j ≤ 100000) (some (.lst ((List.range j.toNat).map fun k:Nat=>.int (k:Int)))) none
  | _=>none
def zmk (ml:En→R (List D)) (δ:En):R D:=(ml δ).bind fun l=>R.of (lstR l)
theorem zmm {l:List D} {d:D} (h:lstR l=some d):∃ j:Int,l = [.int j]∧(0 ≤ j∧j ≤ 100000)∧d = .lst ((List.range j.toNat).map fun k:Nat=>.int (k:Int)):=by
  unfold lstR at h
  split at h
  · rename_i j
    unfold ifC at h
    split at h
    · cases h; exact ⟨j,rfl,by assumption,rfl⟩
    · cases h
  · cases h
theorem zlB {tl:TA} {ml:En→R (List D)} (h:SA K XO E tl ml):SEo K XO E (tCB zoD (zdl (zph tl) tNil)) (zmk ml):=by
  intro Λ F0 H0 F H σ δ Q I a
  refine h Λ F0 H0 F H σ δ _ I (a.bind.imp fun ds F1 H1 e1 a1 vs r=>?_)
  cases q:lstR ds with
  | none=>rw [q] at a1; exact a1.elim
  | some d =>
    rw [q] at a1
    obtain ⟨j,rfl,hj,rfl⟩:=zmm q
    obtain ⟨v,rfl,rv⟩:=RepL.one r
    simp only [Rep] at rv
    subst rv
    refine ⟨j,rfl,fun ra hra=>⟨ra,j,rfl,zax,hj,fun l hl=>?_⟩⟩
    have x1:Ext F1 H1 F1 (upd H1 ra (.rng 0 j)):=.newO e1.fh hra
    have x2:=x1.trans (.newO (o:=.lst ((List.range j.toNat).map fun k:Nat=>V.int (k:Int))) x1.fh hl)
    have hl1:H1 l=none:=x1.hh.free hl
    refine a1 F1 _ x2 l (e1.fh.free hl1) (e1.hh.free hl1) ⟨_,zax,?_⟩
    have:=RepL.ints (K:=K) (F:=F1) (ns:=(List.range j.toNat).map fun k:Nat=>(k:Int))
    rw [List.map_map,List.map_map] at this
    exact this
end
end PM
namespace L2
open PySem PySem.Spec PyProof.Rows
theorem Inv.turnedL {X:Cx} {pins:List (Addr × Obj)} {σ:St} {H:Hp} {s:Shared} {h':Heap} {t':Nat} (ch:List Addr) (I:Inv X pins σ H s) (hf:∀ b ∈ ch,FpOk X pins H b) (k:∀ b o,b ∉ ch→s.heap.get? b=some o→h'.get? b=some o):Inv X pins σ H { s with heap:=h',toks:=t' }:=by
  have nit:∀ b u,H b=some u→b ∉ ch:=fun b u e z=>by
    obtain ⟨f0,_⟩:=hf b z
    rw [f0] at e; cases e
  refine I.step (g':=s.gens) (d':=s.drawn) (ch:=ch) (fun b hb=>?_) (fun b o _ _ hc e _=>k b o hc e) (fun b o _ _ hc e _=>⟨o.slots,k b o hc e⟩) (fun _ _ _ _ n=>n)
    (fun b o hc e=>⟨o,k b o hc e⟩) (fun _ _ e=>e) (fun _ _ _ e=>e) (fun b ps e=>⟨#[],by rw [e]; simp⟩) (fun m hm=>?_) (fun b u e=>?_) I.bare
  · obtain ⟨f0,f1,f2,f3,f4,f5⟩:=hf b hb
    exact ⟨f3,f1,f4,f5⟩
  · obtain ⟨o,es,ep,ho,r⟩:=hm
    refine ⟨o,es,ep,k _ o (fun z=>?_) ho,r⟩
    obtain ⟨_,f1,_⟩:=hf _ z
    exact f1 rfl
  · refine (I.hok b u e).stay (fun c v hc q=>k c v ?_ q) (fun _ q=>q) fun _ _ q=>q
    rcases hc with z | z
    · rw [z]; exact nit b u e
    · exact nit c _ z
theorem Inv.laidT {X:Cx} {pins:List (Addr × Obj)} {σ:St} {H:Hp} {s:Shared} {h':Heap} {t':Nat} (ch:List Addr) {xs:List V} {us:List Value} (I:Inv X pins σ H s) (hf:∀ b ∈ ch,FpOk X pins H b) (k:∀ b o,b ∉ ch→s.heap.get? b=some o→h'.get? b=some o)
    (hl:xs.length ≤ sizeLine) (rv:Vals xs us) (ht:h'.get? s.heap.objs.size=some { cls:=.type "tuple",data:=.seq us.toArray }):Inv X pins σ (upd H s.heap.objs.size (.tup xs)) { s with heap:=h',toks:=t' }:=by
  have hT:H s.heap.objs.size=none:=I.hok.fresh (Nat.le_refl _)
  have nit:∀ b u,H b=some u→b ∉ ch:=fun b u e z=>by
    obtain ⟨f0,_⟩:=hf b z
    rw [f0] at e; cases e
  refine I.step (h':=h') (g':=s.gens) (d':=s.drawn) (t':=t') (ch:=ch) (fun b hb=>?_) (fun b o _ _ hb q _=>k b o hb q) (fun b o _ _ hb q _=>⟨o.slots,k b o hb q⟩) (fun b o hb q n=>?_) (fun b o hb q=>⟨o,k b o hb q⟩) (fun b ys q=>?_) (fun b o ys q=>?_) (fun b ps q=>⟨#[],?_⟩) (fun m hm=>?_) ?_ I.bare
  · obtain ⟨f0,f1,f2,f3,f4,f5⟩:=hf b hb
    exact ⟨f3,f1,f4,f5⟩
  · rw [zau (Nat.ne_of_lt (Heap.lt_size q))]; exact n
  · rw [zau (zay q hT)]; exact q
  · rw [zau (zay q hT)]; exact q
  · rw [zau (zay q hT),q]; simp
  · obtain ⟨o,es',ep,ho',r⟩:=hm
    refine ⟨o,es',ep,k _ o (fun z=>?_) ho',r⟩
    obtain ⟨_,f1,_⟩:=hf _ z
    exact f1 rfl
  · intro b o q
    by_cases hb:b=s.heap.objs.size
    · subst hb
      rw [zax] at q; cases q
      exact ⟨hl,us,rv,⟨_,ht,rfl,_,rfl⟩⟩
    · rw [zau hb] at q
      refine (I.hok b o q).stay (fun c v hc' q'=>?_) (fun c q'=>by rw [zau (zay q' hT)]; exact q') fun c ys q'=>by rw [zau (zay q' hT)]; exact q'
      rcases hc' with rfl | hc'
      · exact k _ v (nit _ _ q) q'
      · exact k _ v (nit _ _ hc') q'
theorem ziI {h:Heap} {z TI TO i1 i2 a b:Addr} {f0 u v:Value} {k1 k2:Nat} {xs ys:Array Value} (hd : [z,TI,TO,i1,i2].Nodup) (h1:IsZip h z TI TO f0) (h3:IsPair h TO u v) (h4:h.IsListIter i1 a k1) (h5:h.IsListIter i2 b k2) (p:PlainL h a xs) (p':PlainL h b ys):ZipApart z TI TO i1 i2 a b:=by
  obtain ⟨o,n,e,c,_⟩:=p
  obtain ⟨o',n',e',c',_⟩:=p'
  obtain ⟨j1,g1,d1,_⟩:=h4
  obtain ⟨j2,g2,d2,_⟩:=h5
  simp only [List.nodup_cons,List.mem_cons,List.not_mem_nil,or_false,not_or,List.nodup_nil,and_true,not_false_eq_true] at hd
  obtain ⟨⟨z1,z2,z3,z4⟩,⟨y1,y2,y3⟩,⟨x1,x2⟩,w1⟩:=hd
  have q1:∀ {o:Obj} {l:Addr},h.get? l=some o→o.cls = .type "list"→l ≠ z:=fun e c r=>by subst r; rw [h1] at e; cases e; simp at c
  have q2:∀ {o:Obj} {l:Addr},h.get? l=some o→o.cls = .type "list"→l ≠ TO:=fun e c r=>by subst r; rw [h3] at e; cases e; simp at c
  have q3:∀ {o:Obj} {l:Addr},h.get? l=some o→o.cls = .type "list"→l ≠ i1:=fun e c r=>by subst r; rw [g1] at e; cases e; rw [d1] at c; simp at c
  have q4:∀ {o:Obj} {l:Addr},h.get? l=some o→o.cls = .type "list"→l ≠ i2:=fun e c r=>by subst r; rw [g2] at e; cases e; rw [d2] at c; simp at c
  exact ⟨Ne.symm z1,Ne.symm z2,Ne.symm z3,Ne.symm z4,y1,y2,y3,x1,x2,w1,q1 e c,q2 e c,q3 e c,q4 e c,q1 e' c',q2 e' c',q3 e' c',q4 e' c'⟩
def Itz (K:PySem.W.Frag) (a b:Addr):It :=
  ⟨fun i H=>∃ xs ys x y,SqL K H a xs∧SqL K H b ys∧xs[i]?=some x∧ys[i]?=some y,
   fun i H v H'=>∃ p x y,v = .ref p∧H p=none∧H'=upd H p (.tup [x,y])∧(∀ xs,SqL K H a xs→xs[i]?=some x)∧∀ ys,SqL K H b ys→ys[i]?=some y,
   fun i H=>∃ xs ys,SqL K H a xs∧SqL K H b ys∧(xs.length ≤ i∨ys.length ≤ i)⟩
theorem znr {P:Program} {w:World} {K:PySem.W.Frag} {es:List Expr} {k} {pos:Pos} (a b z TI TO i1 i2:Addr) (hd : [z,TI,TO,i1,i2].Nodup) :
    Turn P w K (.Tuple es k pos) (Itz K a b) [z,TI,TO,i1,i2] z (fun i h=>IsZip h z TI TO .none∧IsPair h TI (.ref i1) (.ref i2)∧(∃ u v,IsPair h TO u v)∧h.IsListIter i1 a i∧h.IsListIter i2 b i) where
  mem:=by simp
  obj:=fun i h st c hc=>by
    obtain ⟨h1,h2,⟨u,v,h3⟩,⟨o1,h4,c1,d1⟩,o2,h5,c2,d2⟩:=st
    simp only [List.mem_cons,List.not_mem_nil,or_false] at hc
    rcases hc with rfl | rfl | rfl | rfl | rfl
    · exact ⟨_,h1,fun v z=>by cases (show Data.fields _=Data.cell v from z)⟩
    · exact ⟨_,h2,fun v z=>by cases (show Data.seq _=Data.cell v from z)⟩
    · exact ⟨_,h3,fun v z=>by cases (show Data.seq _=Data.cell v from z)⟩
    · exact ⟨o1,h4,fun v z=>by rw [d1] at z; cases z⟩
    · exact ⟨o2,h5,fun v z=>by rw [d2] at z; cases z⟩
  keep:=fun i h h' st q=>by
    obtain ⟨h1,h2,⟨u,v,h3⟩,h4,h5⟩:=st
    exact ⟨q z (by simp) _ h1,q TI (by simp) _ h2,⟨u,v,q TO (by simp) _ h3⟩,h4.at fun o e=>q i1 (by simp) o e,h5.at fun o e=>q i2 (by simp) o e⟩
  item:=by
    intro X hP hw hK hc i pins s σ H E I hf st hg
    subst hP hw hK
    obtain ⟨xs,ys,x,y,q1,q2,hx,hy⟩:=hg
    obtain ⟨its,rv,p,hz⟩:=I.list q1
    obtain ⟨its',rv',p',hz'⟩:=I.list q2
    obtain ⟨u,hu,ru⟩:=rv.get hx
    obtain ⟨u',hu',ru'⟩:=rv'.get hy
    obtain ⟨h1,h2,⟨f,g,h3⟩,h4,h5⟩:=st
    have D:=ziI hd h1 h3 h4 h5 p p'
    have hT:H s.heap.objs.size=none:=I.hok.fresh (Nat.le_refl _)
    have nT:∀ c o,s.heap.get? c=some o→c ≠ s.heap.objs.size:=fun c o e=>Nat.ne_of_lt (Heap.lt_size e)
    refine wpAny_pyNext_zip_item D h1 h2 h3 h4 h5 p.isList p'.isList (x:=u) (y:=u') (by simpa using hu) (by simpa using hu') fun h' a1 a2 a3 a4 a5 a6 hk=>⟨_,rfl,?_⟩
    refine wpAny_letOwnedTupleGo_zip a1 fun h'' b1 hs''=>?_
    have hs2:Heap.SameBut z h' h'':=hs''
    have nzT:=nT z _ h1
    have hk2:∀ c o,c ∉ [z,TI,TO,i1,i2]→s.heap.get? c=some o→h''.get? c=some o:=fun c o hc q=>by
      simp only [List.mem_cons,List.not_mem_nil,or_false,not_or] at hc
      exact (hs2.2 c hc.1).trans (hk c o hc.1 hc.2.2.1 hc.2.2.2.1 hc.2.2.2.2 q)
    refine ⟨.ref s.heap.objs.size,upd H s.heap.objs.size (.tup [x,y]),?_,rfl,⟨_,x,y,rfl,hT,rfl,fun xs' h=>by rw [I.list_inj h q1]; exact hx,fun ys' h=>by rw [I.list_inj h q2]; exact hy⟩,
      ⟨b1,(hs2.2 _ D.TIz).trans (hk _ _ D.TIz D.TITO D.TIi1 D.TIi2 h2),⟨u,u',(hs2.2 _ D.TOz).trans a2⟩,a3.at fun o e=>(hs2.2 _ D.i1z).trans e,a4.at fun o e=>(hs2.2 _ D.i2z).trans e⟩,fun c hc=>?_⟩
    · exact I.laidT (t':=s.toks) [z,TI,TO,i1,i2] hf hk2 (by show 2 ≤ sizeLine; decide) (.cons ru (.cons ru' .nil)) ((hs2.2 _ (Ne.symm nzT)).trans a5)
    · obtain ⟨f0,_⟩:=hf c hc
      rw [zau]
      · exact f0
      · obtain ⟨o1,e4,_⟩:=h4
        obtain ⟨o2,e5,_⟩:=h5
        simp only [List.mem_cons,List.not_mem_nil,or_false] at hc
        rcases hc with rfl | rfl | rfl | rfl | rfl
        · exact nT _ _ h1
        · exact nT _ _ h2
        · exact nT _ _ h3
        · exact nT _ _ e4
        · exact nT _ _ e5
  done:=by
    intro X hP hw hK hc i pins s σ H E I hf st hg
    subst hP hw hK
    obtain ⟨xs,ys,q1,q2,he⟩:=hg
    obtain ⟨its,rv,p,hz⟩:=I.list q1
    obtain ⟨its',rv',p',hz'⟩:=I.list q2
    obtain ⟨h1,h2,⟨f,g,h3⟩,h4,h5⟩:=st
    have D:=ziI hd h1 h3 h4 h5 p p'
    have l1:=rv.length
    have l2:=rv'.length
    refine wpAny_pyNext_zip_end (I.ok.hd hc) D h1 h2 h3 h4 h5 p.isList p'.isList (he.imp (fun z=>by simp; omega) fun z=>by simp; omega) fun h' hk=>⟨rfl,?_⟩
    exact I.turnedL (t':=s.toks) [z,TI,TO,i1,i2] hf fun c o hc q=>by
      simp only [List.mem_cons,List.not_mem_nil,or_false,not_or] at hc
      exact hk c o hc.1 hc.2.2.1 hc.2.2.2.1 hc.2.2.2.2 q
  self:=fun _ _ _ _ _ st h=>wpAny_pyIter_zip st.1 h
section
variable {X:Cx}
def iZip (K:PySem.W.Frag) (ta:TA):TI:=fun σ H R=>ta σ H fun vs H1=>∃ a b,vs = [.ref a,.ref b]∧(∃ xs,SqL K H1 a xs)∧(∃ ys,SqL K H1 b ys)∧R (Itz K a b) H1
theorem zoz {es:List Expr} {k} {tp:Pos} {l l':Expr} {ta:TA} {p pos:Pos} (hg:Gl X "zip") (hm:X.mg "zip"=none) (ha:PA X [l,l'] ta) (hs:starEach [l,l'] X.env=(false,eval l X.env) :: starEach [l'] X.env:=by rfl) (hs2:(backTo pos (starEach [l'] X.env)).any (·.1)=false:=by rfl) :
    PI X (.Tuple es k tp) (.Call (.Name "zip" p) [l,l'] [] pos) (iZip X.K ta):=by
  intro pins s σ H R I h
  refine Call_ (zej I hg hm PyProof.Rows.boot_zip (PyProof.Rows.callWith_type1 (thn (ha pos pins s σ H _ I h) fun us s1 ⟨vs,H1,I1,r1,q1⟩=>?_) hs hs2))
  obtain ⟨a,b,e,⟨xs,hq⟩,⟨ys,hq'⟩,q⟩:=q1
  subst e
  obtain ⟨u,v,rfl,rx,ry⟩:=zmp r1
  cases rx
  cases ry
  obtain ⟨its,rv,pl,hz⟩:=I1.list hq
  obtain ⟨its',rv',pl',hz'⟩:=I1.list hq'
  refine call_zip_2 pl.isList pl'.isList fun h' c1 c2 c3 c4 c5 hsz hk=>?_
  have I2:Inv X pins σ H1 { s1 with heap:=h' }:=I1.kept (t':=s1.toks) hk
  obtain ⟨m,em⟩:∃ m,m=s1.heap.objs.size:=⟨_,rfl⟩
  have hnd : [m + 4,m + 2,m + 3,m,m + 1].Nodup:=by simp
  rw [← em] at c1 c2 c3 c4 c5 ⊢
  refine wpAny_pyIter_zip c1 ⟨m + 4,[m + 4,m + 2,m + 3,m,m + 1],_,_,H1,rfl,I2,znr a b _ _ _ _ _ hnd,⟨c1,c2,⟨_,_,c3⟩,c4,c5⟩,fun d hd=>?_,q⟩
  have hd':s1.heap.objs.size ≤ d:=by
    simp only [List.mem_cons,List.not_mem_nil,or_false] at hd
    rcases hd with rfl | rfl | rfl | rfl | rfl <;> omega
  exact I1.fpOk hd' (I1.hok.fresh hd')
end
end L2
namespace PM
open PySem L2
section
variable {K:Kx} {XO:XOT} {E:L2.St→XK}
def zipD (l r:List D):List D:=List.zipWith (fun x y=>.tup [x,y]) l r
def zip1:List D→Option (List D)
  | [x,y]=>(asL' x).bind fun l=>(asL' y).map (zipD l)
  | _=>none
def mZip (ml:En→R (List D)) (δ:En):R (List D):=(ml δ).bind fun l=>R.of (zip1 l)
theorem zmX {l r:List D} (h:zip1 l=some r):∃ x y,l = [.lst x,.lst y]∧r=zipD x y:=by
  match l,h with
  | [x,y],h =>
    cases x with
    | lst x =>
      cases y with
      | lst y=>cases h; exact ⟨x,y,rfl,rfl⟩
      | _=>cases h
    | _=>cases h
theorem znP {a b:Addr} {ds es:List D} {vs ws:List V} {F1:Hp} {P:Hp→Hp→Prop} (r:RepL K F1 ds vs) (r':RepL K F1 es ws) (h:∀ F2 H2,P F2 H2→Same F1 F2∧Same F2 H2∧SqL K.f H2 a vs∧SqL K.f H2 b ws):IsIt K (Itz K.f a b) P (zipD ds es):=by
  intro F2 H2 p i
  obtain ⟨s1,s2,q,q'⟩:=h F2 H2 p
  unfold zipD
  rw [List.getElem?_zipWith]
  refine ⟨fun d hd=>?_,fun hn=>?_⟩
  · cases e:ds[i]? with
    | none=>rw [e] at hd; cases hd
    | some x =>
      cases e':es[i]? with
      | none=>rw [e,e'] at hd; cases hd
      | some y =>
        rw [e,e'] at hd
        cases hd
        obtain ⟨v,hv,rv⟩:=r.get e
        obtain ⟨w,hw,rw'⟩:=r'.get e'
        refine ⟨⟨vs,ws,v,w,q,q',hv,hw⟩,fun x' H' y=>?_⟩
        obtain ⟨p',x1,y1,rfl,hp,rfl,z1,z2⟩:=y
        have z:=z1 vs q
        rw [hv] at z; cases z
        have z:=z2 ws q'
        rw [hw] at z; cases z
        refine ⟨_,.new s2 hp,?_⟩
        simp only [Rep]
        have m:=s1.trans (Same.upd (u:=.tup [v,w]) (s2.free hp))
        exact ⟨p',_,rfl,zax,.cons (Rep.mono m _ rv) (.cons (Rep.mono m _ rw') .nil)⟩
  · cases e:ds[i]? with
    | none=>exact ⟨vs,ws,q,q',.inl (by rw [r.length]; exact List.getElem?_eq_none_iff.mp e)⟩
    | some x =>
      cases e':es[i]? with
      | none=>exact ⟨vs,ws,q,q',.inr (by rw [r'.length]; exact List.getElem?_eq_none_iff.mp e')⟩
      | some y=>rw [e,e'] at hn; cases hn
theorem zox {tl:TA} {ml:En→R (List D)} (h:SA K XO E tl ml):SI K XO E (iZip K.f tl) (mZip ml):=by
  intro Λ F0 H0 F H σ δ R I a
  refine h Λ F0 H0 F H σ δ _ I (a.bind.imp fun ds F1 H1 e1 a1 vs r=>?_)
  cases q:zip1 ds with
  | none=>rw [q] at a1; exact a1.elim
  | some z =>
    rw [q] at a1
    obtain ⟨l,l',rfl,rfl⟩:=zmX q
    obtain ⟨v,w,rfl,r1,r2⟩:=RepL.two r
    simp only [Rep] at r1 r2
    obtain ⟨a,vs,rfl,h1,h2⟩:=r1
    obtain ⟨b,ws,rfl,h3,h4⟩:=r2
    exact ⟨a,b,rfl,⟨vs,.inl (PM.Same.rd e1.fh h1)⟩,⟨ws,.inl (PM.Same.rd e1.fh h3)⟩,a1 F1 H1 (.refl e1.fh) _ (znP h2 h4 fun F2 H2 x=>⟨x.1,x.2,.inl (PM.Same.rd x.2 (PM.Same.rd x.1 h1)),.inl (PM.Same.rd x.2 (PM.Same.rd x.1 h3))⟩)⟩
end
end PM
namespace PM
def minI:List Int→Int→Int
  | [],m=>m
  | a :: l,m=>minI l (if a < m then a else m)
end PM
namespace L2
open PySem PySem.Spec PyProof.Rows
theorem minI_le:∀ (l:List Int) (m:Int),PM.minI l m ≤ m∧(∀ a ∈ l,PM.minI l m ≤ a)∧(PM.minI l m=m∨PM.minI l m ∈ l)
  | [],m=>⟨Int.le_refl _,fun _ h=>(by cases h),.inl rfl⟩
  | a :: l,m=>by
    obtain ⟨h1,h2,h3⟩:=minI_le l (if a < m then a else m)
    unfold PM.minI
    have e:(if a < m then a else m)=a∧a < m∨(if a < m then a else m)=m∧¬ a < m:=by split <;> simp_all
    refine ⟨by omega,fun b hb=>?_,?_⟩
    · rcases List.mem_cons.mp hb with rfl | hb
      · omega
      · exact h2 b hb
    · rcases h3 with h3 | h3
      · rcases e with ⟨e,_⟩ | ⟨e,_⟩
        · exact .inr (by rw [h3,e]; exact List.mem_cons_self)
        · exact .inl (by rw [h3,e])
      · exact .inr (List.mem_cons_of_mem _ h3)
section
variable {X:Cx}
def zpi (f:List Int→Int→Int):List V→Hp→VK→Prop:=fun xs H Q=>∃ (p:Addr) (n:Int) (l:List Int),xs = [.ref p]∧Rd H p (.lst ((n :: l).map V.int))∧Q (.int (f l n)) H
theorem zj2 {ns:List Int} {its:List Value} (rv:Vals (ns.map V.int) its):∃ ts:List Tok,its.toArray=intItems (ns.zip ts).toArray∧(ns.zip ts).toArray.size=ns.length∧∀ j,numAt (ns.zip ts).toArray j=ns.getD j 0:=by
  obtain ⟨ts,rfl,htl⟩:∃ ts:List Tok,its=(ns.zip ts).map (fun p=>Value.int p.1 p.2)∧ts.length=ns.length:=by
    induction ns generalizing its with
    | nil=>cases rv; exact ⟨[],rfl,rfl⟩
    | cons a l ih =>
      cases rv with
      | cons h t =>
        obtain ⟨tk,rfl⟩:=h
        obtain ⟨ts,rfl,hl⟩:=ih t
        exact ⟨tk :: ts,rfl,by simp [hl]⟩
  refine ⟨ts,by simp [intItems],by simp; omega,fun j=>?_⟩
  rw [numAt_eq]
  have:(ns.zip ts).map (·.1)=ns:=List.map_fst_zip (by omega)
  show ((ns.zip ts).map (·.1)).getD j 0=_
  rw [this]
theorem znl {m:Int} {l:List Int} {f:Nat→Int} (hf:∀ j,f j=(m :: l).getD j 0):f (argBest (fun i j=>decide (f i > f j)) ((m :: l).length - 1))=PM.maxI l m:=by
  obtain ⟨g1,g2⟩:=argBest_gt f ((m :: l).length - 1)
  obtain ⟨k1,k2,k3⟩:=maxI_ge l m
  generalize argBest (fun i j=>decide (f i > f j)) ((m :: l).length - 1)=j at *
  have hj:j < (m :: l).length:=by have:(m :: l).length=l.length + 1:=rfl; omega
  have hm:(m :: l).getD j 0 ∈ m :: l:=by rw [List.getD_eq_getElem?_getD,List.getElem?_eq_getElem hj]; exact List.getElem_mem hj
  rw [← hf j] at hm
  refine Int.le_antisymm ?_ ?_
  · rcases List.mem_cons.mp hm with z | z
    · rw [z]; exact k1
    · exact k2 _ z
  · have hx:PM.maxI l m ∈ m :: l:=k3.elim (fun z=>by rw [z]; exact List.mem_cons_self) fun z=>List.mem_cons_of_mem _ z
    obtain ⟨i,hi,ei⟩:=List.getElem_of_mem hx
    have:=g2 i (by have:(m :: l).length=l.length + 1:=rfl; omega)
    rw [hf i,List.getD_eq_getElem?_getD,List.getElem?_eq_getElem hi,ei] at this
    exact this
theorem znR {m:Int} {l:List Int} {f:Nat→Int} (hf:∀ j,f j=(m :: l).getD j 0):f (argBest (fun i j=>decide (f i < f j)) ((m :: l).length - 1))=PM.minI l m:=by
  obtain ⟨g1,g2⟩:=argBest_lt f ((m :: l).length - 1)
  obtain ⟨k1,k2,k3⟩:=minI_le l m
  generalize argBest (fun i j=>decide (f i < f j)) ((m :: l).length - 1)=j at *
  have hj:j < (m :: l).length:=by have:(m :: l).length=l.length + 1:=rfl; omega
  have hm:(m :: l).getD j 0 ∈ m :: l:=by rw [List.getD_eq_getElem?_getD,List.getElem?_eq_getElem hj]; exact List.getElem_mem hj
  rw [← hf j] at hm
  refine Int.le_antisymm ?_ ?_
  · have hx:PM.minI l m ∈ m :: l:=k3.elim (fun z=>by rw [z]; exact List.mem_cons_self) fun z=>List.mem_cons_of_mem _ z
    obtain ⟨i,hi,ei⟩:=List.getElem_of_mem hx
    have:=g2 i (by have:(m :: l).length=l.length + 1:=rfl; omega)
    rw [hf i,List.getD_eq_getElem?_getD,List.getElem?_eq_getElem hi,ei] at this
    exact this
  · rcases List.mem_cons.mp hm with z | z
    · rw [z]; exact k1
    · exact k2 _ z
theorem zeV (hc:X.calm=true):zdr X (.builtin "max") (zpi PM.maxI):=by
  intro pins s σ H xs us Q I r h
  obtain ⟨p,m,l,rfl,hq,q⟩:=h
  obtain ⟨u,rfl,rx⟩:=zdv r
  cases rx
  obtain ⟨z,its,n,rv,e⟩:=hq.ok I.hok
  obtain ⟨ts,e1,e2,e3⟩:=zj2 rv
  rw [e1] at e
  refine max_intList (I.ok.hd hc) ⟨_,e,rfl,n,rfl⟩ (by rw [e2]; simp) fun v h' tk hv hk=>?_
  obtain ⟨t,rfl⟩:=intItems_at hv
  refine ⟨.int (PM.maxI l m),H,I.kept (t':=tk) hk,⟨t,?_⟩,q⟩
  congr 1
  rw [e2]
  exact znl e3
theorem zmP (hc:X.calm=true):zdr X (.builtin "min") (zpi PM.minI):=by
  intro pins s σ H xs us Q I r h
  obtain ⟨p,m,l,rfl,hq,q⟩:=h
  obtain ⟨u,rfl,rx⟩:=zdv r
  cases rx
  obtain ⟨z,its,n,rv,e⟩:=hq.ok I.hok
  obtain ⟨ts,e1,e2,e3⟩:=zj2 rv
  rw [e1] at e
  refine min_intList (I.ok.hd hc) ⟨_,e,rfl,n,rfl⟩ (by rw [e2]; simp) fun v h' tk hv hk=>?_
  obtain ⟨t,rfl⟩:=intItems_at hv
  refine ⟨.int (PM.minI l m),H,I.kept (t':=tk) hk,⟨t,?_⟩,q⟩
  congr 1
  rw [e2]
  exact znR e3
end
end L2
namespace PM
open PySem L2
section
variable {K:Kx}
def zgL:List D→Option D
  | [.int i,.int j]=>some (.int (if j > i then j else i))
  | _=>none
def zmh:List D→Option D
  | [.int i,.int j]=>some (.int (if j < i then j else i))
  | _=>none
def zec (f:List Int→Int→Int):List D→Option D
  | [.lst (.int a :: l)]=>(asIs l).map fun ns=>.int (f ns a)
  | _=>none
theorem zhY:SC K (fun xs H Q=>∃ i j,xs = [.int i,.int j]∧Q (.int (if j > i then j else i)) H) zgL:=by
  intro F H vs ds d Q s r e q
  unfold zgL at e
  split at e
  · rename_i i j
    cases e
    cases r with
    | cons r r' =>
      cases r' with
      | cons r2 r3 =>
        cases r3
        simp only [Top,Rep] at r r2
        subst r r2
        exact ⟨i,j,rfl,q _ F H (.refl s) (by simp only [Rep])⟩
  · cases e
theorem zoP:SC K (fun xs H Q=>∃ i j,xs = [.int i,.int j]∧Q (.int (if j < i then j else i)) H) zmh:=by
  intro F H vs ds d Q s r e q
  unfold zmh at e
  split at e
  · rename_i i j
    cases e
    cases r with
    | cons r r' =>
      cases r' with
      | cons r2 r3 =>
        cases r3
        simp only [Top,Rep] at r r2
        subst r r2
        exact ⟨i,j,rfl,q _ F H (.refl s) (by simp only [Rep])⟩
  · cases e
theorem zkM {f:List Int→Int→Int} {ds:List D} {d:D} (h:zec f ds=some d):∃ (n:Int) (l:List Int),ds = [.lst ((n :: l).map .int)]∧d = .int (f l n):=by
  unfold zec at h
  split at h
  · rename_i a l
    cases z:asIs l with
    | none=>rw [z] at h; cases h
    | some ns=>rw [z] at h; cases h; exact ⟨a,ns,by rw [zcx z]; rfl,rfl⟩
  · cases h
theorem zgs {f:List Int→Int→Int}:SC K (zpi f) (zec f):=by
  intro F H vs ds d Q s r e q
  obtain ⟨n,l,rfl,rfl⟩:=zkM e
  cases r with
  | cons r r' =>
    cases r'
    obtain ⟨a,xs,rfl,h1,h2⟩:=r
    have ex:=zce (ns:=n :: l) h2
    subst ex
    exact ⟨a,n,l,rfl,h1,q _ F H (.refl s) (by simp only [Rep])⟩
end
end PM
namespace L2
open PySem PySem.Spec PyProof.Rows
section
variable {X:Cx}
def zmj:List V→Hp→VK→Prop:=fun xs H Q=>∃ (p:Addr) (ns:List Int),xs = [.ref p]∧Rd H p (.lst (ns.map V.int))∧ns.length < 64∧∀ a,H a=none→Q (.ref a) (upd H a (.lst ((ns.mergeSort (fun a b=>decide (a ≤ b))).map V.int)))
theorem zgd {ns:List Int} {its:List Value} (rv:Vals (ns.map V.int) its):IntsAre its ns:=by
  induction ns generalizing its with
  | nil=>cases rv; exact .nil
  | cons a l ih =>
    cases rv with
    | cons h t =>
      obtain ⟨tk,rfl⟩:=h
      exact .cons _ _ (ih t)
theorem zht {ns:List Int} {its:List Value} (rv:IntsAre its ns):Vals (ns.map V.int) its:=by
  induction rv with
  | nil=>exact .nil
  | cons _ _ _ ih=>exact .cons ⟨_,rfl⟩ ih
theorem zpH {ns ms:List Int} (hp:ms.Perm ns) (hs:ms.Pairwise (· ≤ ·)):ms=ns.mergeSort fun a b=>decide (a ≤ b):=by
  have h1:(ns.mergeSort fun a b=>decide (a ≤ b)).Pairwise (· ≤ ·):=by
    have:=List.pairwise_mergeSort (le:=fun a b:Int=>decide (a ≤ b)) (fun a b c h1 h2=>by simp at *; omega) (fun a b=>by simp; omega) ns
    exact this.imp fun h=>by simpa using h
  have h2:ms.Perm (ns.mergeSort fun a b=>decide (a ≤ b)):=hp.trans (List.mergeSort_perm ..).symm
  exact List.Perm.eq_of_pairwise (fun a b _ _ h3 h4=>Int.le_antisymm h3 h4) hs h1 h2
theorem zjw:zdr X (.builtin "sorted") zmj:=by
  intro pins s σ H xs us Q I r h
  obtain ⟨p,ns,rfl,hq,hl,q⟩:=h
  obtain ⟨u,rfl,rx⟩:=zdv r
  cases rx
  obtain ⟨z,its,n,rv,e⟩:=hq.ok I.hok
  have len:=rv.length
  rw [List.length_map] at len
  refine sorted_ints ⟨_,e,rfl,n,rfl⟩ (zgd rv) (by omega) fun out ms a1 a2 a3=>?_
  obtain ⟨c,hc⟩:=sortedAll_at s.heap its out
  rw [zpH a2 a3] at a1
  refine ⟨.ref (s.heap.objs.size + 1),_,?_,rfl,q _ (I.hok.fresh (Nat.le_succ _))⟩
  refine I.laid (fun b o hb=>sortedAll_old hb) (Nat.le_succ _) ⟨?_,out.toList,c,zht a1,by simpa using hc⟩
  rw [List.length_map,List.length_mergeSort]
  exact Nat.le_trans (Nat.le_of_lt hl) (by decide)
end
end L2
namespace PM
open PySem L2
section
variable {K:Kx}
def zd9:List D→Option D
  | [.lst l]=>(asIs l).bind fun ns=>ifC (ns.length < 64) (some (.lst ((ns.mergeSort fun a b=>decide (a ≤ b)).map .int))) none
  | _=>none
theorem zii {ds:List D} {d:D} (h:zd9 ds=some d):∃ ns:List Int,ds = [.lst (ns.map .int)]∧ns.length < 64∧d = .lst ((ns.mergeSort fun a b=>decide (a ≤ b)).map .int):=by
  unfold zd9 at h
  split at h
  · rename_i l
    cases z:asIs l with
    | none=>rw [z] at h; cases h
    | some ns =>
      rw [z] at h
      simp only [Option.bind] at h
      unfold ifC at h
      split at h
      · rename_i hl
        cases h
        exact ⟨ns,by rw [zcx z],hl,rfl⟩
      · cases h
  · cases h
theorem zje {F:Hp}:∀ ns:List Int,RepL K F (ns.map .int) (ns.map V.int)
  | []=>.nil
  | n :: ns=>.cons (by simp only [Rep]) (zje ns)
theorem zmc:SCo K zmj zd9:=by
  intro F H vs ds d Q s r e q
  obtain ⟨ns,rfl,hl,rfl⟩:=zii e
  cases r with
  | cons r r' =>
    cases r'
    obtain ⟨a,xs,rfl,h1,h2⟩:=r
    have ex:=zce h2
    subst ex
    exact ⟨a,ns,rfl,h1,hl,fun p hp=>q p F _ (.newO s hp) (s.free hp) hp ⟨_,zax,zje _⟩⟩
end
end PM
namespace PM
open PySem L2
section
variable {K:Kx} {XO:XOT} {E:L2.St→XK} {te:TE} {me:En→R D}
end
end PM
namespace L2
open PySem PySem.Spec PyProof.Rows
section
variable {X:Cx}
theorem zon {ns:List Int} {its:List Value} (rv:Vals (ns.map V.int) its) {m:Nat} (hm:m < its.toArray.size):∃ t,its.toArray[m] = .int (ns.getD m 0) t:=by
  have len:=rv.length
  rw [List.length_map] at len
  have hm':m < ns.length:=by rw [len]; simpa using hm
  obtain ⟨u,h1,t,h2⟩:=rv.get (show (ns.map V.int)[m]?=some (.int (ns.getD m 0)) by rw [List.getElem?_map,List.getD_eq_getElem?_getD,List.getElem?_eq_getElem hm']; rfl)
  refine ⟨t,?_⟩
  rw [← h2]
  have:=(List.getElem?_eq_some_iff.mp h1).2
  simpa using this
def isI (i:Int):Value→Bool
  | .int a _=>a == i
  | _=>false
theorem zpX {ns:List Int} {its:List Value} (rv:Vals (ns.map V.int) its) (i:Int) (t:Tok):∀ y,y ∈ its.toArray→MeetsSeq.EqGives y (.int i t) (isI i y):=fun y hy=>by
  obtain ⟨m,hm,e⟩:=Array.getElem_of_mem hy
  obtain ⟨u,h⟩:=zon rv hm
  rw [← e,h]
  exact MeetsSeq.EqGives.int _ _ _ _
theorem zoB {ns:List Int} {its:List Value} (rv:Vals (ns.map V.int) its) (i:Int) {m:Nat} (hm:m < its.toArray.size):isI i its.toArray[m]=(ns.getD m 0 == i):=by
  obtain ⟨u,h⟩:=zon rv hm
  rw [h]; rfl
theorem zp8 {ns:List Int} {i:Int} (h:ns.idxOf i < ns.length):ns.getD (ns.idxOf i) 0=i:=by
  rw [List.getD_eq_getElem?_getD,List.getElem?_eq_getElem h]
  exact List.getElem_idxOf h
theorem zqz {ns:List Int} {i:Int} {m:Nat} (h:m < ns.idxOf i) (hl:m < ns.length):ns.getD m 0 ≠ i:=fun e=>by
  rw [List.getD_eq_getElem?_getD,List.getElem?_eq_getElem hl] at e
  induction ns generalizing m with
  | nil=>simp at hl
  | cons a l ih =>
    rw [List.idxOf_cons] at h
    by_cases z:a=i
    · simp [z] at h
    · have z':(a == i)=false:=by simpa using z
      rw [z',cond_false] at h
      cases m with
      | zero=>exact z e
      | succ m=>exact ih (m:=m) (by omega) (by simpa using hl) (by simpa using e)
def zmN:V→List V→Hp→VK→Prop:=fun x vs H Q=>∃ (p:Addr) (ns:List Int) (i:Int),x = .ref p∧vs = [.int i]∧Rd H p (.lst (ns.map V.int))∧ns.length ≤ 100000∧ns.idxOf i < ns.length∧Q (.int (ns.idxOf i:Nat)) H
theorem zl0:MtR X "list.index" zmN:=by
  intro pins s σ H x vs v us Q I rx rv h
  obtain ⟨p,ns,i,rfl,rfl,rd,hl,hi,q⟩:=h
  cases rx
  obtain ⟨u,rfl,t,rfl⟩:=rv.one
  obtain ⟨_,its,n,rs,e⟩:=rd.ok I.hok
  have len:=rs.length
  rw [List.length_map] at len
  have hj:ns.idxOf i < its.toArray.size:=by rw [List.size_toArray,← len]; exact hi
  refine call_meets F.slot_list_index ⟨_,e,rfl⟩ F.entry_list_index (F.args_list_index_2 _ _) (MeetsSeq.list_index p its.toArray n (.int i t) (isI i) (zpX rs i t) (ns.idxOf i) hj (by omega) ?_ fun m hm hlt=>?_) ⟨e,?_⟩
  · rw [zoB rs i hj,zp8 hi]; simp
  · rw [zoB rs i hm]
    simpa using zqz hlt (by rw [len]; simpa using hm)
  · exact ⟨.int (ns.idxOf i:Nat),H,I.tok _,⟨_,rfl⟩,q⟩
end
end L2
namespace PM
open PySem L2
section
variable {K:Kx} {XO:XOT} {E:L2.St→XK} {tl te:TE} {ml me:En→R D}
def zgx (x y:D):Option D:=match x,y with | .lst l,.int i=>(asIs l).bind fun ns=>if ns.length ≤ 100000∧ns.idxOf i < ns.length then some (.int (ns.idxOf i:Nat)) else none | _,_=>none
theorem zjV {x y d:D} (h:zgx x y=some d):∃ (ns:List Int) (i:Int),x = .lst (ns.map .int)∧y = .int i∧(ns.length ≤ 100000∧ns.idxOf i < ns.length)∧d = .int (ns.idxOf i:Nat):=by
  unfold zgx at h
  split at h
  · rename_i l i
    cases z:asIs l with
    | none=>rw [z] at h; cases h
    | some ns =>
      rw [z] at h
      simp only [Option.bind] at h
      split at h
      · rename_i hl
        cases h
        exact ⟨ns,i,by rw [zcx z],rfl,hl,rfl⟩
      · cases h
  · cases h
def znb (ml me:En→R D) (δ:En):R D:=(ml δ).bind fun x=>match x with | .lst l=>(me δ).bind fun y=>R.of (zgx (.lst l) y) | _=>.no
theorem zny (hl:SEr K XO E tl ml) (he:SE K XO E te me):SE K XO E (tBM K.f "list" zmN tl (zdl te tNil)) (znb ml me):=by
  intro Λ F0 H0 F H σ δ Q I a
  refine hl Λ F0 H0 F H σ δ _ I (a.bind.imp fun d F1 H1 e1 a1 x rx=>?_)
  cases d with
  | lst l =>
    obtain ⟨p,vs,rfl,h1,h2⟩:=rx
    refine ⟨.inl ⟨rfl,vs,.inl h1⟩,?_⟩
    refine he Λ F0 H0 F1 H1 σ δ _ (I.grow e1) (a1.bind.imp fun k F2 H2 e2 a2 y ry=>?_)
    cases q:zgx (.lst l) k with
    | none=>rw [q] at a2; exact a2.elim
    | some z =>
      rw [q] at a2
      obtain ⟨ns,i,el,rfl,hc,rfl⟩:=zjV q
      cases el
      have ex:=zce h2
      subst ex
      simp only [Rep] at ry
      subst ry
      exact ⟨p,ns,i,rfl,rfl,PM.Same.rd e2.hh h1,hc.1,hc.2,a2 F2 H2 (.refl e2.fh) _ (by simp only [Rep])⟩
  | _=>exact a1.elim
end
end PM
namespace L2
open PySem PySem.Spec PyProof.Rows
open Sem (wp)
section
variable {P:Program} {w:World} {B:Around} {Er:Value→Shared→Prop} {hp:Heap} {gs:Array GenState} {dr:Drawn} {tk:Nat} {os:OsState}
variable {nm q:Str} {C N:Addr} {bs bm bmB:List Value} {hdct:Bool} {sn:List Str} {sub:List Value} {ab:Bool} {col:Option Bool} {dd:Option Addr} {k0 k1 k2 k3 k5:Option Value} {B0 Bn newId nid initId inN:String} {bmN:List Value}
abbrev tupO (as:List Value):Obj:={ cls:=.type "tuple",data:=.seq as.toArray }
abbrev zkQ (C t:Addr):Obj:={ cls:=.ref C,data:=.fields #[.ref t,.none,.none,.none,.bool false,.none] }
theorem zg0 (Fn:ExcBaseFacts Bn newId inN bmN) (has:bmB.contains (.type Bn)=true) (Fb:ExcBaseFacts B0 nid initId bmB) (tail:OwnTail hp bmB bm) {ns:Str→Option Value} {as:List Value} {fa:Addr} {fo:Obj} {Q:Fin→Shared→Prop}
    (atC:hp.get? C=some (excClassObj nm q C N bs bm hdct sn sub ab col dd k0 k1 k2 k3 k5 newId)) (atN:hp.Ns N ns) (ini:ns "__init__"=some (.ref fa)) (atF:hp.get? fa=some fo) (isF:fo.cls = .type "function")
    (run:∀ h' e,Heap.MadeExcOf hp h' e (.ref C) as→wpAny (model P w) B (call (.ref fa) (.ref e :: as)) (fun r s'=>r = .none∧Q (.done (.ret (.ref e))) s') Er ⟨h',gs,dr,tk,os⟩) (few:as.length ≤ sizeLine) :
    wpAny (model P w) B (Builtin.«type.__call__» ⟨.ref C :: as,[]⟩) Q Er ⟨hp,gs,dr,tk,os⟩:=by
  repeat (first | with_reducible refine wpAny_loadPart_at atC ?_ | with_reducible refine wpAny_madeBy_exc atC ?_ | wp_step)
  refine codeAny_call_builtin_code (Code.quiet_builtin _ Fn.quiet) (wpAny_check_new_subU Fn has tail atC ?_)
  refine codeAny_exc_new_subU Fn has Fb tail atC ?_ few
  show wpAny _ _ _ _ _ _
  have up:∀ b o,hp.get? b=some o→((hp.push (tupO as)).push (zkQ C hp.objs.size)).get? b=some o:=fun b o e=>Heap.get?_push_of_some _ (Heap.get?_push_of_some _ e)
  have atC1:=up _ _ atC
  have atN1:((hp.push (tupO as)).push (zkQ C hp.objs.size)).Ns N ns:=by obtain ⟨o,es,ep,e,r⟩:=atN; exact ⟨o,es,ep,up _ _ e,r⟩
  have atE:((hp.push (tupO as)).push (zkQ C hp.objs.size)).get? (hp.objs.size + 1)=some (zkQ C hp.objs.size):=by heap_get
  have own:(Value.ref C :: bm).contains (.ref C)=true:=by simp
  have tail1:=tail.keeps (h':=(hp.push (tupO as)).push (zkQ C hp.objs.size)) up
  unfold isInstance
  repeat (first | with_reducible refine wpAny_loadPart_at atE ?_ | (with_reducible refine wpAny_isSubtype_exc atC1 ?_; rw [own]) | wp_step)
  show wpAny _ _ (typeLookup (.ref C) _) _ _ _; refine wpAny_typeLookup_tail atC1 atN1 tail1 Fb.mroIs Fb.init.lookup ?_
  rw [ini]; refine wpAny_holding (wpAny_bind ?_); unfold bindSpecial
  refine wpAny_bind (wpAny_typeOf (T:="function") ⟨_,up _ _ atF,isF⟩ ?_)
  rw [if_pos (by decide)]
  have made:Heap.MadeExcOf hp ((hp.push (tupO as)).push (zkQ C hp.objs.size)) (hp.objs.size + 1) (.ref C) as :=
    ⟨up,Heap.get?_none_of_le (Nat.le_succ _),hp.objs.size,atE,Heap.get?_none_of_le (Nat.le_refl _),Heap.get?_push_of_some _ (Heap.get?_push_at rfl rfl)⟩
  refine wpAny_pure (wpAny_bind (wpAny_mono (run _ _ made) (fun r s' hr=>?_) fun _ _ x=>x))
  obtain ⟨rfl,hQ⟩:=hr
  wp_walk
  exact hQ
theorem zk3 (Fn:ExcBaseFacts Bn newId inN bmN) (has:bmB.contains (.type Bn)=true) (Fb:ExcBaseFacts B0 nid initId bmB) (tail:OwnTail hp bmB bm) {ns:Str→Option Value} {as:List Value} {fa:Addr} {fo:Obj} {Q:Value→Shared→Prop}
    (atC:hp.get? C=some (excClassObj nm q C N bs bm hdct sn sub ab col dd k0 k1 k2 k3 k5 newId)) (atN:hp.Ns N ns) (ini:ns "__init__"=some (.ref fa)) (atF:hp.get? fa=some fo) (isF:fo.cls = .type "function")
    (run:∀ h' e,Heap.MadeExcOf hp h' e (.ref C) as→wpAny (model P w) (B.under (.builtin "type.__call__" ⟨.ref C :: as,[]⟩)) (call (.ref fa) (.ref e :: as)) (fun r s'=>r = .none∧Q (.ref e) s') Er ⟨h',gs,dr,tk,os⟩) (few:as.length ≤ sizeLine) :
    wpAny (model P w) B (call (.ref C) as) Q Er ⟨hp,gs,dr,tk,os⟩:=by
  have f1:=tc_lookup
  have f2:=tc_bind (.ref C)
  have isT:(⟨hp,gs,dr,tk,os⟩:Shared).TypeIs (.ref C) "type":=⟨_,atC,rfl⟩
  refine wpAny_call (codeAny_of_tree ?_); show wpAny _ _ (callAny (.ref C) _) _ _ _
  repeat (any_goals (first | assumption | with_reducible refine wpAny_loadPart_at atC ?_ | wp_step))
  refine ⟨rfl,codeAny_call_builtin_at (Code.quiet_builtin _ (by decide +kernel)) entry_typeCall (wpAny_check_type_call_sub atC ?_)⟩
  exact zg0 Fn has Fb tail atC atN ini atF isF (fun h' e m=>run h' e m) few
end
end L2
namespace L2
open PySem PySem.Spec PyProof.Rows
section
variable {P:Program} {w:World} {B:Around} {Er:Value→Shared→Prop} {s:Shared}
end
end L2
namespace L2
open PySem PySem.Spec PyProof.Rows
section
variable {X:Cx}
end
end L2
namespace PM
open PySem L2
section
variable {K:Kx} {XO:XOT} {E:L2.St→XK}
end
end PM
namespace L2
open PySem PySem.Spec PyProof.Rows
def uniq (ns:List Int):List Int:=ns.foldl step_dedup []
section
variable {X:Cx}
def zqE:List V→Hp→VK→Prop:=fun xs H Q=>∃ (p:Addr) (ns:List Int),xs = [.ref p]∧Rd H p (.lst (ns.map V.int))∧ns.length < 4000∧∀ a,H a=none→Q (.ref a) (upd H a (.set (fun k=>(uniq ns).any (· == k)) (uniq ns).length))
theorem zpM (ns:List Int):firstMet (fun i=>ns.getD i 0) ns.length=uniq ns:=by
  unfold firstMet uniq
  congr 1
  refine List.ext_getElem (by simp) fun i h1 h2=>?_
  simp [List.getElem?_eq_getElem h2]
theorem ziw (hc:X.calm=true):zdr X (.type "set") zqE:=by
  intro pins s σ H xs us Q I r h
  obtain ⟨p,ns,rfl,hq,hl,q⟩:=h
  obtain ⟨u,rfl,rx⟩:=zdv r
  cases rx
  obtain ⟨z,its,n,rv,e⟩:=hq.ok I.hok
  have len:=rv.length
  rw [List.length_map] at len
  have esz:its.toArray.size=ns.length:=by simp [← len]
  refine PySem.call_set_list (items:=its.toArray) (ns:=ns) (I.ok.hd hc) ⟨_,e,rfl,n,rfl⟩ (by simpa using zgd rv) (by rw [esz]; unfold scanBound; omega) fun h' tk hS hk=>?_
  rw [esz,zpM] at hS
  refine ⟨.ref s.heap.objs.size,_,?_,rfl,q _ (I.hok.fresh (Nat.le_refl _))⟩
  exact I.laid (fun b o hb=>hk b o (Heap.lt_size hb) hb) (Nat.le_refl _) hS
theorem zh5:PGet X (rIxL X.K):=by
  intro pins s σ H x y v u Q I rx ry h
  obtain ⟨p,xs,i,z,rfl,rfl,hq,he,q⟩:=h
  cases rx
  obtain ⟨t,rfl⟩:=ry
  obtain ⟨its,r,pl,hz⟩:=I.list hq
  obtain ⟨j,h1,h2,h3,h4,h5⟩:=zjk he
  obtain ⟨w,ew,rw'⟩:=r.get h2
  have hl:=r.length
  have hn:=zir
  by_cases h0:0 ≤ i
  · have hj:i.toNat=j:=by
      rw [seqIndex_of h0 h5] at h1
      exact Option.some.inj h1
    exact wpAny_getItem_list pl.isList h0 (by omega) (by rw [hj]; simpa using ew) ⟨z,H,I,rw',q⟩
  · have hj:(i + (its.toArray.size:Int)).toNat=j:=by
      rw [seqIndex_neg (by omega) h4] at h1
      rw [List.size_toArray,← hl]
      exact Option.some.inj h1
    exact wpAny_getItem_list_neg pl.isList (by omega) (by rw [List.size_toArray] <;> omega) (by omega) (by rw [hj]; simpa using ew) ⟨z,H,I,rw',q⟩
def zpR:List V→Hp→VK→Prop:=fun xs H Q=>∃ (p:Addr) (S:Int→Bool) (n:Nat),xs = [.ref p]∧H p=some (.set S n)∧Q (.int n) H
theorem zie:zdr X (.builtin "len") zpR:=by
  intro pins s σ H xs us Q I r h
  obtain ⟨p,S,n,rfl,hp,q⟩:=h
  obtain ⟨u,rfl,rx⟩:=zdv r
  cases rx
  obtain ⟨o,es,ep,t,ho,hex,hd,_,_,hb,hf,hn⟩:=I.hok p _ hp
  exact call_len_set ho hex hd hf (by unfold scanBound at hb; omega) ⟨.int n,H,I.tok _,⟨_,by rw [hn]⟩,q⟩
end
end L2
namespace PM
open PySem L2
section
variable {K:Kx} {XO:XOT} {E:L2.St→XK}
def zdK:List D→Option D
  | [.lst l]=>(asIs l).bind fun ns=>ifC (ns.length < 4000) (some (.int (uniq ns).length)) none
  | _=>none
theorem ziD {ds:List D} {d:D} (h:zdK ds=some d):∃ ns:List Int,ds = [.lst (ns.map .int)]∧ns.length < 4000∧d = .int (uniq ns).length:=by
  unfold zdK at h
  split at h
  · rename_i l
    cases z:asIs l with
    | none=>rw [z] at h; cases h
    | some ns =>
      rw [z] at h
      simp only [Option.bind] at h
      unfold ifC at h
      split at h
      · rename_i hl
        cases h
        exact ⟨ns,by rw [zcx z],hl,rfl⟩
      · cases h
  · cases h
theorem ziq {tl:TA} {ml:En→R (List D)} (h:SAr K XO E tl ml):SE K XO E (tCB zpR (zdl (tCB zqE tl) tNil)) (mCB zdK ml):=by
  intro Λ F0 H0 F H σ δ Q I a
  refine h Λ F0 H0 F H σ δ _ I (a.bind.imp fun ds F1 H1 e1 a1 vs r=>?_)
  cases q:zdK ds with
  | none=>rw [q] at a1; exact a1.elim
  | some d =>
    rw [q] at a1
    obtain ⟨ns,rfl,hl,rfl⟩:=ziD q
    cases r with
    | cons r r' =>
      cases r'
      obtain ⟨p,xs,rfl,h1,h2⟩:=r
      have ex:=zce h2
      subst ex
      refine ⟨p,ns,rfl,h1,hl,fun b hb=>⟨b,_,_,rfl,zax,a1 F1 _ (.newO e1.fh hb) _ (by simp only [Rep])⟩⟩
end
end PM
namespace L2
open PySem PySem.Spec PyProof.Rows
section
variable {X:Cx}
end
end L2
namespace PM
open PySem L2
section
variable {K:Kx} {XO:XOT} {E:L2.St→XK} {tk te:TE} {mk me:En→R D}
end
end PM
namespace PM
open PySem L2
section
variable {K:Kx} {XO:XOT} {E:St→XK} {ta tb te:TE} {ma mb me:En→R D} {t u:TS} {m n:En→O} {Λ:List (Nat × Addr × HO)} {F0 H0 F H F' H' F1 H1:Hp} {σ:St} {δ:En} {Dn:Ends}
end
end PM
namespace L2
open PySem PySem.Spec PyProof.Rows
def zqo (K:PySem.W.Frag) (D':Addr) (tb:(St→XK)→TS) (th:TS):TS:=fun D σ H =>
  tb (fun σ' cls _ H'=>∃ C,cls = .ref C∧PySem.W.kitCls K (.ref C) (.ref D')=some true∧th D σ' H') D σ H
section
variable {X:Cx} {x:Str} {np hpos pos:Pos} {body:List Stmt} {b₀:Stmt} {suite:List Stmt} {D':Addr} {tb:(St→XK)→TS} {th:TS}
theorem zpo (hst:X.stack=X.env :: X.outer) (hfr:X.env.frame=some X.env.locals) (hg:Gl X x) (hmx:X.mg x=some (.ref D')) (hD:PySem.W.mroIn X.K D' (.type "BaseException")=some true)
    (hb:∀ (E:St→XK) (pl:List (Addr × Obj)) (xe:Value→Shared→Prop),zia (CX1 X.prog X.w) (X.guard pl xe) E→PSs (X.guard pl xe) body (tb E)) (hh:∀ ea,PSs (X.suite ea) (b₀ :: suite) th) (hdb:(x == ("__debug__" : Str))=false:=by decide) :
    PS X (.Try body [.ExceptHandler (some (.Name x np)) none (b₀ :: suite) hpos] [] [] pos) (zqo X.K D' tb th):=by
  intro pins s σ H D I h
  have ok:=I.ok
  refine wpAny_Try_except ?_
  refine wpAny_mono (hb _ (X.pn ++ pins) (fun e s₁=>wpAny (model X.prog X.w) X.A (noteFrame e X.env) (fun _ s₂=>wpAny (model X.prog X.w) X.A (setFlight e none) (fun _ s₃=>wpAny (model X.prog X.w) X.A (handleBy e X.env [.ExceptHandler (some (.Name x np)) none (b₀ :: suite) hpos]) (SP X pins D) X.xe s₃) X.xe s₂) X.xe s₁) ?_ [] s σ H D (I.guard _) h) (fun f s1 q=>?_) fun _ _ q=>q
  · intro pins' σ' H1 s1 e s2 I1 hcx
    obtain ⟨ea,C,dct,H',rfl,F,C',hC',hm,hth⟩:=hcx
    cases hC'
    have J1:Inv X pins σ' H1 s1:=I1.unguard ok
    have F':Fly X.prog X.w (X.env :: X.outer) H1 s1 ea (.ref C) dct H' s2:=by
      rw [← hst]
      exact F
    obtain ⟨Fos,Fbare,Fun,B,fl,hok,third⟩:=F'
    have fr2:X.A.frames=some (X.env :: X.outer):=by rw [← hst]; exact ok.frames
    have land:∀ h' ,FlyD B (X.env :: X.outer) ea (.ref C) dct .none h'→s2.heap.UpToSlots h'→Inv X pins σ' H' { s2 with heap:=h' }:=fun h' F' up=>by
      obtain ⟨u,_⟩:=ziC (fs:=frs (X.env :: X.outer)) (fr:=frs (X.env :: X.outer)) (h0:=s1.heap) (h1:=s1.heap) (h3:=h') (B:=B) (L:=s1.heap.objs.size) Un.refl Fun (Nat.le_refl _) (fun b hb=>List.mem_cons_of_mem _ hb) (fun b hb=>hb)
        (fun b hb=>J1.stkFree b (by rw [hst]; exact hb)) (fun b hb o e=>by
          obtain ⟨_,o',ho',hn'⟩:=fl.fun'.mem hb
          rw [e] at ho'
          cases ho'
          exact hn') up F'.stays third
      obtain ⟨hh2,g2,d2,t2,os2⟩:=s2
      obtain rfl:os2=s1.os:=Fos
      show Inv X pins σ' H' { s1 with heap:=h',gens:=g2,drawn:=d2,toks:=t2 }
      exact J1.call (h':=h') (g':=g2) (d':=d2) (t':=t2) (ch:=[]) (by rw [hst]; exact u) (hok.fly F'.stays) Fbare fun b z=>absurd z (by simp)
    show wpAny (model X.prog X.w) X.A (noteFrame (.ref ea) X.env) _ _ s2
    refine zmK fr2 hfr fl fun h1 F1 up1=>?_
    refine zjm F1 fun h2 F2 up2=>?_
    have J2:=land h2 F2 (up1.trans up2)
    obtain ⟨T,_,⟨oe,vs,_,_,he,hc,hdc,hd,_⟩,_⟩:=F2.tr
    refine wpAny_handleBy_cons (codeAny_handlers_test (zeN (X:=X.suite ea) (J2.suite ea) hg hmx ?_ hdb)) (by intro z; cases z)
    refine ziy (K:=X.K) J2.kIn he hc hm hD ?_
    refine codeAny_handlers_suite ?_
    refine zjm F2 fun h3 F3 up3=>?_
    have J3:=land h3 F3 ((up1.trans up2).trans up3)
    refine wpAny_mono (hh ea pins _ _ _ _ (J3.suite ea) hth) (fun f s6 q6=>?_) fun _ _ z=>z.elim
    cases f with
    | next =>
      obtain ⟨σ6,H6,I6,q6⟩:=q6
      exact ⟨_,_,I6.unsuite ok,q6⟩
    | brk =>
      obtain ⟨σ6,H6,I6,q6⟩:=q6
      exact ⟨_,_,I6.unsuite ok,q6⟩
    | cont =>
      obtain ⟨σ6,H6,I6,q6⟩:=q6
      exact ⟨_,_,I6.unsuite ok,q6⟩
    | ret v =>
      obtain ⟨v6,σ6,H6,I6,r6,q6⟩:=q6
      exact ⟨v6,_,_,I6.unsuite ok,r6,q6⟩
  · cases f with
    | next =>
      obtain ⟨σ6,H6,I6,q6⟩:=q
      exact wpAny_execs_nil ⟨σ6,H6,I6.unguard ok,q6⟩
    | brk =>
      obtain ⟨σ6,H6,I6,q6⟩:=q
      exact ⟨σ6,H6,I6.unguard ok,q6⟩
    | cont =>
      obtain ⟨σ6,H6,I6,q6⟩:=q
      exact ⟨σ6,H6,I6.unguard ok,q6⟩
    | ret v =>
      obtain ⟨v6,σ6,H6,I6,r6,q6⟩:=q
      exact ⟨v6,σ6,H6,I6.unguard ok,r6,q6⟩
end
end L2
namespace PM
open PySem L2
section
variable {K:Kx} {E:L2.St→XK}
def znt (mb:En→O) (sub:Nat→Bool) (mh:En→O) (δ:En):O:=match mb δ with
  | .ex δ' x=>if sub x.c=true then (match mh δ' with | .ex _ _=>.no | r=>r) else .no
  | r=>r
theorem zpD {D':Addr} {tb:(L2.St→XK)→TS} {th:TS} {mb mh:En→O} {sub:Nat→Bool} (hsub:∀ c,sub c=true→PySem.W.kitCls K.f (.ref (K.ca c)) (.ref D')=some true)
    (hb:∀ E',SS K (xoK K) E' (tb E') mb) (hh:SS K (xoK K) EN th mh):SS K (xoK K) E (zqo K.f D' tb th) (znt mb sub mh):=by
  intro Λ F0 H0 F H σ δ Dn I a
  refine hb _ Λ F0 H0 F H σ δ Dn I ?_
  unfold znt at a
  cases q:mb δ with
  | no=>rw [q] at a; exact a
  | nx δ'=>rw [q] at a; exact a
  | rt d=>rw [q] at a; exact a
  | ro d=>rw [q] at a; exact a
  | bk δ'=>rw [q] at a; exact a
  | ct δ'=>rw [q] at a; exact a
  | ex δ' x =>
    rw [q] at a
    simp only at a
    split at a
    · rename_i hs
      rintro σ1 F1 H1 C dct I1 ⟨rfl,_⟩
      refine ⟨_,rfl,hsub _ hs,?_⟩
      refine hh Λ F0 H0 _ _ σ1 δ' _ I1 ?_
      cases qh:mh δ' with
      | no=>rw [qh] at a; exact a
      | rt d=>rw [qh] at a; exact a
      | ro d=>rw [qh] at a; exact a
      | ex _ _=>rw [qh] at a; exact a.elim
      | nx δ2=>rw [qh] at a; exact a
      | bk δ2=>rw [qh] at a; exact a
      | ct δ2=>rw [qh] at a; exact a
    · exact a.elim
end
end PM
namespace PM
end PM
namespace L2
open PySem PySem.Spec PyProof.Rows
section
variable {prog:Program} {w:World} {A:Around} {E:Value→Shared→Prop} {s:Shared}
end
section
variable {prog:Program} {w:World} {A:Around} {R:Result→Shared→Prop} {I S:Addr} {fp wr:List Addr} {n:Nat} {P:Nat→Value→Prop} {St:Nat→Heap→Prop} {bt:Nat→Nat→Bool}
end
section
variable {prog:Program} {w:World} {A:Around} {E:Value→Shared→Prop} {s:Shared}
end
section
variable {X:Cx}
end
end L2
namespace PM
open PySem L2
section
variable {K:Kx}
end
end PM
namespace L2
open PySem PySem.Spec PyProof.Rows
section
variable {X:Cx}
end
end L2
namespace PM
open PySem L2
section
variable {K:Kx} {XO:XOT} {E:L2.St→XK}
end
end PM
namespace L2
open PySem PySem.Spec PyProof.Rows
section
variable {X:Cx} {a b c:Expr} {ta tb tc:TE} {pos:Pos}
def rAll:List V→Hp→VK→Prop:=fun xs H Q=>∃ (p:Addr) (bs:List Bool),xs = [.ref p]∧Rd H p (.lst (bs.map V.bl))∧Q (.bl (bs.all id)) H
theorem zmJ {bs:List Bool} {its:List Value} (rv:Vals (bs.map V.bl) its):its=bs.map Value.bool:=by
  induction bs generalizing its with
  | nil=>cases rv; rfl
  | cons a l ih =>
    cases rv with
    | cons h t =>
      have:_=Value.bool a:=h
      rw [this,ih t]; rfl
theorem ziT:∀ (bs:List Bool),((List.range bs.length).all fun i=>bs.getD i false)=bs.all id
  | []=>rfl
  | b :: bs=>by
    rw [List.length_cons,List.range_succ_eq_map,List.all_cons,List.all_map,List.all_cons,← ziT bs]
    rfl
theorem zlP (hc:X.calm=true):zdr X (.builtin "all") rAll:=by
  intro pins s σ H xs us Q I r h
  obtain ⟨p,bs,rfl,hq,q⟩:=h
  obtain ⟨u,rfl,rx⟩:=zdv r
  cases rx
  obtain ⟨z,its,n,rv,e⟩:=hq.ok I.hok
  have ei:=zmJ rv
  subst ei
  have isl:s.heap.IsList p (bs.map Value.bool).toArray:=⟨_,e,rfl,n,rfl⟩
  have plt:p < s.heap.objs.size:=Heap.lt_size e
  refine call_all_walk (wpAny_pyIter_list isl ?_)
  refine ⟨s.heap.objs.size,[s.heap.objs.size,p],[s.heap.objs.size],(bs.map Value.bool).toArray.size,_,_,(fun i=>bs.getD i false),rfl,Walks.list (A:=X.A.in1) (I.ok.hd hc) s.heap.objs.size p (Nat.ne_of_lt plt) (bs.map Value.bool).toArray,⟨⟨_,Heap.get?_push_size _ rfl,rfl,rfl⟩,isl.push _⟩,?_,?_⟩
  · intro i v s' Q' E' hi hQ
    have hi':(bs.map Value.bool).toArray[i]?=some v:=hi
    rw [List.getElem?_toArray,List.getElem?_map] at hi'
    cases z:bs[i]? with
    | none=>rw [z] at hi'; cases hi'
    | some b =>
      rw [z] at hi'
      cases hi'
      refine wpAny_truthy_bool ?_
      have:bs.getD i false=b:=by rw [List.getD_eq_getElem?_getD,z]; rfl
      have hQ':Q' (bs.getD i false) s':=hQ
      rw [this] at hQ'
      exact hQ'
  · intro h' tk hk
    rw [List.size_toArray,List.length_map,ziT]
    refine ⟨.bl _,H,I.kept (t':=tk) (fun b o eo=>hk b o (fun hm=>?_) (Heap.get?_push_of_some _ eo)),rfl,q⟩
    rw [List.mem_singleton.mp hm] at eo
    exact absurd (Heap.lt_size eo) (Nat.lt_irrefl _)
end
end L2
namespace PM
open PySem L2
section
variable {K:Kx} {XO:XOT} {E:L2.St→XK} {ta tb tc:TE} {ma mb mc:En→R D}
def ziA (o1 o2:D→D→Option D) (ma mb mc:En→R D) (δ:En):R D:=(ma δ).bind fun x=>(mb δ).bind fun y=>match o1 x y with
  | some (.bl true)=>(mc δ).bind fun z=>R.of (o2 y z)
  | some (.bl false)=>.ok (.bl false)
  | _=>.no
theorem znU {r1 r2:R2} {o1 o2:D→D→Option D} (h1:SR K r1 o1) (h2:SR K r2 o2) (ha:SEr K XO E ta ma) (hb:SEr K XO E tb mb) (hc:SEr K XO E tc mc):SE K XO E (zom r1 r2 ta tb tc) (ziA o1 o2 ma mb mc):=by
  intro Λ F0 H0 F H σ δ Q I a
  refine ha Λ F0 H0 F H σ δ _ I (a.bind.imp fun dx F1 H1 e1 a1 x rx=>?_)
  refine hb Λ F0 H0 F1 H1 σ δ _ (I.grow e1) (a1.bind.imp fun dy F2 H2 e2 a2 y ry=>?_)
  cases q:o1 dx dy with
  | none=>rw [q] at a2; exact a2.elim
  | some d =>
    rw [q] at a2
    have fin:∀ t:Bool,d = .bl t→r1 x y H2 fun k H3=>∃ t:Bool,k = .bl t∧if t=true then tc σ H3 fun z H4=>r2 y z H4 Q else Q (.bl false) H3:=by
      rintro t rfl
      refine h1 F2 H2 x y dx dy (.bl t) _ e2.fh (rx.mono e2.ff e2.hh) ry q fun v F3 H3 e3 rv=>?_
      simp only [Rep] at rv
      refine ⟨t,rv,?_⟩
      cases t with
      | false =>
        rw [if_neg (by decide)]
        exact a2 F3 H3 e3 (.bl false) (by simp only [Rep])
      | true =>
        rw [if_pos rfl]
        have a3:Aft E XO σ F2 H2 _ (mc δ):=Aft.bind a2
        refine hc Λ F0 H0 F3 H3 σ δ _ (((I.grow e1).grow e2).grow e3) ((Aft.mono e3 a3).imp fun dz F4 H4 e4 a4 z rz=>?_)
        cases q2:o2 dy dz with
        | none=>rw [q2] at a4; exact a4.elim
        | some d' =>
          rw [q2] at a4
          exact h2 F4 H4 y z dy dz d' Q e4.fh ((ry.mono e3.ff e3.hh).mono e4.ff e4.hh) rz q2 fun v F' H' e r=>a4 F' H' e v r
    cases d with
    | bl t=>exact fin t rfl
    | _=>exact a2.elim
def asBs:List D→Option (List Bool)
  | []=>some []
  | .bl b :: l=>(asBs l).map fun bs=>b :: bs
  | _ :: _=>none
theorem zio:∀ {l:List D} {bs:List Bool},asBs l=some bs→l=bs.map .bl
  | [],_,h=>by cases h; rfl
  | d :: l,bs,h=>by
    cases d with
    | bl b =>
      unfold asBs at h
      cases q:asBs l with
      | none=>rw [q] at h; cases h
      | some r=>rw [q] at h; cases h; rw [zio q]; rfl
    | _=>unfold asBs at h; cases h
theorem zn7 (bs:List Bool):asBs (bs.map .bl)=some bs:=by
  induction bs with
  | nil=>rfl
  | cons b bs ih=>simp [asBs,ih]
def fAll:List D→Option D
  | [.lst l]=>(asBs l).map fun bs=>.bl (bs.all id)
  | _=>none
theorem zhl {F:Hp}:∀ {bs:List Bool} {vs:List V},RepL K F (bs.map .bl) vs→vs=bs.map V.bl
  | [],vs,h=>h
  | b :: bs,vs,h=>by
    obtain ⟨v,r,rfl,h1,h2⟩:=h
    have:v = .bl b:=h1
    rw [this,zhl h2]; rfl
theorem zp3:SC K rAll fAll:=by
  intro F H vs ds d Q s r e q
  unfold fAll at e
  split at e
  · rename_i l
    cases q2:asBs l with
    | none=>rw [q2] at e; cases e
    | some bs =>
      rw [q2] at e
      cases e
      cases r with
      | cons r r' =>
        cases r'
        obtain ⟨p,xs,rfl,h1,h2⟩:=r
        rw [zio q2] at h2
        have:=zhl h2
        subst this
        exact ⟨p,bs,rfl,h1,q _ F H (.refl s) (by simp only [Rep])⟩
  · cases e
end
end PM
namespace L2
open PySem PySem.Spec PyProof.Rows
section
variable {X:Cx} {e st:Expr} {te ts:TE} {p2 pos:Pos}
end
end L2
namespace PM
open PySem L2
section
variable {K:Kx} {XO:XOT} {E:L2.St→XK} {te ts:TE} {me ms:En→R D}
end
end PM
namespace L2
open PySem PySem.Spec PyProof.Rows
section
variable {prog:Program} {w:World} {A:Around} {E:Value→Shared→Prop} {s:Shared}
end
section
variable {prog:Program} {w:World} {A:Around} {E:Value→Shared→Prop} {s:Shared}
end
section
variable {X:Cx} {l:Expr} {tl:TE}
end
end L2
namespace PM
open PySem L2
section
variable {K:Kx} {XO:XOT} {E:L2.St→XK} {te:TE} {me:En→R D}
end
end PM
namespace L2
open PySem PySem.Spec PyProof.Rows Builtin Builtin.ObjectAttr
def zlK:List Value→Bool
  | .ref _ :: r=>zlK r
  | l=>l == [.type "ValueError",.type "Exception",.type "BaseException",.type "object"]
theorem ziO (self:Value):∀ {l:List Value},zlK l=true→refuseLoop self "__setattr__" l=pure ()
  | .ref c :: r,e=>by rw [refuseLoop_ref]; exact ziO self (l:=r) e
  | [],e=>by cases e
  | .type n :: r,e=>by
    have:(Value.type n :: r) = [.type "ValueError",.type "Exception",.type "BaseException",.type "object"]:=beq_iff_eq.mp (show (Value.type n :: r == _)=true from e)
    rw [this]; exact PySem.F.store_ValueError.passes self
  | .none :: r,e=>by have:=beq_iff_eq.mp (show ((_:Value) :: r == _)=true from e); cases this
  | .bool _ :: r,e=>by have:=beq_iff_eq.mp (show ((_:Value) :: r == _)=true from e); cases this
  | .int _ _ :: r,e=>by have:=beq_iff_eq.mp (show ((_:Value) :: r == _)=true from e); cases this
  | .str _ _ :: r,e=>by have:=beq_iff_eq.mp (show ((_:Value) :: r == _)=true from e); cases this
  | .builtin _ :: r,e=>by have:=beq_iff_eq.mp (show ((_:Value) :: r == _)=true from e); cases this
def znh (K:PySem.W.Frag) (C:Addr):Bool:=(PySem.W.clsIn K C).any fun cd=>zlK cd.mro
section
variable {prog:Program} {w:World} {A:Around} {E:Value→Shared→Prop} {s:Shared} {K:PySem.W.Frag} {x C:Addr} {ox:Obj} {od:Option Obj} {name:Str} {tk:Tok} {v:Value} {R:Result→Shared→Prop}
theorem znp (X:K.In s.heap) (I:PySem.W.InstAt s.heap x ox C od) (hm0:PySem.W.mroIn K C (.type "object")=some true) (hp:znh K C=true) (ht:PySem.W.takerIn K C name=some none)
    (h:∀ b,wpAny (model prog w) A.in1 (storeInOwnDict (.ref x) (.ref C) (.str name tk) name v b)
      (fun fin s'=>match fin with | .done f=>R (.ok f) s' | .again c'=>c'.quiet=true∧codeAny (model prog w) A c' R s') (fun e s'=>R (.error e) s') s) :
    codeAny (model prog w) A (.call (.builtin "object.__setattr__") ⟨[.ref x,.str name tk,v],[]⟩) R s:=by
  have SF:=PySem.F.store_object
  obtain ⟨cd,hc,ho⟩:=PySem.W.any_some hp
  have sub:PySem.W.Looks (model prog w) s.heap (isInstance (.ref x) (.type "object")) true:=I.type.andThen (PySem.W.looks_mroIn X hm0)
  refine codeAny_call_builtin SF.slot.plain SF.entry (@PySem.W.check_slot (model prog w) _ _ s "object.__setattr__" "object" "__setattr__" (.ref x) [.str name tk,v] [] _ SF.kind SF.split sub (SF.args (.ref x) (.str name tk) v) ?_)
  obtain ⟨attr,ha,hr⟩:=Option.bind_eq_some_iff.mp ht
  have hm:PySem.W.Looks (model prog w) s.heap (mroOf (.ref C)) cd.mro:=(PySem.W.looks_clsIn X hc).andThen .now
  have L3:PySem.W.Looks (model prog w) s.heap (storeTaker? attr) none:=by
    cases attr with
    | none=>exact .now
    | some a =>
      obtain ⟨b,hb,hb'⟩:=Option.map_eq_some_iff.mp hr
      refine (PySem.W.looks_takesIn X hb).andThen ?_
      cases b
      · exact .now
      · cases hb'
  rw [PySem.W.osa_eq,refuse_eq]
  refine wpAny_bind (wpAny_bind (I.type.here (wpAny_bind (hm.here ?_))))
  rw [ziO _ ho]
  refine wpAny_pure (wpAny_bind (I.type.here (wpAny_bind ((PySem.W.looks_findIn X ha).here (wpAny_bind (L3.here ?_))))))
  exact h _
theorem znS {Q:Unit→Shared→Prop} {vs:Array Value} (X:K.In s.heap) (hx:s.heap.get? x=some ox) (hc:ox.cls = .ref C) (hdn:ox.dict=none) (hdt:ox.data = .fields vs)
    (hs:PySem.W.findIn K (.ref C) "__setattr__"=some (some (.builtin "object.__setattr__"))) (hm0:PySem.W.mroIn K C (.type "object")=some true) (hp:znh K C=true) (ht:PySem.W.takerIn K C name=some none) (hh:PySem.W.hasDictIn K C=true)
    (h:∀ h' tk',(∀ b o,b ≠ x→s.heap.get? b=some o→h'.get? b=some o)→h'.get? x=some { ox with dict:=some s.heap.objs.size }→h'.Ns1 s.heap.objs.size (fun y=>if y=name then some v else none)→s.heap.objs.size + 1 ≤ h'.objs.size→Q () { s with heap:=h',toks:=tk' }) :
    wpAny (model prog w) A (setAttr (.ref x) name v) Q E s:=by
  have I:PySem.W.InstAt s.heap x ox C none:=⟨hx,hc,by unfold PySem.W.notCls; rw [hdt],by rw [hdn]; trivial⟩
  refine PySem.W.set_plain X I hs (znp (s:={ s with toks:=s.toks + 1 }) X I hm0 hp ht fun b=>?_)
  obtain ⟨cd,hcd,hd'⟩:=PySem.W.any_some hh
  obtain ⟨hp,g,d,t,os⟩:=s
  obtain ⟨oc,odi,oda,osl⟩:=ox
  dsimp only at hc hdn hdt hx h X I ⊢
  subst hc hdn hdt
  obtain ⟨nd,end_⟩:∃ nd:Obj,nd = { cls:=.type "dict",data:=.dict #[] }:=⟨_,rfl⟩
  obtain ⟨g1,eg1⟩:∃ g1:Heap,g1=(hp.push nd).update x fun u=>{ u with dict:=some hp.objs.size }:=⟨_,rfl⟩
  have ne:x ≠ hp.objs.size:=fun z=>absurd (Heap.lt_size hx) (by rw [z]; exact Nat.lt_irrefl _)
  have px:(hp.push nd).get? x=some ⟨.ref C,none,.fields vs,osl⟩:=Heap.get?_push_of_some _ hx
  unfold storeInOwnDict ownDictForStores instanceDict
  refine wpAny_bind (wpAny_pure ?_)
  refine wpAny_bind (wpAny_bind (wpAny_loadPart hx (wpAny_bind ((PySem.W.looks_clsIn X hcd).here ?_))))
  rw [hd',if_neg (by decide)]
  dsimp only
  rw [if_neg (by simp [typeHasDict]),← end_]
  refine wpAny_bind (wpAny_alloc' (wpAny_bind (wpAny_update' px (wpAny_pure ?_))))
  have at1:g1.get? hp.objs.size=some nd:=by
    rw [eg1]
    exact (Heap.get?_update_ne _ _ _ _ (Ne.symm ne)).trans (Heap.get?_push_at rfl (by rw [end_]; rfl))
  have none1:g1.Ns1 hp.objs.size (fun _=>none):=Heap.Ns1.of_empty ⟨nd,#[],_,at1,by rw [end_],fun u hu=>absurd hu (by simp),fun _=>rfl⟩
  show wpAny _ _ (storeInDict hp.objs.size (.str name _) name v) _ _ { heap:=(hp.push nd).update x fun u=>{ u with dict:=some hp.objs.size },gens:=g,drawn:=d,toks:=_,os:=os }
  rw [← eg1]
  unfold storeInDict newKeyGuard
  refine wpAny_bind (wpAny_pure (wpAny_bind (wpAny_nsSet1 none1 fun g2 n2 same=>?_)))
  obtain ⟨oD,_,_,atD,dataD,few⟩:=n2.count (Within.cons name v Within.nil)
  refine wpAny_bind (wpAny_lookBehind atD ?_ ?_)
  · rw [dataD]
    refine pastItsLine_dict (Nat.le_trans few ?_)
    rw [sizeLine_eq]; simp
  wp_walk
  have x1:g1.get? x=some ⟨.ref C,some hp.objs.size,.fields vs,osl⟩:=by rw [eg1]; exact Heap.get?_update_self _ px rfl
  refine h g2 _ (fun b u nb e=>?_) ((same.2 x ne).trans x1) n2 (Heap.lt_size atD)
  have nbs:b ≠ hp.objs.size:=fun z=>absurd (Heap.lt_size e) (by rw [z]; exact Nat.lt_irrefl _)
  refine (same.2 b nbs).trans ?_
  rw [eg1]
  exact (Heap.get?_update_ne _ _ _ _ nb).trans (Heap.get?_push_of_some _ e)
set_option maxHeartbeats 4000000 in
theorem getx {Q:Value→Shared→Prop} {vs:Array Value} {dx:Addr} {mA:Str→Option Value} {expr:Bool} (Z:ExcCls K C) (X:K.In s.heap) (hx:s.heap.get? x=some ox) (hc:ox.cls = .ref C) (hdx:ox.dict=some dx) (hdt:ox.data = .fields vs) (hns:s.heap.Ns1 dx mA)
    (na:PySem.W.findIn K (.ref C) name=some none) (hv:mA name=some v) (hh:PySem.W.handedIn v=true) (k:Q v { s with toks:=s.toks + 1 }):wpAny (model prog w) A (getAttr (.ref x) name expr) Q E s:=by
  obtain ⟨oD,ho,hl⟩:=zib hns
  have I:PySem.W.InstAt s.heap x ox C (some oD):=⟨hx,hc,by unfold PySem.W.notCls; rw [hdt],by rw [hdx]; exact ho⟩
  have hf:PySem.W.findObj K C (some oD) name=some (.value v):=PySem.W.findObj_own Z.hd na rfl (by rw [hl,hv])
  have X':=X
  have I':=I
  have Z':=Z
  obtain ⟨hp,g,d,t,os⟩:=s
  have L0:=I.type (M:=model prog w)
  have L1:=PySem.W.looks_findIn (M:=model prog w) X Z.ga
  have L2:=PySem.W.looks_findIn (M:=model prog w) X Z.gn
  have L3:=PySem.W.looks_find (M:=model prog w) X I hf
  have L4:PySem.W.Looks (model prog w) hp (isInstance (.ref x) (.type "BaseException")) true:=L0.andThen (PySem.W.looks_mroIn X Z.hb)
  have f3:=F.attr_ValueError.ga.bind (.ref x)
  have hx0:(expr && onTheHeap (Value.builtin "BaseException.__getattribute__"))=false:=by cases expr <;> rfl
  have hx2:(Value.builtin "BaseException.__getattribute__" == Value.builtin "object.__getattribute__")=false:=by decide +kernel
  have hx1:(onTheHeap (Value.ref C) && Value.builtin "BaseException.__getattribute__" == Value.builtin "object.__getattribute__")=false:=by rw [hx2]; rfl
  unfold getAttr getAttrBy
  refine wpAny_bind (wpAny_mkText ?_)
  repeat (any_goals (first | assumption | with_reducible refine PySem.W.Looks.at L0 ?_ | with_reducible refine PySem.W.Looks.at L1 ?_ | with_reducible refine PySem.W.Looks.at L2 ?_ | wp_step))
  have hk:builtinKind "BaseException.__getattribute__"=some .slot:=by decide +kernel
  have hsplit:splitId "BaseException.__getattribute__"=some ("BaseException","__getattribute__"):=by decide +kernel
  have har:=F.args_bexc_ga (.ref x) (.str name t)
  refine codeAny_call_builtin F.attr_ValueError.ga.plain F.entry_bexc_ga ?_
  simp only [checkBuiltinCall,hk,hsplit]
  refine wpAny_bind ?_
  refine PySem.W.Looks.at L4 ?_
  repeat (any_goals (first | assumption | with_reducible refine PySem.W.Looks.at L4 ?_ | with_reducible refine PySem.W.Looks.at L0 ?_ | with_reducible refine PySem.W.Looks.at L3 ?_ | wp_step))
  exact PySem.W.handed_on hh k
end
structure ExcA (K:PySem.W.Frag) (C:Addr):Prop where
  z:ExcCls K C
  sa:PySem.W.findIn K (.ref C) "__setattr__"=some (some (.builtin "object.__setattr__"))
  ov:znh K C=true
def excP (C:Addr) (dct:Option Addr) (vs:Array Value) (ea:Addr):HO:=.ext fun h=>∃ ob,h.get? ea=some ob∧ob.cls = .ref C∧ob.dict=dct∧ob.data = .fields vs
theorem zmg {P:Program} {w:World} {H:Hp} {h:Heap} {C:Addr} {dct:Option Addr} {vs:Array Value} {ea:Addr} {ob:Obj} (h1:h.get? ea=some ob) (h2:ob.cls = .ref C) (h3:ob.dict=dct) (h4:ob.data = .fields vs):ObjOk P w H h ea (excP C dct vs ea) :=
  ⟨⟨ob,h1,h2,h3,h4⟩,⟨_,h1⟩,fun g1 g2 ⟨ob',e1,e2,e3,e4⟩ k=>⟨ob',k _ e1,e2,e3,e4⟩⟩
def zq7 (K:PySem.W.Frag) (ta tv:TE) (f:Str):TS:=fun D σ H=>tv σ H fun y H1=>ta σ H1 fun x H2=>∃ a C vs,x = .ref a∧H2 a=some (excP C none vs a)∧ExcA K C∧NoAttr K C f ∧
  ∀ dx,H2 dx=none→D.nx σ (upd (upd H2 a (excP C (some dx) vs a)) dx (.xd [(f,y)]))
def zqp (K:PySem.W.Frag) (ta:TE) (f:Str):TE:=fun σ H Q=>ta σ H fun x H1=>∃ a C dx fs v,x = .ref a∧H1 a=some (excO C (some dx) a)∧H1 dx=some (.xd fs)∧ExcCls K C∧NoAttr K C f∧fs.lookup f=some v∧Q v H1
section
variable {X:Cx} {o e value:Expr} {f:Str} {pos pos' tpos:Pos} {ta tv:TE}
theorem zjO (he:PE X e ta) (hb:attributeBase e f X.env (eval e X.env)=eval e X.env):PE X (.Attribute e f pos) (zqp X.K ta f):=by
  intro pins s σ H Q I h
  refine zoL hb (thn (he pins s σ H _ I h) fun u s1 ⟨x,H1,I1,rx,a,C,dx,fs,v,ex,ea,ed,c,n,l,q⟩=>?_)
  subst ex
  obtain rfl:u=Value.ref a:=rx
  obtain ⟨⟨ob,h1,h2,h3,vs,h4⟩,_⟩:=I1.hok a _ ea
  obtain ⟨mA,hn,r⟩:=(show ObjOk X.prog X.w H1 s1.heap dx (.xd fs) from I1.hok dx _ ed)
  obtain ⟨u,hu,ru⟩:=RelO.some_of (v:=v) (o:=mA f) (by rw [← l]; exact r f)
  exact getx c I1.kIn h1 h2 h3 h4 hn n hu (zl4 ru) ⟨v,H1,I1.tok _,ru,q⟩
theorem zpA (ha:PE X o ta) (hv:PE X value tv) (hs:swapsWith value (some (.Attribute o f pos')) pos.line X.env=pure false):PS X (.Assign [.Attribute o f pos'] value pos) (zq7 X.K ta tv f):=by
  intro pins s σ H D I h
  refine plainObj_wpAny_Assign_Attribute (thn (hv pins s σ H _ I h) fun u s1 ⟨y,H1,I1,ry,q⟩=>thn (ha pins s1 σ H1 _ I1 q) fun ov s2 ⟨x,H2,I2,rx,a,C,vs,ex,ea,c,n,q2⟩=>?_) hs
  subst ex
  obtain rfl:ov=Value.ref a:=rx
  obtain ⟨⟨ob,h1,h2,h3,h4⟩,_⟩:=I2.hok a _ ea
  refine znS I2.kIn h1 h2 h3 h4 c.sa c.z.hm c.ov n.taker c.z.hd fun h' tk' hk hx' hn hsz=>?_
  have fr:H2 s2.heap.objs.size=none:=I2.hok.fresh (Nat.le_refl _)
  have nea:s2.heap.objs.size ≠ a:=fun z=>by rw [← z,fr] at ea; cases ea
  have I3:Inv X pins σ (upd H2 a (excP C (some s2.heap.objs.size) vs a)) { s2 with heap:=h',toks:=tk' }:=I2.write (x:=a) (e:=a) (by rw [ea]; exact True.intro) (.inl rfl) hk ⟨_,hx'⟩ (zmg hx' h2 rfl h4)
  have old:∀ b,b < s2.heap.objs.size→b ≠ s2.heap.objs.size:=fun b hb z=>absurd hb (by rw [z]; exact Nat.lt_irrefl _)
  refine ⟨σ,_,I3.track (ea:=s2.heap.objs.size) (o:=.xd [(f,y)]) (by rw [zau nea]; exact fr) ?_ ?_ ?_ ?_ ?_,q2 _ fr⟩
  · exact Heap.get?_none_of_le I2.sz
  · exact Nat.ne_of_gt I2.lt
  · intro x c e
    obtain ⟨v,o,ho,_⟩:=I2.cell x c e
    exact Nat.ne_of_lt (Heap.lt_size ho)
  · intro p hp
    exact Nat.ne_of_lt (Heap.lt_size (I2.pin p hp).1)
  · refine ⟨_,hn,fun g=>?_⟩
    show RelO (match g == f with | true=>some y | false=>none) (if g=f then some u else none)
    by_cases z:g=f
    · rw [if_pos z,show (g == f)=true by simpa using z]; exact ry
    · rw [if_neg z,show (g == f)=false by simpa using z]; trivial
end
section
variable {M:Model} {A:Around} {E:Value→Shared→Prop} {s:Shared} {B:Heap} {env:Env} {outer l:List Env} {L e:Addr} {Q:Unit→Shared→Prop}
theorem zmO {oe:Obj} {vs:Array Value} (hfr:A.frames=some (env :: outer)) (hf:env.frame=some L) (hst:B.StaysIn s.heap) (hl:s.heap.FunFrames B (env :: outer)) (he:s.heap.get? e=some oe) (hd:oe.data = .fields vs) (h1:vs[1]?=some .none) (hen:B.get? e=none)
    (k:∀ h',FlyD B (env :: outer) e oe.cls oe.dict (rawInt L) h'→s.heap.UpToSlots h'→Q () { s with heap:=h' }):wpAny M A (noteFrame (.ref e) env) Q E s:=by
  unfold noteFrame
  simp only [hf]
  refine wpAny_bind (wpAny_field he hd (x:=Value.none) h1 ?_)
  rw [if_neg (by decide)]
  exact zlN hfr hl hf he hd (Array.getElem?_eq_some_iff.mp h1).1 hst hen k
end
def remH (H:Hp) (a:Addr):Hp:=fun b=>if b=a then none else H b
theorem zeO {H:Hp} {a b:Addr} (h:b ≠ a):remH H a b=H b:=by unfold remH; rw [if_neg h]
section
variable {P:Program} {w:World} {K:PySem.W.Frag} {mg:Str→Option Value} {base:Heap} {N:List Str} {qual:Str} {scope:Scope} {f:Addr} {cd:Value} {A:Around} {outer:List Env} {s0:Shared} {H0:Hp} {E:XK}
theorem zm9 {pins:List (Addr × Obj)} {σ:St} {H:Hp} {s:Shared} {ea C:Addr} {dct:Option Addr} {vs:Array Value} (I:Inv (cx1 P w K mg base N qual scope f cd A outer s0 H0 E) pins σ H s) (he:H ea=some (excP C dct vs ea)) (h0:s0.heap.get? ea=none) (v1:vs[1]?=some .none)
    (q:E (.ref C) dct (remH H ea)):(cx1 P w K mg base N qual scope f cd A outer s0 H0 E).xe (.ref ea) s:=by
  obtain ⟨⟨ob,g1,g2,g3,g4⟩,_⟩:=I.hok ea _ he
  have hin:∀ env ∈ (cx1 P w K mg base N qual scope f cd A outer s0 H0 E).stack,∀ a,env.frame=some a→a ∈ ea :: frs (cx1 P w K mg base N qual scope f cd A outer s0 H0 E).stack:=fun env he a ha=>List.mem_cons_of_mem _ (List.mem_filterMap.mpr ⟨env,he,ha⟩)
  have hstk:=I.stack
  show wpAny (model P w) _ (leaving _ (.ref ea)) _ _ s
  unfold leaving
  refine wpAny_bind (zmO (B:=PySem.W.hideAll s.heap (ea :: frs (cx1 P w K mg base N qual scope f cd A outer s0 H0 E).stack)) I.ok.frames rfl (fun b o e=>PySem.W.of_hideAll _ e) (PySem.W.funFrames_hide hstk hin) g1 g4 v1 (PySem.W.hideAll_none _ (by simp)) fun h1 F1 up1=>?_)
  refine zjm F1 fun h2 F2 up2=>?_
  have keepS:∀ b o,s.heap.get? b=some o→b ∉ ea :: frs (cx1 P w K mg base N qual scope f cd A outer s0 H0 E).stack→(PySem.W.hideAll s.heap (ea :: frs (cx1 P w K mg base N qual scope f cd A outer s0 H0 E).stack)).get? b=some o:=fun b o e hb=>PySem.W.hideAll_get _ e hb
  have nea:∀ {b:Addr} {u:HO},H b=some u→(∀ φ,u ≠ .ext φ)→b ≠ ea:=fun e n z=>by
    subst z
    rw [he] at e
    exact n _ (Option.some.inj e).symm
  have base':Un (cx1 P w K mg base N qual scope f cd A outer s0 H0 E).fs [] H0 (remH H ea) s0.heap s.heap:=⟨I.base.keep,I.base.slot,fun b o e n hx=>by
      unfold remH
      split
      · rfl
      · exact I.base.free b o e n hx,I.base.there,fun b xs e=>by
      have z:=I.base.tups b xs e
      rw [zeO (nea z (fun _ w=>by cases w))]; exact z,fun b o u e=>by
      have z:=I.base.frzs b o u e
      rw [zeO (nea z (fun _ w=>by cases w))]; exact z,fun b ps e=>by
      obtain ⟨m,z⟩:=I.base.tbls b ps e
      exact ⟨m,by rw [zeO (nea z (fun _ w=>by cases w))]; exact z⟩⟩
  obtain ⟨u,third⟩:=ziC (h1:=s0.heap) (h2:=s.heap) (h3:=h2) (B:=PySem.W.hideAll s.heap (ea :: frs (cx1 P w K mg base N qual scope f cd A outer s0 H0 E).stack)) (fr:=frs (cx1 P w K mg base N qual scope f cd A outer s0 H0 E).stack) Un.refl (base'.mono (fun b hb=>List.mem_cons_of_mem _ hb) (fun b hb=>hb)) I.ok.above I.stkSub
    (fun b hb=>List.mem_cons_of_mem _ hb) I.ok.frf (fun b hb o e=>by
      obtain ⟨_,o',ho',hn⟩:=hstk.mem (List.mem_cons_of_mem _ hb)
      rw [e] at ho'
      cases ho'
      exact hn) (up1.trans up2) F2.stays (fun b o e hb=>by
      obtain ⟨o',e'⟩:=I.base.there b o e (by show b ∉ []; simp)
      have nb:b ≠ ea:=fun z=>by rw [z] at e; rw [h0] at e; cases e
      refine ⟨o',keepS b o' e' (fun z=>(List.mem_cons.mp z).elim nb hb),fun n=>?_⟩
      have k:=I.base.keep b o e n (fun z=>hb (List.mem_cons_of_mem _ z)) (by show b ∉ []; simp)
      rw [e'] at k
      exact Option.some.inj k)
  refine ⟨ea,C,dct,remH H ea,rfl,⟨I.os,I.bare,u,_,by rw [g2,g3] at F2; exact F2.pop,?_,third⟩,q⟩
  intro a o e
  have na:a ≠ ea:=fun z=>by rw [z] at e; unfold remH at e; rw [if_pos rfl] at e; cases e
  rw [zeO na] at e
  refine (I.hok a o e).stay (fun b v hb q=>keepS b v q fun z=>?_) (fun b q=>by rw [zeO (nea q (fun _ w=>by cases w))]; exact q) fun b _ q=>by rw [zeO (nea q (fun _ w=>by cases w))]; exact q
  rcases List.mem_cons.mp z with z | z
  · subst z
    rcases hb with hb | hb
    · exact na hb.symm
    · exact nea hb (fun _ w=>by cases w) rfl
  · have n:=I.stkFree b z
    rcases hb with rfl | hb
    · rw [e] at n; cases n
    · rw [hb] at n; cases n
end
theorem zkJ {K:PySem.W.Frag} {h:Heap} {N:Addr} {m:Str→Option Value} {n:Str} {v:Value} (X:K.In h) (G:h.Ns N m) (e:PySem.W.nsIn K N n=some (some v)):m n=some v:=by
  obtain ⟨o,es,ep,a1,a2,_,a3⟩:=G
  unfold PySem.W.nsIn at e
  split at e
  · rename_i look
    have eq:=(X _ _ look).symm.trans a1
    cases eq
    cases a2
    split at e
    · rename_i found
      cases e
      refine (a3 n).symm.trans ?_
      simp only [nsFind,findBy]
      rw [← Array.find?_toList,found]; rfl
    · split at e <;> cases e
  · cases e
def zhm (K:PySem.W.Frag) (C:Addr) (bmB:List Value) (newId:String) (fa:Addr):Bool:=match K.lookup C with
  | some ⟨.type "type",_,.cls cd,sl⟩=>(match cd.mro,sl.toList with
    | .ref C' :: bm,[_,_,_,_,some (.builtin n),_]=>C' == C && n == newId && !cd.hasDel && PySem.W.tailIn K bmB bm && PySem.W.nsOkIn K cd.ns && PySem.W.nsIn K cd.ns "__init__" == some (some (.ref fa))
    | _,_=>false)
  | _=>false
theorem zk8 {K:PySem.W.Frag} {h:Heap} {C fa:Addr} {bmB:List Value} {newId:String} (X:K.In h) (q:zhm K C bmB newId fa=true) :
    ∃ bm N nm qn bs hdct sn sub ab col dd k0 k1 k2 k3 k5 mN,h.get? C=some (excClassObj nm qn C N bs bm hdct sn sub ab col dd k0 k1 k2 k3 k5 newId)∧h.Ns N mN∧mN "__init__"=some (.ref fa)∧OwnTail h bmB bm:=by
  unfold zhm at q
  split at q
  · rename_i dd cd sl ho
    split at q
    · rename_i C' bm k0 k1 k2 k3 n k5 hm hs
      simp only [Bool.and_eq_true,beq_iff_eq,Bool.not_eq_true'] at q
      obtain ⟨⟨⟨⟨⟨rfl,rfl⟩,hdel⟩,ht⟩,hok⟩,hni⟩:=q
      obtain ⟨nm,bs,mro,ns,qn,hd,sn,sub,ab,col,del⟩:=cd
      dsimp only at hm hdel hok hni
      subst hm hdel
      obtain ⟨sll⟩:=sl
      simp only at hs
      subst hs
      exact ⟨bm,ns,nm,qn,bs,hd,sn,sub,ab,col,dd,k0,k1,k2,k3,k5,_,X _ _ ho,.of_isNs (PySem.W.isNs_of_in X hok),zkJ X (.of_isNs (PySem.W.isNs_of_in X hok)) hni,PySem.W.tail_of_in X ht⟩
    · cases q
  · cases q
section
variable {M:Model} {A:Around} {E:Value→Shared→Prop} {env:Env}
variable {nm q:Str} {C N:Addr} {bs bm:List Value} {hdct:Bool} {sn:List Str} {sub:List Value} {ab:Bool} {col:Option Bool} {dd:Option Addr} {k0 k1 k2 k3 k5:Option Value} {newId:String}
theorem zgH {s:Shared} {x:Sem Value} {Q:Flow→Shared→Prop} (hbase:bm.contains (.type "BaseException")=true) (hh:A.handled=none)
    (h:wpAny M A x (fun v s₁=>∃ e oe,v = .ref e∧s₁.heap.get? C=some (excClassObj nm q C N bs bm hdct sn sub ab col dd k0 k1 k2 k3 k5 newId) ∧
      s₁.heap.get? e=some oe∧oe.cls = .ref C∧(∃ vs,oe.data = .fields vs∧vs[1]?=some .none)∧E (.ref e) s₁) E s) :
    wpAny M A (raiseStmt env (some x) none) Q E s:=by
  have hcB:(Value.ref C :: bm).contains (.type "BaseException")=true:=by rw [List.contains_cons,hbase,Bool.or_true]
  unfold raiseStmt
  refine wpAny_bind (wpAny_mono h (fun v s₁ h₁=>?_) fun _ _ x=>x)
  obtain ⟨e,oe,rfl,hC,he,hc,⟨vs,hd,hv⟩,hE⟩:=h₁
  obtain ⟨hp,g,d,tk,os⟩:=s₁
  obtain ⟨oc,odi,oda,osl⟩:=oe
  dsimp only at hc hd
  subst hc hd
  repeat (first | with_reducible refine wpAny_loadPart_at he ?_ | with_reducible refine wpAny_loadPart_at hC ?_ | (with_reducible refine wpAny_isSubtype_exc hC ?_; rw [hcB]) | wp_step)
  rw [hv]
  refine wpAny_pure ?_
  rw [if_neg (by decide)]
  refine wpAny_pure ?_
  exact wpAny_raiseNew_none hh hE
end
def zoU (X:Cx) (E:St→XK):Prop:=∀ (pins:List (Addr × Obj)) (σ:St) (H:Hp) (s:Shared) (ea C:Addr) (dct:Option Addr) (vs:Array Value),Inv X pins σ H s→H ea=some (excP C dct vs ea)→X.s₀.heap.get? ea=none→vs[1]?=some .none→E σ (.ref C) dct (remH H ea)→X.xe (.ref ea) s
def zjd (C:Addr) (sp:Sp) (E:St→XK) (t:TA):TS:=fun _ σ H=>t σ H fun vs H1=>vs.length ≤ sizeLine ∧
  ∀ e xs,H1 e=none→sp (.ref e :: vs) (upd H1 e (excP C none xs e)) (fun v H2=>v = .non∧∃ dct,H2 e=some (excP C dct xs e)∧E σ (.ref C) dct (remH H2 e)) E0
section
variable {P:Program} {w:World} {K:PySem.W.Frag} {mg:Str→Option Value} {base:Heap} {N:List Str} {qual:Str} {scope:Scope} {f:Addr} {cd:Value} {A:Around} {outer:List Env} {s0:Shared} {H0:Hp} {E:XK}
theorem zqH:zoU (cx1 P w K mg base N qual scope f cd A outer s0 H0 E) (fun _=>E):=fun _ _ _ _ _ _ _ _ I he h0 v1 q=>zm9 I he h0 v1 q
end
section
variable {X:Cx} {CX:CXT} {k:Nat} {fa:Addr} {fd:FuncData} {ps:List Str} {sp:Sp} {x:Str} {np cpos pos:Pos} {e₀:Expr} {rest:List Expr} {C:Addr} {bmB bmN:List Value} {newId Bn B nid inN initId:String} {E:St→XK} {t:TA}
theorem zme (hex:X.ex = []) (hc:X.calm=true) (hg:Gl X x) (hmx:X.mg x=some (.ref C)) (hk:zhm X.K C bmB newId fa=true) (Fn:ExcBaseFacts Bn newId inN bmN) (hBn:bmB.contains (.type Bn)=true) (FB:ExcBaseFacts B nid initId bmB) (hE:zoU X E)
    (F:FnOk X.prog X.w X.K X.mg X.base CX k fa fd ps sp) (hr:Room (k + 1) X.A) (hb:Binds X.K fd ps []) (hfn:PySem.W.isFn X.K (.ref fa)=true) (hx:zhn CX X E0)
    (ha:PA X (e₀ :: rest) t) (he:starEach (e₀ :: rest) X.env=(false,eval e₀ X.env) :: starEach rest X.env:=by rfl) (hplain:(backTo cpos (starEach rest X.env)).any (·.1)=false:=by rfl) (hdb:(x == ("__debug__" : Str))=false:=by decide) :
    PS X (.Raise (some (.Call (.Name x np) (e₀ :: rest) [] cpos)) none pos) (zjd C sp E t):=by
  intro pins s σ H D I h
  obtain ⟨tl,N,nm,qn,bs,hdct,sn,sub,ab,col,dd,k0,k1,k2,k3,k5,mN,hC,hN,hni,T⟩:=zk8 I.ok.mod.kin hk
  have hpl:(backTo cpos (starEach (e₀ :: rest) X.env)).any (·.1)=false:=by
    rw [he]; show (false || (backTo cpos (starEach rest X.env)).any (·.1))=false; rw [hplain]; rfl
  rw [arm_exec_Raise]
  refine wpAny_bind (wpAny_standAt (zgH (C:=C) (nm:=nm) (q:=qn) (N:=N) (bs:=bs) (bm:=tl) (hdct:=hdct) (sn:=sn) (sub:=sub) (ab:=ab) (col:=col) (dd:=dd) (k0:=k0) (k1:=k1) (k2:=k2) (k3:=k3) (k5:=k5) (newId:=newId) (T.hasType FB.hasBase) (I.ok.hd hc) ?_))
  refine wpAny_bind (wpAny_mono (wpAny_Call_ofName (zeN I hg hmx ?_ hdb)) (fun v s₃ h₃=>wpAny_bind (wpAny_standAt (wpAny_pure h₃))) fun _ _ x=>x)
  unfold callWith
  refine wpAny_bind (wpAny_holding ?_)
  have hA:=ha cpos pins s σ H _ I h
  rw [he] at hA hpl ⊢
  refine Calls.evalArgs_plain (thn hA fun us s1 ⟨vs,H1,I1,r1,z,q⟩=>?_)
  have bk:=I1.bk
  have hC1:=bk _ _ hC
  have hN1:=hN.keeps bk
  have T1:=T.keeps bk
  have fI:∃ fo,s1.heap.get? fa=some fo∧fo.cls = .type "function":=by
    have z:=beq_iff_eq.mp hfn
    unfold PySem.W.typeIn at z
    obtain ⟨fo,e1,e2⟩:=Option.map_eq_some_iff.mp z
    exact ⟨fo,I1.kIn _ _ e1,e2⟩
  obtain ⟨fo,atF,isF⟩:=fI
  obtain ⟨hp,g,d,tk,os⟩:=s1
  refine wpAny_bind (wpAny_standAt ?_)
  simp only [hpl]
  refine wpAny_bind (wpAny_keeperOf_exc hC1 ?_)
  refine wpAny_bind (zk3 Fn hBn FB T1 hC1 hN1 hni atF isF (fun h' e hm=>?_) (by show us.length ≤ sizeLine; rw [← r1.length]; exact z))
  obtain ⟨t,ht,_,_⟩:=hm.there
  have nw:hp.get? e=none:=hm.new
  have nH:H1 e=none:=I1.hok.none_of nw
  have h0:X.s₀.heap.get? e=none:=by
    cases z:X.s₀.heap.get? e with
    | none=>rfl
    | some o =>
      obtain ⟨o',e'⟩:=I1.base.there e o z (by rw [hex]; simp)
      rw [show hp.get? e=some o' from e'] at nw; cases nw
  have I2:Inv X pins σ H1 { heap:=h',gens:=g,drawn:=d,toks:=tk,os:=os }:=I1.kept hm.keeps
  have I3:=I2.track (ea:=e) (o:=excP C none #[.ref t,.none,.none,.none,.bool false,.none] e) nH h0 (fun z=>by
      obtain ⟨m,⟨o,es,ep,ho,_⟩,_⟩:=I1.loc
      rw [z,show hp.get? X.env.locals=some o from ho] at nw; cases nw) (fun x c ec z=>by
      obtain ⟨v,o,ho,_⟩:=I1.cell x c ec
      rw [z,nw] at ho; cases ho) (fun p hpn z=>by
      have a:=(I1.pin p hpn).1
      rw [z,nw] at a; cases a) (zmg ht rfl rfl rfl)
  have hq:=q e #[.ref t,.none,.none,.none,.bool false,.none] nH
  have r2:Vals (V.ref e :: vs) (Value.ref e :: us):=.cons rfl r1
  have hl:(Value.ref e :: us ++ []).length=ps.length:=by
    rw [List.append_nil,← r2.length]
    exact F.len _ _ _ _ hq
  have bb:=hb _ (Value.ref e :: us) I3.kIn hl
  rw [List.append_nil] at bb
  refine wpAny_call (codeAny_mono (F.run _ X.stack _ _ ⟨Value.ref e :: us,[]⟩ (Value.ref e :: us) _ _ E0 (hr.make C us []) (I3.env0.make C us []) bb r2 hq) fun r s' hq'=>?_)
  cases r with
  | error er=>exact hx pins σ _ _ er s' I3 hq'
  | ok fl =>
    cases fl with
    | ret u =>
      obtain ⟨v,H',I4,rv,ev,dct,eH,qE⟩:=I3.after hq'
      subst ev
      obtain ⟨⟨ob,g1,g2,g3,g4⟩,_⟩:=I4.hok e _ eH
      exact ⟨rv,wpAny_bind (wpAny_holding (wpAny_point (wpAny_pure ⟨e,ob,rfl,I4.bk _ _ hC,g1,g2,⟨_,g4,rfl⟩,hE pins σ H' s' e C dct _ I4 eH h0 rfl qE⟩)))⟩
    | next=>exact False.elim hq'
    | brk=>exact False.elim hq'
    | cont=>exact False.elim hq'
end
end L2
namespace PM
open PySem L2
def spI (K:PySem.W.Frag) (attr:Str):Sp:=fun vs H Q _=>∃ (e C:Addr) (xs:Array Value) (n:Int),vs = [.ref e,.int n]∧H e=some (excP C none xs e)∧ExcA K C∧NoAttr K C attr ∧
  ∀ dx,H dx=none→Q .non (upd (upd H e (excP C (some dx) xs e)) dx (.xd [(attr,.int n)]))
theorem zpj {K:PySem.W.Frag} {attr p1 p2:Str} {vs:List V} {H:Hp} {Q:VK} {E:XK} (h:spI K attr vs H Q E):vs.length = [p1,p2].length:=by
  obtain ⟨_,_,_,_,rfl,_⟩:=h
  rfl
def HasI (P:Program) (w:World) (K:PySem.W.Frag) (mg:Str→Option Value) (base:Heap) (fa:Addr) (ps:List Str) (sp:Sp):Prop:=∃ fd,FnOk P w K mg base CX0 1 fa fd ps sp∧Binds K fd ps []
section
variable {X:Cx} {fa:Addr} {ps:List Str} {sp:Sp} {x:Str} {np cpos pos:Pos} {e₀:Expr} {rest:List Expr} {C:Addr} {bmB bmN:List Value} {newId Bn B nid inN initId:String} {E:L2.St→XK} {t:TA}
theorem zm7 (hex:X.ex = []) (hc:X.calm=true) (hg:Gl X x) (hmx:X.mg x=some (.ref C)) (hk:zhm X.K C bmB newId fa=true) (Fn:ExcBaseFacts Bn newId inN bmN) (hBn:bmB.contains (.type Bn)=true) (FB:ExcBaseFacts B nid initId bmB) (hE:zoU X E)
    (G:HasI X.prog X.w X.K X.mg X.base fa ps sp) (hr:Room 2 X.A) (hfn:PySem.W.isFn X.K (.ref fa)=true)
    (ha:PA X (e₀ :: rest) t) (he:starEach (e₀ :: rest) X.env=(false,eval e₀ X.env) :: starEach rest X.env:=by rfl) (hplain:(backTo cpos (starEach rest X.env)).any (·.1)=false:=by rfl) (hdb:(x == ("__debug__" : Str))=false:=by decide) :
    PS X (.Raise (some (.Call (.Name x np) (e₀ :: rest) [] cpos)) none pos) (zjd C sp E t):=by
  obtain ⟨fd,F,hb⟩:=G
  exact zme hex hc hg hmx hk Fn hBn FB hE F hr hb hfn za3 ha he hplain hdb
end
def asI1:List D→Option Int
  | [.int n]=>some n
  | _=>none
theorem zmL {l:List D} {n:Int} (h:asI1 l=some n):l = [.int n]:=by
  unfold asI1 at h
  split at h
  · cases h; rfl
  · cases h
def zjS (c0:Nat) (ml:En→R (List D)) (δ:En):O:=(ml δ).toO δ fun l=>match asI1 l with | some n=>ifC (0 ≤ n) (.ex δ ⟨c0 + 16 * (n.toNat + 1)⟩) .no | none=>.no
section
variable {K:Kx} {XO:XOT} {E:L2.St→XK} {ta:TE} {ma:En→R D} {Λ:List (Nat × Addr × HO)} {F0 H0 F H:Hp} {σ:L2.St} {δ:En}
theorem zlZ {C:Addr} {c0:Nat} {attr:Str} {tl:TA} {ml:En→R (List D)} (h16:c0 < 16) (hC:∀ k,C=K.ca (c0 + 16 * (k + 1))) (han:∀ k,K.an (c0 + 16 * (k + 1))=attr) (zA:ExcA K.f C) (zN:NoAttr K.f C attr)
    (h:SA K (xoK K) E tl ml):SS K (xoK K) E (zjd C (spI K.f attr) E tl) (zjS c0 ml):=by
  intro Λ F0 H0 F H σ δ Dn I a
  refine h Λ F0 H0 F H σ δ _ I ((AftS.of I a).imp fun l F1 H1 e p vs r=>?_)
  cases q1:asI1 l with
  | none=>rw [q1] at p; exact p.elim
  | some n =>
    rw [q1] at p
    have el:=zmL q1
    subst el
    simp only at p
    unfold ifC at p
    split at p
    · rename_i hn
      obtain ⟨v,rfl,rv⟩:=r.one
      simp only [Rep] at rv
      subst rv
      refine ⟨by show 1 ≤ sizeLine; decide,fun ea xs hea=>⟨ea,C,xs,n,rfl,zax,zA,zN,fun dx hdx=>⟨rfl,some dx,?_,?_⟩⟩⟩
      · have ne:ea ≠ dx:=fun z=>by rw [← z,zax] at hdx; cases hdx
        rw [zau ne,zax]
      · have ne:dx ≠ ea:=fun z=>by rw [z,zax] at hdx; cases hdx
        have hd1:H1 dx=none:=by rw [zau ne] at hdx; exact hdx
        have er:remH (upd (upd (upd H1 ea (excP C none xs ea)) ea (excP C (some dx) xs ea)) dx (.xd [(attr,.int n)])) ea=upd H1 dx (.xd [(attr,.int n)]):=by
          funext b
          by_cases hb:b=ea
          · subst hb
            rw [zau (Ne.symm ne),hea]
            unfold remH
            rw [if_pos rfl]
          · rw [zeO hb]
            by_cases hd:b=dx
            · subst hd; rw [zax,zax]
            · rw [zau hd,zau hd,zau hb,zau hb]
        rw [er]
        have x:=Ext.new (o:=.xd [(attr,.int n)]) (I.grow e).same hd1
        refine p σ _ _ _ _ ((I.grow e).grow x) ⟨by rw [hC n.toNat],?_⟩
        show XA K _ (c0 + 16 * (n.toNat + 1)) _
        unfold XA
        rw [if_neg (by omega)]
        refine ⟨dx,rfl,?_⟩
        rw [zax,han]
        have:(((c0 + 16 * (n.toNat + 1)) / 16:Nat):Int) - 1=n:=by omega
        rw [this]
    · exact p.elim
def zhW (tab:Nat→Bool) (d:D):Option D:=match d with | .exc c=>if 16 ≤ c∧tab c=true then some (.int (((c / 16:Nat):Int) - 1)) else none | _=>none
theorem zjH {attr:Str} {tab:Nat→Bool} (hz:∀ c,tab c=true→ExcCls K.f (K.ca c)∧NoAttr K.f (K.ca c) attr∧K.an c=attr) (ha:SEr K XO E ta ma):SE K XO E (zqp K.f ta attr) (m1 (zhW tab) ma):=by
  intro Λ F0 H0 F H σ δ Q I a
  refine ha Λ F0 H0 F H σ δ _ I (a.bind.imp fun d F1 H1 e1 a1 x rx=>?_)
  cases d with
  | exc c =>
    simp only [Top,Rep] at rx
    obtain ⟨p,dct,rfl,h1,hxa⟩:=rx
    simp only [zhW] at a1
    by_cases hc:16 ≤ c∧tab c=true
    · rw [if_pos hc] at a1
      obtain ⟨z1,z2,z3⟩:=hz c hc.2
      unfold XA at hxa
      rw [if_neg (by omega)] at hxa
      obtain ⟨dx,rfl,h2⟩:=hxa
      rw [z3] at h2
      refine ⟨p,_,dx,_,_,rfl,e1.fh _ _ h1,e1.fh _ _ h2,z1,z2,?_,a1 F1 H1 (.refl e1.fh) (.int (((c / 16:Nat):Int) - 1)) (by simp only [Rep])⟩
      simp [List.lookup]
    · rw [if_neg hc] at a1; exact a1.elim
  | _=>exact a1.elim
end
end PM
namespace L2
open PySem PyProof.Rows
def Lx (ky:Nat→Int) (i j:Nat):Prop:=ky i < ky j∨(ky i=ky j∧i < j)
theorem Lx.trans {ky:Nat→Int} {a b c:Nat} (h:Lx ky a b) (h':Lx ky b c):Lx ky a c:=by unfold Lx at *; omega
theorem Lx.le {ky:Nat→Int} {a b:Nat} (h:Lx ky a b):ky a ≤ ky b:=by unfold Lx at h; omega
abbrev gAr (p:Array Nat) (j:Nat):Nat:=p.getD j 0
theorem zgG {p:Array Nat} {i j:Nat} (hj:j ≤ p.size) (k:Nat):gAr (PySem.W.kas_rev p i j) k=if i ≤ k∧k < j then gAr p (i + j - 1 - k) else gAr p k:=by
  unfold gAr PySem.W.kas_rev
  rw [Array.getD_eq_getD_getElem?,getElem?_mirror_all hj,Array.getD_eq_getD_getElem?,Array.getD_eq_getD_getElem?]
  split <;> rfl
theorem zpG {p:Array Nat} {s d:Nat} (hs:s < p.size) (hd:d ≤ s) (k:Nat):gAr (bubble p s d) k=if k=s - d then gAr p s else if s - d < k∧k ≤ s then gAr p (k - 1) else gAr p k:=by
  unfold gAr
  rw [Array.getD_eq_getD_getElem?,getElem?_bubble hs d hd,Array.getD_eq_getD_getElem?,Array.getD_eq_getD_getElem?,Array.getD_eq_getD_getElem?]
  split
  · rfl
  · split <;> rfl
def Arr (N:Nat) (p:Array Nat):Prop:=p.Perm (List.toArray (List.range N))
section
variable {N:Nat} {p:Array Nat}
theorem Arr.list (h:Arr N p):p.toList.Perm (List.range N):=by simpa using Array.perm_iff_toList_perm.mp h
theorem Arr.size (h:Arr N p):p.size=N:=by have:=h.size_eq; simpa using this
theorem Arr.get (h:Arr N p) {i:Nat} (hi:i < N):p.toList[i]?=some (gAr p i):=by
  have:i < p.size:=by rw [h.size]; exact hi
  simp [gAr,Array.getD,this]
theorem Arr.lt (h:Arr N p) {i:Nat} (hi:i < N):gAr p i < N:=by
  have:=h.list.mem_iff.mp (List.mem_of_getElem? (h.get hi))
  simpa using this
theorem Arr.inj (h:Arr N p) {i j:Nat} (hi:i < N) (hj:j < N) (e:gAr p i=gAr p j):i=j:=by
  have nd:p.toList.Nodup:=h.list.nodup_iff.mpr List.nodup_range
  have h1:=h.get hi
  have h2:=h.get hj
  rw [← e] at h2
  have li:i < p.toList.length:=by simpa [h.size] using hi
  exact (List.getElem?_inj li nd).mp (h1.trans h2.symm)
theorem Arr.below (h:Arr N p) {n i:Nat} (hn:∀ j,n ≤ j→j < N→gAr p j=j) (hi:i < n) (hN:n ≤ N):gAr p i < n:=by
  by_cases hlt:gAr p i < n
  · exact hlt
  · exfalso
    have l:=h.lt (show i < N by omega)
    have e:=hn (gAr p i) (by omega) l
    have:=h.inj (show i < N by omega) l e.symm
    omega
theorem Arr.rev (h:Arr N p) (i j:Nat):Arr N (PySem.W.kas_rev p i j):=(mirror_perm p i j _).trans h
theorem Arr.bub (h:Arr N p) (s d:Nat):Arr N (bubble p s d):=(bubble_perm p s d).trans h
end
section
variable {ky:Nat→Int} {N:Nat} {cmp:Nat→Nat→(Bool→Shared→Prop)→Shared→Prop}
def CmpI (ky:Nat→Int) (N:Nat) (cmp:Nat→Nat→(Bool→Shared→Prop)→Shared→Prop):Prop:=∀ i j,i < N→j < N→∀ (C:Bool→Shared→Prop) (s:Shared),C (decide (ky i < ky j)) s→cmp i j C s
structure Pre (ky:Nat→Int) (N:Nat) (p:Array Nat) (n:Nat):Prop where
  arr:Arr N p
  le:n ≤ N
  ord:∀ i j,i < j→j < n→Lx ky (gAr p i) (gAr p j)
  rest:∀ j,n ≤ j→j < N→gAr p j=j
theorem zlM {g:Nat→Nat} {n:Nat} (h:∀ j,0 < j→j < n→Lx ky (g (j - 1)) (g j)):∀ i j,i < j→j < n→Lx ky (g i) (g j):=by
  intro i j
  induction j with
  | zero=>intro h1; omega
  | succ j ih =>
    intro h1 h2
    have a:=h (j + 1) (by omega) h2
    simp only [Nat.add_sub_cancel] at a
    by_cases e:i=j
    · subst e; exact a
    · exact (ih (by omega) (by omega)).trans a
theorem zob (hc:CmpI ky N cmp) {p:Array Nat} (hA:Arr N p) {G:Nat→Shared→Prop}:∀ (f n:Nat) (s:Shared),1 ≤ n→n + f ≤ N →
    (∀ m,n ≤ m→m ≤ n + f→(∀ j,n ≤ j→j < m→¬ ky (gAr p j) < ky (gAr p (j - 1)))→(m < n + f→ky (gAr p m) < ky (gAr p (m - 1)))→G m s)→(PySem.W.kas_asc p f n).kasWp cmp G s:=by
  intro f
  induction f with
  | zero=>intro n s h1 h2 k; exact k n (Nat.le_refl _) (Nat.le_refl _) (fun j a b=>by omega) (fun a=>by omega)
  | succ f ih =>
    intro n s h1 h2 k
    refine hc (gAr p n) (gAr p (n - 1)) (hA.lt (by omega)) (hA.lt (by omega)) _ s ?_
    by_cases lt:ky (gAr p n) < ky (gAr p (n - 1))
    · rw [decide_eq_true lt]; dsimp only; rw [if_pos rfl]
      exact k n (Nat.le_refl _) (by omega) (fun j a b=>by omega) fun _=>lt
    · rw [decide_eq_false lt]; dsimp only; rw [if_neg (by simp)]
      refine ih (n + 1) s (by omega) (by omega) fun m a b c d=>k m (by omega) (by omega) (fun j e1 e2=>?_) (fun e=>d (by omega))
      by_cases e:j=n
      · subst e; exact lt
      · exact c j (by omega) e2
structure Ds (ky:Nat→Int) (N:Nat) (p:Array Nat) (n q:Nat):Prop where
  arr:Arr N p
  le:n ≤ N
  qn:q < n
  rest:∀ j,n ≤ j→j < N→gAr p j=j
  ord:∀ i j,i < j→j < n - 1 - q→Lx ky (gAr p j) (gAr p i)
  low:∀ i j,i < n - 1 - q→n - 1 - q ≤ j→j < n→ky (gAr p j) < ky (gAr p i)
  blk:∀ i j,n - 1 - q ≤ i→i < j→j < n→ky (gAr p i)=ky (gAr p j)∧gAr p i < gAr p j
theorem Ds.turn {p p':Array Nat} {n q:Nat} (D:Ds ky N p n q) (g':∀ k,gAr p' k=if n - 1 - q ≤ k∧k < n then gAr p (n - 1 - q + n - 1 - k) else gAr p k):∀ i j,i < j→j < n→Lx ky (gAr p' j) (gAr p' i):=by
  intro i j h1 h2
  rw [g',g']
  by_cases a:n - 1 - q ≤ i
  · rw [if_pos ⟨by omega,h2⟩,if_pos ⟨a,by omega⟩]
    have:=D.blk (n - 1 - q + n - 1 - j) (n - 1 - q + n - 1 - i) (by omega) (by omega) (by omega)
    exact .inr this
  · by_cases b:n - 1 - q ≤ j
    · rw [if_pos ⟨b,h2⟩,if_neg (by omega)]
      exact .inl (D.low i _ (by omega) (by omega) (by omega))
    · rw [if_neg (by omega),if_neg (by omega)]
      exact D.ord i j h1 (by omega)
theorem Ds.next {p p':Array Nat} {n q:Nat} (D:Ds ky N p n q) (hn:n < N) (hA:Arr N p') (g':∀ k,gAr p' k=if n - 1 - q ≤ k∧k < n then gAr p (n - 1 - q + n - 1 - k) else gAr p k) (lt:ky (gAr p n) < ky (gAr p (n - 1))):Ds ky N p' (n + 1) 0:=by
  have tn:=D.turn g'
  have hq:=D.qn
  have en:gAr p' n=gAr p n:=by rw [g',if_neg (by omega)]
  refine ⟨hA,hn,by omega,fun j a b=>?_,fun i j a b=>tn i j a (by omega),fun i j a b c=>?_,fun i j a b c=>by omega⟩
  · rw [g',if_neg (by omega)]; exact D.rest j (by omega) b
  · have ej:j=n:=by omega
    subst ej
    rw [en,g']
    by_cases z:j - 1 - q ≤ i
    · rw [if_pos ⟨z,by omega⟩]
      have e:ky (gAr p (j - 1 - q + j - 1 - i))=ky (gAr p (j - 1)):=by
        by_cases y:j - 1 - q + j - 1 - i=j - 1
        · rw [y]
        · exact (D.blk _ (j - 1) (by omega) (by omega) (by omega)).1
      omega
    · rw [if_neg (by omega)]
      have:=D.low i (j - 1) (by omega) (by omega) (by omega)
      omega
theorem zpm (hc:CmpI ky N cmp) {G:Array Nat × Nat × Nat→Shared→Prop} {s:Shared} (k:∀ p m q,Ds ky N p m q→G (p,m,q) s):∀ (f:Nat) (p:Array Nat) (n q:Nat),n + f=N→Ds ky N p n q→(PySem.W.kas_desc f p n q).kasWp cmp G s:=by
  intro f
  induction f with
  | zero=>intro p n q _ D; exact k p n q D
  | succ f ih =>
    intro p n q hn D
    have hq:=D.qn
    refine hc (gAr p n) (gAr p (n - 1)) (D.arr.lt (by omega)) (D.arr.lt (by omega)) _ s ?_
    by_cases lt:ky (gAr p n) < ky (gAr p (n - 1))
    · rw [decide_eq_true lt]; dsimp only; rw [if_pos rfl]
      by_cases q0:q > 0
      · rw [if_pos q0]
        refine ih _ (n + 1) 0 (by omega) (D.next (by omega) (D.arr.rev _ _) (fun k=>?_) lt)
        have e:=zgG (p:=p) (i:=n - (q + 1)) (j:=n) (by rw [D.arr.size]; omega) k
        rw [show n - (q + 1)=n - 1 - q by omega] at e ⊢
        exact e
      · rw [if_neg q0]
        refine ih _ (n + 1) 0 (by omega) (D.next (by omega) D.arr (fun k=>?_) lt)
        by_cases z:n - 1 - q ≤ k∧k < n
        · rw [if_pos z]; congr 1; omega
        · rw [if_neg z]
    · rw [decide_eq_false lt]; dsimp only; rw [if_neg (by simp)]
      refine hc (gAr p (n - 1)) (gAr p n) (D.arr.lt (by omega)) (D.arr.lt (by omega)) _ s ?_
      by_cases lt2:ky (gAr p (n - 1)) < ky (gAr p n)
      · rw [decide_eq_true lt2]; dsimp only; rw [if_pos rfl]
        exact k p n q D
      · rw [decide_eq_false lt2]; dsimp only; rw [if_neg (by simp)]
        have en:=D.rest n (Nat.le_refl _) (by omega)
        refine ih p (n + 1) (q + 1) (by omega) ⟨D.arr,by omega,by omega,fun j a b=>D.rest j (by omega) b,fun i j a b=>D.ord i j a (by omega),fun i j a b c=>?_,fun i j a b c=>?_⟩
        · by_cases e:j=n
          · subst e
            have:=D.low i (j - 1) (by omega) (by omega) (by omega)
            omega
          · exact D.low i j (by omega) (by omega) (by omega)
        · by_cases e:j=n
          · subst e
            have l:=D.arr.below (i:=i) D.rest (by omega) (by omega)
            refine ⟨?_,by rw [en]; exact l⟩
            by_cases y:i=j - 1
            · subst y; omega
            · have:=(D.blk i (j - 1) (by omega) (by omega) (by omega)).1
              omega
          · exact D.blk i j (by omega) b (by omega)
theorem zj1 (hc:CmpI ky N cmp) {p:Array Nat} {n:Nat} {G:Nat × Array Nat→Shared→Prop} {s:Shared} (hA:Arr N p) (h1:1 ≤ n) (hn:n ≤ N) (fall:∀ i j,i < j→j < n→Lx ky (gAr p j) (gAr p i)) (rest:∀ j,n ≤ j→j < N→gAr p j=j)
    (k:∀ m p',1 ≤ m→Pre ky N p' m→G (m,p') s):(PySem.W.kas_tail3 n N p).kasWp cmp G s:=by
  unfold PySem.W.kas_tail3
  rw [PySem.W.KasT.kasWp_bind]
  have g':=zgG (p:=p) (i:=0) (j:=n) (by rw [hA.size]; exact hn)
  have rest':∀ j,n ≤ j→j < N→gAr (PySem.W.kas_rev p 0 n) j=j:=fun j a b=>by rw [g',if_neg (by omega)]; exact rest j a b
  refine zob hc (hA.rev 0 n) (N - n) n s h1 (by omega) fun m a b c _=>k m _ (by omega) ⟨hA.rev 0 n,by omega,zlM fun j j0 jm=>?_,fun j x y=>rest' j (by omega) y⟩
  by_cases jn:j < n
  · rw [g',g',if_pos ⟨by omega,by omega⟩,if_pos ⟨by omega,jn⟩]
    exact fall _ _ (by omega) (by omega)
  · have cj:=c j (by omega) jm
    have ej:=rest' j (by omega) (by omega)
    have lj:gAr (PySem.W.kas_rev p 0 n) (j - 1) < j:=by
      by_cases e:j=n
      · subst e; exact (hA.rev 0 j).below rest' (by omega) hn
      · rw [rest' (j - 1) (by omega) (by omega)]; omega
    unfold Lx
    rw [ej] at cj ⊢
    omega
theorem zgq (hc:CmpI ky N cmp) {p:Array Nat} {n:Nat} {G:Nat × Array Nat→Shared→Prop} {s:Shared} (hn:n < N) (D:Ds ky N p (n + 1) 0)
    (k:∀ m p',1 ≤ m→Pre ky N p' m→G (m,p') s):(PySem.W.kas_descPart n N p).kasWp cmp G s:=by
  unfold PySem.W.kas_descPart
  rw [PySem.W.KasT.kasWp_bind]
  refine zpm hc (fun p' m q D'=>?_) _ p (n + 1) 0 (by omega) D
  have hq:=D'.qn
  have hle:=D'.le
  show PySem.W.KasT.kasWp cmp (if q > 0 then _ else _) G s
  by_cases q0:q > 0
  · rw [if_pos q0]
    have e:m - (q + 1)=m - 1 - q:=by omega
    refine zj1 (n:=m) hc (D'.arr.rev _ _) (by omega) hle (D'.turn fun k=>?_) (fun j a b=>?_) k
    · have z:=zgG (p:=p') (i:=m - (q + 1)) (j:=m) (by rw [D'.arr.size]; exact hle) k
      rw [e] at z ⊢; exact z
    · show gAr (PySem.W.kas_rev p' (m - (q + 1)) m) j=j
      rw [zgG (by rw [D'.arr.size]; exact hle),if_neg (by omega)]; exact D'.rest j a b
  · rw [if_neg q0]
    refine zj1 (n:=m) hc D'.arr (by omega) hle (D'.turn fun k=>?_) D'.rest k
    by_cases z:m - 1 - q ≤ k∧k < m
    · rw [if_pos z]; congr 1; omega
    · rw [if_neg z]
theorem zlL (N:Nat):Arr N (List.toArray (List.range N)):=Array.Perm.refl _
theorem zbc {N j:Nat} (h:j < N):gAr (List.toArray (List.range N)) j=j:=by simp [gAr,Array.getD,h]
theorem znV (hc:CmpI ky N cmp) (hN:1 ≤ N) {G:Nat × Array Nat→Shared→Prop} {s:Shared} (k:∀ m p',1 ≤ m→Pre ky N p' m→G (m,p') s):(PySem.W.kas_count N (List.toArray (List.range N))).kasWp cmp G s:=by
  unfold PySem.W.kas_count
  rw [PySem.W.KasT.kasWp_bind]
  have hA:=zlL N
  refine zob hc hA (N - 1) 1 s (Nat.le_refl _) (by omega) fun n a b c d=>?_
  have up:Pre ky N (List.toArray (List.range N)) n:=⟨hA,by omega,zlM fun j j0 jm=>by
    have cj:=c j (by omega) jm
    rw [zbc (show j < N by omega),zbc (show j - 1 < N by omega)] at cj ⊢
    unfold Lx; omega,fun j _ y=>zbc y⟩
  by_cases e:n=N
  · rw [if_pos (by simp [e])]
    exact k n _ (by omega) up
  · rw [if_neg (by simp [e])]
    have dn:=d (by omega)
    rw [zbc (show n < N by omega),zbc (show n - 1 < N by omega)] at dn
    by_cases n1:n > 1
    · rw [if_pos n1]
      refine hc _ _ (hA.lt (by omega)) (hA.lt (by omega)) _ s ?_
      rw [zbc (show 0 < N by omega),zbc (show n - 1 < N by omega)]
      by_cases lt:ky 0 < ky (n - 1)
      · rw [decide_eq_true lt]; dsimp only; rw [if_pos rfl]
        exact k n _ (by omega) up
      · rw [decide_eq_false lt]; dsimp only; rw [if_neg (by simp)]
        have all:∀ i,i < n→ky i=ky (n - 1):=fun i hi=>by
          have h0:ky 0 ≤ ky i:=by
            by_cases z:i=0
            · subst z; exact Int.le_refl _
            · have:=(up.ord 0 i (by omega) hi).le
              rwa [zbc (show 0 < N by omega),zbc (show i < N by omega)] at this
          have h2:ky i ≤ ky (n - 1):=by
            by_cases z:i=n - 1
            · subst z; exact Int.le_refl _
            · have:=(up.ord i (n - 1) (by omega) (by omega)).le
              rwa [zbc (show n - 1 < N by omega),zbc (show i < N by omega)] at this
          omega
        have g':∀ k,k < N→gAr (PySem.W.kas_rev (List.toArray (List.range N)) 0 n) k=if k < n then n - 1 - k else k:=fun k hk=>by
          rw [zgG (by rw [hA.size]; omega)]
          by_cases z:k < n
          · rw [if_pos ⟨by omega,z⟩,if_pos z,zbc (by omega)]; omega
          · rw [if_neg (by omega),if_neg z,zbc hk]
        refine zgq hc (by omega) ⟨hA.rev 0 n,by omega,by omega,fun j x y=>?_,fun i j x y=>?_,fun i j x y z=>?_,fun i j x y z=>by omega⟩ k
        · rw [g' j y,if_neg (by omega)]
        · rw [g' j (by omega),g' i (by omega),if_pos (by omega),if_pos (by omega)]
          exact .inr ⟨by rw [all (n - 1 - j) (by omega),all (n - 1 - i) (by omega)],by omega⟩
        · have ej:j=n:=by omega
          subst ej
          rw [g' j (by omega),g' i (by omega),if_neg (by omega),if_pos (by omega),all (j - 1 - i) (by omega)]
          exact dn
    · rw [if_neg n1]
      have e1:n=1:=by omega
      subst e1
      refine zgq hc (by omega) ⟨hA,by omega,by omega,fun j x y=>zbc y,fun i j x y=>by omega,fun i j x y z=>?_,fun i j x y z=>by omega⟩ k
      have ej:j=1:=by omega
      have ei:i=0:=by omega
      subst ej ei
      rw [zbc (show 1 < N by omega),zbc (show 0 < N by omega)]
      exact dn
theorem zn3 (hc:CmpI ky N cmp) {p:Array Nat} {k:Nat} (hp:Pre ky N p k) (hk:k < N) {G:Nat→Shared→Prop} {s:Shared}
    (fin:∀ l,l ≤ k→(∀ j,j < l→ky (gAr p j) ≤ ky (gAr p k))→(∀ j,l ≤ j→j < k→ky (gAr p k) < ky (gAr p j))→G l s):∀ (f l r:Nat),l ≤ r→r ≤ k→r - l ≤ f →
    (∀ j,j < l→ky (gAr p j) ≤ ky (gAr p k))→(∀ j,r ≤ j→j < k→ky (gAr p k) < ky (gAr p j))→(PySem.W.kas_place p k f l r).kasWp cmp G s:=by
  intro f
  induction f with
  | zero =>
    intro l r h1 h2 h3 a b
    have e:r=l:=by omega
    subst e
    exact fin r h2 a b
  | succ f ih =>
    intro l r h1 h2 h3 a b
    unfold PySem.W.kas_place
    by_cases e:l ≥ r
    · rw [if_pos e]
      have e':r=l:=by omega
      subst e'
      exact fin r h2 a b
    · rw [if_neg e]
      refine hc _ _ (hp.arr.lt hk) (hp.arr.lt (by omega)) _ s ?_
      have mono:∀ i j,i ≤ j→j < k→ky (gAr p i) ≤ ky (gAr p j):=fun i j x y=>by
        by_cases z:i=j
        · subst z; exact Int.le_refl _
        · exact (hp.ord i j (by omega) y).le
      by_cases lt:ky (gAr p k) < ky (gAr p ((l + r) / 2))
      · rw [decide_eq_true lt]; dsimp only; rw [if_pos rfl]
        refine ih l ((l + r) / 2) (by omega) (by omega) (by omega) a fun j x y=>?_
        have:=mono ((l + r) / 2) j x y
        omega
      · rw [decide_eq_false lt]; dsimp only; rw [if_neg (by simp)]
        refine ih ((l + r) / 2 + 1) r (by omega) h2 (by omega) (fun j x=>?_) b
        have:=mono j ((l + r) / 2) (by omega) (by omega)
        omega
theorem zpL (hc:CmpI ky N cmp) {G:Array Nat→Shared→Prop} {s:Shared} (fin:∀ p,Pre ky N p N→G p s):∀ (f:Nat) (p:Array Nat) (k:Nat),k + f=N→Pre ky N p k→(PySem.W.kas_bin f p k).kasWp cmp G s:=by
  intro f
  induction f with
  | zero =>
    intro p k e hp
    have e':k=N:=by omega
    subst e'
    exact fin p hp
  | succ f ih =>
    intro p k e hp
    unfold PySem.W.kas_bin
    rw [PySem.W.KasT.kasWp_bind]
    refine zn3 hc hp (by omega) (fun l hl a b=>ih _ (k + 1) (by omega) ?_) k 0 k (by omega) (Nat.le_refl _) (by omega) (fun j x=>by omega) fun j x y=>by omega
    have g':=zpG (p:=p) (s:=k) (d:=k - l) (by rw [hp.arr.size]; omega) (by omega)
    have ek:=hp.rest k (Nat.le_refl _) (by omega)
    have bl:∀ i,i < k→gAr p i < k:=fun i hi=>hp.arr.below hp.rest hi hp.le
    rw [show k - (k - l)=l by omega] at g'
    refine ⟨hp.arr.bub _ _,by omega,fun i j x y=>?_,fun j x y=>?_⟩
    · rw [g',g']
      by_cases i1:i=l
      · rw [if_pos i1,if_neg (by omega),if_pos ⟨by omega,by omega⟩]
        exact .inl (b (j - 1) (by omega) (by omega))
      · rw [if_neg i1]
        by_cases j1:j=l
        · rw [if_pos j1,if_neg (by omega)]
          have h1:=a i (by omega)
          have h2:=bl i (by omega)
          unfold Lx; rw [ek] at h1 ⊢; omega
        · rw [if_neg j1]
          by_cases i2:l < i∧i ≤ k
          · rw [if_pos i2,if_pos ⟨by omega,by omega⟩]
            exact hp.ord _ _ (by omega) (by omega)
          · rw [if_neg i2]
            by_cases j2:l < j∧j ≤ k
            · rw [if_pos j2]
              exact hp.ord _ _ (by omega) (by omega)
            · rw [if_neg j2]
              exact hp.ord _ _ x (by omega)
    · rw [g',if_neg (by omega),if_neg (by omega)]
      exact hp.rest j (by omega) y
theorem zo4 (hc:CmpI ky N cmp) (hN:1 ≤ N) {G:Array Nat→Shared→Prop} {s:Shared} (fin:∀ p,Pre ky N p N→G p s):(PySem.W.kas_sort N).kasWp cmp G s:=by
  unfold PySem.W.kas_sort
  rw [PySem.W.KasT.kasWp_bind]
  refine znV hc hN fun m p h1 hp=>?_
  show PySem.W.KasT.kasWp cmp (if m < N then _ else _) G s
  by_cases e:m < N
  · rw [if_pos e]
    have em:max m 1=m:=by omega
    show PySem.W.KasT.kasWp cmp (PySem.W.kas_bin (N - max m 1) p (max m 1)) G s
    rw [em]
    exact zpL hc fin (N - m) p m (by omega) hp
  · rw [if_neg e]
    have e':m=N:=by have:=hp.le; omega
    subst e'
    exact fin p hp
end
def zcj (ky:Nat→Int) (N:Nat):List Nat:=(List.range N).mergeSort fun i j=>decide (ky i < ky j∨(ky i=ky j∧i ≤ j))
theorem zbJ (ky:Nat→Int) (N:Nat):(zcj ky N).Perm (List.range N):=List.mergeSort_perm ..
theorem zlJ (ky:Nat→Int) (N:Nat):(zcj ky N).Pairwise (Lx ky):=by
  have h:=List.pairwise_mergeSort (le:=fun i j:Nat=>decide (ky i < ky j∨(ky i=ky j∧i ≤ j))) (fun a b c h1 h2=>by simp at *; omega) (fun a b=>by simp; omega) (List.range N)
  have nd:(zcj ky N).Nodup:=(zbJ ky N).nodup_iff.mpr List.nodup_range
  refine (List.Pairwise.and h nd).imp fun {a b} h=>?_
  have h1:=h.1
  have h2:=h.2
  simp only [decide_eq_true_eq] at h1
  unfold Lx
  omega
theorem zm2 {ky:Nat→Int} {N:Nat} {l:List Nat} (hp:l.Perm (List.range N)) (hs:l.Pairwise (Lx ky)):l=zcj ky N :=
  List.Perm.eq_of_pairwise (fun a b _ _ h1 h2=>by unfold Lx at *; omega) hs (zlJ ky N) (hp.trans (zbJ ky N).symm)
theorem zkL {ky:Nat→Int} {N:Nat} {p:Array Nat} (hp:Pre ky N p N):p.toList=zcj ky N:=by
  refine zm2 hp.arr.list ?_
  rw [List.pairwise_iff_getElem]
  intro i j hi hj hij
  have sz:=hp.arr.size
  have hi':i < N:=by simpa [sz] using hi
  have hj':j < N:=by simpa [sz] using hj
  have e1:=hp.arr.get hi'
  have e2:=hp.arr.get hj'
  rw [List.getElem?_eq_getElem hi] at e1
  rw [List.getElem?_eq_getElem hj] at e2
  rw [Option.some.inj e1,Option.some.inj e2]
  exact hp.ord i j hij hj'
end L2
namespace L2
open PySem PySem.Spec PyProof.Rows
section
variable {prog:Program} {w:World} {A:Around} {E:Value→Shared→Prop} {s:Shared}
abbrev Kp (g h:Heap):Prop:=∀ b o,g.get? b=some o→h.get? b=some o
theorem zjE {Q:List Value→Shared→Prop} {r:Addr} {a b c:Int} {t u v:Tok} {n:Nat} (hh:A.handled=none) (hr:IsRange s.heap r a b c t u v) (hs:Builtin.Range.small a b c=true) (hn:Builtin.Range.rangeSize a b c=n) (hl:n ≤ 2 ^ 24)
    (hQ:∀ h' tk acc,Kp s.heap h'→ItemsOf (fun i v=>∃ t,v = .int (a + i * c) t) acc n→Q acc.toList { s with heap:=h',toks:=tk }):wpAny (model prog w) A (collect (.ref r)) Q E s:=by
  have core:∀ R:Result→Shared→Prop,(∀ h' tk acc c',Kp s.heap h'→h'.get? s.heap.objs.size=some (seqObj "list" acc c')→ItemsOf (fun i v=>∃ t,v = .int (a + i * c) t) acc n→R (.ok (.ret (.ref s.heap.objs.size))) { s with heap:=h',toks:=tk }) →
      codeAny (model prog w) A (.builtin "proto.collect" ⟨[.ref r],[]⟩) R s:=by
    intro R hR
    refine codeAny_builtin F.entry_proto_collect ((Around.under_plainId F.plain_proto_collect (A:=A) _).symm ▸ ?_)
    refine wpAny_bind (m:=newList []) (wpAny_newList ?_ (by simp))
    refine wpAny_pure ⟨plainId_quiet F.plain_list_iadd _,codeAny_builtin F.entry_list_iadd ((Around.under_plainId F.plain_list_iadd (A:=A) _).symm ▸ ?_)⟩
    have atS:(s.heap.push (seqObj "list" #[] 0)).get? s.heap.objs.size=some (seqObj "list" #[] 0):=Heap.get?_push_size _ rfl
    show wpAny _ A.in1 (Builtin.List.listExtendWith (.ref s.heap.objs.size) (.ref r) (.ref s.heap.objs.size)) _ _ _
    refine wpAny_extend_range (R:=R) (s:={ s with heap:=s.heap.push (seqObj "list" #[] 0) }) hh (Heap.get?_push_of_some _ hr) hs hn hl _ _ 0 atS fun h' tk acc c' kp at' items=>hR h' tk acc c' (fun b o e=>?_) at' items
    exact kp b o (Nat.ne_of_lt (Heap.lt_size e)) (Heap.get?_push_of_some _ e)
  unfold collect
  refine wpAny_bind (wpAny_runValue (core _ fun h' tk acc c' kp at' items=>?_))
  show wpAny _ A (load s.heap.objs.size >>= _) _ _ _
  exact wpAny_bind (wpAny_load at' (wpAny_pure (hQ h' tk acc kp items)))
theorem znY {env:Env} {x n:Str} {p1 p2 p3 p4:Pos} {cc a:Addr} {m:Str→Option Value} {i z:Int} {t tz:Tok} {its:List Value} {Q:Value→Shared→Prop}
    (hk:env.scope.kind = .function) (hx:env.kindOf x=some .free) (hcx:env.cells.lookup x=some cc) (hcell:s.heap.IsCell cc (some (.ref a))) (hn:env.kindOf n=some .local) (hns:s.heap.Ns env.locals m) (hm:m n=some (.int i t))
    (hl:s.heap.IsList a its.toArray) (h0:0 ≤ i) (h63:i < 2 ^ 63) (hi:its[i.toNat]?=some (.int z tz)) (d1:(x == ("__debug__" : Str))=false) (d2:(x == ("__classdict__" : Str))=false) (d3:(n == ("__debug__" : Str))=false)
    (h:Q (.int (-z) s.toks) { s with toks:=s.toks + 1 }):wpAny (model prog w) A (eval (.UnaryOp .USub (.Subscript (.Name x p1) (.Name n p2) p3) p4) env) Q E s:=by
  refine UnaryOp_ (Subscript_ (wpAny_Name (wpAny_loadName_free hk hx hcx hcell (wpAny_Name (wpAny_loadName_local hk hn hns hm ?_) d3) d2) d1))
  exact item_listR hl h0 h63 (by simpa using hi) (neg_int h) rfl
theorem zne {f cc c a:Addr} {q x n:Str} {params:Arguments} {sc:Scope} {pm ctv:Value} {p1 p2 p3 p4:Pos} {cl:List (Str × Addr)} {i z:Int} {t tz:Tok} {its:List Value} {Q:Value→Shared→Prop} (hr:A.depth < recursionLimit)
    (ho:s.heap.get? f=some (PySem.W.kla_obj "<lambda>" q params (.UnaryOp .USub (.Subscript (.Name x p1) (.Name n p2) p3) p4) sc cl pm c ctv)) (hcd:s.heap.CodeRec (.ref c) q) (lim:s.heap.NoLimit)
    (hb:∀ v:Value,bindArgs (PySem.W.kla_fn "<lambda>" q params (.UnaryOp .USub (.Subscript (.Name x p1) (.Name n p2) p3) p4) sc cl pm (.ref c) ctv) ⟨[v],[]⟩=pure [(n,v)]) (hk:sc.kind = .function) (hco:sc.isCoroutine=false) (hge:sc.isGenerator=false)
    (hnc:∀ y ∈ sc.names,y.2 ≠ .cell) (hn:sc.names.lookup n=some .local) (hx:sc.names.lookup x=some .free) (hcx:cl.lookup x=some cc) (hcell:s.heap.IsCell cc (some (.ref a))) (hl:s.heap.IsList a its.toArray) (h0:0 ≤ i) (h63:i < 2 ^ 63)
    (hi:its[i.toNat]?=some (.int z tz)) (d1:(x == ("__debug__" : Str))=false) (d2:(x == ("__classdict__" : Str))=false) (d3:(n == ("__debug__" : Str))=false)
    (h:∀ h' tk t',Kp s.heap h'→Q (.int (-z) t') { s with heap:=h',toks:=tk }):wpAny (model prog w) A (call (.ref f) [.int i t]) Q E s:=by
  refine wpAny_call (PySem.W.kla_callFunE hr ho rfl hco hge rfl hcd ?_)
  rw [hb]
  refine wpAny_pure (wpAny_newFunctionEnv hnc (fun y hy=>?_) (fun h1 hns hsb=>⟨lim.fresh _ hsb,?_⟩) hk)
  · obtain rfl:y=(n,.int i t):=by simpa using hy
    exact hn
  have kp:Kp s.heap h1:=fun b o e=>hsb.extBut b o (Nat.ne_of_lt (Heap.lt_size e)) (Heap.get?_push_of_some _ e)
  show codeAny _ _ (.expr _ (PySem.W.envX q sc s.heap.objs.size f (.ref c) cl)) _ _
  refine PySem.W.kla_codeExpr (znY (cc:=cc) (a:=a) (i:=i) (t:=t) (its:=its) (z:=z) (tz:=tz) hk hx hcx (hcell.keeps kp) hn hns (by simp) (let ⟨o,e,r⟩:=hl; ⟨o,kp _ _ e,r⟩) h0 h63 hi d1 d2 d3 ?_)
  exact h _ _ _ kp
theorem zhO {g:Heap} {a:Addr} {xs:Array Value} {n:Nat} (e:g.get? a=some (seqObj "list" xs n)) (f:Array Value→Array Value):∃ c,(g.update a (Obj.mapSeq f)).get? a=some (seqObj "list" (f xs) c):=⟨_,get?_update_seq e f⟩
theorem zkl {g h:Heap} {a:Addr} (k:Kp g h) (na:g.get? a=none) (f:Obj→Obj):Kp g (h.update a f):=fun b o e=>((Heap.SameBut.update h a f).2 b (fun z=>by rw [z,na] at e; cases e)).trans (k b o e)
theorem ziL {vs:List Value} {kz:List Int} (h:IntsAre vs kz) {i:Nat} (hi:i < kz.length):∃ t,vs.getD i .none = .int (kz.getD i 0) t:=by
  obtain ⟨t,e⟩:=h.get i (kz.getD i 0) (by simp [hi])
  exact ⟨t,by rw [List.getD_eq_getElem?_getD,e]; rfl⟩
theorem zmx {a kS:Addr} {vs:List Value} {kz:List Int} {keys:Array Value} {e e1:Nat} {P:PySem.Fin→Shared→Prop} (g0:Heap) (na:g0.get? a=none) (nk:g0.get? kS=none) (hka:kS ≠ a) (K0:Kp g0 s.heap)
    (hk:s.heap.get? kS=some (seqObj "list" keys e)) (ha:s.heap.get? a=some (seqObj "list" #[] e1)) (ik:IntsAre keys.toList kz) (hlen:kz.length=vs.length) (h64:vs.length < 64)
    (fin:∀ h' c,Kp g0 h'→h'.get? a=some (seqObj "list" (List.toArray ((zcj (fun i=>kz.getD i 0) vs.length).map fun i=>vs.getD i .none)) c)→P (.done (.ret .none)) { s with heap:=h' }) :
    wpAny (model prog w) A (ksk_end a false vs.toArray e1 (.ref kS) keys) P E s:=by
  have szk:keys.size=vs.length:=by
    have:=ik.length
    rw [Array.length_toList] at this
    omega
  have tail:∀ (st:SortSt),(arrOf st).map (·.2)=List.toArray ((zcj (fun i=>kz.getD i 0) vs.length).map fun i=>vs.getD i .none)→failedOf st=none→wpAny (model prog w) A (ksk_tail a false e1 (.ref kS) st) P E s:=by
    intro st har hf
    obtain ⟨ck,hck⟩:=zhO hk fun _=>#[]
    have K1:=zkl K0 nk (Obj.mapSeq fun _=>(#[]:Array Value))
    have ha1:(s.heap.update kS (Obj.mapSeq fun _=>(#[]:Array Value))).get? a=some (seqObj "list" #[] e1):=((Heap.SameBut.update s.heap kS _).2 a hka.symm).trans ha
    obtain ⟨ca,hca⟩:=zhO ha1 fun _=>(arrOf st).map (·.2)
    have K2:=zkl K1 na (Obj.mapSeq fun _=>(arrOf st).map (·.2))
    have ln:((arrOf st).map (·.2)).size=vs.length:=by
      rw [har,List.size_toArray,List.length_map,(zbJ _ _).length_eq,List.length_range]
    unfold ksk_tail
    try dsimp only
    refine wpAny_bind (listUpdate_at hk rfl ?_ (by rw [szk,sizeLine_eq]; omega) (Nat.zero_le _))
    refine wpAny_bind (wpAny_letGo (wpAny_bind (seqEpoch_at ha1 rfl (wpAny_bind (listUpdate_at ha1 rfl ?_ (Nat.zero_le _) (Nat.le_trans (Nat.le_of_eq ln) (by rw [sizeLine_eq]; omega)))))))
    rw [hf]
    simp only [bne_self_eq_false,Bool.false_eq_true,if_false]
    refine wpAny_pure (fin _ ca K2 ?_)
    rw [har] at hca ⊢
    exact hca
  unfold ksk_end
  try dsimp only
  simp only [Bool.false_eq_true,if_false]
  by_cases h2:vs.toArray.size < 2
  · rw [if_pos h2,if_pos h2]
    refine wpAny_bind (wpAny_pure ?_)
    rw [StateT.run_pure]
    refine wpAny_bind (wpAny_pure (tail _ ?_ rfl))
    rw [List.size_toArray] at h2
    match vs,h2,hlen,szk with
    | [],_,_,z =>
      have:keys = #[]:=Array.eq_empty_of_size_eq_zero z
      subst this
      have e1:zcj (fun i=>kz.getD i 0) 0 = []:=by
        have:=zbJ (fun i=>kz.getD i 0) 0
        simpa using this
      show (((#[]:Array Value).zip #[]).map (·.2))=List.toArray ((zcj _ 0).map _)
      rw [e1]; simp
    | [v],_,_,z =>
      have e1:zcj (fun i=>kz.getD i 0) 1 = [0]:=by
        have:=zbJ (fun i=>kz.getD i 0) 1
        simpa using this
      show (((keys.zip #[v])).map (·.2))=List.toArray ((zcj _ 1).map _)
      rw [e1]
      apply Array.toList_inj.mp
      rw [Array.toList_map,show (#[v]:Array Value)=List.toArray [v] from rfl,ksk_zip]
      have:keys.toList.length=1:=by rw [Array.length_toList]; exact z
      match keys.toList,this with
      | [y],_=>rfl
    | _ :: _ :: _,h,_,_=>simp at h; omega
  · rw [if_neg h2,if_neg h2]
    rw [List.size_toArray] at h2
    rw [ksk_kind ik (by rw [szk]; omega)]
    refine wpAny_bind (wpAny_pure ?_)
    have ek:keys=List.toArray keys.toList:=by simp
    have run:=PySem.W.kat_run (prog:=prog) (w:=w) (A:=A) (E:=E) (s:=s) (vs:=vs) (ks:=keys.toList) (κ:=oneType')
      (Q:=fun st s'=>s'=s∧(arrOf st).map (·.2)=List.toArray ((zcj (fun i=>kz.getD i 0) vs.length).map fun i=>vs.getD i .none)∧failedOf st=none)
      (G:=fun p s'=>s'=s∧p.toList=zcj (fun i=>kz.getD i 0) vs.length)
      (by rw [Array.length_toList]; exact szk) (by omega) h64 (fun p st s' q1 q2 q3 q4=>⟨q4.1,by rw [PySem.W.kat_snds (by rw [Array.length_toList]; exact szk) q2,q4.2],q3⟩)
      (zo4 (ky:=fun i=>kz.getD i 0) (N:=vs.length) (fun i j hi hj C s' hC=>by
        obtain ⟨t,et⟩:=ziL ik (i:=i) (by omega)
        obtain ⟨u,eu⟩:=ziL ik (i:=j) (by omega)
        unfold PySem.W.kas_ask
        rw [et,eu]
        exact PySem.W.kat_lt_int hC) (by omega) fun p hp=>⟨rfl,zkL hp⟩)
    rw [← ek] at run
    refine wpAny_bind (wpAny_mono run (fun r s' hr=>?_) fun _ _ x=>x)
    obtain ⟨⟨⟩,st⟩:=r
    obtain ⟨rfl,q2,q3⟩:=hr
    exact tail st q2 q3
theorem zk1 {a f:Addr} {vs:List Value} {kz:List Int} {n:Nat} {P:PySem.Fin→Shared→Prop} (g0:Heap) (na:g0.get? a=none) (K0:Kp g0 s.heap) (ho:s.heap.get? a=some (seqObj "list" vs.toArray n)) (hlen:kz.length=vs.length) (h64:vs.length < 64)
    (turn:∀ (i:Nat) (v:Value) (k:Int),vs[i]?=some v→kz[i]?=some k→∀ (h:Heap) (tk:Nat),Kp g0 h→∀ Q:Value→Shared→Prop,(∀ h' tk' t',Kp h h'→Q (.int k t') { s with heap:=h',toks:=tk' }) →
      wpAny (model prog w) A (call (.ref f) [v]) Q (fun _ _=>False) { s with heap:=h,toks:=tk })
    (fin:∀ h' tk c,Kp g0 h'→h'.get? a=some (seqObj "list" (List.toArray ((zcj (fun i=>kz.getD i 0) vs.length).map fun i=>vs.getD i .none)) c)→P (.done (.ret .none)) { s with heap:=h',toks:=tk }) :
    wpAny (model prog w) A (ksk_tree a (.ref f) false) P E s:=by
  have la:=Heap.lt_size ho
  obtain ⟨e1,ho1⟩:=zhO ho fun _=>#[]
  have K1:=zkl K0 na (Obj.mapSeq fun _=>(#[]:Array Value))
  unfold ksk_tree
  refine wpAny_bind (listItems_at ho rfl ?_)
  refine wpAny_bind (listUpdate_at ho rfl ?_ (by rw [List.size_toArray,sizeLine_eq]; omega) (Nat.zero_le _))
  refine wpAny_bind (seqEpoch_at ho1 rfl ?_)
  refine wpAny_bind (wpAny_newTuple ?_ (by show vs.length ≤ _; rw [sizeLine_eq]; omega))
  refine wpAny_bind (wpAny_newList ?_ (Nat.zero_le _))
  refine wpAny_holding ?_
  obtain ⟨kS,ekS⟩:∃ kS,kS=((s.heap.update a (Obj.mapSeq fun _=>(#[]:Array Value))).push (seqObj "tuple" vs.toArray 0)).objs.size:=⟨_,rfl⟩
  have kS1:kS=s.heap.objs.size + 1:=by rw [ekS,size_push',Heap.size_update]
  have nk:g0.get? kS=none:=by
    cases q:g0.get? kS with
    | none=>rfl
    | some o=>have z:=Heap.lt_size (K0 _ _ q); rw [kS1] at z; exact absurd z (by show ¬ (s.heap.objs.size + 1 < s.heap.objs.size); omega)
  have hka:kS ≠ a:=by
    rw [kS1]
    exact Nat.ne_of_gt (Nat.lt_succ_of_lt la)
  obtain ⟨h2,eh2⟩:∃ h2,h2=((s.heap.update a (Obj.mapSeq fun _=>(#[]:Array Value))).push (seqObj "tuple" vs.toArray 0)).push (seqObj "list" #[] 0):=⟨_,rfl⟩
  have K2:Kp g0 h2:=fun b o e=>by rw [eh2]; exact Heap.get?_push_of_some _ (Heap.get?_push_of_some _ (K1 b o e))
  have ha2:h2.get? a=some (seqObj "list" #[] e1):=by rw [eh2]; exact Heap.get?_push_of_some _ (Heap.get?_push_of_some _ ho1)
  have hk2:h2.get? kS=some (seqObj "list" #[] 0):=by rw [eh2,ekS]; exact Heap.get?_push_size _ rfl
  show wpAny (model prog w) A (ksk_rest a (.ref f) false vs.toArray e1 (.ref ((s.heap.update a (Obj.mapSeq fun _=>(#[]:Array Value))).push (seqObj "tuple" vs.toArray 0)).objs.size)) P E { s with heap:=((s.heap.update a (Obj.mapSeq fun _=>(#[]:Array Value))).push (seqObj "tuple" vs.toArray 0)).push (seqObj "list" #[] 0) }
  rw [← ekS,← eh2]
  unfold ksk_rest
  refine wpAny_bind (wpAny_rule ?_)
  rw [List.forIn_toArray]
  refine wpAny_bind (ksk_fold (fun i s'=>∃ h' tk kA e,s' = { s with heap:=h',toks:=tk }∧Kp g0 h'∧h'.get? kS=some (seqObj "list" kA e)∧h'.get? a=some (seqObj "list" #[] e1)∧IntsAre kA.toList (kz.take i)) vs 0 _
    ⟨h2,s.toks,#[],0,rfl,K2,hk2,ha2,by simpa using IntsAre.nil⟩ ?step ?done)
  case step =>
    rintro j x s' hx ⟨h',tk,kA,e,rfl,kp,hk,ha,ik⟩
    simp only [Nat.zero_add] at ik ⊢
    have hj:j < vs.length:=(List.getElem?_eq_some_iff.mp hx).1
    obtain ⟨k,hkj⟩:∃ k,kz[j]?=some k:=⟨_,List.getElem?_eq_getElem (by omega)⟩
    have hz:kA.size ≤ vs.length:=by
      have h1:=ik.length
      rw [Array.length_toList,List.length_take] at h1
      omega
    refine wpAny_bind (wpAny_attempt (wpAny_mono (turn j x k hx hkj h' tk kp _ fun h3 tk3 t3 k3=>?goal) (fun _ _ z=>z) fun _ _ hF=>hF.elim))
    case goal =>
      obtain ⟨c2,hc2⟩:=zhO (k3 _ _ hk) (·.push (.int k t3))
      have ek:kz.take (j + 1)=kz.take j ++ [k]:=by rw [List.take_add_one,hkj]; simp
      have ea:(kA.push (Value.int k t3)).toList=kA.toList ++ [Value.int k t3]:=by simp
      try dsimp only
      refine wpAny_bind (listUpdate_at (k3 _ _ hk) rfl ?_ (by rw [sizeLine_eq]; omega) (Nat.le_trans (Nat.le_of_eq (Array.size_push ..)) (by rw [sizeLine_eq]; omega)))
      refine wpAny_pure ⟨rfl,_,_,kA.push (.int k t3),c2,rfl,zkl (fun b o q=>k3 _ _ (kp b o q)) nk _,hc2,?_,by rw [ea,ek]; exact ksk_snoc ik⟩
      exact ((Heap.SameBut.update h3 kS _).2 a hka.symm).trans (k3 _ _ ha)
  case done =>
    rintro s' ⟨h',tk,kA,e,rfl,kp,hk,ha,ik⟩
    have ik':IntsAre kA.toList kz:=by
      rw [show kz.take (0 + vs.length)=kz from List.take_of_length_le (by omega)] at ik
      exact ik
    try dsimp only
    refine wpAny_bind (listItems_at hk rfl ?_)
    exact zmx g0 na nk hka kp hk ha ik' hlen h64 fun h3 c kp3 q=>fin h3 tk c kp3 q
theorem zkG {r f:Addr} {b:Int} {t u v:Tok} {kz:List Int} {Q:Value→Shared→Prop} (hh:A.handled=none) (hr:IsRange s.heap r 0 b 1 t u v) (hb:b=(kz.length:Nat)) (h64:kz.length < 64)
    (turn:∀ (i:Nat) (t:Tok) (k:Int),kz[i]?=some k→∀ (h:Heap) (tk:Nat),Kp s.heap h→∀ Q:Value→Shared→Prop,(∀ h' tk' t',Kp h h'→Q (.int k t') { s with heap:=h',toks:=tk' }) →
      wpAny (model prog w) A.in1.in1 (call (.ref f) [.int (i:Nat) t]) Q (fun _ _=>False) { s with heap:=h,toks:=tk })
    (fin:∀ D h' tk out c,s.heap.get? D=none→Kp s.heap h'→IntsAre out.toList ((zcj (fun i=>kz.getD i 0) kz.length).map fun i:Nat=>(i:Int))→h'.get? D=some (seqObj "list" out c)→Q (.ref D) { s with heap:=h',toks:=tk }) :
    wpAny (model prog w) A (call (.builtin "sorted") [.ref r] [(Str.ofString "key",.ref f)]) Q E s:=by
  refine call_function_entry_kw kind_sorted plain_sorted entry_sorted (ksk_s1 _ _) ?_
  unfold Builtin.«sorted»
  refine wpAny_bind (m:=checkCount "sorted" 1 1 _) (wpAny_pure ?_)
  have sz:Builtin.Range.rangeSize 0 b 1=(kz.length:Int):=by rw [rangeSize_one]; split <;> omega
  refine wpAny_bind (zjE (A:=A.in1) hh hr (small_one (by decide) (by decide) (by omega) (by omega)) sz (by omega) fun h1 tk1 acc k1 items=>?_)
  have ln:acc.toList.length=kz.length:=by rw [Array.length_toList]; exact items.1
  have it:∀ i v,acc.toList[i]?=some v→∃ t,v=Value.int (i:Nat) t:=fun i v e=>by
    obtain ⟨t,et⟩:=items.2 i v (by simpa using e)
    exact ⟨t,by rw [et]; simp⟩
  refine wpAny_bind (wpAny_newList ?_ (by rw [ln,sizeLine_eq]; omega))
  obtain ⟨D,eD⟩:∃ D,D=h1.objs.size:=⟨_,rfl⟩
  have hD:(h1.push (seqObj "list" acc.toList.toArray 0)).get? D=some (seqObj "list" acc.toList.toArray 0):=by rw [eD]; exact Heap.get?_push_size _ rfl
  have nD:s.heap.get? D=none:=by
    cases q:s.heap.get? D with
    | none=>rfl
    | some o=>have z:=Heap.lt_size (k1 _ _ q); rw [eD] at z; exact absurd z (Nat.lt_irrefl _)
  show wpAny _ _ _ _ _ { s with heap:=h1.push (seqObj "list" acc.toList.toArray 0),toks:=tk1 }
  rw [← eD]
  refine wpAny_bind (wpAny_holding (wpAny_call_entry_kw slot_list_sort ⟨_,hD,rfl⟩ entry_list_sort ?body (ksk_l1 _ _)))
  case body =>
    show wpAny (model prog w) A.in1.in1 (Builtin.«list.sort» ⟨[.ref D],[(Str.ofString "key",.ref f)]⟩) _ _ _
    rw [ksk_t1]
    refine zk1 (s:={ s with heap:=h1.push (seqObj "list" acc.toList.toArray 0),toks:=tk1 }) s.heap nD (fun b o e=>Heap.get?_push_of_some _ (k1 b o e)) hD ln.symm (by omega) (fun i v k hv hk h tk kp Q' hQ=>?_) fun h' tk c kp q=>⟨_,rfl,?_⟩
    · obtain ⟨t,rfl⟩:=it i v hv
      exact turn i t k hk h tk kp Q' hQ
    · refine wpAny_pure ⟨_,rfl,?_⟩
      rw [ln] at q
      refine fin D h' tk _ c nD kp ?_ q
      have all:∀ l:List Nat,(∀ i ∈ l,i < kz.length)→IntsAre (l.map fun i=>acc.toList.getD i .none) (l.map fun i:Nat=>(i:Int)):=fun l=>by
        induction l with
        | nil=>intro _; exact .nil
        | cons i l ih =>
          intro hl
          have hi:i < acc.toList.length:=by rw [ln]; exact hl i List.mem_cons_self
          obtain ⟨t,et⟩:=it i (acc.toList[i]) (List.getElem?_eq_getElem hi)
          have e:acc.toList.getD i .none = .int (i:Nat) t:=by rw [List.getD_eq_getElem?_getD,List.getElem?_eq_getElem hi]; exact et
          rw [List.map_cons,List.map_cons,e]
          exact .cons _ _ (ih fun j hj=>hl j (List.mem_cons_of_mem _ hj))
      simpa using all _ fun i hi=>by
        have:=(zbJ _ _).mem_iff.mp hi
        simpa using this
end
section
variable {X:Cx} {pins:List (Addr × Obj)} {σ:St} {H:Hp} {s:Shared} {h':Heap}
theorem Inv.laidN {a:Addr} {o:HO} {t':Nat} (I:Inv X pins σ H s) (k:Kp s.heap h') (n:s.heap.get? a=none) (new:ObjOk X.prog X.w (upd H a o) h' a o):Inv X pins σ (upd H a o) { s with heap:=h',toks:=t' }:=by
  have hn:=I.hok.none_of n
  have ne:∀ b u,s.heap.get? b=some u→b ≠ a:=fun b u e z=>by rw [z,n] at e; cases e
  refine I.un ⟨fun b u q _ _ _=>k b u q,fun b u q _ _ _=>⟨u.slots,k b u q⟩,fun b u q z _=>by rw [zau (ne b u q)]; exact z,fun b u q _=>⟨u,k b u q⟩,fun b xs q=>by rw [zau (zay q hn)]; exact q,fun b u xs q=>by rw [zau (zay q hn)]; exact q,
    fun b ps q=>⟨#[],by rw [zau (zay q hn),q]; simp⟩⟩ fun b u e=>?_
  by_cases hb:b=a
  · subst hb; rw [zax] at e; cases e; exact new
  · rw [zau hb] at e
    exact (I.hok b u e).stay (fun c v _ q=>k c v q) (fun c q=>by rw [zau (zay q hn)]; exact q) fun c xs q=>by rw [zau (zay q hn)]; exact q
theorem Inv.filled {P c:Addr} {ps:Array Value} {t':Nat} (I:Inv X pins σ H s) (hP:H P=some (.tbl ps)) (k:∀ b o,b ≠ P→s.heap.get? b=some o→h'.get? b=some o) (n:s.heap.get? c=none) (ho:∃ o,h'.get? c=some o) (new:TblOk (upd H c (.own P)) h' P ps) :
    Inv X pins σ (upd H c (.own P)) { s with heap:=h',toks:=t' }:=by
  have hn:=I.hok.none_of n
  have ne:∀ b u,s.heap.get? b=some u→b ≠ c:=fun b u e z=>by rw [z,n] at e; cases e
  have nP:∀ b,H b=none→b ≠ P:=fun b e z=>by rw [z,hP] at e; cases e
  have cP:c ≠ P:=nP c hn
  have pt:∃ o,h'.get? P=some o:=let ⟨_,_,_,_,_,_,_,e,_⟩:=new; ⟨_,e⟩
  refine I.un ⟨fun b u q z _ _=>k b u (nP b z) q,fun b u q z _ _=>⟨u.slots,k b u (nP b z) q⟩,fun b u q z _=>by rw [zau (ne b u q)]; exact z,fun b u q _=>?_,fun b xs q=>by rw [zau (zay q hn)]; exact q,fun b u xs q=>by rw [zau (zay q hn)]; exact q,
    fun b ps q=>⟨#[],by rw [zau (zay q hn),q]; simp⟩⟩ fun b u e=>?_
  · by_cases z:b=P
    · subst z; exact pt
    · exact ⟨u,k b u z q⟩
  · by_cases hb:b=c
    · subst hb; rw [zax] at e; cases e; exact ho
    · rw [zau hb] at e
      by_cases z:b=P
      · subst z; rw [hP] at e; cases e; exact new
      · refine (I.hok b u e).stay (fun d v hd q=>k d v ?_ q) (fun d q=>by rw [zau (zay q hn)]; exact q) fun d xs q=>by rw [zau (zay q hn)]; exact q
        rcases hd with rfl | hd
        · exact z
        · rintro rfl; rw [hP] at hd; cases hd
def BmAt (mg:Str→Option Value) (h:Heap):Prop:=∃ bm ob,mg "__builtins__"=some (.ref bm)∧bm ≠ builtinsNs∧h.get? bm=some ob∧ob.cls = .type "module"∧ob.dict=some builtinsNs∧ob.data = .plain
theorem zqD {E:Value→Shared→Prop} {c P:Addr} {params:Arguments} {body:Expr} {sc:Scope} {pos:Pos} {cl:List (Str × Addr)} {Q:Value→Shared→Prop} (I:Inv X pins σ H s) (hT:zhU X.K=some (P,#[.str (X.env.qual ++ "<lambda>") 0,rawInt pos.line,rawInt pos.col])) (hC:PySem.W.codeHdIn X.K c P=true) (hc:X.env.code = .ref c)
    (hcl:closureFor sc X.env=pure cl) (hdef:defaultsOf params X.env=([],[])) (hB:BmAt X.mg X.base)
    (h:∀ (f c':Addr) (pm ctv:Value) (H':Hp) (s':Shared),Same H H'→Inv X pins σ H' s'→s'.heap.get? f=some (PySem.W.kla_obj "<lambda>" (X.env.qual ++ "<lambda>") params body sc cl pm c' ctv)→s'.heap.CodeRec (.ref c') (X.env.qual ++ "<lambda>")→Q (.ref f) s') :
    wpAny (model X.prog X.w) X.A (eval (.Lambda params body sc pos) X.env) Q E s:=by
  refine PySem.W.kla_eval hdef ?_
  obtain ⟨more,hP⟩:=I.ok.tb.grown I.base.tbls _ hT
  have hP:H P=some (.tbl (#[.str (X.env.qual ++ "<lambda>") 0,rawInt pos.line,rawInt pos.col] ++ more)):=hP
  obtain ⟨q,tq,ln,co,mr,real,e1,e2,e3⟩:=I.hok P _ hP
  have e1':Value.str (X.env.qual ++ "<lambda>") 0 :: rawInt pos.line :: rawInt pos.col :: more.toList = .str q tq :: rawInt ln :: rawInt co :: mr:=by rw [← e1]; simp
  have hgs:s.heap.Ns mainGlobals X.mg:=I.mod.glob.keeps I.bk
  have CH:PySem.W.CodeHd s.heap c P:=PySem.W.codeHd_of_K I.kIn hC
  have pne:∀ b o,X.base.get? b=some o→b ≠ P:=fun b o e z=>by
    have:=(I.bs b o e).2
    rw [z,hP] at this; cases this
  have hgP:mainGlobals ≠ P:=by
    obtain ⟨o,es,ep,e,_⟩:=I.mod.glob
    exact pne _ _ e
  have hbA:s.heap.BuiltinsAt X.mg P:=by
    obtain ⟨bm,ob,b1,b2,b3,b4,b5,b6⟩:=hB
    refine ⟨bm,ob,b1,b2,fun z=>?_,pne _ _ b3,I.bk _ _ b3,b4,b5,b6⟩
    obtain ⟨o,es,ep,e,d,_⟩:=I.mod.glob
    rw [z,e] at b3; cases b3; rw [d] at b6; cases b6
  injection e1' with f1 f2
  injection f1 with f3 f4
  injection f2 with f5 f6
  injection f6 with f7 f8
  injection f5 with f5 _
  injection f7 with f7 _
  subst f3 f5 f7
  rcases e3 with rfl | ⟨c',o,vs,u,rfl,r1,r2,r3,r4⟩
  · refine PySem.W.kla_makeFunction (mg:=X.mg) hcl I.ok.glob hgs hc CH e2 trivial rfl hgP hbA fun c' ctv h' tk hx hge hlt hrec htb=>?_
    obtain ⟨_,oc,vs,t,z,hoc,hd,hv⟩:=id hrec
    cases z
    have J:=I.filled (c:=c') (h':=h') (t':=tk) hP (fun b o hb e=>hx b o hb e) (Heap.get?_none_of_le hge) ⟨_,hoc⟩ ⟨_,_,_,_,_,_,e1,htb,.inr ⟨c',oc,vs,t,rfl,zax,hoc,hd,hv⟩⟩
    have kp:Kp h' (h'.push (PySem.W.kla_obj "<lambda>" (X.env.qual ++ "<lambda>") params body sc cl ((X.mg "__name__").getD .none) c' ctv)):=fun b o e=>Heap.get?_push_of_some _ e
    refine h _ c' _ ctv _ _ (Same.upd (I.hok.none_of (Heap.get?_none_of_le hge))) (J.kept (h':=h'.push (PySem.W.kla_obj "<lambda>" (X.env.qual ++ "<lambda>") params body sc cl ((X.mg "__name__").getD .none) c' ctv)) (t':=tk) kp) (Heap.get?_push_size _ rfl) ⟨c',oc,vs,t,rfl,kp _ _ hoc,hd,hv⟩
  · refine PySem.W.kla_makeFunctionHit (cv:=.ref c') (mg:=X.mg) hcl I.ok.glob hgs hc CH e2 trivial (by simp [codeAmong,rawInt]) hbA fun ctv h' tk hk hsz=>?_
    have kp:Kp s.heap (h'.push (PySem.W.kla_obj "<lambda>" (X.env.qual ++ "<lambda>") params body sc cl ((X.mg "__name__").getD .none) c' ctv)):=fun b o e=>Heap.get?_push_of_some _ (hk b o e)
    exact h _ c' _ ctv H _ (Same.refl _) (I.kept (t':=tk) kp) (Heap.get?_push_size _ rfl) ⟨c',o,vs,u,rfl,kp _ _ r2,r3,r4⟩
def zov (ta:TA) (ix:Nat):TE:=fun σ H Q=>ta σ H fun vs H1=>∃ (r a:Addr) (ns:List Int),vs = [.ref r]∧H1 r=some (.rng 0 (ns.length:Nat))∧σ[ix]?=some (some (.ref a))∧Rd H1 a (.lst (ns.map V.int))∧ns.length < 64 ∧
  ∀ H2 D,Same H1 H2→H2 D=none→Q (.ref D) (upd H2 D (.lst ((zcj (fun i=>-(ns.getD i 0)) ns.length).map fun i:Nat=>V.int (i:Int))))
theorem zng {k ix:Nat} {it:Expr} {ta:TA} {c P:Addr} {x n:Str} {p0 p1 p2 p3 p4 lp kp pos:Pos} {params:Arguments} {sc:Scope} (hc:X.calm=true) (hr:Room k X.A) (hg:Gl X "sorted") (hm:X.mg "sorted"=none) (ha:PA X [it] ta)
    (hT:zhU X.K=some (P,#[.str (X.env.qual ++ "<lambda>") 0,rawInt lp.line,rawInt lp.col])) (hC:PySem.W.codeHdIn X.K c P=true) (hcd:X.env.code = .ref c) (hB:BmAt X.mg X.base)
    (hcl:∀ cc,X.env.cells.lookup x=some cc→closureFor sc X.env=pure [(x,cc)]) (hdef:defaultsOf params X.env=([],[]))
    (hb:∀ (q:Str) (cl:List (Str × Addr)) (pm ctv v:Value) (c:Addr),bindArgs (PySem.W.kla_fn "<lambda>" q params (.UnaryOp .USub (.Subscript (.Name x p1) (.Name n p2) p3) p4) sc cl pm (.ref c) ctv) ⟨[v],[]⟩=pure [(n,v)])
    (hN:X.N[ix]?=some x) (hv:X.env.kindOf x=some .cell) (hk:sc.kind = .function) (hco:sc.isCoroutine=false) (hge:sc.isGenerator=false) (hnc:∀ y ∈ sc.names,y.2 ≠ .cell) (hn:sc.names.lookup n=some .local) (hx:sc.names.lookup x=some .free)
    (d1:(x == ("__debug__" : Str))=false) (d2:(x == ("__classdict__" : Str))=false) (d3:(n == ("__debug__" : Str))=false)
    (he:backTo pos (starEach [it] X.env)=(false,eval it X.env) :: backTo pos (starEach [] X.env):=by rfl) (hpl:(backTo pos (starEach [it] X.env)).any (·.1)=false:=by rfl) :
    PE X (.Call (.Name "sorted" p0) [it] [⟨some "key",.Lambda params (.UnaryOp .USub (.Subscript (.Name x p1) (.Name n p2) p3) p4) sc lp,kp⟩] pos) (zov ta ix):=by
  intro pins s σ H Q I h
  refine wpAny_Call_Name_kw (zej I hg hm rfl ?_)
  refine callWith_kw (thn (ha pos pins s σ H _ I h) fun us s1 ⟨vs,H1,I1,r1,r,a,ns,e1,hrn,hs,hq,hl,q⟩=>?_) he hpl
  subst e1
  obtain ⟨u,rfl,rx⟩:=zdv r1
  cases rx
  obtain ⟨m0,hns0,hlk⟩:=I1.loc
  obtain ⟨u0,ru,lu⟩:=hlk ix x _ hN hs (.inr (.inl hv))
  obtain ⟨cc,ecc⟩:∃ cc,X.env.cells.lookup x=some cc:=by
    rcases lu with ⟨z,_⟩ | ⟨_,cc,e,_⟩
    · rw [hv] at z; cases z
    · exact ⟨cc,e⟩
  show wpAny _ _ (evalAll ((do let v ← eval _ X.env; standAt pos; pure v) :: [])) _ _ s1
  refine wpAny_evalAll_cons (wpAny_bind (zqD I1 hT hC hcd (hcl cc ecc) hdef hB fun f c' pm ctv H2 s2 sm I2 hf hrec=>wpAny_bind (wpAny_standAt (wpAny_pure (wpAny_evalAll_nil ?_)))))
  show wpAny _ _ (call (.builtin "sorted") [.ref r] [(Str.ofString "key",.ref f)]) _ _ s2
  obtain ⟨t,u1,v1,hrr⟩:=I2.hok r _ (sm _ _ hrn)
  have hq2:Rd H2 a (.lst (ns.map V.int)):=hq.elim (fun z=>.inl (sm _ _ z)) fun ⟨o,z⟩=>.inr ⟨o,sm _ _ z⟩
  obtain ⟨z,its,cnt,rv,hat⟩:=hq2.ok I2.hok
  have iv:=zgd rv
  have hcell:s2.heap.IsCell cc (some (.ref a)):=by
    obtain ⟨m,hns,hlk⟩:=I2.loc
    obtain ⟨u0,ru,lu⟩:=hlk ix x _ hN hs (.inr (.inl hv))
    cases ru
    rcases lu with ⟨z,_⟩ | ⟨_,c2,e,q⟩
    · rw [hv] at z; cases z
    · rw [ecc] at e; cases e; exact q
  have lim:=I2.nolimit
  refine zkG (A:=X.A) (kz:=ns.map fun z=>-z) (I2.ok.hd hc) hrr (by rw [List.length_map]) (by rw [List.length_map]; exact hl) (fun i t k hk' h' tk kp Q' hQ=>?_) fun D h' tk out cD nD kp io hD=>?_
  · rw [List.getElem?_map] at hk'
    cases e:ns[i]? with
    | none=>rw [e] at hk'; cases hk'
    | some z =>
      rw [e] at hk'
      have ek : -z=k:=Option.some.inj hk'
      subst ek
      obtain ⟨tz,ez⟩:=iv.get i z e
      exact zne (s:={ s2 with heap:=h',toks:=tk }) (A:=X.A.in1.in1) (its:=its) (tz:=tz) (show X.A.depth < recursionLimit from hr.depth) (kp _ _ hf) (hrec.keeps kp) (lim.keeps kp) (fun v=>hb _ _ _ _ v _) hk hco hge hnc hn hx (by simp) (hcell.keeps kp) ⟨_,kp _ _ hat,rfl,cnt,rfl⟩ (by omega) (by have:=(List.getElem?_eq_some_iff.mp e).1; omega) (by simpa using ez) d1 d2 d3 hQ
  · have eK:(fun i=>(ns.map fun z=>-z).getD i 0)=fun i=>-(ns.getD i 0):=by
      funext i
      rw [List.getD_eq_getElem?_getD,List.getElem?_map,List.getD_eq_getElem?_getD]
      cases ns[i]? <;> rfl
    rw [eK,List.length_map] at io
    refine ⟨.ref D,_,I2.laidN (a:=D) (o:=.lst ((zcj (fun i=>-(ns.getD i 0)) ns.length).map fun i:Nat=>V.int (i:Int))) kp nD ⟨?_,out.toList,cD,?_,by simpa using hD⟩,rfl,q H2 D sm (I2.hok.none_of nD)⟩
    · rw [List.length_map,(zbJ _ _).length_eq,List.length_range]
      exact Nat.le_trans (Nat.le_of_lt hl) (by decide)
    · have:=zht io
      rwa [List.map_map] at this
end
end L2
namespace PM
open PySem L2
section
variable {K:Kx} {XO:XOT} {E:L2.St→XK}
def ordK (ns:List Int):List Int:=(zcj (fun i=>-(ns.getD i 0)) ns.length).map fun i:Nat=>(i:Int)
def zjj (d:D):Option D:=match d with
  | .lst l=>(asIs l).bind fun ns=>ifC (ns.length < 64) (some (.lst ((ordK ns).map .int))) none
  | _=>none
def zki (i:Nat) (δ:En):R D:=match δ[i]? with
  | some (.v d)=>R.of (zjj d)
  | _=>.no
theorem zkU {d d':D} (h:zjj d=some d'):∃ ns:List Int,d = .lst (ns.map .int)∧ns.length < 64∧d' = .lst ((ordK ns).map .int):=by
  unfold zjj at h
  split at h
  · rename_i l
    cases z:asIs l with
    | none=>rw [z] at h; cases h
    | some ns =>
      rw [z] at h
      simp only [Option.bind] at h
      unfold ifC at h
      split at h
      · rename_i hl
        cases h
        exact ⟨ns,by rw [zcx z],hl,rfl⟩
      · cases h
  · cases h
theorem znz {ns:List Int} (h:ns.length < 64):zjj (.lst (ns.map .int))=some (.lst ((ordK ns).map .int)):=by
  simp only [zjj,zb1,Option.bind,zbn h]
theorem zlg {i:Nat}:SEo K XO E (zov (zdl (zph (zdl (tCB (fun xs H Q=>∃ p ys,xs = [.ref p]∧(SqL K.f H p ys∨SqT K.f H p ys)∧Q (.int ys.length) H) (zdl (tVar i) tNil)) tNil)) tNil) i) (zki i):=by
  intro Λ F0 H0 F H σ δ Q I a
  have sl:=I.slot i
  unfold zki at a
  cases e:δ[i]? with
  | none=>rw [e] at a; exact a.elim
  | some y =>
    cases y with
    | v d =>
      rw [e] at a sl
      dsimp only at a
      cases q:zjj d with
      | none=>rw [q] at a; exact a.elim
      | some d' =>
        rw [q] at a
        obtain ⟨ns,rfl,hl,rfl⟩:=zkU q
        obtain ⟨u,eu,ru⟩:=sl
        simp only [Rep] at ru
        obtain ⟨ad,vs,rfl,rd,rl⟩:=ru
        have evs:vs=ns.map V.int:=zce rl
        subst evs
        have rdH:Rd H ad (.lst (ns.map V.int)):=PM.Same.rd I.ext.fh rd
        refine ⟨_,eu,ad,ns.map V.int,rfl,.inl (.inl rdH),?_⟩
        refine ⟨_,rfl,fun r hr=>⟨r,ad,ns,rfl,by rw [zax,List.length_map],eu,?_,hl,fun H2 D sm hD=>?_⟩⟩
        · exact PM.Same.rd (Same.upd hr) rdH
        · have s1:Same H H2:=(Same.upd hr).trans sm
          have x1:Ext F H F H2:=⟨.refl _,s1,I.ext.fh.trans s1,fun _ _ h _=>h⟩
          have x2:=x1.trans (.newO (o:=.lst ((zcj (fun i=>-(ns.getD i 0)) ns.length).map fun i:Nat=>V.int (i:Int))) x1.fh hD)
          have hD1:H D=none:=s1.free hD
          refine a F _ x2 D (I.ext.fh.free hD1) hD1 ⟨_,zax,?_⟩
          have:=RepL.ints (K:=K) (F:=F) (ns:=ordK ns)
          unfold ordK at this
          rw [List.map_map,List.map_map] at this
          unfold ordK
          rw [List.map_map]
          exact this
    | no=>rw [e] at a; exact a.elim
    | o d=>rw [e] at a; exact a.elim
    | l d=>rw [e] at a; exact a.elim
    | p d=>rw [e] at a; exact a.elim
end
end PM
namespace L2
open PySem PySem.Spec PyProof.Rows
theorem zkN {K:PySem.W.Frag} {T:Addr × Array Value} (h:zhU K=some T):∃ (q:Str) (ln cl:Int),T.2 = #[.str q 0,rawInt ln,rawInt cl]:=by
  unfold zhU at h
  obtain ⟨p,_,e⟩:=List.exists_of_findSome?_eq_some h
  split at e
  · split at e
    · obtain ⟨P,_,e⟩:=Option.map_eq_some_iff.mp e
      subst e
      exact ⟨_,_,_,rfl⟩
    · cases e
  · cases e
def zi5 (K:PySem.W.Frag) (P:Addr):Bool :=
  (match zhU K with | some t=>t.1 == P | none=>false) && (K.lookup P).isNone && K.any fun p=>match p.2.data with
    | .func fd=>match fd.code with
      | .ref c=>PySem.W.codeHdIn K c P
      | _=>false
    | _=>false
theorem zl7 {K:PySem.W.Frag} {P:Addr} (h:zi5 K P=true):(∃ arr,zhU K=some (P,arr))∧K.lookup P=none∧∃ c,PySem.W.codeHdIn K c P=true:=by
  unfold zi5 at h
  simp only [Bool.and_eq_true] at h
  obtain ⟨⟨h1,h2⟩,h3⟩:=h
  refine ⟨?_,by simpa using h2,?_⟩
  · split at h1
    · rename_i t e
      obtain ⟨x,arr⟩:=t
      have:x=P:=by simpa using h1
      subst this
      exact ⟨arr,e⟩
    · cases h1
  · obtain ⟨p,_,e⟩:=List.any_eq_true.mp h3
    split at e
    · split at e
      · exact ⟨_,e⟩
      · cases e
    · cases e
section
variable {P:Program} {w:World} {K:PySem.W.Frag} {mg mb:Str→Option Value} {CX:CXT} {k:Nat} {fa a tP:Addr} {fd:FuncData} {x:Str} {sp:Sp} {s₁:Shared} {vs:List Value} {ns:List Int}
theorem znc (KX:K.In s₁.heap) (hT:zi5 K tP=true) (tT:s₁.heap.get? tP=some (PySem.W.tabObj #[]))
    (hns:s₁.heap.Ns mainGlobals mg) (hb:s₁.heap.Ns builtinsNs mb) (hbb:∀ y:Str,y ≠ "__name__"→mb y=bootBuiltins y) (lim:s₁.heap.NoLimit) (bm:BmAt mg s₁.heap) (hg:s₁.gens = #[])
    (ha:s₁.heap.get? a=some (seqObj "list" vs.toArray 0)) (hi:IntsAre vs ns) (hl:ns.length ≤ sizeLine) (hr:Room k callerA)
    (F:∀ B:Heap,K.In B→B.Ns mainGlobals mg→BmAt mg B→FnOk P w K mg B CX k fa fd [x] sp) (bd:∀ (s:Shared) (u:Value),BindsTo s fd ⟨[u],[]⟩ [(x,u)])
    (hsp:∀ H:Hp,SqL K H a (ns.map V.int)→sp [.ref a] H (fun v _=>v = .bl true) fun _ _ _=>False) (hCX:∀ H e s',CX [] H s₁ (fun _ _ _=>False) e s'→False) :
    codeAny (model P w) callerA (.call (.ref fa) ⟨[.ref a],[]⟩) (fun r s'=>r = .ok (.ret (.bool true))∧OldK s₁.heap s'.heap∧s'.os=s₁.os∧AllBare s'.gens) s₁:=by
  obtain ⟨⟨arr,eT⟩,nT,c,cT⟩:=zl7 hT
  obtain ⟨q,ln,cl,earr⟩:=zkN eT
  dsimp only at earr
  have rv:=ziP hi
  have lenV:=hi.length
  have aP:a ≠ tP:=fun z=>by rw [z,tT] at ha; cases ha
  obtain ⟨H0,eH0⟩:∃ H0:Hp,H0=fun b=>if b=a then (if (K.lookup a).isNone then some (.frz (seqObj "list" vs.toArray 0) (.lst (ns.map V.int))) else none) else none:=⟨_,rfl⟩
  have at0:H0 a=if (K.lookup a).isNone then some (.frz (seqObj "list" vs.toArray 0) (.lst (ns.map V.int))) else none:=by rw [eH0]; exact if_pos rfl
  have ne0:∀ b,b ≠ a→H0 b=none:=fun b hb=>by rw [eH0]; exact if_neg hb
  obtain ⟨H,eH⟩:∃ H,H=upd H0 tP (.tbl arr):=⟨_,rfl⟩
  have HT:H tP=some (.tbl arr):=by rw [eH]; exact zax
  have HA:H a=H0 a:=by rw [eH]; exact zau aP
  have tr:∀ b u,H b=some u→(b=tP∧u = .tbl arr)∨(b=a∧K.lookup a=none∧u = .frz (seqObj "list" vs.toArray 0) (.lst (ns.map V.int))):=fun b u e=>by
    by_cases h1:b=tP
    · subst h1; rw [HT] at e; cases e; exact .inl ⟨rfl,rfl⟩
    · rw [eH,zau h1] at e
      by_cases h2:b=a
      · subst h2
        rw [at0] at e
        split at e
        · rename_i z; cases e; exact .inr ⟨rfl,by simpa using z,rfl⟩
        · cases e
      · rw [ne0 b h2] at e; cases e
  have hok:HOk P w H s₁.heap:=fun b u e=>by
    rcases tr b u e with ⟨rfl,rfl⟩ | ⟨rfl,_,rfl⟩
    · exact ⟨q,0,ln,cl,[],#[],by rw [earr],tT,.inl rfl⟩
    · exact ⟨ha,by rw [List.length_map]; exact hl,vs,_,rv,ha⟩
  have hS:SqL K H a (ns.map V.int):=by
    cases z:K.lookup a with
    | none=>exact .inl (.inr ⟨_,by rw [HA,at0,z]; rfl⟩)
    | some o =>
      have e:=KX a o z
      rw [ha] at e
      cases e
      exact .inr ⟨_,vs.toArray,_,z,rfl,rfl,rfl,by rw [List.size_toArray,lenV]; exact hl,by simpa using rv⟩
  have noA:∀ {b:Addr} {o:Obj} {es:Array DictEntry} {ep:Nat},s₁.heap.get? b=some o→o.data = .dict es ep→H b=none:=fun {b o es ep} e d=>by
    cases z:H b with
    | none=>rfl
    | some u =>
      rcases tr b u z with ⟨rfl,_⟩ | ⟨rfl,_,_⟩
      · rw [tT] at e; cases e; cases d
      · rw [ha] at e; cases e; cases d
  have nsK:∀ {b:Addr} {m:Str→Option Value},s₁.heap.Ns b m→(hidT s₁.heap H).Ns b m:=fun {b m} ⟨o,es,ep,e,d,r⟩=>⟨o,es,ep,zhD e (noA e d),d,r⟩
  have hKb:K.In (hidT s₁.heap H):=fun b o e=>zhD (KX b o e) (by
    cases z:H b with
    | none=>rfl
    | some u =>
      rcases tr b u z with ⟨rfl,_⟩ | ⟨rfl,y,_⟩
      · rw [nT] at e; cases e
      · rw [y] at e; cases e)
  have hM:Mod K mg (hidT s₁.heap H):=⟨hKb,nsK hns,⟨mb,nsK hb,hbb⟩,let ⟨mc,h1,h2⟩:=lim; ⟨mc,nsK h1,h2⟩⟩
  have bm':BmAt mg (hidT s₁.heap H):=by
    obtain ⟨m,o,b1,b2,b3,b4,b5,b6⟩:=bm
    refine ⟨m,o,b1,b2,zhD b3 ?_,b4,b5,b6⟩
    cases z:H m with
    | none=>rfl
    | some u =>
      rcases tr m u z with ⟨rfl,_⟩ | ⟨rfl,_,_⟩
      · rw [tT] at b3; cases b3; cases b4
      · rw [ha] at b3; cases b3; cases b6
  have tb:TbAt K H:=fun t e=>by
    rw [eT] at e; cases e
    exact ⟨#[],by rw [HT]; simp⟩
  have e0:Env0 P w K mg (hidT s₁.heap H) callerA [] s₁ H:=⟨rfl,hM,fun b o e=>zpK e,Nat.le_of_eq (zl9 _ _),trivial,fun b hb=>absurd (show b ∈ ([]:List Addr) from hb) (by simp),hok,.of_eq hg,tb⟩
  refine codeAny_mono ((F _ hKb (nsK hns) bm').run callerA [] s₁ H ⟨[.ref a],[]⟩ [.ref a] [.ref a] _ _ hr e0 (bd s₁ (.ref a)) (.cons rfl .nil) (hsp H hS)) fun r s' h=>?_
  match r,h with
  | .error e,h=>exact (hCX H e s' h).elim
  | .ok (.ret u),h =>
    obtain ⟨v,H',os,bare,un,hok',r',q'⟩:=h
    have q':v = .bl true:=q'
    subst q'
    obtain rfl:u=Value.bool true:=r'
    have tabs:∃ real,s'.heap.get? tP=some (PySem.W.tabObj real):=by
      obtain ⟨more,z⟩:=un.tbls tP _ HT
      obtain ⟨_,_,_,_,_,real,_,e,_⟩:=hok' tP _ z
      exact ⟨real,e⟩
    obtain ⟨real,hreal⟩:=tabs
    have kept:∀ b o,b ≠ tP→s₁.heap.get? b=some o→s'.heap.get? b=some o:=fun b o hb e=>by
      cases z:H b with
      | none=>exact un.keep b o e z (by intro y; exact absurd (show b ∈ ([]:List Addr) from y) (by simp)) (by simp)
      | some u =>
        rcases tr b u z with ⟨rfl,_⟩ | ⟨rfl,_,rfl⟩
        · exact absurd rfl hb
        · obtain ⟨e2,_⟩:=hok' _ _ (un.frzs _ _ _ z)
          rw [ha] at e; cases e
          exact e2
    refine ⟨rfl,⟨fun b o e=>?_,fun b o e=>?_⟩,os,bare⟩
    · by_cases hb:b=tP
      · subst hb
        rw [tT] at e; cases e
        exact .inr (.inl ⟨((PySem.W.codeHd_of_K KX cT).tab tT).isCodeTable,rfl,#[],real,rfl,by rw [hreal]; simp⟩)
      · exact .inl (kept b o hb e)
    · by_cases hb:b=tP
      · subst hb; exact ⟨_,hreal⟩
      · exact ⟨o,kept b o hb e⟩
  | .ok .next,h=>exact False.elim h
  | .ok .brk,h=>exact False.elim h
  | .ok .cont,h=>exact False.elim h
end
theorem walk_ofT {l:PySem.W.OpenLaw} {n k:Nat} {q:Program} {loose:List Str} {XP:(Str→Option Value)→Heap→Prop} {YP:World→Heap→Prop} {d:DefRec} {K:Params→PySem.W.Frag} {CX:World→CXT} {sp:World→Sp} {x:Str} {tP:Addr}
    (hn:l.most=some n) (hn2:n ≤ sizeLine) (hdf:d.params.defaults = []) (hr:Room k callerA) (hY:∀ (w:World) (h:Heap),YP w h→(K w.params).In h) (hY2:∀ (w:World) (h:Heap),YP w h→∀ t ∈ [tP],h.get? t=some (PySem.W.tabObj #[]))
    (hT:∀ w:World,zi5 (K w.params) tP=true)
    (F:∀ (w:World) (mg:Str→Option Value) (fa:Addr) (h:Heap),(K w.params).In h→h.Ns mainGlobals mg→mg d.name=some (.ref fa) →
      ∃ fd:FuncData,(∀ (s:Shared) (u:Value),BindsTo s fd ⟨[u],[]⟩ [(x,u)])∧∀ B:Heap,(K w.params).In B→B.Ns mainGlobals mg→BmAt mg B→FnOk l.prog w (K w.params) mg B (CX w) k fa fd [x] (sp w))
    (hsp:∀ (w:World) (H:Hp) (a:Addr) (ns:List Int),ns.length ≤ n→SqL (K w.params) H a (ns.map V.int)→sp w [.ref a] H (fun v _=>v = .bl true) fun _ _ _=>False)
    (hCX:∀ (w:World) (H:Hp) (s:Shared) (e:Value) (s':Shared),CX w [] H s (fun _ _ _=>False) e s'→False):PySem.W.WalkO q loose XP YP l.row.toRowW d [] (fun f vs=>PySem.call f vs):=by
  refine Att.attach_call hn hdf fun w s₀ s₁ mg mb fa o pm cd doc a vs ns G Y ho hd hcd hmg hobj hints hlen hg=>?_
  obtain ⟨fd,bd,hF⟩:=F w mg fa _ (hY w _ Y) G.T.g hmg
  exact znc (hY w _ Y) (hT w) (hY2 w _ Y tP List.mem_cons_self) G.T.g G.T.b G.T.builtins G.T.nolimit G.T.bmain hg hobj hints (Nat.le_trans hlen hn2) hr hF bd (fun H hS=>hsp w H a ns hlen hS) fun H e s'=>hCX w H s₁ e s'
end L2
namespace L2
open PySem PySem.Spec PyProof.Rows
def zhR (ns:List Int):List Int:=ns.mergeSort fun a b=>decide (b ≤ a)
theorem zfh (ns:List Int):(zhR ns).Perm ns:=List.mergeSort_perm ..
theorem znf (ns:List Int):(zhR ns).Pairwise (fun a b=>b ≤ a):=by
  have:=List.pairwise_mergeSort (le:=fun a b:Int=>decide (b ≤ a)) (fun a b c h1 h2=>by simp at *; omega) (fun a b=>by simp; omega) ns
  exact this.imp fun h=>by simpa using h
theorem znI {ns ms:List Int} (hp:ms.Perm ns) (hs:ms.Pairwise (fun a b=>b ≤ a)):ms=zhR ns :=
  List.Perm.eq_of_pairwise (fun a b _ _ h3 h4=>Int.le_antisymm h4 h3) hs (znf ns) (hp.trans (zfh ns).symm)
def zoh (ta:TA):TE:=fun σ H Q=>ta σ H fun vs H1=>∃ (p:Addr) (ns:List Int),vs = [.ref p]∧Rd H1 p (.lst (ns.map V.int))∧ns.length < 64∧∀ a,H1 a=none→Q (.ref a) (upd H1 a (.lst ((zhR ns).map V.int)))
section
variable {X:Cx}
theorem zj8 {e:Expr} {ta:TA} {p pos kp cp:Pos} {ck:Nat} (hg:Gl X "sorted") (hm:X.mg "sorted"=none) (ha:PA X [e] ta)
    (he:backTo pos (starEach [e] X.env)=(false,eval e X.env) :: backTo pos (starEach [] X.env):=by rfl) (hpl:(backTo pos (starEach [e] X.env)).any (·.1)=false:=by rfl):PE X (.Call (.Name "sorted" p) [e] [⟨some "reverse",.Constant (.bool true) ck cp,kp⟩] pos) (zoh ta):=by
  intro pins s σ H Q I h
  refine wpAny_Call_Name_kw (zej I hg hm rfl ?_)
  refine callWith_kw (thn (ha pos pins s σ H _ I h) fun us s1 ⟨vs,H1,I1,r1,a,ns,e1,hq,hl,q⟩=>?_) he hpl
  subst e1
  obtain ⟨u,rfl,rx⟩:=zdv r1
  cases rx
  show wpAny _ _ (evalAll ((do let v ← eval _ X.env; standAt pos; pure v) :: [])) _ _ s1
  refine wpAny_evalAll_cons (wpAny_bind (Constant_bool (wpAny_bind (wpAny_standAt (wpAny_pure (wpAny_evalAll_nil ?_))))))
  obtain ⟨z,its,n,rv,e⟩:=hq.ok I1.hok
  have len:=rv.length
  rw [List.length_map] at len
  refine sorted_ints_rev (b:=true) ⟨_,e,rfl,n,rfl⟩ (zgd rv) (by omega) fun out ms a1 a2 a3=>?_
  obtain ⟨c,hc⟩:=sortedAll_at s1.heap its out
  have a3:ms.Pairwise (fun a b=>b ≤ a):=a3
  rw [znI a2 a3] at a1
  refine ⟨.ref (s1.heap.objs.size + 1),_,?_,rfl,q _ (I1.hok.fresh (Nat.le_succ _))⟩
  refine I1.laid (fun b o hb=>sortedAll_old hb) (Nat.le_succ _) ⟨?_,out.toList,c,zht a1,by simpa using hc⟩
  rw [List.length_map,(zfh ns).length_eq]
  exact Nat.le_trans (Nat.le_of_lt hl) (by decide)
end
end L2
namespace PM
open PySem L2
section
variable {K:Kx} {XO:XOT} {E:L2.St→XK}
def zfE (d:D):Option D:=match d with
  | .lst l=>(asIs l).bind fun ns=>ifC (ns.length < 64) (some (.lst ((zhR ns).map .int))) none
  | _=>none
theorem zjF {d d':D} (h:zfE d=some d'):∃ ns:List Int,d = .lst (ns.map .int)∧ns.length < 64∧d' = .lst ((zhR ns).map .int):=by
  unfold zfE at h
  split at h
  · rename_i l
    cases z:asIs l with
    | none=>rw [z] at h; cases h
    | some ns =>
      rw [z] at h
      simp only [Option.bind] at h
      unfold ifC at h
      split at h
      · rename_i hl
        cases h
        exact ⟨ns,by rw [zcx z],hl,rfl⟩
      · cases h
  · cases h
theorem zlv {ns:List Int} (h:ns.length < 64):zfE (.lst (ns.map .int))=some (.lst ((zhR ns).map .int)):=by
  simp only [zfE,zb1,Option.bind,zbn h]
def ziz (ml:En→R (List D)) (δ:En):R D:=(ml δ).bind fun l=>match l with | [d]=>R.of (zfE d) | _=>.no
theorem ziJ {tl:TA} {ml:En→R (List D)} (h:SAr K XO E tl ml):SEo K XO E (zoh tl) (ziz ml):=by
  intro Λ F0 H0 F H σ δ Q I a
  refine h Λ F0 H0 F H σ δ _ I (a.bind.imp fun ds F1 H1 e1 a1 vs r=>?_)
  cases r with
  | nil=>exact a1.elim
  | cons r r' =>
    rename_i d v ds vs
    cases r' with
    | cons _ _=>exact a1.elim
    | nil =>
      dsimp only at a1
      cases q:zfE d with
      | none=>rw [q] at a1; exact a1.elim
      | some d' =>
        rw [q] at a1
        obtain ⟨ns,rfl,hl,rfl⟩:=zjF q
        obtain ⟨ad,us,rfl,h1,h3⟩:=r
        obtain rfl:=zce h3
        refine ⟨ad,ns,rfl,h1,hl,fun p hp=>?_⟩
        have x2:Ext F1 H1 F1 (upd H1 p (.lst ((zhR ns).map V.int))):=.newO e1.fh hp
        exact a1 F1 _ x2 p (e1.fh.free hp) (e1.hh.free hp) ⟨_,zax,zje _⟩
end
end PM
namespace PM
open PySem L2
section
variable {K:Kx}
end
end PM
namespace L2
open PySem PySem.Spec PyProof.Rows
section
variable {prog:Program} {w:World} {A:Around} {E:Value→Shared→Prop} {s:Shared}
end
end L2
namespace L2
open PySem PySem.Spec PyProof.Rows
section
variable {prog:Program} {w:World} {A:Around} {E:Value→Shared→Prop} {s:Shared}
end
section
variable {X:Cx} {pins:List (Addr × Obj)} {σ:St} {A:Around} {R:Result→Shared→Prop}
abbrev zd2 (acc:Array Value) (c:Nat):Obj:={ cls:=.type "list",dict:=none,data:=.seq acc c,slots:=#[] }
end
end L2
namespace PM
open PySem L2
section
variable {K:Kx} {XO:XOT} {E:L2.St→XK}
end
end PM
namespace L2
open PySem PySem.Spec PyProof.Rows
theorem zoW {P:Program} {w:World} {k:Key} {u:Value} (h:(zbw P w).is k u=true):RelV (kV k) u:=by
  rcases zbt h with ⟨i,t,rfl,rfl⟩ | ⟨x,t,rfl,rfl⟩
  · exact ⟨t,rfl⟩
  · exact ⟨t,rfl⟩
theorem KV.at:∀ {kvs:List (Key × V)} {vs:List (Key × Value)},KV kvs vs→∀ {i:Nat} {k:Key} {x:V},kvs[i]?=some (k,x)→∃ u,vs[i]?=some (k,u)∧RelV x u:=by
  intro kvs vs r
  unfold KV at r
  induction r with
  | nil=>intro i k x h; simp at h
  | @cons p q ps qs hq t ih =>
    intro i k x h
    cases i with
    | zero =>
      have e:p=(k,x):=by simpa using h
      subst e
      obtain ⟨q1,q2⟩:=q
      exact ⟨q2,by rw [show k=q1 from hq.1]; rfl,hq.2⟩
    | succ i=>exact ih (by simpa using h)
section
variable {X:Cx} {pins:List (Addr × Obj)} {σ:St} {H:Hp} {s:Shared} {a:Addr} {kvs:List (Key × V)}
end
theorem KV.len {kvs:List (Key × V)} {vs:List (Key × Value)} (r:KV kvs vs):vs.length=kvs.length:=by
  unfold KV at r
  induction r with
  | nil=>rfl
  | cons _ _ ih=>simp [ih]
section
variable {X:Cx}
end
end L2
namespace PM
open PySem L2
section
variable {K:Kx} {XO:XOT} {E:L2.St→XK}
def kD:Key→D
  | .inl i=>.int i
  | .inr x=>.str x
theorem zqx {F:Hp} (k:Key):Rep K F (kD k) (kV k):=by
  cases k with
  | inl i=>simp only [kD,Rep]; rfl
  | inr x=>simp only [kD,Rep]; rfl
end
end PM
namespace L2
open PySem PySem.Spec PyProof.Rows
section
variable {P:Program} {w:World} {K:PySem.W.Frag} {mg:Str→Option Value} {base:Heap} {CX:CXT} {k:Nat} {x:Str} {ps:List Str} {sp:Sp} {d:V}
end
section
variable {X:Cx} {CX:CXT} {k:Nat} {x:Str} {ps:List Str} {sp:Sp} {E:XK} {p pos:Pos} {a b:Expr} {ta tb:TE} {d:V}
end
section
variable {P:Program} {w:World} {K:PySem.W.Frag} {mg:Str→Option Value} {base:Heap} {d:V}
end
end L2
namespace PM
open PySem L2
section
variable {K:Kx} {F H:Hp}
end
section
variable {K:Kx} {XO:XOT} {E:L2.St→XK} {ta te:TE} {ma me:En→R D}
end
section
variable {K:Kx} {XO:XOT} {E:L2.St→XK} {F0 H0 F H:Hp} {σ:L2.St} {δ:En}
end
end PM
namespace L2
open PySem PySem.Spec PyProof.Rows
section
variable {prog:Program} {w:World} {A:Around} {E:Value→Shared→Prop} {s:Shared}
end
end L2
namespace L2
open PySem PySem.Spec PyProof.Rows
section
variable {X:Cx}
end
end L2
namespace PM
open PySem L2
section
variable {K:Kx} {XO:XOT} {E:L2.St→XK}
end
end PM
namespace L2
open PySem PySem.Spec PyProof.Rows
section
variable {X:Cx} {CX:CXT} {k:Nat} {x m:Str} {C:Addr} {ps:List Str} {sp:Sp} {E:XK} {p pos apos:Pos} {e o:Expr} {es:List Expr} {t:TA} {ta:TE}
end
end L2
namespace PM
open PySem L2
section
variable {K:Kx} {XO:XOT} {E:L2.St→XK} {F0 H0 F H:Hp} {σ:L2.St} {δ:En}
end
end PM
namespace PM
open PySem L2
section
variable {K:Kx} {XO:XOT} {E:L2.St→XK} {F0 H0 F H F1 H1 F' H':Hp}
end
end PM
namespace L2
open PySem PySem.Spec PyProof.Rows
section
variable {P:Program} {w:World} {K:PySem.W.Frag} {mg:Str→Option Value} {base:Heap} {CX:CXT} {k:Nat} {x m qual:Str} {C:Addr} {st:Stmt} {f:Addr} {fd:FuncData} {ps:List Str} {sp:Sp}
end
end L2
namespace L2
open PySem PySem.Spec PyProof.Rows
section
variable {X:Cx} {CX:CXT} {k:Nat} {x:Str} {C:Addr} {ps:List Str} {sp:Sp} {E:St→XK} {p pos:Pos} {e:Expr} {es:List Expr} {t:TA}
end
end L2
namespace PM
open PySem L2
section
variable {K:Kx} {XO:XOT} {E:L2.St→XK} {F0 H0 F H F1 H1 F' H':Hp}
end
end PM
namespace L2
open PySem PySem.Spec PyProof.Rows
section
variable {prog:Program} {w:World} {A:Around} {E:Value→Shared→Prop} {s:Shared}
end
section
variable {X:Cx}
end
end L2
namespace PM
open PySem L2
section
variable {K:Kx} {XO:XOT} {E:L2.St→XK}
end
end PM
namespace L2
open PySem PySem.Spec PyProof.Rows
section
variable {prog:Program} {w:World} {A:Around} {E:Value→Shared→Prop} {s:Shared}
end
section
variable {X:Cx}
end
end L2
namespace PM
open PySem L2
section
variable {K:Kx} {XO:XOT} {E:L2.St→XK}
end
end PM
namespace L2
open PySem PySem.Spec PyProof.Rows
structure DefAs (K:PySem.W.Frag) (x y:Str) (st:Stmt) (f:Addr) (fd:FuncData):Prop where
  ns:PySem.W.nsIn K mainGlobals x=some (some (.ref f))
  fn:Fun K y y st f fd
theorem defAs_mk {K:PySem.W.Frag} {x y:Str} {st:Stmt} {f:Addr} {oc:Value} {od an:Option Addr} {osl:Array (Option Value)} {kV doc pm cdv ct:Value} (a:PySem.W.nsIn K mainGlobals x=some (some (.ref f)))
    (l:K.lookup f=some ⟨oc,od,.func (PySem.W.fnOf y y (zcC st) (zcg st) (zao st) .none kV doc pm an cdv ct),osl⟩) (c:PySem.W.codeIn K cdv y=true) (k:PySem.W.keepIn K (.ref f)=true):∃ f fd,DefAs K x y st f fd :=
  ⟨f,_,a,ziG l c k⟩
theorem DefAs.has {P:Program} {w:World} {K:PySem.W.Frag} {mg:Str→Option Value} {base h:Heap} {CX:CXT} {k:Nat} {x y:Str} {st:Stmt} {f:Addr} {fd:FuncData} {ps:List Str} {sp:Sp} (D:DefAs K x y st f fd) (X:K.In h) (G:h.Ns mainGlobals mg)
    (ok:FnOk P w K mg base CX k f fd ps sp) (b:Binds K fd ps []):Has P w K mg base CX k x ps sp:=⟨f,fd,ok,PySem.W.mg_of X G D.ns,D.fn.kp,b⟩
end L2
namespace L2
open PySem PySem.Spec PyProof.Rows
theorem dk_len:Slot "dict_keys" "__len__" "dict_keys.__len__" :=
  Slot.of (owner:="dict_keys") (n:="__len__") (by rw [typeLookup_type,builtinLookup_eq_fast]; kernel_rfl) (by decide +kernel) (by decide +kernel) (by decide +kernel) (by first | exact .inl (by decide +kernel) | exact .inr (by decide +kernel)) (by rw [isSubtype_type]; kernel_rfl)
theorem zlA:Slot "dict_keys" "__iter__" "dict_keys.__iter__" :=
  Slot.of (owner:="dict_keys") (n:="__iter__") (by rw [typeLookup_type,builtinLookup_eq_fast]; kernel_rfl) (by decide +kernel) (by decide +kernel) (by decide +kernel) (by first | exact .inl (by decide +kernel) | exact .inr (by decide +kernel)) (by rw [isSubtype_type]; kernel_rfl)
theorem znN:entryFor table "dict_keys.__iter__"=some Builtin.«dict_keys.__iter__»:=entryFor_of_tree (by kernel_rfl)
theorem znX:Manifest.owners.lookup (String.ofList ['s','y','e','k','_','t','c','i','d'].reverse)=some Manifest.sig_dict_keys:=by kernel_rfl
theorem zpd (a:Value):argsOk "dict_keys.__iter__" ⟨[a],[]⟩:=by
  unfold argsOk; rw [signature?_of (id:="dict_keys.__iter__") (n:=['_','_','r','e','t','i','_','_']) (o:=['s','y','e','k','_','t','c','i','d']) (by kernel_rfl) znX]; kernel_rfl
def zcP (h:Heap) (v d:Addr):Prop:=∃ o,h.get? v=some o∧o.cls = .type "dict_keys"∧o.data = .fields #[.ref d]
section
variable {prog:Program} {w:World} {K:Type} [DecidableEq K] {knd:KeyKind prog w K} {A:Around} {E:Value→Shared→Prop} {s:Shared}
theorem zk2 (knd:KeyKind prog w K) (d:Addr) (hd:(d == sysModules)=false) :
    MeetsIn prog w (Builtin.«dict.keys» ⟨[.ref d],[]⟩) (fun _ R s=>(∃ kvs,s.heap.DictOf knd d kvs)∧R (.ok (.ret (.ref s.heap.objs.size))) { s with heap:=s.heap.push { cls:=.type "dict_keys",data:=.fields #[.ref d] } }) :=
  .of_wp fun A R s ⟨⟨kvs,hm⟩,h⟩=>by
    refine wpAny_bind ?_
    unfold Builtin.Dict.noArgs
    refine wpAny_bind (wpAny_notOrdered_dict hm.typeIs ?_)
    show wpAny _ A.in1 (pure d) _ _ s
    refine wpAny_pure ?_
    show wpAny _ A.in1 (Builtin.Dict.showsAll d >>= _) _ _ s
    unfold Builtin.Dict.showsAll
    rw [if_neg (by rw [hd]; exact Bool.false_ne_true)]
    exact wpAny_bind (wpAny_pure (wpAny_bind (wpAny_newObj_type (wpAny_pure ⟨_,rfl,h⟩))))
theorem zmH {v d:Addr} {kvs:List (K × Value)} {ep:Nat} {Q:Value→Shared→Prop} (hv:zcP s.heap v d) (hm:s.heap.DictAt knd d kvs ep)
    (hQ:Q (.ref s.heap.objs.size) { s with heap:=s.heap.push { cls:=.type "dict_keyiterator",data:=.fields #[.ref d,.int 0 0,.int kvs.length 0,.int ep 0] } }):wpAny (model prog w) A (pyIter (.ref v)) Q E s:=by
  obtain ⟨ov,hov,hcv,hdv⟩:=id hv
  obtain ⟨o,es,ho,hc,hdat,hk,hp,hn⟩:=id hm
  have tv:s.TypeIs (.ref v) "dict_keys":=⟨ov,hov,hcv⟩
  refine wpAny_pyIter_slot tv zlA (wpAny_call_entry zlA tv znN ?_ (zpd _))
  unfold Builtin.«dict_keys.__iter__»
  refine wpAny_bind (wpAny_pure (wpAny_bind ?_))
  unfold Builtin.Dict_items.dictOf
  refine wpAny_bind (wpAny_field hov hdv (x:=.ref d) rfl (wpAny_pure (wpAny_bind ?_)))
  unfold Builtin.Dict_items.newIterator
  refine wpAny_bind (wpAny_dictEntries ho hdat (wpAny_bind (wpAny_dictEpoch ho hdat ?_)))
  have sz:es.size=kvs.length:=by rw [← hp.length]; simp
  have own:Builtin.Dict_items.ownsTuple "dict_keyiterator"=false:=by decide
  simp only [own,Bool.false_eq_true,if_false]
  refine wpAny_newObj_type (wpAny_pure ⟨_,rfl,"dict_keyiterator",_,⟨_,Heap.get?_push_size _ rfl,rfl⟩,F.slot_dict_keyiterator_next.lookup,?_⟩)
  simpa [rawInt,sz] using hQ
end
section
variable {prog:Program} {w:World} {K:Type} [DecidableEq K] {knd:KeyKind prog w K} {A:Around} {E:Value→Shared→Prop} {s:Shared}
theorem zm1 {v:Addr} {Q:Bool→Shared→Prop} (hv:s.TypeIs (.ref v) "dict_values") (h:Q false s):wpAny (model prog w) A (Builtin.List.listLengthHint (.ref v)) Q E s:=by
  unfold Builtin.List.listLengthHint
  refine wpAny_bind (wpAny_specialOf hv F.slot_dict_values_len.lookup ?_)
  generalize hid:("dict_values.__len__" : String)=id0
  wp_delta
  rw [show splitId id0=some ("dict_values","__len__") from by subst hid; decide +kernel]
  subst hid
  refine wpAny_bind (wpAny_isInstance (T:="dict_values") (b:=true) hv (by rw [isSubtype_type]; kernel_rfl) ?_)
  refine wpAny_ite_split (fun c=>absurd c (by decide)) (fun _=>?_)
  refine wpAny_ite_split (fun _=>?_) (fun c=>absurd (show _=true by decide +kernel) c)
  exact wpAny_bind (wpAny_typeOf hv (wpAny_pure h))
theorem znk {R:Result→Shared→Prop} {v a:Addr} {kvs:List (K × Value)} {ep:Nat} (hh:A.handled=none) (hv:Heap.IsValuesView s.heap v a) (hd:s.heap.DictAt knd a kvs ep) (hlen:kvs.length ≤ sizeLine) (S:Addr) (res:Value) (c₀:Nat) (hS:s.heap.get? S=some (zd2 #[] c₀))
    (hR:∀ h' tk acc c,(∀ b o,b ≠ S→s.heap.get? b=some o→h'.get? b=some o)→h'.get? S=some (zd2 acc c)→ItemsOf (fun i x=>∃ k,kvs[i]?=some (k,x)) acc kvs.length→R (.ok (.ret res)) { s with heap:=h',toks:=tk }) :
    wpAny (model prog w) A.in1 (Builtin.List.listExtendWith (.ref S) (.ref v) res) (fun fin s'=>match fin with | .done f=>R (.ok f) s' | .again c'=>c'.quiet=true∧codeAny (model prog w) A c' R s') (fun e s'=>R (.error e) s') s:=by
  obtain ⟨ov,gv,cv,dv⟩:=id hv
  obtain ⟨oa,es,ga,ca,_⟩:=id hd
  have Sv:S ≠ v:=fun e=>by rw [e,gv] at hS; cases hS; simp at cv
  have Sl:S < s.heap.objs.size:=Heap.lt_size hS
  have SI:S ≠ s.heap.objs.size:=Nat.ne_of_lt Sl
  have al:a < s.heap.objs.size:=Heap.lt_size ga
  have Sa:S ≠ a:=fun e=>by
    obtain ⟨c1,c2⟩:=ca
    rw [e,ga] at hS; cases hS; simp at c1
  have nf:S ∉ [s.heap.objs.size,a]:=by
    simp only [List.mem_cons,List.not_mem_nil,or_false,not_or]; exact ⟨SI,Sa⟩
  have W:=(Walks.dictValues (prog:=prog) (w:=w) (A:=A.in1) (knd:=knd) hh s.heap.objs.size a (Nat.ne_of_lt al) kvs ep).toS
  have key:∀ (h:Heap) (c₁ tk:Nat),h.IsValIter s.heap.objs.size a 0 kvs.length ep→(∀ b o,b ≠ S→s.heap.get? b=some o→h.get? b=some o)→h.get? S=some (zd2 #[] c₁)→codeAny (model prog w) A (.builtin "list.extend.loop" ⟨[.ref S,.ref s.heap.objs.size,res],[]⟩) R { s with heap:=h,toks:=tk }:=by
    intro h c₁ tk hit hk hS₁
    refine codeAny_extend_loopS W hlen S nf res kvs.length 0 _ #[] c₁ rfl (Nat.zero_le _) ⟨hit,hd.at' fun o e=>hk a o (Ne.symm Sa) e⟩ hS₁ (ItemsOf.nil _) fun s' acc c mv hS' hacc=>?_
    rw [Moved.eq_with mv]
    refine hR s'.heap s'.toks acc c (fun b o hb e=>mv.heap b o (fun m=>?_) (hk b o hb e)) hS' hacc
    rcases List.mem_cons.mp m with e' | m
    · exact hb e'
    · exact absurd (Heap.lt_size e) (by rw [List.mem_singleton.mp m]; exact Nat.lt_irrefl _)
  have tv:s.TypeIs (.ref v) "dict_values":=⟨ov,gv,cv⟩
  unfold Builtin.List.listExtendWith
  refine wpAny_bind (wpAny_typeOf (T:="dict_values") tv ?_)
  have e1:Builtin.List.listSameRef (.ref S) (.ref v)=false:=by simp [Builtin.List.listSameRef,Sv]
  have e2:(Value.type "dict_values" == Value.type "list")=false:=by decide
  have e3:(Value.type "dict_values" == Value.type "tuple")=false:=by decide
  simp only [e1,e2,e3,Bool.or_false,Bool.false_eq_true,if_false]
  refine wpAny_bind (wpAny_pyIter_values hv hd ?_)
  obtain ⟨itO,eit⟩:∃ itO:Obj,itO = { cls:=.type "dict_valueiterator",data:=.fields #[.ref a,.int 0 0,.int kvs.length 0,.int ep 0] }:=⟨_,rfl⟩
  have it0:(s.heap.push itO).IsValIter s.heap.objs.size a 0 kvs.length ep:=⟨itO,Heap.get?_push_size _ (by rw [eit]; rfl),by rw [eit],by rw [eit]; rfl⟩
  rw [← eit]
  refine wpAny_bind (wpAny_holding (zm1 ⟨ov,Heap.get?_push_of_some _ gv,cv⟩ ?_))
  have hS₁:(s.heap.push itO).get? S=some (zd2 #[] c₀):=Heap.get?_push_of_some _ hS
  refine wpAny_ite_split (fun _=>?_) (fun c=>absurd (show _=true by decide +kernel) c)
  refine wpAny_bind (wpAny_rule (wpAny_bind ?_))
  show wpAny _ A.in1 (updateSeq S (·.push .none) >>= fun _=>updateSeq S (·.pop)) _ _ _
  refine wpAny_bind (wpAny_updateSeq hS₁ rfl ?_)
  have hS₂:=Heap.get?_update_self (Obj.mapSeq (·.push Value.none)) hS₁ rfl
  refine wpAny_updateSeq (hz:=by seq_fits) hS₂ rfl ?_
  have hS₃:=Heap.get?_update_self (Obj.mapSeq (·.pop)) hS₂ rfl
  refine wpAny_pure ⟨plainId_quiet F.plain_extend_loop _,key _ _ _ ?_ (fun b o hb e=>?_) hS₃⟩
  · exact it0.at fun o e=>(Heap.get?_update_other _ _ SI).trans ((Heap.get?_update_other _ _ SI).trans e)
  · exact (Heap.get?_update_other _ _ (Ne.symm hb)).trans ((Heap.get?_update_other _ _ (Ne.symm hb)).trans (Heap.get?_push_of_some _ e))
theorem zm6 {Q:Value→Shared→Prop} {v a:Addr} {kvs:List (K × Value)} {ep:Nat} (hh:A.handled=none) (hv:Heap.IsValuesView s.heap v a) (hd:s.heap.DictAt knd a kvs ep) (hlen:kvs.length ≤ sizeLine)
    (hQ:∀ h' tk acc c,(∀ b o,s.heap.get? b=some o→h'.get? b=some o)→h'.get? s.heap.objs.size=some (zd2 acc c)→ItemsOf (fun i x=>∃ k,kvs[i]?=some (k,x)) acc kvs.length→Q (.ref s.heap.objs.size) { s with heap:=h',toks:=tk }) :
    wpAny (model prog w) A (call (.type "list") [.ref v]) Q E s:=by
  refine callType_codes (Q₁:=fun ob s₁=>ob = .ref s.heap.objs.size∧s₁ = { s with heap:=s.heap.push (zd2 #[] 0) }) F.called_list (F.typeCall_list_1 _) F.entry_list_init (code_list_new _ ⟨rfl,rfl⟩) fun ob s₁ h₁=>?_
  obtain ⟨rfl,rfl⟩:=h₁
  have gS:(s.heap.push (zd2 #[] 0)).get? s.heap.objs.size=some (zd2 #[] 0):=Heap.get?_push_size _ rfl
  obtain ⟨ov,gv,rv⟩:=id hv
  have vS:v ≠ s.heap.objs.size:=Nat.ne_of_lt (Heap.lt_size gv)
  obtain ⟨oa,es,ga,ra⟩:=id hd
  have aS:a ≠ s.heap.objs.size:=Nat.ne_of_lt (Heap.lt_size ga)
  refine ⟨⟨_,gS,rfl⟩,F.args_list_init_2 _ _,?_⟩
  show wpAny _ A.in1.in1 (Builtin.List.listItems (.ref s.heap.objs.size) >>= fun old=>Builtin.List.listUpdate (.ref s.heap.objs.size) (fun _=>#[]) >>= fun _=>letGo old.toList.reverse >>= fun _=>Builtin.List.listExtendWith (.ref s.heap.objs.size) (.ref v) .none) _ _ _
  refine wpAny_bind ?_
  unfold Builtin.List.listItems
  refine wpAny_bind (wpAny_seqItems gS rfl (wpAny_pure ?_))
  show wpAny _ A.in1.in1 (updateSeq s.heap.objs.size (fun _=>#[]) >>= fun _=>letGo (#[]:Array Value).toList.reverse >>= fun _=>Builtin.List.listExtendWith (.ref s.heap.objs.size) (.ref v) .none) _ _ _
  refine wpAny_bind (wpAny_updateSeq gS rfl ?_)
  have g2:=Heap.get?_update_self (Obj.mapSeq (fun _=>(#[]:Array Value))) gS rfl
  have oth:∀ b o,b ≠ s.heap.objs.size→s.heap.get? b=some o→((s.heap.push (zd2 #[] 0)).update s.heap.objs.size (Obj.mapSeq (fun _=>(#[]:Array Value)))).get? b=some o:=fun b o hb e=>(Heap.get?_update_other _ _ (Ne.symm hb)).trans (Heap.get?_push_of_some _ e)
  refine wpAny_bind (wpAny_letGo ?_)
  refine znk (A:=A.in1) hh (knd:=knd) (kvs:=kvs) (ep:=ep) (a:=a) ⟨ov,oth v _ vS gv,rv⟩ ⟨oa,es,oth a _ aS ga,ra⟩ hlen _ .none _ g2 fun h' tk acc c hk hS' hacc=>?_
  exact ⟨rfl,hQ h' tk acc c (fun b o e=>hk b o (Nat.ne_of_lt (Heap.lt_size e)) (oth b o (Nat.ne_of_lt (Heap.lt_size e)) e)) hS' hacc⟩
end
section
variable {prog:Program} {w:World} {K:Type} [DecidableEq K] {knd:KeyKind prog w K} {A:Around} {E:Value→Shared→Prop} {s:Shared}
theorem zmS {v:Addr} {Q:Bool→Shared→Prop} (hv:s.TypeIs (.ref v) "dict_keys") (h:Q false s):wpAny (model prog w) A (Builtin.List.listLengthHint (.ref v)) Q E s:=by
  unfold Builtin.List.listLengthHint
  refine wpAny_bind (wpAny_specialOf hv dk_len.lookup ?_)
  generalize hid:("dict_keys.__len__" : String)=id0
  wp_delta
  rw [show splitId id0=some ("dict_keys","__len__") from by subst hid; decide +kernel]
  subst hid
  refine wpAny_bind (wpAny_isInstance (T:="dict_keys") (b:=true) hv (by rw [isSubtype_type]; kernel_rfl) ?_)
  refine wpAny_ite_split (fun c=>absurd c (by decide)) (fun _=>?_)
  refine wpAny_ite_split (fun _=>?_) (fun c=>absurd (show _=true by decide +kernel) c)
  exact wpAny_bind (wpAny_typeOf hv (wpAny_pure h))
theorem znA {R:Result→Shared→Prop} {v a:Addr} {kvs:List (K × Value)} {ep:Nat} (hh:A.handled=none) (hv:zcP s.heap v a) (hd:s.heap.DictAt knd a kvs ep) (hlen:kvs.length ≤ sizeLine) (S:Addr) (res:Value) (c₀:Nat) (hS:s.heap.get? S=some (zd2 #[] c₀))
    (hR:∀ h' tk acc c,(∀ b o,b ≠ S→s.heap.get? b=some o→h'.get? b=some o)→h'.get? S=some (zd2 acc c)→ItemsOf (fun i x=>∃ k y,kvs[i]?=some (k,y)∧knd.is k x=true) acc kvs.length→R (.ok (.ret res)) { s with heap:=h',toks:=tk }) :
    wpAny (model prog w) A.in1 (Builtin.List.listExtendWith (.ref S) (.ref v) res) (fun fin s'=>match fin with | .done f=>R (.ok f) s' | .again c'=>c'.quiet=true∧codeAny (model prog w) A c' R s') (fun e s'=>R (.error e) s') s:=by
  obtain ⟨ov,gv,cv,dv⟩:=id hv
  obtain ⟨oa,es,ga,ca,_⟩:=id hd
  have Sv:S ≠ v:=fun e=>by rw [e,gv] at hS; cases hS; simp at cv
  have Sl:S < s.heap.objs.size:=Heap.lt_size hS
  have SI:S ≠ s.heap.objs.size:=Nat.ne_of_lt Sl
  have al:a < s.heap.objs.size:=Heap.lt_size ga
  have Sa:S ≠ a:=fun e=>by
    obtain ⟨c1,c2⟩:=ca
    rw [e,ga] at hS; cases hS; simp at c1
  have nf:S ∉ [s.heap.objs.size,a]:=by
    simp only [List.mem_cons,List.not_mem_nil,or_false,not_or]; exact ⟨SI,Sa⟩
  have W:=(Walks.dictKeys (prog:=prog) (w:=w) (A:=A.in1) (knd:=knd) hh s.heap.objs.size a (Nat.ne_of_lt al) kvs ep).toS
  have key:∀ (h:Heap) (c₁ tk:Nat),h.IsKeyIter s.heap.objs.size a 0 kvs.length ep→(∀ b o,b ≠ S→s.heap.get? b=some o→h.get? b=some o)→h.get? S=some (zd2 #[] c₁)→codeAny (model prog w) A (.builtin "list.extend.loop" ⟨[.ref S,.ref s.heap.objs.size,res],[]⟩) R { s with heap:=h,toks:=tk }:=by
    intro h c₁ tk hit hk hS₁
    refine codeAny_extend_loopS W hlen S nf res kvs.length 0 _ #[] c₁ rfl (Nat.zero_le _) ⟨hit,hd.at' fun o e=>hk a o (Ne.symm Sa) e⟩ hS₁ (ItemsOf.nil _) fun s' acc c mv hS' hacc=>?_
    rw [Moved.eq_with mv]
    refine hR s'.heap s'.toks acc c (fun b o hb e=>mv.heap b o (fun m=>?_) (hk b o hb e)) hS' hacc
    rcases List.mem_cons.mp m with e' | m
    · exact hb e'
    · exact absurd (Heap.lt_size e) (by rw [List.mem_singleton.mp m]; exact Nat.lt_irrefl _)
  have tv:s.TypeIs (.ref v) "dict_keys":=⟨ov,gv,cv⟩
  unfold Builtin.List.listExtendWith
  refine wpAny_bind (wpAny_typeOf (T:="dict_keys") tv ?_)
  have e1:Builtin.List.listSameRef (.ref S) (.ref v)=false:=by simp [Builtin.List.listSameRef,Sv]
  have e2:(Value.type "dict_keys" == Value.type "list")=false:=by decide
  have e3:(Value.type "dict_keys" == Value.type "tuple")=false:=by decide
  simp only [e1,e2,e3,Bool.or_false,Bool.false_eq_true,if_false]
  refine wpAny_bind (zmH hv hd ?_)
  obtain ⟨itO,eit⟩:∃ itO:Obj,itO = { cls:=.type "dict_keyiterator",data:=.fields #[.ref a,.int 0 0,.int kvs.length 0,.int ep 0] }:=⟨_,rfl⟩
  have it0:(s.heap.push itO).IsKeyIter s.heap.objs.size a 0 kvs.length ep:=⟨itO,Heap.get?_push_size _ (by rw [eit]; rfl),by rw [eit],by rw [eit]; rfl⟩
  rw [← eit]
  refine wpAny_bind (wpAny_holding (zmS ⟨ov,Heap.get?_push_of_some _ gv,cv⟩ ?_))
  have hS₁:(s.heap.push itO).get? S=some (zd2 #[] c₀):=Heap.get?_push_of_some _ hS
  refine wpAny_ite_split (fun _=>?_) (fun c=>absurd (show _=true by decide +kernel) c)
  refine wpAny_bind (wpAny_rule (wpAny_bind ?_))
  show wpAny _ A.in1 (updateSeq S (·.push .none) >>= fun _=>updateSeq S (·.pop)) _ _ _
  refine wpAny_bind (wpAny_updateSeq hS₁ rfl ?_)
  have hS₂:=Heap.get?_update_self (Obj.mapSeq (·.push Value.none)) hS₁ rfl
  refine wpAny_updateSeq (hz:=by seq_fits) hS₂ rfl ?_
  have hS₃:=Heap.get?_update_self (Obj.mapSeq (·.pop)) hS₂ rfl
  refine wpAny_pure ⟨plainId_quiet F.plain_extend_loop _,key _ _ _ ?_ (fun b o hb e=>?_) hS₃⟩
  · exact it0.at fun o e=>(Heap.get?_update_other _ _ SI).trans ((Heap.get?_update_other _ _ SI).trans e)
  · exact (Heap.get?_update_other _ _ (Ne.symm hb)).trans ((Heap.get?_update_other _ _ (Ne.symm hb)).trans (Heap.get?_push_of_some _ e))
theorem zmB {Q:Value→Shared→Prop} {v a:Addr} {kvs:List (K × Value)} {ep:Nat} (hh:A.handled=none) (hv:zcP s.heap v a) (hd:s.heap.DictAt knd a kvs ep) (hlen:kvs.length ≤ sizeLine)
    (hQ:∀ h' tk acc c,(∀ b o,s.heap.get? b=some o→h'.get? b=some o)→h'.get? s.heap.objs.size=some (zd2 acc c)→ItemsOf (fun i x=>∃ k y,kvs[i]?=some (k,y)∧knd.is k x=true) acc kvs.length→Q (.ref s.heap.objs.size) { s with heap:=h',toks:=tk }) :
    wpAny (model prog w) A (call (.type "list") [.ref v]) Q E s:=by
  refine callType_codes (Q₁:=fun ob s₁=>ob = .ref s.heap.objs.size∧s₁ = { s with heap:=s.heap.push (zd2 #[] 0) }) F.called_list (F.typeCall_list_1 _) F.entry_list_init (code_list_new _ ⟨rfl,rfl⟩) fun ob s₁ h₁=>?_
  obtain ⟨rfl,rfl⟩:=h₁
  have gS:(s.heap.push (zd2 #[] 0)).get? s.heap.objs.size=some (zd2 #[] 0):=Heap.get?_push_size _ rfl
  obtain ⟨ov,gv,rv⟩:=id hv
  have vS:v ≠ s.heap.objs.size:=Nat.ne_of_lt (Heap.lt_size gv)
  obtain ⟨oa,es,ga,ra⟩:=id hd
  have aS:a ≠ s.heap.objs.size:=Nat.ne_of_lt (Heap.lt_size ga)
  refine ⟨⟨_,gS,rfl⟩,F.args_list_init_2 _ _,?_⟩
  show wpAny _ A.in1.in1 (Builtin.List.listItems (.ref s.heap.objs.size) >>= fun old=>Builtin.List.listUpdate (.ref s.heap.objs.size) (fun _=>#[]) >>= fun _=>letGo old.toList.reverse >>= fun _=>Builtin.List.listExtendWith (.ref s.heap.objs.size) (.ref v) .none) _ _ _
  refine wpAny_bind ?_
  unfold Builtin.List.listItems
  refine wpAny_bind (wpAny_seqItems gS rfl (wpAny_pure ?_))
  show wpAny _ A.in1.in1 (updateSeq s.heap.objs.size (fun _=>#[]) >>= fun _=>letGo (#[]:Array Value).toList.reverse >>= fun _=>Builtin.List.listExtendWith (.ref s.heap.objs.size) (.ref v) .none) _ _ _
  refine wpAny_bind (wpAny_updateSeq gS rfl ?_)
  have g2:=Heap.get?_update_self (Obj.mapSeq (fun _=>(#[]:Array Value))) gS rfl
  have oth:∀ b o,b ≠ s.heap.objs.size→s.heap.get? b=some o→((s.heap.push (zd2 #[] 0)).update s.heap.objs.size (Obj.mapSeq (fun _=>(#[]:Array Value)))).get? b=some o:=fun b o hb e=>(Heap.get?_update_other _ _ (Ne.symm hb)).trans (Heap.get?_push_of_some _ e)
  refine wpAny_bind (wpAny_letGo ?_)
  refine znA (A:=A.in1) hh (knd:=knd) (kvs:=kvs) (ep:=ep) (a:=a) ⟨ov,oth v _ vS gv,rv⟩ ⟨oa,es,oth a _ aS ga,ra⟩ hlen _ .none _ g2 fun h' tk acc c hk hS' hacc=>?_
  exact ⟨rfl,hQ h' tk acc c (fun b o e=>hk b o (Nat.ne_of_lt (Heap.lt_size e)) (oth b o (Nat.ne_of_lt (Heap.lt_size e)) e)) hS' hacc⟩
end
end L2
namespace L2
open PySem PySem.Spec PyProof.Rows
theorem vals_of:∀ {vs:List V} {us:List Value},vs.length=us.length→(∀ (i:Nat) (x:V) (y:Value),vs[i]?=some x→us[i]?=some y→RelV x y)→Vals vs us
  | [],[],_,_=>.nil
  | [],_ :: _,h,_=>by simp at h
  | _ :: _,[],h,_=>by simp at h
  | x :: vs,y :: us,h,r=>.cons (r 0 x y rfl rfl) (vals_of (by simpa using h) fun i a b ha hb=>r (i + 1) a b (by simpa using ha) (by simpa using hb))
section
variable {X:Cx}
def zqW (td:TE):TE:=fun σ H Q=>td σ H fun x H1=>∃ a kvs,x = .ref a∧Rd H1 a (.dK kvs)∧∀ v,H1 v=none→Q (.ref v) (upd H1 v (.ext fun h=>Heap.IsValuesView h v a))
theorem zmQ {l:Expr} {td:TE} {ap cp:Pos} (hl:PE X l td) (hbase:attributeBase l "values" X.env (eval l X.env)=eval l X.env:=by rfl) (hline:(ap.endLine == cp.line)=true:=by rfl):PE X (.Call (.Attribute l "values" ap) [] [] cp) (zqW td):=by
  intro pins s σ H Q I h
  refine wpAny_Call_method0_late hbase hline (thn (hl pins s σ H _ I h) fun v s1 ⟨x,H1,I1,r1,a,kvs,ex,ha,q⟩=>?_)
  subst ex
  obtain rfl:v=Value.ref a:=r1
  obtain ⟨t1,t2,t3⟩:=zlo I1 (.inl ⟨kvs,ha⟩)
  obtain ⟨z,sm,vs,rv,dd⟩:=zi9 I1.hok ha
  refine ⟨"dict","dict.values",PySem.F.plainAttrs_dict,PySem.F.slot_dict_values,PySem.F.type_dict_values,t1,t2,Calls.callWith_builtin rfl (PySem.evalArgs_none ?_)⟩
  refine call_meetsIn PySem.F.slot_dict_values dd.typeIs PySem.F.entry_dict_values (PySem.F.args_dict_values_1 _) (meets_dict_values (zbw X.prog X.w) a t3) ⟨⟨vs,dd⟩,?_⟩
  refine ⟨.ref s1.heap.objs.size,_,?_,rfl,q _ (I1.hok.fresh (Nat.le_refl _))⟩
  refine I1.laid (t':=s1.toks) (fun b o e=>Heap.get?_push_of_some _ e) (Nat.le_refl _) ⟨⟨_,Heap.get?_push_size _ rfl,rfl,rfl⟩,⟨_,Heap.get?_push_size _ rfl⟩,fun h1 h2 ⟨o,e,r⟩ k=>⟨o,k o e,r⟩⟩
def zkg:List V→Hp→VK→Prop:=fun xs H Q=>∃ (v a:Addr) (kvs:List (Key × V)),xs = [.ref v]∧H v=some (.ext fun h=>Heap.IsValuesView h v a)∧Rd H a (.dK kvs)∧∀ l,H l=none→Q (.ref l) (upd H l (.lst (kvs.map (·.2))))
theorem zfV (hc:X.calm=true):zdr X (.type "list") zkg:=by
  intro pins s σ H xs us Q I r h
  obtain ⟨v,a,kvs,rfl,hv,ha,q⟩:=h
  obtain ⟨u,rfl,rx⟩:=zdv r
  cases rx
  obtain ⟨pv,_,_⟩:=I.hok v _ hv
  obtain ⟨z,sm,vs,rv,dd⟩:=zi9 I.hok ha
  obtain ⟨ep,da⟩:=dd.dictAt
  have ln:=rv.len
  refine zm6 (knd:=zbw X.prog X.w) (I.ok.hd hc) pv da (by rw [ln]; exact z) fun h' tk acc c kp hS items=>?_
  refine ⟨.ref s.heap.objs.size,_,?_,rfl,q _ (I.hok.fresh (Nat.le_refl _))⟩
  obtain ⟨i1,i2⟩:=items
  refine I.laid kp (Nat.le_refl _) ⟨by rw [List.length_map]; exact z,acc.toList,c,?_,by simpa using hS⟩
  refine vals_of (by rw [List.length_map,← ln]; simpa using i1.symm) fun i x y hx hy=>?_
  rw [List.getElem?_map] at hx
  obtain ⟨⟨key,w1⟩,e1,e2⟩:=Option.map_eq_some_iff.mp hx
  obtain ⟨w2,e3,e4⟩:=rv.at e1
  obtain ⟨k',e5⟩:=i2 i y (by simpa using hy)
  rw [e3] at e5; cases e5; cases e2
  exact e4
def zp7 (td:TE):TE:=fun σ H Q=>td σ H fun x H1=>∃ a kvs,x = .ref a∧Rd H1 a (.dK kvs)∧∀ v,H1 v=none→Q (.ref v) (upd H1 v (.ext fun h=>zcP h v a))
theorem zo7 {l:Expr} {td:TE} {ap cp:Pos} (hl:PE X l td) (hbase:attributeBase l "keys" X.env (eval l X.env)=eval l X.env:=by rfl) (hline:(ap.endLine == cp.line)=true:=by rfl):PE X (.Call (.Attribute l "keys" ap) [] [] cp) (zp7 td):=by
  intro pins s σ H Q I h
  refine wpAny_Call_method0_late hbase hline (thn (hl pins s σ H _ I h) fun v s1 ⟨x,H1,I1,r1,a,kvs,ex,ha,q⟩=>?_)
  subst ex
  obtain rfl:v=Value.ref a:=r1
  obtain ⟨t1,t2,t3⟩:=zlo I1 (.inl ⟨kvs,ha⟩)
  obtain ⟨z,sm,vs,rv,dd⟩:=zi9 I1.hok ha
  refine ⟨"dict","dict.keys",PySem.F.plainAttrs_dict,PySem.F.slot_dict_keys,PySem.F.type_dict_keys,t1,t2,Calls.callWith_builtin rfl (PySem.evalArgs_none ?_)⟩
  refine call_meetsIn PySem.F.slot_dict_keys dd.typeIs PySem.F.entry_dict_keys (PySem.F.args_dict_keys_1 _) (zk2 (zbw X.prog X.w) a t3) ⟨⟨vs,dd⟩,?_⟩
  refine ⟨.ref s1.heap.objs.size,_,?_,rfl,q _ (I1.hok.fresh (Nat.le_refl _))⟩
  refine I1.laid (t':=s1.toks) (fun b o e=>Heap.get?_push_of_some _ e) (Nat.le_refl _) ⟨⟨_,Heap.get?_push_size _ rfl,rfl,rfl⟩,⟨_,Heap.get?_push_size _ rfl⟩,fun h1 h2 ⟨o,e,r⟩ k=>⟨o,k o e,r⟩⟩
def zku:List V→Hp→VK→Prop:=fun xs H Q=>∃ (v a:Addr) (kvs:List (Key × V)),xs = [.ref v]∧H v=some (.ext fun h=>zcP h v a)∧Rd H a (.dK kvs)∧∀ l,H l=none→Q (.ref l) (upd H l (.lst (kvs.map fun kv=>kV kv.1)))
theorem ziN (hc:X.calm=true):zdr X (.type "list") zku:=by
  intro pins s σ H xs us Q I r h
  obtain ⟨v,a,kvs,rfl,hv,ha,q⟩:=h
  obtain ⟨u,rfl,rx⟩:=zdv r
  cases rx
  obtain ⟨pv,_,_⟩:=I.hok v _ hv
  obtain ⟨z,sm,vs,rv,dd⟩:=zi9 I.hok ha
  obtain ⟨ep,da⟩:=dd.dictAt
  have ln:=rv.len
  refine zmB (knd:=zbw X.prog X.w) (I.ok.hd hc) pv da (by rw [ln]; exact z) fun h' tk acc c kp hS items=>?_
  refine ⟨.ref s.heap.objs.size,_,?_,rfl,q _ (I.hok.fresh (Nat.le_refl _))⟩
  obtain ⟨i1,i2⟩:=items
  refine I.laid kp (Nat.le_refl _) ⟨by rw [List.length_map]; exact z,acc.toList,c,?_,by simpa using hS⟩
  refine vals_of (by rw [List.length_map,← ln]; simpa using i1.symm) fun i x y hx hy=>?_
  rw [List.getElem?_map] at hx
  obtain ⟨⟨key,w1⟩,e1,e2⟩:=Option.map_eq_some_iff.mp hx
  obtain ⟨w2,e3,e4⟩:=rv.at e1
  obtain ⟨k',y',e5,e6⟩:=i2 i y (by simpa using hy)
  rw [e3] at e5; cases e5; cases e2
  exact zoW e6
end
end L2
namespace PM
open PySem L2
section
variable {K:Kx} {XO:XOT} {E:L2.St→XK}
def zjy:D→Option D
  | .dct _ l=>some (.lst l)
  | _=>none
def zkH:D→Option D
  | .dct ks _=>some (.lst (ks.map kD))
  | _=>none
theorem zln {F:Hp}:∀ ks:List Key,RepL K F (ks.map kD) (ks.map kV)
  | []=>.nil
  | k :: ks=>.cons (zqx k) (zln ks)
def zf7 (f:D→Option D) (md:En→R D) (δ:En):R D:=(md δ).bind fun d=>R.of (f d)
theorem zky {td:TE} {md:En→R D} (h:SEr K XO E td md):SEo K XO E (tCB zkg (zdl (zqW td) tNil)) (zf7 zjy md):=by
  intro Λ F0 H0 F H σ δ Q I a
  refine h Λ F0 H0 F H σ δ _ I (a.bind.imp fun d F1 H1 e1 a1 x rx=>?_)
  cases d with
  | dct ks l =>
    obtain ⟨p,kvs,rfl,h1,h2,h3⟩:=rx
    refine ⟨p,kvs,rfl,.inl h1,fun v hv=>⟨v,p,kvs,rfl,zax,.inl (by rw [zau (zay h1 hv)]; exact h1),fun q hq=>?_⟩⟩
    have qv:q ≠ v:=fun z=>by rw [z,zax] at hq; cases hq
    have hq1:H1 q=none:=by rw [zau qv] at hq; exact hq
    have x1:Ext F1 H1 F1 (upd H1 v (.ext fun h=>Heap.IsValuesView h v p)):=.newO e1.fh hv
    have x2:=x1.trans (.newO x1.fh (o:=.lst (kvs.map (·.2))) hq)
    exact a1 F1 _ x2 q (e1.fh.free hq1) (e1.hh.free hq1) ⟨_,zax,h3⟩
  | _=>exact a1.elim
theorem znq {td:TE} {md:En→R D} (h:SEr K XO E td md):SEo K XO E (tCB zku (zdl (zp7 td) tNil)) (zf7 zkH md):=by
  intro Λ F0 H0 F H σ δ Q I a
  refine h Λ F0 H0 F H σ δ _ I (a.bind.imp fun d F1 H1 e1 a1 x rx=>?_)
  cases d with
  | dct ks l =>
    obtain ⟨p,kvs,rfl,h1,h2,h3⟩:=rx
    refine ⟨p,kvs,rfl,.inl h1,fun v hv=>⟨v,p,kvs,rfl,zax,.inl (by rw [zau (zay h1 hv)]; exact h1),fun q hq=>?_⟩⟩
    have qv:q ≠ v:=fun z=>by rw [z,zax] at hq; cases hq
    have hq1:H1 q=none:=by rw [zau qv] at hq; exact hq
    have x1:Ext F1 H1 F1 (upd H1 v (.ext fun h=>zcP h v p)):=.newO e1.fh hv
    have x2:=x1.trans (.newO x1.fh (o:=.lst (kvs.map fun kv=>kV kv.1)) hq)
    refine a1 F1 _ x2 q (e1.fh.free hq1) (e1.hh.free hq1) ⟨_,zax,?_⟩
    have:kvs.map (fun kv=>kV kv.1)=ks.map kV:=by rw [← h2,List.map_map]; rfl
    rw [this]
    exact zln ks
  | _=>exact a1.elim
end
end PM
namespace My
open PySem L2 PM
def zdT:Nat→Bool
  | 1=>true
  | 5=>true
  | _=>false
def zch (c:Nat):Bool:=zdT (c % 16)
def zgJ:Nat→Bool
  | 1=>false
  | 5=>true
  | _=>false
def zdo (c:Nat):Bool:=zgJ (c % 16)
def zfQ:Nat→Option Bool
  | 1=>some true
  | 5=>some false
  | _=>none
def zc2 (c:Nat):Option Bool:=zfQ (c % 16)
def zeJ:Nat→Option Bool
  | 1=>some false
  | 5=>some false
  | _=>none
def zcf (c:Nat):Option Bool:=zeJ (c % 16)
def zfz:Nat→Option Bool
  | 1=>some false
  | 5=>some false
  | _=>none
def zcU (c:Nat):Option Bool:=zfz (c % 16)
def zfS:Nat→Option Bool
  | 1=>some false
  | 5=>some false
  | _=>none
def zc7 (c:Nat):Option Bool:=zfS (c % 16)
def zgh:Nat→Option Bool
  | 1=>some false
  | 5=>some false
  | _=>none
def zdw (c:Nat):Option Bool:=zgh (c % 16)
def zei:Nat→Option Bool
  | 1=>some true
  | 5=>some true
  | _=>none
def zbY (c:Nat):Option Bool:=zei (c % 16)
def znD:Nat→Bool
  | _=>false
def zq0 (c:Nat):Bool:=znD (c % 16)
def zik:Nat→Bool
  | 5=>true
  | _=>false
def zcK (c:Nat):Bool:=zik (c % 16)
def zcJ:En→O:=(mSeq (mIfS (zal (m2 oLt (mRd 1) (mCB fLen (zaa (mRd 0) mNil))))
  (mRet (m2 oIxL (mRd 0) (mRd 1)))
  zaM)
  (mRet (mC (.int 0))))
def zar:List D→R D:=runF 2 0 zcJ
def zd8:En→O:=(mRet (m2 oMod (m2 oMul (m2 oAdd (m2 oAdd (m2 oMod (mRd 0) (m2 oPow (mC (.int 10)) (mC (.int 20)))) (m2 oMul (mRd 1) (mRd 1))) (mC (.int 1))) (m2 oAdd (mC (.int 48271)) (m2 oMul (mC (.int 2)) (mRd 1)))) (mC (.int 2147483647))))
def zaN:List D→R D:=runF 2 0 zd8
def zfR:En→O:=(mSeq (mAsg (zak zaN (zaa (mVar 0) (zaa (mVar 1) mNil))) (zaw 2))
  (mSeq (mIfS (zal (m2 oEq (m2 oMod (mRd 2) (mC (.int 3))) (mC (.int 0))))
  (mRet (m2 oMod (m2 oDiv (mRd 2) (mC (.int 3))) (mC (.int 4))))
  zaM)
  (mSeq (mIfS (zal (m2 oEq (m2 oMod (mRd 2) (mC (.int 3))) (mC (.int 1))))
  (mRet (m2 oMod (m2 oDiv (mRd 2) (mC (.int 3))) (mC (.int 30))))
  zaM)
  (mRet (m2 oMod (m2 oAdd (m2 oMul (m2 oMod (mRd 0) (m2 oPow (mC (.int 10)) (mC (.int 20)))) (mC (.int 6364136223846793005))) (mRd 2)) (m2 oAdd (m2 oPow (mC (.int 10)) (mC (.int 18))) (mC (.int 1))))))))
def za2:List D→R D:=runF 2 1 zfR
def zeb:En→R D:=zeC (mItL (mRd 0)) [1] 1 (zbu 1) none (mVar 0)
def zfN:En→R D:=zeC (zjB (zaa (mRd 0) mNil)) [] 2 (bTup 2 (zbR (zbu 0) (zbR (zbu 1) bNil))) none (m2 oAdd (mC (.int 1)) (m2 oMod (zak za2 (zaa (mVar 1) (zaa (mVar 0) mNil))) (m2 oPow (mC (.int 10)) (mC (.int 18)))))
def zgM:En→O:=(mSeq (mIfS (zal (m2 oGt (mRd 1) (mC (.int 0))))
  (zfa zeb)
  zaM)
  (zfa zfN))
def zcp:List D→R D:=runO 2 0 zgM
def zd0:En→O:=(zfa (zki 0))
def zbb:List D→R D:=runO 1 0 zd0
def zjY:En→O:=(mRet (znb (mRd 0) (mCB (zec minI) (zaa (mRd 0) mNil))))
def zex:List D→R D:=runF 1 0 zjY
def zdx:En→R D:=zeC (mRng (zaa (mVar 1) mNil)) [] 1 (zbu 0) none (mC (.int 0))
def zdu:En→R D:=zeC (mItL (mRd 0)) [] 1 (zbu 0) none (mC (.int 0))
def zdh:En→O:=(mSeq (mAsg (zgE zex (zaa (mRd 3) mNil)) (zaw 6))
  (mSeq (zjA (fun i j=>i + j) 3 (mVar 6) (m2 oIxL (mRd 0) (mRd 5)))
  (zkK 4 (mVar 5) (mVar 6))))
def zdy:En→O:=mFor (mItL (mVar 2)) (zaw 5) zdh
def zdW:En→O:=(mSeq (mAsg zdx (bNew 3))
  (mSeq (mAsg zdu (bNew 4))
  (mSeq zdy
  (zkY 4))))
def zbG:List D→R D:=runO 3 4 zdW
def zc9:En→O:=(zfa (zak zbG (zaa (mVar 0) (zaa (mVar 1) (zaa (zak zbb (zaa (mVar 0) mNil)) mNil)))))
def za4:List D→R D:=runO 2 0 zc9
def zgB:En→O:=(mSeq (mAsg (m2 oAdd (m2 oMod (m2 oMul (mRd 1) (mC (.int 48271))) (mC (.int 2147483647))) (mC (.int 3))) (zaw 1))
  (zdk 3 (m2 oMod (mRd 1) (mRd 2))))
def zhd:En→O:=mFor (mItL (mVar 0)) (zaw 4) zgB
def ziV:En→O:=(mSeq (mAsg (mLst mNil) (bNew 3))
  (mSeq zhd
  (zkY 3)))
def zb9:List D→R D:=runO 3 2 ziV
def zdH:En→O:=(mSeq (mAsg (m2 oMod (m2 oDiv (mRd 1) (mC (.int 8))) (m2 oAdd (mCB fLen (zaa (mRd 0) mNil)) (mC (.int 1)))) (zaw 3))
  (mSeq (mAsg (m2 oIxL (mLst (zaa (mVar 2) (zaa (m1 oNeg (mC (.int 1))) (zaa (m2 oMod (m2 oDiv (mRd 1) (mC (.int 64))) (m2 oAdd (mRd 2) (mC (.int 1)))) (zaa (mC (.int 0)) mNil))))) (m2 oMod (m2 oDiv (mRd 1) (mC (.int 4096))) (mC (.int 4)))) (zaw 4))
  (mSeq (mIfS (zal (m2 oEq (m2 oMod (mRd 1) (mC (.int 8))) (mC (.int 0))))
  (mRet (m2 oCat (mSl (mRd 0) mNoP (zbN (mVar 3))) (mSl (mRd 0) (zbN (m2 oAdd (mRd 3) (mC (.int 1)))) mNoP)))
  zaM)
  (mSeq (mIfS (zal (m2 oEq (m2 oMod (mRd 1) (mC (.int 8))) (mC (.int 1))))
  (mRet (m2 oCat (m2 oCat (mSl (mRd 0) mNoP (zbN (mVar 3))) (mLst (zaa (mVar 4) mNil))) (mSl (mRd 0) (zbN (mVar 3)) mNoP)))
  zaM)
  (mSeq (mIfS (mAnd (zal (m2 oLt (m2 oMod (mRd 1) (mC (.int 8))) (mC (.int 5)))) (zal (m2 oNeD (mRd 0) (mLst mNil))))
  (mSeq (mAsg (m2 oMod (m2 oDiv (mRd 1) (mC (.int 8))) (mCB fLen (zaa (mRd 0) mNil))) (zaw 3))
  (mRet (m2 oCat (m2 oCat (mSl (mRd 0) mNoP (zbN (mVar 3))) (mLst (zaa (mVar 4) mNil))) (mSl (mRd 0) (zbN (m2 oAdd (mRd 3) (mC (.int 1)))) mNoP))))
  zaM)
  (mRet (mVar 0)))))))
def za8:List D→R D:=runF 3 2 zdH
def zdp:En→O:=(mSeq (mIfS (zal (m2 oEqD (mRd 0) (mLst mNil)))
  (mRet (mC (.int 0)))
  zaM)
  (mSeq (mAsg (ziz (zaa (mRd 0) mNil)) (zaw 2))
  (mSeq (mAsg (mCB zgL (zaa (m2 oIxL (mRd 2) (mC (.int 0))) (zaa (m2 oSub (mC (.int 0)) (m2 oDiv (m2 oSub (mC (.int 0)) (mCB fSum (zaa (mRd 0) mNil))) (mRd 1))) mNil))) (zaw 3))
  (mSeq (mIfS (zal (m2 oGt (mCB fLen (zaa (mRd 0) mNil)) (mRd 1)))
  (mAsg (mCB zgL (zaa (mRd 3) (zaa (m2 oAdd (m2 oIxL (mRd 2) (m2 oSub (mRd 1) (mC (.int 1)))) (m2 oIxL (mRd 2) (mRd 1))) mNil))) (zaw 3))
  zaM)
  (mRet (mVar 3))))))
def zaR:List D→R D:=runF 2 2 zdp
def zcQ:En→O:=(mRet (m2 oIxL (mLst (zaa (mVar 0) (zaa (mVar 0) (zaa (m2 oAdd (mRd 0) (mC (.int 1))) (zaa (m2 oSub (mRd 0) (mC (.int 1))) (zaa (m2 oDiv (m2 oMul (mC (.int 2)) (mRd 0)) (mC (.int 3))) (zaa (m2 oSub (m1 oNeg (mC (.int 1))) (m2 oMod (m2 oDiv (mRd 1) (mC (.int 16))) (mC (.int 9)))) (zaa (mC (.int 0)) (zaa (m2 oDiv (mRd 0) (mC (.int 2))) mNil))))))))) (m2 oMod (mRd 1) (mC (.int 8)))))
def zaQ:List D→R D:=runF 2 0 zcQ
def zfD:En→R D:=zeC (mItL (mRd 0)) [1] 1 (zbu 1) none (ziA oLe oLt (mC (.int 0)) (mRd 1) (mRd 0))
def zgi:En→O:=(mRet (mCB fAll (zaa zfD mNil)))
def zbA:List D→R D:=runF 2 0 zgi
def zcl:En→R Bool:=(zal (m2 oGt (mRd 3) (mC (.int 0))))
def zcm:En→O:=(mSeq (mAsg (m2 oMod (mRd 2) (mRd 3)) (zaw 4))
  (mSeq (mAsg (mVar 3) (zaw 2))
  (mAsg (mVar 4) (zaw 3))))
def zdZ:En→O:=zhf zcl zcm
def zc5:En→O:=(mSeq (mAsg (mCB fAbs (zaa (mRd 0) mNil)) (zaw 2))
  (mSeq (mAsg (mCB fAbs (zaa (mRd 1) mNil)) (zaw 3))
  (mSeq zdZ
  (mRet (mVar 2)))))
def zbK:List D→R D:=runF 2 3 zc5
def zjg:En→O:=(mSeq (mIfS (zal (m2 oEq (mRd 1) (mC (.int 0))))
  (zoi 1 (zaa (mC (.str "no fraction has nought for its bottom")) mNil))
  zaM)
  (mSeq (mAsg (zak zbK (zaa (mVar 0) (zaa (mVar 1) mNil))) (zaw 2))
  (mSeq (mIfS (zal (m2 oLt (mRd 1) (mC (.int 0))))
  (mAsg (m1 oNeg (mRd 2)) (zaw 2))
  zaM)
  (mRet (mTup (zaa (m2 oDiv (mRd 0) (mRd 2)) (zaa (m2 oDiv (mRd 1) (mRd 2)) mNil)))))))
def zcn:List D→R D:=runF 2 1 zjg
def zen:En→O:=(mRet (m1 oNeg (m2 oDiv (m1 oNeg (m2 oIxT (mRd 0) (mC (.int 0)))) (m2 oIxT (mRd 0) (mC (.int 1))))))
def zba:List D→R D:=runF 1 0 zen
def zeW:En→O:=(mSeq (mIfS (zal (m2 oEq (mCB fLen (zaa (mRd 0) mNil)) (mC (.int 0))))
  (mRet (mC (.int 0)))
  zaM)
  (mSeq (mAsg (ziz (zaa (mRd 0) mNil)) (zaw 2))
  (mSeq (mAsg (mLst (zaa (zak zba (zaa (zbS zcn (zaa (mCB fSum (zaa (mRd 0) mNil)) (zaa (mVar 1) mNil))) mNil)) (zaa (m2 oIxL (mRd 2) (mC (.int 0))) mNil))) (bNew 3))
  (mSeq (mIfS (zal (m2 oGt (mCB fLen (zaa (mRd 0) mNil)) (mRd 1)))
  (zdk 3 (m2 oAdd (m2 oIxL (mRd 2) (m2 oSub (mRd 1) (mC (.int 1)))) (m2 oIxL (mRd 2) (mRd 1))))
  zaM)
  (mRet (mCB (zec maxI) (zaa (mRd 3) mNil)))))))
def zbB:List D→R D:=runF 2 2 zeW
def zeR:En→R D:=zeC (mRng (zaa (mVar 1) mNil)) [] 1 (zbu 0) none (mC (.int 0))
def zfM:En→O:=(zjA (fun i j=>i + j) 3 (mVar 5) (mVar 4))
def zgu:En→O:=mFor (mZip (zaa (mVar 0) (zaa (mVar 2) mNil))) (bTup 2 (zbR (zaw 4) (zbR (zaw 5) bNil))) zfM
def zg9:En→O:=(mSeq (mAsg zeR (bNew 3))
  (mSeq zgu
  (mRet (mCB (zec maxI) (zaa (mRd 3) mNil)))))
def zb7:List D→R D:=runF 3 3 zg9
def zea:En→O:=(mSeq (mIfS (mOr (zal (m2 oNe (mCB fLen (zaa (mRd 2) mNil)) (mCB fLen (zaa (mRd 0) mNil)))) (mNot (zal (zak zbA (zaa (mVar 2) (zaa (mVar 1) mNil))))))
  (mRet (mC (.str "put")))
  zaM)
  (mSeq (mIfS (zal (m2 oGt (mRd 3) (zbS zbB (zaa (mVar 0) (zaa (mVar 1) mNil)))))
  (mRet (mC (.str "bound")))
  zaM)
  (mSeq (mIfS (zal (m2 oGt (m2 oMul (m2 oMul (zak zb7 (zaa (mVar 0) (zaa (mVar 1) (zaa (mVar 2) mNil)))) (mC (.int 2))) (mRd 1)) (m2 oMul (mRd 3) (m2 oSub (m2 oMul (mC (.int 3)) (mRd 1)) (mC (.int 1))))))
  (mRet (mC (.str "share")))
  zaM)
  (mRet (mC .non)))))
def zbx:List D→R D:=runF 4 0 zea
def zdd:En→O:=(znJ 2 (mVar 4) (m2 oAdd (zmf (mRd 2) (mVar 4) (mC (.int 0))) (mRd 3)))
def zge:En→O:=mFor (mZip (zaa (mVar 0) (zaa (mVar 1) mNil))) (bTup 2 (zbR (zaw 3) (zbR (zaw 4) bNil))) zdd
def zhh:En→O:=(mSeq (mAsg (mC (.dct [] [])) (bNew 2))
  (mSeq zge
  (zkY 2)))
def zbQ:List D→R D:=runO 2 3 zhh
def zbg:En→R D:=zeC (mItL (mRd 2)) [1] 1 (zbu 1) (some (mOr (zal (m2 oLt (mRd 1) (mC (.int 0)))) (zal (m2 oGe (mRd 1) (mRd 0))))) (mC (.int 1))
def zdV:En→O:=(mSeq (mIfS (mOr (zal (m2 oNe (mCB fLen (zaa (mRd 2) mNil)) (mCB fLen (zaa (mRd 0) mNil)))) (zal (m2 oGt (mCB fLen (zaa zbg mNil)) (mC (.int 0)))))
  (mRet (mC (.str "put")))
  zaM)
  (mSeq (mIfS (zal (m2 oGt (mRd 3) (zak zaR (zaa (mVar 0) (zaa (mVar 1) mNil)))))
  (mRet (mC (.str "bound")))
  zaM)
  (mSeq (mAsg (mCB (zec maxI) (zaa (m2 oCat (mLst (zaa (mC (.int 0)) mNil)) (zf7 zjy (zak zbQ (zaa (mVar 0) (zaa (mVar 2) mNil))))) mNil)) (zaw 4))
  (mSeq (mIfS (zal (m2 oGt (m2 oMul (m2 oMul (mRd 4) (mC (.int 2))) (mRd 1)) (m2 oMul (mRd 3) (m2 oSub (m2 oMul (mC (.int 3)) (mRd 1)) (mC (.int 1))))))
  (mRet (mC (.str "share")))
  zaM)
  (mRet (mC .non))))))
def zbE:List D→R D:=runF 4 1 zdV
def zhc:En→O:=(mSeq (mIfS (zal (m2 oIs (mRd 1) (mC .non)))
  (mRet (m2 oIs (mRd 0) (mC .non)))
  zaM)
  (mRet (zi7 (m1 (oIsi "str") (mRd 0)) (m2 oEq (mRd 0) (mRd 1)))))
def zco:List D→R D:=runF 2 0 zhc
def ze0:En→O:=(mSeq (mAsg (zak za4 (zaa (mVar 0) (zaa (mVar 1) mNil))) (zaw 3))
  (mSeq (mIfS (zal (m2 oEq (m2 oMod (mRd 2) (mC (.int 4))) (mC (.int 3))))
  (mAsg (zak zb9 (zaa (mVar 0) (zaa (mVar 2) (zaa (mVar 1) mNil)))) (zaw 3))
  zaM)
  (mSeq (mAsg (zak za8 (zaa (mVar 3) (zaa (m2 oDiv (mRd 2) (mC (.int 4))) (zaa (mVar 1) mNil)))) (zaw 3))
  (mSeq (mAsg (zak zaQ (zaa (zak zaR (zaa (mVar 0) (zaa (mVar 1) mNil))) (zaa (zak zaN (zaa (mVar 2) (zaa (mC (.int 6)) mNil))) mNil))) (zaw 4))
  (mSeq (mAsg (mTup (zaa (mCB zeP (zaa (mRd 0) mNil)) (zaa (mCB zeP (zaa (mRd 3) mNil)) mNil))) (zaw 5))
  (mSeq (mAsg (zak zbx (zaa (m2 oIxT (mRd 5) (mC (.int 0))) (zaa (mVar 1) (zaa (m2 oIxT (mRd 5) (mC (.int 1))) (zaa (mVar 4) mNil))))) (zaw 6))
  (mSeq (mIfS (zal (m2 oNeD (mRd 5) (mTup (zaa (mVar 0) (zaa (mVar 3) mNil)))))
  (mRet (mC (.bl false)))
  zaM)
  (mRet (zak zco (zaa (mVar 6) (zaa (zak zbE (zaa (mVar 0) (zaa (mVar 1) (zaa (mVar 3) (zaa (mVar 4) mNil))))) mNil)))))))))))
def zbM:List D→R D:=runF 3 4 ze0
def zaT:En→O:=(mIfS (zal (m2 oGt (mRd 3) (mRd 1)))
  (zjS 5 (zaa (mVar 2) mNil))
  zaM)
def zcV:En→O:=mFor (zjB (zaa (mVar 0) mNil)) (bTup 2 (zbR (zaw 2) (zbR (zaw 3) bNil))) zaT
def zbI:En→O:=zcV
def zav:List D→R D:=runF 2 2 zbI
def zaU:En→O:=(mIfS (zal (m2 oLe (mRd 1) (mRd 3)))
  (mRet (mVar 2))
  zaM)
def zde:En→O:=mFor (zjB (zaa (mVar 0) mNil)) (bTup 2 (zbR (zaw 2) (zbR (zaw 3) bNil))) zaU
def zdz:En→O:=(mSeq zde
  (mRet (mCB fLen (zaa (mRd 0) mNil))))
def za6:List D→R D:=runF 2 2 zdz
def zeI:En→R D:=zeC (mItL (mRd 0)) [] 1 (zbu 0) none (mC (.int 0))
def zeh:En→O:=(mSeq (mAsg (zgE za6 (zaa (mRd 3) (zaa (m2 oIxL (mRd 0) (mRd 5)) mNil))) (zaw 6))
  (mSeq (mIfS (zal (m2 oEq (mRd 6) (mCB fLen (zaa (mRd 3) mNil))))
  (zdk 3 (mVar 1))
  zaM)
  (mSeq (zjA (fun i j=>i - j) 3 (mVar 6) (m2 oIxL (mRd 0) (mRd 5)))
  (zkK 4 (mVar 5) (mVar 6)))))
def zeH:En→O:=mFor (mItL (mVar 2)) (zaw 5) zeh
def ze6:En→O:=(mSeq (mAsg (mLst mNil) (bNew 3))
  (mSeq (mAsg zeI (bNew 4))
  (mSeq zeH
  (zkY 4))))
def zci:List D→R D:=runO 3 4 ze6
def zdU:En→O:=(mSeq (mDo (zbS zav (zaa (mVar 0) (zaa (mVar 1) mNil))))
  (zfa (zak zci (zaa (mVar 0) (zaa (mVar 1) (zaa (zak zbb (zaa (mVar 0) mNil)) mNil))))))
def zbq:List D→R D:=runO 2 0 zdU
def zcy:En→R D:=zeC (mItL (mRd 0)) [1] 1 (zbu 1) (some (zal (m2 oGt (m2 oAdd (mRd 1) (mRd 1)) (mRd 0)))) (mVar 1)
def zd5:En→O:=(mSeq (mAsg (mCB fLen (zaa zcy mNil)) (zaw 2))
  (mRet (mCB zgL (zaa (mRd 2) (zaa (m2 oSub (mC (.int 0)) (m2 oDiv (m2 oSub (mC (.int 0)) (mCB fSum (zaa (mRd 0) mNil))) (mRd 1))) mNil)))))
def zaY:List D→R D:=runF 2 1 zd5
def zdR:En→O:=(mSeq (mIfS (mOr (zal (m2 oNe (mCB fLen (zaa (mRd 1) mNil)) (mCB fLen (zaa (mRd 0) mNil)))) (mNot (zal (zak zbA (zaa (mVar 1) (zaa (mCB fLen (zaa (mRd 0) mNil)) mNil))))))
  (mRet (mC (.bl false)))
  zaM)
  (mRet (m2 oEq (mCB zdK (zaa (mRd 1) mNil)) (m2 oAdd (zk4 (zaa (mRd 1) mNil) (m1 oNeg (mC (.int 1)))) (mC (.int 1))))))
def zbp:List D→R D:=runF 2 0 zdR
def zfc:En→O:=(mRet (zi7 (m2 oGt (mCB fLen (zaa (mRd 0) mNil)) (mC (.int 0))) (m2 oGt (zak zb7 (zaa (mVar 0) (zaa (mCB fLen (zaa (mRd 0) mNil)) (zaa (mVar 2) mNil)))) (mRd 1))))
def zbC:List D→R D:=runF 3 0 zfc
def zet:En→R D:=zeC (mItL (mRd 0)) [1] 1 (zbu 1) (some (zal (m2 oGt (m2 oMul (mC (.int 2)) (mRd 1)) (mRd 0)))) (mVar 1)
def zgD:En→O:=(mSeq (mDo (zbS zav (zaa (mVar 0) (zaa (mVar 1) mNil))))
  (mSeq (mAsg zet (zaw 2))
  (mRet (mCB zgL (zaa (zak zba (zaa (zbS zcn (zaa (mCB fSum (zaa (mRd 0) mNil)) (zaa (mVar 1) mNil))) mNil)) (zaa (mCB fLen (zaa (mRd 2) mNil)) mNil))))))
def zb4:List D→R D:=runF 2 1 zgD
def zfL:En→O:=(mSeq (mDo (zbS zav (zaa (mVar 0) (zaa (mVar 1) mNil))))
  (mSeq (mIfS (mNot (zal (zak zbp (zaa (mVar 0) (zaa (mVar 2) mNil)))))
  (mRet (mC (.str "put")))
  zaM)
  (mSeq (mIfS (zal (zak zbC (zaa (mVar 0) (zaa (mVar 1) (zaa (mVar 2) mNil)))))
  (mRet (mC (.str "full")))
  zaM)
  (mSeq (mIfS (zal (m2 oGt (mRd 3) (zbS zb4 (zaa (mVar 0) (zaa (mVar 1) mNil)))))
  (mRet (mC (.str "bound")))
  zaM)
  (mSeq (mIfS (zal (m2 oGt (m2 oMul (mC (.int 2)) (mCB zdK (zaa (mRd 2) mNil))) (m2 oMul (mC (.int 3)) (mRd 3))))
  (mRet (mC (.str "share")))
  zaM)
  (mRet (mC .non)))))))
def zaX:List D→R D:=runF 4 0 zfL
def zeL:En→O:=(mSeq (mIfS (zal (m2 oNe (mCB fLen (zaa (mRd 2) mNil)) (mCB fLen (zaa (mRd 0) mNil))))
  (mRet (mC (.str "put")))
  zaM)
  (mSeq (mAsg (zak zbQ (zaa (mVar 0) (zaa (mVar 2) mNil))) (zaw 4))
  (mSeq (mIfS (zal (m2 oNeD (mCB zd9 (zaa (zf7 zkH (mRd 4)) mNil)) (zmk (zaa (mCB zgZ (zaa (mRd 4) mNil)) mNil))))
  (mRet (mC (.str "put")))
  zaM)
  (mSeq (mIfS (zal (m2 oGt (mCB (zec maxI) (zaa (m2 oCat (mLst (zaa (mC (.int 0)) mNil)) (zf7 zjy (mRd 4))) mNil)) (mRd 1)))
  (mRet (mC (.str "full")))
  zaM)
  (mSeq (mIfS (zal (m2 oGt (mRd 3) (zak zaY (zaa (mVar 0) (zaa (mVar 1) mNil)))))
  (mRet (mC (.str "bound")))
  zaM)
  (mSeq (mIfS (zal (m2 oGt (m2 oMul (mCB zgZ (zaa (mRd 4) mNil)) (mC (.int 2))) (m2 oMul (mRd 3) (mC (.int 3)))))
  (mRet (mC (.str "share")))
  zaM)
  (mRet (mC .non))))))))
def zbW:List D→R D:=runF 4 1 zeL
def zhg:En→O:=(mSeq (mAsg (zak zbq (zaa (mVar 0) (zaa (mVar 1) mNil))) (zaw 3))
  (mSeq (mIfS (zal (m2 oEq (m2 oMod (mRd 2) (mC (.int 4))) (mC (.int 3))))
  (mAsg (zak zb9 (zaa (mVar 0) (zaa (mVar 2) (zaa (m2 oAdd (mC (.int 1)) (mCB fLen (zaa (mRd 0) mNil))) mNil)))) (zaw 3))
  zaM)
  (mSeq (mAsg (zak za8 (zaa (mVar 3) (zaa (m2 oDiv (mRd 2) (mC (.int 4))) (zaa (mCB fLen (zaa (mRd 3) mNil)) mNil)))) (zaw 3))
  (mSeq (mAsg (zak zaQ (zaa (zak zaY (zaa (mVar 0) (zaa (mVar 1) mNil))) (zaa (zak zaN (zaa (mVar 2) (zaa (mC (.int 6)) mNil))) mNil))) (zaw 4))
  (mSeq (mAsg (mTup (zaa (mCB zeP (zaa (mRd 0) mNil)) (zaa (mCB zeP (zaa (mRd 3) mNil)) mNil))) (zaw 5))
  (mSeq (mAsg (zak zaX (zaa (m2 oIxT (mRd 5) (mC (.int 0))) (zaa (mVar 1) (zaa (m2 oIxT (mRd 5) (mC (.int 1))) (zaa (mVar 4) mNil))))) (zaw 6))
  (mSeq (mIfS (zal (m2 oNeD (mRd 5) (mTup (zaa (mVar 0) (zaa (mVar 3) mNil)))))
  (mRet (mC (.bl false)))
  zaM)
  (mRet (zak zco (zaa (mVar 6) (zaa (zak zbW (zaa (mVar 0) (zaa (mVar 1) (zaa (mVar 3) (zaa (mVar 4) mNil))))) mNil)))))))))))
def zcO:List D→R D:=runF 3 4 zhg
def zcE:En→O:=(mSeq (znt (mDo (zbS zaX (zaa (mVar 0) (zaa (mVar 1) (zaa (mLst mNil) (zaa (mC (.int 0)) mNil)))))) zch (mRet (mC (.bl true))))
  (mRet (mC (.bl false))))
def za1:List D→R D:=runF 2 0 zcE
def zff:En→O:=(mSeq (mAsg (mC .non) (zaw 4))
  (mSeq (mTry (mDo (zbS zaX (zaa (mVar 0) (zaa (mVar 1) (zaa (mVar 3) (zaa (mC (.int 1)) mNil)))))) zdo 5 (mAsg (mVar 5) (zaw 4)))
  (mSeq (mIfS (mOr (zal (m2 oIs (mRd 4) (mC .non))) (mOr (mNot (zal (m1 (zcv zbY) (mRd 4)))) (zal (m1 (zcv zc2) (mRd 4)))))
  (mRet (mC (.bl false)))
  zaM)
  (mSeq (mIfS (mOr (zal (m1 (zcv zcU) (mRd 4))) (mOr (zal (m1 (zcv zc7) (mRd 4))) (zal (m1 (zcv zcf) (mRd 4)))))
  (mRet (mC (.bl false)))
  zaM)
  (mSeq (mIfS (mOr (zal (m1 (zcv zdw) (mRd 4))) (mOr (mNot (zal (m1 (oIsi "int") (m1 (zhW zcK) (mRd 4))))) (zal (m1 (oIsi "bool") (m1 (zhW zcK) (mRd 4))))))
  (mRet (mC (.bl false)))
  zaM)
  (mRet (m2 oEq (m1 (zhW zcK) (mRd 4)) (mRd 2))))))))
def zbP:List D→R D:=runF 4 2 zff
def zdX:En→R D:=zeC (mItL (mRd 5)) [] 1 (zbu 0) none (mC (.int 0))
def zef:En→O:=(mSeq (mIfS (zal (m2 oEq (mRd 1) (m2 oPow (mC (.int 10)) (mC (.int 18)))))
  (mRet (mC (.bl true)))
  zaM)
  (mSeq (mAsg (m2 oMod (mRd 2) (m2 oAdd (mCB fLen (zaa (mRd 0) mNil)) (mC (.int 1)))) (zaw 3))
  (mSeq (mAsg (m2 oCat (m2 oCat (mSl (mRd 0) mNoP (zbN (mVar 3))) (mLst (zaa (m2 oAdd (mRd 1) (mC (.int 1))) mNil))) (mSl (mRd 0) (zbN (mVar 3)) mNoP)) (zaw 4))
  (mSeq (mAsg (m2 oCat (mRd 4) (mSl (mLst (zaa (m2 oAdd (mRd 1) (mC (.int 1))) mNil)) mNoP (zbN (m2 oMod (m2 oDiv (mRd 2) (mC (.int 64))) (mC (.int 2)))))) (zaw 5))
  (mSeq (mIfS (mNot (zal (zak za1 (zaa (mVar 5) (zaa (mVar 1) mNil)))))
  (mRet (mC (.bl false)))
  zaM)
  (mRet (zi7 (zak zbP (zaa (mVar 5) (zaa (mVar 1) (zaa (mVar 3) (zaa zdX mNil))))) (zak zbP (zaa (mVar 5) (zaa (mVar 1) (zaa (mVar 3) (zaa (mLst (zaa (m1 oNeg (mC (.int 1))) mNil)) mNil))))))))))))
def zbv:List D→R D:=runF 3 3 zef
def zli:En→O:=(mSeq (mAsg (zak zaN (zaa (m2 oAdd (zak zar (zaa (mVar 0) (zaa (mVar 5) mNil))) (zak zar (zaa (mVar 0) (zaa (mC (.int 1)) mNil)))) (zaa (m2 oMul (mC (.int 3)) (mRd 5)) mNil))) (zaw 6))
  (mIfS (mOr (mNot (zal (zak zbM (zaa (mVar 2) (zaa (mVar 4) (zaa (mVar 6) mNil)))))) (mNot (zal (zak zcO (zaa (mVar 2) (zaa (mVar 3) (zaa (m2 oDiv (mRd 6) (mC (.int 3))) mNil)))))))
  (mRet (mC (.bl false)))
  zaM))
def zoj:En→O:=mFor (mRng (zaa (mC (.int 3)) (zaa (mC (.int 6)) mNil))) (zaw 5) zli
def zql:En→O:=(mSeq (mAsg (mC (.int 0)) (zaw 1))
  (mSeq (mIfS (zal (m2 oEq (m2 oMod (zak zar (zaa (mVar 0) (zaa (mC (.int 1)) mNil))) (mC (.int 3))) (mC (.int 1))))
  (mAsg (m2 oAdd (mC (.int 2)) (m2 oMod (zak za2 (zaa (zak zar (zaa (mVar 0) (zaa (mC (.int 2)) mNil))) (zaa (mC (.int 2)) mNil))) (m2 oPow (mC (.int 10)) (mC (.int 17))))) (zaw 1))
  zaM)
  (mSeq (mAsg (zak zcp (zaa (mSl (mRd 0) (zbN (mC (.int 6))) (zbN (mC (.int 36)))) (zaa (mVar 1) mNil))) (zaw 2))
  (mSeq (mAsg (zk4 (zaa (mRd 2) mNil) (mC (.int 1))) (zaw 3))
  (mSeq (mIfS (zal (m2 oGt (mRd 1) (mC (.int 0))))
  (mAsg (m2 oSub (m2 oMul (mC (.int 3)) (mRd 1)) (mC (.int 1))) (zaw 3))
  (mAsg (mCB zmh (zaa (m2 oPow (mC (.int 10)) (mC (.int 18))) (zaa (m2 oAdd (mRd 3) (m2 oMod (zak za2 (zaa (zak zar (zaa (mVar 0) (zaa (mC (.int 2)) mNil))) (zaa (mC (.int 3)) mNil))) (m2 oAdd (mRd 3) (mC (.int 1))))) mNil))) (zaw 3)))
  (mSeq (mAsg (m2 oAdd (mC (.int 1)) (m2 oMod (zak zar (zaa (mVar 0) (zaa (mC (.int 0)) mNil))) (mC (.int 20)))) (zaw 4))
  (mSeq zoj
  (mSeq (mIfS (zal (m2 oEq (m2 oMod (m2 oDiv (zak zar (zaa (mVar 0) (zaa (mC (.int 0)) mNil))) (mC (.int 20))) (mC (.int 6))) (mC (.int 1))))
  (mRet (zak zbv (zaa (mVar 2) (zaa (mVar 3) (zaa (zak zaN (zaa (zak zar (zaa (mVar 0) (zaa (mC (.int 3)) mNil))) (zaa (mC (.int 1)) mNil))) mNil)))))
  zaM)
  (mRet (mC (.bl true)))))))))))
def zqR:List D→R D:=runF 1 6 zql
end My
namespace My
open PySem L2 PM
def upt (n:Nat):List Int:=(List.range n).map fun (k:Nat)=>(k:Int)
theorem mem_upt {n:Nat} {t:Int}:t ∈ upt n ↔ 0 ≤ t∧t < (n:Int):=by
  unfold upt
  rw [List.mem_map]
  constructor
  · rintro ⟨a,h,rfl⟩
    have:=List.mem_range.mp h
    omega
  · rintro ⟨h0,h1⟩
    exact ⟨t.toNat,List.mem_range.mpr (by omega),by omega⟩
theorem zcZ {n:Nat}:(upt n).length=n:=by simp [upt]
theorem zin (n:Nat):(upt n).Nodup:=List.Pairwise.map _ (fun a b h e=>h (Int.ofNat.inj e)) List.nodup_range
theorem rngT {n:Nat} (h:n ≤ 1000):rng [.int (n:Int)]=some ((upt n).map .int):=by
  rw [rng1 (by omega) (by omega),Int.toNat_natCast,zoS,upt,List.map_map]; rfl
def gA (L:List Int) (i:Int):Int:=L.getD i.toNat 0
theorem zkt {L:List Int} {i:Int} (h:i.toNat < L.length):L[i.toNat]?=some (gA L i):=by simp [gA,List.getD_eq_getElem?_getD,h]
theorem zlp {α:Type} {f g:α→Int}:∀ {l:List α},(∀ x ∈ l,f x ≤ g x)→(l.map f).sum ≤ (l.map g).sum
  | [],_=>by simp
  | a :: l,h=>by
    have h1:=h a (by simp)
    have h2:=zlp (f:=f) (g:=g) (l:=l) fun x hx=>h x (by simp [hx])
    simp only [List.map_cons,List.sum_cons]; omega
theorem zka {α:Type}:∀ {l:List α},(l.map fun _=>(0:Int)).sum=0
  | []=>by simp
  | a :: l=>by simp [zka (l:=l)]
theorem zi8 {α:Type} {c:Int}:∀ {l:List α},(l.map fun _=>c).sum=(l.length:Int) * c
  | []=>by simp
  | a :: l=>by
    rw [List.map_cons,List.sum_cons,zi8 (l:=l),List.length_cons,Int.natCast_add,Int.add_mul]
    omega
theorem zgt {α:Type} {f:D→R (Option D)} (enc:α→D) (p:α→Bool) (g:α→D) (l:List α) (h:∀ x ∈ l,f (enc x) = .ok (if p x=true then some (g x) else none)):zc8 f (l.map enc) = .ok ((l.filter p).map g):=by
  induction l with
  | nil=>rfl
  | cons a l ih =>
    have h1:=h a (by simp)
    have h2:=ih fun x hx=>h x (by simp [hx])
    rw [List.map_cons,zc8,h1,R.bind_ok,h2,R.bind_ok]
    by_cases e:p a=true
    · simp [e]
    · simp [e]
theorem zlf (ns:List Int):fSum [iL ns]=some (.int ns.sum):=by simp [fSum,iL,zb1]
theorem zjL {L:List Int} {k:Int} (h0:0 ≤ k) (h1:k.toNat < L.length):oIxL (iL L) (.int k)=some (.int (gA L k)) :=
  zp5 h0 (by simp [zkt h1])
theorem zh6 {f:Int→Int→Int} {i:Nat} {mi me:En→R D} {δ:En} {L:List Int} {k y:Int} (h:δ[i]?=some (.o (iL L))) (hk:mi δ = .ok (.int k)) (h0:0 ≤ k) (h1:k.toNat < L.length) (hy:me δ = .ok (.int y)) :
    zjA f i mi me δ = .nx (δ.set i (.o (iL (L.set k.toNat (f (gA L k) y))))):=by
  have e1:ixN (L.map D.int).length k=some k.toNat:=by unfold ixN; rw [if_pos h0,if_pos (by rw [List.length_map]; omega)]
  have e2:(L.map D.int)[k.toNat]?=some (.int (gA L k)):=by simp [zkt h1]
  unfold zjA
  rw [h]
  simp only [iL,hk,R.toO_ok,e1,e2,hy]
  rw [← List.map_set]
theorem zfk {i:Nat} {me:En→R D} {δ:En} {L:List Int} {y:Int} (h:δ[i]?=some (.o (iL L))) (hy:me δ = .ok (.int y)) (hl:L.length ≤ 100000):zdk i me δ = .nx (δ.set i (.o (iL (L ++ [y])))):=by
  unfold zdk
  rw [h]
  simp only [iL,hy,R.toO_ok]
  rw [zbn (by rw [List.length_map]; exact Nat.lt_of_le_of_lt hl (by decide))]
  simp
theorem zok {α:Type} {f:α→Int} {l:List α} (h:∀ x ∈ l,0 ≤ f x):0 ≤ (l.map f).sum:=by
  have:=zlp (f:=fun _=>(0:Int)) (g:=f) (l:=l) h
  rw [zka] at this; exact this
theorem zop {α:Type} {f:α→Int} {l:List α} {c:Int} (h:∀ x ∈ l,f x ≤ c):(l.map f).sum ≤ (l.length:Int) * c:=by
  have:=zlp (f:=f) (g:=fun _=>c) (l:=l) h
  rw [zi8] at this; exact this
end My
namespace My
open PySem L2 PM
theorem p20:oPow (.int 10) (.int 20)=some (.int 100000000000000000000):=zl5 ⟨by decide,by decide,by decide⟩
theorem p18:oPow (.int 10) (.int 18)=some (.int 1000000000000000000):=zl5 ⟨by decide,by decide,by decide⟩
theorem zdq (ns:List Int) (k:Nat):zar [.scr ns,.int k] = .ok (.int (ns.getD k 0)):=by
  by_cases h:k < ns.length
  · have e:oIxL (.scr ns) (.int (k:Int))=some (.int (ns.getD k 0)):=by
      show (atI ns (k:Int)).map D.int=_
      rw [atI_nat (d:=ns.getD k 0) (by simp [h,List.getD_eq_getElem?_getD])]; rfl
    simp [zar,runF,zcH,zcJ,mSeq,mIfS,zal,mRet,mRd,mC,mCB,zaa,mNil,fLen,h,e]
  · have e:ns.getD k 0=0:=by simp [List.getD_eq_getElem?_getD,List.getElem?_eq_none_iff.mpr (Nat.le_of_not_lt h)]
    rw [e]
    simp [zar,runF,zcH,zcJ,mSeq,mIfS,zal,mRet,mRd,mC,mCB,zaa,mNil,fLen,h,zaM]
theorem zmA (ns:List Int) {k:Int} (h:0 ≤ k):zar [.scr ns,.int k] = .ok (.int (ns.getD k.toNat 0)):=by
  have:=zdq ns k.toNat
  rwa [show ((k.toNat:Nat):Int)=k by omega] at this
theorem za5 {m n:En→O} {δ:En} {d:D} (h:m δ = .rt d):mSeq m n δ = .rt d:=by unfold mSeq; rw [h]
theorem zdb (a:Int) {b:Int} (h:0 < b):0 ≤ a % b:=Int.emod_nonneg _ (by omega)
theorem zdg (a:Int) {b:Int} (h:0 < b):a % b < b:=Int.emod_lt_of_pos _ h
end My
namespace My
open PySem L2 PM
def lo1 (t b:Int):Int:=t / (Int.gcd t b:Int)
def lo2 (t b:Int):Int:=b / (Int.gcd t b:Int)
theorem zhq {t b:Int} (h:0 < b):(0:Int) < Int.gcd t b:=by
  have:0 < Int.gcd t b:=Int.gcd_pos_of_ne_zero_right _ (by omega)
  omega
theorem zo6 {t b:Int}:lo1 t b * (Int.gcd t b:Int)=t:=Int.ediv_mul_cancel (Int.gcd_dvd_left ..)
theorem zjz {t b:Int}:lo2 t b * (Int.gcd t b:Int)=b:=Int.ediv_mul_cancel (Int.gcd_dvd_right ..)
theorem zoY {t b:Int} (h:0 < b):0 < lo2 t b:=by
  have h1:=zhq (t:=t) h
  have h2:=zjz (t:=t) (b:=b)
  rcases Int.lt_trichotomy (lo2 t b) 0 with z | z | z
  · have:=Int.mul_neg_of_neg_of_pos z h1; omega
  · rw [z] at h2; omega
  · exact z
theorem zo3 {t b:Int} (h:0 < b):(lo2 t b).natAbs ≤ b.natAbs:=by
  have h1:=zhq (t:=t) h
  have e:=zjz (t:=t) (b:=b)
  have:b.natAbs=(lo2 t b).natAbs * (Int.gcd t b):=by
    conv=>lhs; rw [← e]
    rw [Int.natAbs_mul]; simp
  rw [this]
  exact Nat.le_mul_of_pos_right _ (by omega)
theorem zf6 (a b:Int):zbK [.int a,.int b] = .ok (.int (Int.gcd a b)):=by
  have ab:∀ z:Int,(if z < 0 then -z else z)=(z.natAbs:Int):=fun z=>by split <;> omega
  let env:Nat × Nat × Option D→En:=fun p=>[.v (.int a),.v (.int b),.v (.int p.1),.v (.int p.2.1),sv p.2.2]
  obtain ⟨⟨x,y,r⟩,h1,h2,h3,_⟩:=zmD (c:=zcl) (m:=zcm) env (fun p=>decide (0 < p.2.1)) (fun p=>(p.2.1,p.1 % p.2.1,some (.int ((p.1 % p.2.1:Nat):Int)))) (fun p=>Nat.gcd p.1 p.2.1=Int.gcd a b) (fun p=>p.2.1)
    (fun p _=>by simp [env,zcl,zal,mRd,mC]) (fun p hp hg=>by
      have hy:0 < p.2.1:=by simpa using hg
      refine ⟨?_,?_,Nat.mod_lt _ hy⟩
      · have e:oMod (.int (p.1:Int)) (.int (p.2.1:Int))=some (.int ((p.1 % p.2.1:Nat):Int)):=by rw [za7 (by omega)]; simp
        have b4:∀ d,zaw 4 d (env p)=some ((env p).set 4 (.v d)):=fun d=>zhJ rfl
        simp only [zcm,mSeq,mAsg,zf3,show mRd 2 (env p) = .ok (.int p.1) from rfl,show mRd 3 (env p) = .ok (.int p.2.1) from rfl,R.bind_ok,e,R.of_some,R.toO_ok,b4,O.of_some]
        rfl
      · rw [Nat.gcd_comm,← hp,Nat.gcd_comm p.1,Nat.gcd_rec p.2.1 p.1]) (a.natAbs,b.natAbs,none) rfl
  have y0:y=0:=by simpa using h2
  subst y0
  have ex:(x:Int)=Int.gcd a b:=by
    have:Nat.gcd x 0=Int.gcd a b:=h1
    rw [Nat.gcd_zero_right] at this
    omega
  refine zaW ?_
  have e3:zdZ [.v (.int a),.v (.int b),.v (.int a.natAbs),.v (.int b.natAbs),.no] = .nx [.v (.int a),.v (.int b),.v (.int x),.v (.int 0),sv r]:=h3
  simp [zc5,zcH,mSeq,mAsg,mCB,zaa,mNil,mRd,fAbs,ab,zaw,e3,mRet,mVar,ex]
theorem zn5 {t b:Int} (hb:0 < b) (h1:b.natAbs ≤ 10 ^ 1000):zcn [.int t,.int b] = .ok (.tup [.int (lo1 t b),.int (lo2 t b)]):=by
  have g:=zhq (t:=t) hb
  have gl:Int.gcd t b ≤ b.natAbs:=Nat.le_of_dvd (by omega) (by
    have:=Int.gcd_dvd_right (a:=t) (b:=b)
    exact Int.natAbs_dvd_natAbs.mpr (by simpa using this))
  have f:Fit (Int.gcd t b:Int):=fitN (10 ^ 1000) (by rw [Int.natAbs_natCast]; omega)
  have c:=zf6 t b
  have nb:¬ b=0:=by omega
  have nl:¬ b < 0:=by omega
  simp [zcn,runF,zcH,zjg,mSeq,mIfS,zal,mRd,mC,nb,zaM,mAsg,zak,zaa,mNil,mVar,c,zaw,nl,mRet,mTup,zc0 g f,sizeLine,lo1,lo2]
end My
namespace My
open PySem L2 PM
def cdiv (t b:Int):Int:=-((-t) / b)
theorem zqC {t b:Int} (hb:0 < b) : -((-lo1 t b) / lo2 t b)=cdiv t b:=by
  have g:=zhq (t:=t) hb
  have h1:=zo6 (t:=t) (b:=b)
  have h2:=zjz (t:=t) (b:=b)
  unfold cdiv
  have:(-t) / b=(-lo1 t b) / lo2 t b:=by
    have e : -t=(-lo1 t b) * (Int.gcd t b:Int):=by rw [Int.neg_mul,h1]
    have e2:=Int.mul_ediv_mul_of_pos_left (-lo1 t b) (lo2 t b) g
    rw [h2,← e] at e2
    exact e2
  rw [this]
theorem zpb {t b R:Int} (hb:0 < b) (h:t ≤ b * R):cdiv t b ≤ R:=by
  unfold cdiv
  have : -R ≤ (-t) / b:=by
    rw [Int.le_ediv_iff_mul_le hb,Int.neg_mul,Int.mul_comm]
    omega
  omega
theorem zpf {t b:Int} (hb:0 < b):t ≤ b * cdiv t b:=by
  unfold cdiv
  have:=Int.ediv_mul_le (-t) (show b ≠ 0 by omega)
  rw [Int.mul_neg,Int.mul_comm b]
  omega
theorem zhV {a b:Int} (hb:0 < b) (fb:Fit b):zba [.tup [.int a,.int b]] = .ok (.int (-((-a) / b))):=by
  simp [zba,runF,zcH,zen,mRet,mRd,mC,zc0 hb fb]
end My
namespace My
open PySem L2 PM
theorem zkn {i:Nat} {mi me:En→R D} {δ:En} {L:List Int} {k y:Int} (h:δ[i]?=some (.o (iL L))) (hk:mi δ = .ok (.int k)) (h0:0 ≤ k) (h1:k.toNat < L.length) (hy:me δ = .ok (.int y)):zkK i mi me δ = .nx (δ.set i (.o (iL (L.set k.toNat y)))):=by
  have e1:ixN (L.map D.int).length k=some k.toNat:=by unfold ixN; rw [if_pos h0,if_pos (by rw [List.length_map]; omega)]
  unfold zkK
  rw [h]
  simp only [iL,hk,R.toO_ok,e1,hy]
  rw [← List.map_set]
theorem ze8 {l:List Int} {δ:En} {mi:En→R (List D)} (hi:mi δ = .ok (l.map .int)) (hl:l.length ≤ 1000):zeC mi [] 1 (zbu 0) none (mC (.int 0)) δ = .ok (iL (List.replicate l.length 0)):=by
  refine Eq.trans (zdE (l:=l.map .int) (r:=l.map fun _=>.int 0) hi (by rw [List.length_map]; omega) ?_) (by simp [iL,List.map_const'])
  exact zey .int (fun _=>.int 0) _ fun k hk=>by simp [zeF,zbf,zbu,mC]
theorem zqJ {n:Nat} (h:n ≤ 1000):lstR [.int (n:Int)]=some (iL (upt n)):=by
  have:lstR [.int (n:Int)]=ifC (0 ≤ (n:Int)∧(n:Int) ≤ 100000) (some (.lst ((List.range (n:Int).toNat).map fun k:Nat=>.int (k:Int)))) none:=rfl
  rw [this,zbn ⟨by omega,by omega⟩,Int.toNat_natCast]
  simp [iL,upt,Function.comp_def]
end My
namespace My
open PySem L2 PM
theorem zgl {ws:List Int} (h:ws.length < 64):zbb [iL ws] = .ok (iL (ordK ws)):=by
  refine zdB ?_
  show zfa _ [.v (iL ws)]=_
  have e:zjj (iL ws)=some (iL (ordK ws)):=znz h
  simp [zfa,zki,e]
theorem zkv (ws:List Int):(ordK ws).Perm (upt ws.length):=(zbJ _ _).map _
theorem zmt {ws:List Int}:∀ x ∈ ordK ws,0 ≤ x∧x < ws.length:=fun x hx=>mem_upt.mp ((zkv ws).mem_iff.mp hx)
end My
namespace My
open PySem L2 PM
theorem zjW {m k:Nat} (h:k < m):(upt m)[k]?=some (k:Int):=by
  unfold upt; rw [List.getElem?_map,List.getElem?_range h]; rfl
theorem zoH (ws:List Int):(ordK ws).length=ws.length:=by rw [(zkv ws).length_eq,zcZ]
theorem zhN (l:List Int) (x:Int):uniq (l ++ [x])=if x ∈ uniq l then uniq l else uniq l ++ [x]:=by
  have h:uniq (l ++ [x])=PyProof.Rows.step_dedup (uniq l) x:=by unfold uniq; rw [List.foldl_append]; rfl
  rw [h]
  generalize uniq l=u
  unfold PyProof.Rows.step_dedup
  have:(u.any (· == x))=true ↔ x ∈ u:=by simp
  by_cases c:x ∈ u
  · rw [if_pos (this.mpr c),if_pos c]
  · rw [if_neg (fun z=>c (this.mp z)),if_neg c]
theorem zlG {P:List Int→Prop} (h0:P []) (h1:∀ l x,P l→P (l ++ [x])) (l:List Int):P l:=by
  have:∀ n (l:List Int),l.length=n→P l:=by
    intro n
    induction n with
    | zero=>intro l hl; rw [List.length_eq_zero_iff.mp hl]; exact h0
    | succ n ih =>
      intro l hl
      have ne:l ≠ []:=fun z=>by rw [z] at hl; simp at hl
      rw [← List.dropLast_concat_getLast ne]
      exact h1 _ _ (ih _ (by rw [List.length_dropLast,hl]; omega))
  exact this _ l rfl
theorem zfu (l:List Int):(uniq l).Nodup∧∀ x,x ∈ uniq l ↔ x ∈ l:=by
  refine zlG (P:=fun l=>(uniq l).Nodup∧∀ x,x ∈ uniq l ↔ x ∈ l) ⟨by simp [uniq],fun x=>by simp [uniq]⟩ (fun l x ih=>?_) l
  rw [zhN]
  by_cases c:x ∈ uniq l
  · rw [if_pos c]
    refine ⟨ih.1,fun y=>?_⟩
    rw [ih.2,List.mem_append,List.mem_singleton]
    refine ⟨.inl,fun h=>h.elim id fun z=>?_⟩
    rw [z]; exact (ih.2 x).mp c
  · rw [if_neg c]
    refine ⟨List.nodup_append.mpr ⟨ih.1,by simp,fun a ha b hb=>?_⟩,fun y=>?_⟩
    · rw [List.mem_singleton.mp hb]; exact fun z=>c (z ▸ ha)
    · rw [List.mem_append,List.mem_append,ih.2]
theorem zeX (l:List Int):(uniq l).length ≤ l.length:=by
  refine zlG (P:=fun l=>(uniq l).length ≤ l.length) (by simp [uniq]) (fun l x ih=>?_) l
  rw [zhN]
  split <;> simp <;> omega
theorem zkW {m:Nat} {cs:List Int} (h:∀ c ∈ cs,0 ≤ c∧c < m):(uniq cs).length=((upt m).filter fun b=>decide (b ∈ cs)).length:=by
  refine List.Perm.length_eq ((List.perm_ext_iff_of_nodup (zfu cs).1 ((zin m).filter _)).mpr fun x=>?_)
  rw [(zfu cs).2,List.mem_filter,mem_upt,decide_eq_true_eq]
  exact ⟨fun z=>⟨h x z,z⟩,fun z=>z.2⟩
def sumB (z:List (Int × Int)) (b:Int):Int:=((z.filter fun x=>decide (x.2=b)).map (·.1)).sum
theorem zhA (z:List (Int × Int)) (x:Int × Int) (b:Int):sumB (z ++ [x]) b=sumB z b + (if x.2=b then x.1 else 0):=by
  unfold sumB
  rw [List.filter_append,List.map_append,List.sum_append]
  by_cases h:x.2=b
  · rw [List.filter_cons_of_pos (by simpa using h),if_pos h]; simp
  · rw [List.filter_cons_of_neg (by simpa using h),if_neg h]; simp
def mxL:List Int→Int
  | []=>0
  | a :: l=>maxI l a
theorem zfK {S:List Int} (h:S ≠ []):mxL S ∈ S∧∀ x ∈ S,x ≤ mxL S:=by
  cases S with
  | nil=>exact absurd rfl h
  | cons a l =>
    obtain ⟨h1,h2,h3⟩:=L2.maxI_ge l a
    refine ⟨?_,fun b hb=>?_⟩
    · rcases h3 with z | z
      · show maxI l a ∈ _; rw [z]; simp
      · exact List.mem_cons_of_mem _ z
    · rcases List.mem_cons.mp hb with z | z
      · rw [z]; exact h1
      · exact h2 b z
theorem zj6 {S:List Int} (h:S ≠ []):zec maxI [iL S]=some (.int (mxL S)):=by
  cases S with
  | nil=>exact absurd rfl h
  | cons a l=>simp [zec,iL,zb1,mxL]
def hvy (m:Nat) (ws put:List Int):Int:=mxL ((upt m).map (sumB (ws.zip put)))
theorem zoC {m:Nat} (h:0 < m) {f:Int→Int}:(upt m).map f ≠ []:=fun e=>by
  have:=congrArg List.length e
  rw [List.length_map,zcZ] at this; simp at this; omega
theorem zm3 {l r:List Int}:zipD (l.map .int) (r.map .int)=(l.zip r).map fun x=>D.tup [.int x.1,.int x.2]:=by
  unfold zipD
  rw [List.zipWith_map,List.zip,List.map_zipWith]
theorem zpe {m:Nat} {δ:En} {i:Nat} (hm:m ≤ 100) (h:mVar i δ = .ok (.int m)):zeC (mRng (zaa (mVar i) mNil)) [] 1 (zbu 0) none (mC (.int 0)) δ = .ok (iL (List.replicate m 0)):=by
  have:=ze8 (l:=upt m) (δ:=δ) (mi:=mRng (zaa (mVar i) mNil)) (by simp [mRng,zaa,mNil,h,rngT (show m ≤ 1000 by omega)]) (by rw [zcZ]; omega)
  rw [zcZ] at this; exact this
theorem zog {t b:Int} (hb:0 < b) (h1:b ≤ 1000000000000000000):(zcn [.int t,.int b]).bind (fun d=>zba [d]) = .ok (.int (cdiv t b)):=by
  have h2:=zn5 (t:=t) hb (Nat.le_trans (show b.natAbs ≤ 1000000000000000000 by omega) (by decide))
  rw [h2,R.bind_ok]
  have l2:=zoY (t:=t) hb
  have l3:=zo3 (t:=t) hb
  rw [zhV l2 (fitN 1000000000000000000 (by omega)),zqC hb]
theorem zhE {δ:En} {ma:En→R D} {mh:En→R D} {l:List Int} {k:Nat} (h:ma δ = .ok (iL l)) (hk:mh δ = .ok (.int k)) (hl:k ≤ l.length):mSl ma mNoP (zbN mh) δ = .ok (iL (l.take k)):=by
  have e:=zn6 (l:=l.map D.int) (k:=k) (by rw [List.length_map]; exact hl)
  simp only [mSl,h,mNoP,zbN,hk,R.bind_ok,znx,R.of_some,asL,iL,e,List.map_take]
theorem zkz {δ:En} {ma:En→R D} {mh:En→R D} {l:List Int} {k:Nat} (h:ma δ = .ok (iL l)) (hk:mh δ = .ok (.int k)) (hl:k ≤ l.length):mSl ma (zbN mh) mNoP δ = .ok (iL (l.drop k)):=by
  have e:=znM (l:=l.map D.int) (k:=k) (by rw [List.length_map]; exact hl)
  simp only [mSl,h,mNoP,zbN,hk,R.bind_ok,znx,R.of_some,asL,iL,e,List.map_drop]
theorem zl3 {z:List (Int × Int)} {b:Int} (h:b ∉ z.map (·.2)):sumB z b=0:=by
  unfold sumB
  rw [List.filter_eq_nil_iff.mpr]
  · rfl
  · intro x hx e
    exact h (List.mem_map.mpr ⟨x,hx,by simpa using e⟩)
theorem zld {l cs:List Int} (h:cs.length ≤ l.length):(l.zip cs).map (·.2)=cs:=by
  induction cs generalizing l with
  | nil=>simp
  | cons c cs ih=>cases l with
    | nil=>simp at h
    | cons a l=>simp at h; simp [ih h]
theorem zpI {m n:En→O} {δ:En} {d:D} (h:m δ = .ro d):mSeq m n δ = .ro d:=by unfold mSeq; rw [h]
theorem zrb {a b c e:Int} {i:Int} (h0:0 ≤ i) (h1:i < 4):∃ x,(x=a∨x=b∨x=c∨x=e)∧oIxL (.lst [.int a,.int b,.int c,.int e]) (.int i)=some (.int x):=by
  rcases (show i=0∨i=1∨i=2∨i=3 by omega) with h | h | h | h <;> subst h
  · exact ⟨a,.inl rfl,rfl⟩
  · exact ⟨b,.inr (.inl rfl),rfl⟩
  · exact ⟨c,.inr (.inr (.inl rfl)),rfl⟩
  · exact ⟨e,.inr (.inr (.inr rfl)),rfl⟩
theorem zoM {a b:Int}:zmh [.int a,.int b]=some (.int (if b < a then b else a)):=rfl
def mnL:List Int→Int
  | []=>0
  | a :: l=>minI l a
theorem zpV {S:List Int} (h:S ≠ []):mnL S ∈ S∧∀ x ∈ S,mnL S ≤ x:=by
  cases S with
  | nil=>exact absurd rfl h
  | cons a l =>
    obtain ⟨h1,h2,h3⟩:=L2.minI_le l a
    refine ⟨?_,fun b hb=>?_⟩
    · rcases h3 with z | z
      · show minI l a ∈ _; rw [z]; simp
      · exact List.mem_cons_of_mem _ z
    · rcases List.mem_cons.mp hb with z | z
      · rw [z]; exact h1
      · exact h2 b z
def fr (S:List Int):Nat:=S.idxOf (mnL S)
theorem zqr {S:List Int} (h:S ≠ []):fr S < S.length:=List.idxOf_lt_length_of_mem (zpV h).1
theorem zpT {S:List Int} (h:S ≠ []):zec minI [iL S]=some (.int (mnL S)):=by
  cases S with
  | nil=>exact absurd rfl h
  | cons a l=>simp [zec,iL,zb1,mnL]
theorem zn1 {S:List Int} (h:S ≠ []) (hl:S.length ≤ 1000):zgx (iL S) (.int (mnL S))=some (.int (fr S:Nat)):=by
  have:=zqr h
  unfold zgx iL
  simp only [zb1,Option.bind]
  rw [if_pos ⟨by omega,this⟩]; rfl
theorem zm5 {S:List Int} (h:S ≠ []) (hl:S.length ≤ 1000):zex [iL S] = .ok (.int (fr S:Nat)):=by
  refine zaW ?_
  show mRet _ [.v (iL S)]=_
  have i:=zn1 h hl
  simp only [mRet,znb,mRd,mCB,zaa,mNil,List.getElem?_cons_zero,R.bind_ok,zpT h,R.of_some]
  show (R.of (zgx (iL S) (.int (mnL S)))).toO _ _=_
  rw [i]; rfl
theorem zgf {m:Nat} {ws put:List Int} (hm:0 < m) (hm1:m ≤ 100) (hp:∀ b ∈ put,0 ≤ b∧b < m):zb7 [iL ws,.int m,iL put] = .ok (.int (hvy m ws put)):=by
  obtain ⟨δ,h1,o4,o5,rfl⟩:=zew (b:=bTup 2 (zbR (zaw 4) (zbR (zaw 5) bNil))) (m:=zfM) (fun x:Int × Int=>D.tup [.int x.1,.int x.2]) (fun pre δ=>∃ o4 o5,δ = [.v (iL ws),.v (.int m),.v (iL put),.o (iL ((upt m).map (sumB pre))),sv o4,sv o5]) (ws.zip put)
    (by
      rintro pre ⟨w,b⟩ post δ hall ⟨o4,o5,rfl⟩
      have bm:=hp b (List.of_mem_zip (show (w,b) ∈ ws.zip put by rw [hall]; simp)).2
      have bl:b.toNat < ((upt m).map (sumB pre)).length:=by rw [List.length_map,zcZ]; omega
      have q:=zh6 (f:=fun i j=>i + j) (i:=3) (mi:=mVar 5) (me:=mVar 4) (δ:=[.v (iL ws),.v (.int m),.v (iL put),.o (iL ((upt m).map (sumB pre))),.v (.int w),.v (.int b)]) (k:=b) (y:=w) rfl rfl bm.1 bl rfl
      have es:((upt m).map (sumB pre)).set b.toNat (gA ((upt m).map (sumB pre)) b + w)=(upt m).map (sumB (pre ++ [(w,b)])):=by
        have gb:gA ((upt m).map (sumB pre)) b=sumB pre b:=by
          unfold gA
          rw [List.getD_eq_getElem?_getD,List.getElem?_map,zjW (show b.toNat < m by omega)]
          simp [show ((b.toNat:Nat):Int)=b by omega]
        apply List.ext_getElem?
        intro i
        by_cases hi:i < m
        · rw [List.getElem?_map,zjW hi]
          by_cases e:b.toNat=i
          · subst e
            rw [List.getElem?_set_self bl,gb]
            have:((b.toNat:Nat):Int)=b:=by omega
            simp [zhA,this]
          · rw [List.getElem?_set_ne e,List.getElem?_map,zjW hi]
            have:¬ b=(i:Int):=by omega
            simp [zhA,this]
        · rw [List.getElem?_eq_none_iff.mpr (by rw [List.length_set,List.length_map,zcZ]; omega),List.getElem?_eq_none_iff.mpr (by rw [List.length_map,zcZ]; omega)]
      rw [es] at q
      refine ⟨[.v (iL ws),.v (.int m),.v (iL put),.o (iL ((upt m).map (sumB pre))),.v (.int w),.v (.int b)],_,?_,.inl q,some (.int w),some (.int b),rfl⟩
      rcases o4 with _ | o4 <;> rcases o5 with _ | o5 <;> rfl)
    [.v (iL ws),.v (.int m),.v (iL put),.o (iL (List.replicate m 0)),.no,.no] ⟨none,none,by
      have:(upt m).map (sumB [])=List.replicate m 0:=by
        have h2:(upt m).map (sumB [])=(upt m).map fun _=>(0:Int):=List.map_congr_left fun _ _=>rfl
        rw [h2,List.map_const',zcZ]
      rw [this]; rfl⟩
  refine zaW ?_
  show mSeq _ _ [.v (iL ws),.v (.int m),.v (iL put),.no,.no,.no]=_
  have k1:zeR [.v (iL ws),.v (.int m),.v (iL put),.no,.no,.no] = .ok (iL (List.replicate m 0)):=by
    have:=ze8 (l:=upt m) (δ:=[.v (iL ws),.v (.int m),.v (iL put),.no,.no,.no]) (mi:=mRng (zaa (mVar 1) mNil)) (by simp [mRng,zaa,mNil,mVar,rngT (show m ≤ 1000 by omega)]) (by rw [zcZ]; omega)
    rw [zcZ] at this; exact this
  have q1:mAsg zeR (bNew 3) [.v (iL ws),.v (.int m),.v (iL put),.no,.no,.no] = .nx [.v (iL ws),.v (.int m),.v (iL put),.o (iL (List.replicate m 0)),.no,.no]:=zaI k1 rfl
  have q2:zgu [.v (iL ws),.v (.int m),.v (iL put),.o (iL (List.replicate m 0)),.no,.no] = .nx [.v (iL ws),.v (.int m),.v (iL put),.o (iL ((upt m).map (sumB (ws.zip put)))),sv o4,sv o5]:=by
    refine (zd6 ?_).trans h1
    simp only [mZip,zaa,mNil,mVar,List.getElem?_cons_succ,List.getElem?_cons_zero,R.bind_ok]
    show R.of (some (zipD (ws.map D.int) (put.map D.int)))=_
    rw [zm3]; rfl
  refine (zaj q1).trans ((zaj q2).trans ?_)
  simp [mRet,mCB,zaa,mNil,mRd,zj6 (zoC hm),hvy]
def ffi (r:Int) (S:List Int) (w:Int):Nat:=S.findIdx fun x=>decide (x + w ≤ r)
theorem zow (r:Int) (S:List Int) (w:Int):ffi r S w ≤ S.length:=List.findIdx_le_length
theorem zoQ {r w:Int} {S:List Int} (hl:S.length ≤ 1000):za6 [iL (S.map fun x=>r - x),.int w] = .ok (.int (ffi r S w:Nat)):=by
  obtain ⟨A,eA⟩:∃ A,A=iL (S.map fun x=>r - x):=⟨_,rfl⟩
  have key:∀ (post:List Int) (k:Nat) (o2 o3:Option D),
      (post.findIdx (fun x=>decide (x + w ≤ r)) < post.length→zd4 (bTup 2 (zbR (zaw 2) (zbR (zaw 3) bNil))) zaU ((post.zipIdx k).map fun p:Int × Nat=>D.tup [.int (p.2:Int),.int (r - p.1)]) [.v A,.v (.int w),sv o2,sv o3] = .rt (.int ((k + post.findIdx (fun x=>decide (x + w ≤ r)):Nat):Int))) ∧
      (¬ post.findIdx (fun x=>decide (x + w ≤ r)) < post.length→∃ p2 p3:Option D,zd4 (bTup 2 (zbR (zaw 2) (zbR (zaw 3) bNil))) zaU ((post.zipIdx k).map fun p:Int × Nat=>D.tup [.int (p.2:Int),.int (r - p.1)]) [.v A,.v (.int w),sv o2,sv o3] = .nx [.v A,.v (.int w),sv p2,sv p3]):=by
    intro post
    induction post with
    | nil=>intro k o2 o3; exact ⟨fun z=>by simp at z,fun _=>⟨o2,o3,rfl⟩⟩
    | cons x post ih =>
      intro k o2 o3
      rw [List.zipIdx_cons,List.map_cons]
      unfold zd4
      have b1:bTup 2 (zbR (zaw 2) (zbR (zaw 3) bNil)) (.tup [.int (k:Int),.int (r - x)]) [.v A,.v (.int w),sv o2,sv o3]=some [.v A,.v (.int w),.v (.int (k:Int)),.v (.int (r - x))]:=by
        rcases o2 with _ | o2 <;> rcases o3 with _ | o3 <;> rfl
      rw [b1]
      by_cases c:x + w ≤ r
      · have bd:zaU [.v A,.v (.int w),.v (.int (k:Int)),.v (.int (r - x))] = .rt (.int (k:Int)):=by
          unfold zaU
          rw [za9 (by simp [zal,mRd]; omega)]; rfl
        simp only [bd]
        have e0:(x :: post).findIdx (fun x=>decide (x + w ≤ r))=0:=by simp [List.findIdx_cons,c]
        rw [e0]
        exact ⟨fun _=>rfl,fun z=>absurd (by simp) z⟩
      · have bd:zaU [.v A,.v (.int w),.v (.int (k:Int)),.v (.int (r - x))] = .nx [.v A,.v (.int w),.v (.int (k:Int)),.v (.int (r - x))]:=by
          unfold zaU
          rw [zaZ (by simp [zal,mRd]; omega)]; rfl
        simp only [bd]
        have e0:(x :: post).findIdx (fun x=>decide (x + w ≤ r))=post.findIdx (fun x=>decide (x + w ≤ r)) + 1:=by simp [List.findIdx_cons,c]
        rw [e0]
        obtain ⟨h1,h2⟩:=ih (k + 1) (some (.int (k:Int))) (some (.int (r - x)))
        refine ⟨fun z=>?_,fun z=>h2 (fun y=>z (by rw [List.length_cons]; omega))⟩
        have:=h1 (by rw [List.length_cons] at z; omega)
        refine this.trans ?_
        congr 3
        omega
  obtain ⟨h1,h2⟩:=key S 0 none none
  have f:zde [.v A,.v (.int w),.no,.no]=zd4 (bTup 2 (zbR (zaw 2) (zbR (zaw 3) bNil))) zaU ((S.zipIdx 0).map fun p:Int × Nat=>D.tup [.int (p.2:Int),.int (r - p.1)]) [.v A,.v (.int w),.no,.no]:=by
    refine zd6 ?_
    have:zk7 [A]=some (zh1 ((S.map fun x=>r - x).map .int)):=by rw [eA]; rfl
    simp only [zjB,zaa,mNil,mVar,List.getElem?_cons_zero,R.bind_ok,this,R.of_some]
    rw [zgb,List.map_map,List.zipIdx_map,List.map_map]; rfl
  refine zaW ?_
  rw [← eA]
  show mSeq _ _ [.v A,.v (.int w),.no,.no]=_
  by_cases c:ffi r S w < S.length
  · refine za5 ((f.trans (h1 c)).trans ?_)
    congr 3
    simp [ffi]
  · obtain ⟨p2,p3,e⟩:=h2 c
    refine (zaj (f.trans e)).trans ?_
    have:=zow r S w
    have el:fLen [A]=some (.int (ffi r S w:Nat)):=by
      rw [eA,zpx,List.length_map,show ffi r S w=S.length by omega]
    simp [mRet,mCB,zaa,mNil,mRd,el]
theorem zmC {np nv:Nat} {m:En→O} {ds:List D} {δ:En} {x:Xc} (h:m (zcH nv ds) = .ex δ x) (hl:ds.length=np:=by rfl):runF np nv m ds = .ex x:=by unfold runF; rw [if_pos hl,h]
theorem zg7 {A:D} {r:Int}:∀ (post:List Int) (k:Nat) (o2 o3:Option D),
    ((∀ w ∈ post,w ≤ r)→∃ p2 p3:Option D,zd4 (bTup 2 (zbR (zaw 2) (zbR (zaw 3) bNil))) zaT ((post.zipIdx k).map fun p:Int × Nat=>D.tup [.int (p.2:Int),.int p.1]) [.v A,.v (.int r),sv o2,sv o3] = .nx [.v A,.v (.int r),sv p2,sv p3]) ∧
    (∀ t:Nat,t < post.length→r < gA post (t:Nat)→(∀ j:Nat,j < t→gA post (j:Nat) ≤ r)→∃ δ,zd4 (bTup 2 (zbR (zaw 2) (zbR (zaw 3) bNil))) zaT ((post.zipIdx k).map fun p:Int × Nat=>D.tup [.int (p.2:Int),.int p.1]) [.v A,.v (.int r),sv o2,sv o3] = .ex δ ⟨5 + 16 * (k + t + 1)⟩):=by
  intro post
  induction post with
  | nil=>intro k o2 o3; exact ⟨fun _=>⟨o2,o3,rfl⟩,fun t ht=>by simp at ht⟩
  | cons x post ih =>
    intro k o2 o3
    rw [List.zipIdx_cons,List.map_cons]
    unfold zd4
    have b1:bTup 2 (zbR (zaw 2) (zbR (zaw 3) bNil)) (.tup [.int (k:Int),.int x]) [.v A,.v (.int r),sv o2,sv o3]=some [.v A,.v (.int r),.v (.int (k:Int)),.v (.int x)]:=by
      rcases o2 with _ | o2 <;> rcases o3 with _ | o3 <;> rfl
    rw [b1]
    obtain ⟨i1,i2⟩:=ih (k + 1) (some (.int (k:Int))) (some (.int x))
    by_cases c:r < x
    · have bd:zaT [.v A,.v (.int r),.v (.int (k:Int)),.v (.int x)] = .ex [.v A,.v (.int r),.v (.int (k:Int)),.v (.int x)] ⟨5 + 16 * (k + 1)⟩:=by
        unfold zaT
        rw [za9 (by simp [zal,mRd,c])]
        simp only [zjS,zaa,mNil,mVar,List.getElem?_cons_succ,List.getElem?_cons_zero,R.bind_ok,R.toO_ok,asI1]
        rw [zbn (by omega),Int.toNat_natCast]
      simp only [bd]
      refine ⟨fun z=>absurd (z x (by simp)) (by omega),fun t ht g j=>?_⟩
      cases t with
      | zero=>exact ⟨_,rfl⟩
      | succ t =>
        have:=j 0 (by omega)
        simp [gA] at this
        omega
    · have bd:zaT [.v A,.v (.int r),.v (.int (k:Int)),.v (.int x)] = .nx [.v A,.v (.int r),.v (.int (k:Int)),.v (.int x)]:=by
        unfold zaT
        rw [zaZ (by simp [zal,mRd,c])]; rfl
      simp only [bd]
      refine ⟨fun z=>i1 fun w hw=>z w (by simp [hw]),fun t ht g j=>?_⟩
      cases t with
      | zero=>simp [gA] at g; omega
      | succ t =>
        have sh:∀ m:Nat,gA (x :: post) ((m + 1:Nat):Int)=gA post (m:Nat):=fun m=>by simp [gA]
        rw [sh] at g
        obtain ⟨δ,e⟩:=i2 t (by simpa using ht) g (fun m hm=>by have:=j (m + 1) (by omega); rw [sh] at this; exact this)
        exact ⟨δ,e.trans (by congr 2; omega)⟩
theorem zhk (ws:List Int) (r:Int):zcV [.v (iL ws),.v (.int r),.no,.no]=zd4 (bTup 2 (zbR (zaw 2) (zbR (zaw 3) bNil))) zaT ((ws.zipIdx 0).map fun p:Int × Nat=>D.tup [.int (p.2:Int),.int p.1]) [.v (iL ws),.v (.int r),sv none,sv none]:=by
  refine zd6 ?_
  have:zk7 [iL ws]=some (zh1 (ws.map .int)):=rfl
  simp only [zjB,zaa,mNil,mVar,List.getElem?_cons_zero,R.bind_ok,this,R.of_some]
  rw [zgb,List.zipIdx_map,List.map_map]; rfl
theorem zgF {ws:List Int} {r:Int} (h:∀ w ∈ ws,w ≤ r):zav [iL ws,.int r] = .ok .non:=by
  obtain ⟨p2,p3,e⟩:=(zg7 ws 0 none none).1 h
  exact zoO (show zbI [.v (iL ws),.v (.int r),.no,.no]=_ from (zhk ws r).trans e)
theorem zmW {ws:List Int} {r:Int} {t:Nat} (h1:t < ws.length) (h2:r < gA ws (t:Nat)) (h3:∀ j:Nat,j < t→gA ws (j:Nat) ≤ r):zav [iL ws,.int r] = .ex ⟨5 + 16 * (t + 1)⟩:=by
  obtain ⟨δ,e⟩:=(zg7 (A:=iL ws) ws 0 none none).2 t h1 h2 h3
  rw [Nat.zero_add] at e
  exact zmC (show zbI [.v (iL ws),.v (.int r),.no,.no]=_ from (zhk ws r).trans e)
end My
namespace My
open PySem L2 PM
theorem zim {m:Nat} {ws od:List Int} (hm:0 < m) (hm1:m ≤ 100) (hl:ws.length ≤ 100) (ho:∀ x ∈ od,0 ≤ x∧x < ws.length):∃ P:List Int,P.length=ws.length∧zbG [iL ws,.int m,iL od] = .ok (iL P):=by
  obtain ⟨W,eW⟩:∃ W,W=iL ws:=⟨_,rfl⟩
  obtain ⟨Od,eO⟩:∃ Od,Od=iL od:=⟨_,rfl⟩
  have iW:∀ k:Int,0 ≤ k→k < ws.length→oIxL W (.int k)=some (.int (gA ws k)):=fun k h0 h1=>by rw [eW]; exact zjL h0 (by omega)
  obtain ⟨δ,h1,S,P,o5,o6,hS,hP,rfl⟩:=zew (b:=zaw 5) (m:=zdh) D.int (fun _ δ=>∃ (S P:List Int) (o5 o6:Option D),S.length=m∧P.length=ws.length∧δ = [.v W,.v (.int m),.v Od,.o (iL S),.o (iL P),sv o5,sv o6]) od
    (by
      rintro pre x post δ hall ⟨S,P,o5,o6,hS,hP,rfl⟩
      have xm:=ho x (by rw [hall]; simp)
      have sn:S ≠ []:=fun z=>by rw [z] at hS; simp at hS; omega
      have fe:=zm5 (S:=S) sn (by omega)
      have fl:=zqr sn
      have q0:mAsg (zgE zex (zaa (mRd 3) mNil)) (zaw 6) [.v W,.v (.int m),.v Od,.o (iL S),.o (iL P),.v (.int x),sv o6] = .nx [.v W,.v (.int m),.v Od,.o (iL S),.o (iL P),.v (.int x),.v (.int (fr S:Nat))]:=by
        refine zaI (d:=.int (fr S:Nat)) ?_ ?_
        · simp [zgE,zaa,mNil,mRd,fe,zfZ]
        · rcases o6 with _ | o6 <;> rfl
      have q1:=zh6 (f:=fun i j=>i + j) (i:=3) (mi:=mVar 6) (me:=m2 oIxL (mRd 0) (mRd 5)) (δ:=[.v W,.v (.int m),.v Od,.o (iL S),.o (iL P),.v (.int x),.v (.int (fr S:Nat))]) (k:=(fr S:Nat)) (y:=gA ws x) rfl rfl (by omega) (by omega) (by simp [mRd,iW x xm.1 xm.2])
      obtain ⟨S',eS'⟩:∃ S',S'=S.set ((fr S:Nat):Int).toNat (gA S (fr S:Nat) + gA ws x):=⟨_,rfl⟩
      rw [← eS'] at q1
      have q2:=zkn (i:=4) (mi:=mVar 5) (me:=mVar 6) (δ:=[.v W,.v (.int m),.v Od,.o (iL S'),.o (iL P),.v (.int x),.v (.int (fr S:Nat))]) (k:=x) (y:=(fr S:Nat)) rfl rfl xm.1 (by omega) rfl
      refine ⟨[.v W,.v (.int m),.v Od,.o (iL S),.o (iL P),.v (.int x),sv o6],[.v W,.v (.int m),.v Od,.o (iL S'),.o (iL (P.set x.toNat (fr S:Nat))),.v (.int x),.v (.int (fr S:Nat))],?_,.inl ?_,S',P.set x.toNat (fr S:Nat),some (.int x),some (.int (fr S:Nat)),by rw [eS',List.length_set]; exact hS,by rw [List.length_set]; exact hP,rfl⟩
      · rcases o5 with _ | o5 <;> rfl
      · exact (zaj q0).trans ((zaj q1).trans q2))
    [.v W,.v (.int m),.v Od,.o (iL (List.replicate m 0)),.o (iL (List.replicate ws.length 0)),.no,.no] ⟨_,_,none,none,by simp,by simp,rfl⟩
  refine ⟨P,hP,zdB ?_⟩
  show mSeq _ _ [.v (iL ws),.v (.int m),.v (iL od),.no,.no,.no,.no]=_
  rw [← eW,← eO]
  have q1:mAsg zdx (bNew 3) [.v W,.v (.int m),.v Od,.no,.no,.no,.no] = .nx [.v W,.v (.int m),.v Od,.o (iL (List.replicate m 0)),.no,.no,.no]:=zaI (zpe hm1 rfl) rfl
  have q2:mAsg zdu (bNew 4) [.v W,.v (.int m),.v Od,.o (iL (List.replicate m 0)),.no,.no,.no] = .nx [.v W,.v (.int m),.v Od,.o (iL (List.replicate m 0)),.o (iL (List.replicate ws.length 0)),.no,.no] :=
    zaI (d:=iL (List.replicate ws.length 0)) (ze8 (l:=ws) (by rw [eW]; simp [mItL,mRd,iL]) (by omega)) rfl
  have q3:zdy [.v W,.v (.int m),.v Od,.o (iL (List.replicate m 0)),.o (iL (List.replicate ws.length 0)),.no,.no] = .nx [.v W,.v (.int m),.v Od,.o (iL S),.o (iL P),sv o5,sv o6]:=(zd6 (by rw [eO]; simp [mItL,mVar,iL])).trans h1
  exact (zaj q1).trans ((zaj q2).trans ((zaj q3).trans rfl))
theorem znW {w:Int} {L:List Int} (hl:L.length ≤ 1000):∃ j:Nat,j ≤ L.length∧za6 [iL L,.int w] = .ok (.int j):=by
  have e:(L.map fun x=>0 - x).map (fun x=>0 - x)=L:=by
    rw [List.map_map]
    conv=>rhs; rw [← List.map_id L]
    refine List.map_congr_left fun x _=>?_
    show 0 - (0 - x)=x
    omega
  have f:=zoQ (r:=0) (w:=w) (S:=L.map fun x=>0 - x) (by rw [List.length_map]; exact hl)
  rw [e] at f
  refine ⟨_,?_,f⟩
  have:=zow 0 (L.map fun x=>0 - x) w
  rw [List.length_map] at this; exact this
theorem zjM {r:Int} {ws od:List Int} (hl:ws.length ≤ 100) (ol:od.length ≤ 100) (ho:∀ x ∈ od,0 ≤ x∧x < ws.length):∃ P:List Int,P.length=ws.length∧zci [iL ws,.int r,iL od] = .ok (iL P):=by
  obtain ⟨W,eW⟩:∃ W,W=iL ws:=⟨_,rfl⟩
  obtain ⟨Od,eO⟩:∃ Od,Od=iL od:=⟨_,rfl⟩
  have iW:∀ k:Int,0 ≤ k→k < ws.length→oIxL W (.int k)=some (.int (gA ws k)):=fun k h0 h1=>by rw [eW]; exact zjL h0 (by omega)
  obtain ⟨δ,h1,S,P,o5,o6,hS,hP,rfl⟩:=zew (b:=zaw 5) (m:=zeh) D.int (fun pre δ=>∃ (S P:List Int) (o5 o6:Option D),S.length ≤ pre.length∧P.length=ws.length∧δ = [.v W,.v (.int r),.v Od,.o (iL S),.o (iL P),sv o5,sv o6]) od
    (by
      rintro pre x post δ hall ⟨S,P,o5,o6,hS,hP,rfl⟩
      have xm:=ho x (by rw [hall]; simp)
      have pl:pre.length ≤ od.length:=by rw [hall]; simp
      obtain ⟨j,jl,fe⟩:=znW (w:=gA ws x) (L:=S) (by omega)
      have le:fLen [iL S]=some (.int S.length):=by simp [iL]
      have q0:mAsg (zgE za6 (zaa (mRd 3) (zaa (m2 oIxL (mRd 0) (mRd 5)) mNil))) (zaw 6) [.v W,.v (.int r),.v Od,.o (iL S),.o (iL P),.v (.int x),sv o6] = .nx [.v W,.v (.int r),.v Od,.o (iL S),.o (iL P),.v (.int x),.v (.int j)]:=by
        refine zaI (d:=.int j) ?_ ?_
        · simp [zgE,zaa,mNil,mRd,iW x xm.1 xm.2,fe,zfZ]
        · rcases o6 with _ | o6 <;> rfl
      obtain ⟨T,hT,jT,q1⟩:∃ T:List Int,T.length ≤ pre.length + 1∧j < T.length∧mIfS (zal (m2 oEq (mRd 6) (mCB fLen (zaa (mRd 3) mNil)))) (zdk 3 (mVar 1)) zaM [.v W,.v (.int r),.v Od,.o (iL S),.o (iL P),.v (.int x),.v (.int j)] = .nx [.v W,.v (.int r),.v Od,.o (iL T),.o (iL P),.v (.int x),.v (.int j)]:=by
        by_cases c:j=S.length
        · refine ⟨S ++ [r],by simp; omega,by simp; omega,?_⟩
          rw [za9 (by simp [zal,mRd,mCB,zaa,mNil,le,c])]
          exact zfk rfl rfl (by omega)
        · refine ⟨S,by omega,by omega,?_⟩
          rw [zaZ (by simp [zal,mRd,mCB,zaa,mNil,le,show ¬ ((j:Int)=S.length) by omega])]; rfl
      have q2:=zh6 (f:=fun i j=>i - j) (i:=3) (mi:=mVar 6) (me:=m2 oIxL (mRd 0) (mRd 5)) (δ:=[.v W,.v (.int r),.v Od,.o (iL T),.o (iL P),.v (.int x),.v (.int j)]) (k:=(j:Nat)) (y:=gA ws x) rfl rfl (by omega) (by omega) (by simp [mRd,iW x xm.1 xm.2])
      obtain ⟨S',eS'⟩:∃ S',S'=T.set ((j:Nat):Int).toNat (gA T (j:Nat) - gA ws x):=⟨_,rfl⟩
      rw [← eS'] at q2
      have q3:=zkn (i:=4) (mi:=mVar 5) (me:=mVar 6) (δ:=[.v W,.v (.int r),.v Od,.o (iL S'),.o (iL P),.v (.int x),.v (.int j)]) (k:=x) (y:=(j:Nat)) rfl rfl xm.1 (by omega) rfl
      refine ⟨[.v W,.v (.int r),.v Od,.o (iL S),.o (iL P),.v (.int x),sv o6],[.v W,.v (.int r),.v Od,.o (iL S'),.o (iL (P.set x.toNat (j:Nat))),.v (.int x),.v (.int j)],?_,.inl ?_,S',P.set x.toNat (j:Nat),some (.int x),some (.int j),by rw [eS',List.length_set]; simp; omega,by rw [List.length_set]; exact hP,rfl⟩
      · rcases o5 with _ | o5 <;> rfl
      · exact (zaj q0).trans ((zaj q1).trans ((zaj q2).trans q3)))
    [.v W,.v (.int r),.v Od,.o (iL []),.o (iL (List.replicate ws.length 0)),.no,.no] ⟨_,_,none,none,by simp,by simp,rfl⟩
  refine ⟨P,hP,zdB ?_⟩
  show mSeq _ _ [.v (iL ws),.v (.int r),.v (iL od),.no,.no,.no,.no]=_
  rw [← eW,← eO]
  have q1:mAsg (mLst mNil) (bNew 3) [.v W,.v (.int r),.v Od,.no,.no,.no,.no] = .nx [.v W,.v (.int r),.v Od,.o (iL []),.no,.no,.no]:=zaI (d:=iL []) (by simp [mLst,mNil,sizeLine,iL]) rfl
  have q2:mAsg zeI (bNew 4) [.v W,.v (.int r),.v Od,.o (iL []),.no,.no,.no] = .nx [.v W,.v (.int r),.v Od,.o (iL []),.o (iL (List.replicate ws.length 0)),.no,.no] :=
    zaI (d:=iL (List.replicate ws.length 0)) (ze8 (l:=ws) (by rw [eW]; simp [mItL,mRd,iL]) (by omega)) rfl
  have q3:zeH [.v W,.v (.int r),.v Od,.o (iL []),.o (iL (List.replicate ws.length 0)),.no,.no] = .nx [.v W,.v (.int r),.v Od,.o (iL S),.o (iL P),sv o5,sv o6]:=(zd6 (by rw [eO]; simp [mItL,mVar,iL])).trans h1
  exact (zaj q1).trans ((zaj q2).trans ((zaj q3).trans rfl))
theorem zkF {m:Nat} {ws:List Int} (hm:0 < m) (hm1:m ≤ 100) (hl:ws.length < 64):∃ P:List Int,P.length=ws.length∧za4 [iL ws,.int m] = .ok (iL P):=by
  obtain ⟨P,hP,e⟩:=zim (ws:=ws) (od:=ordK ws) hm hm1 (by omega) zmt
  refine ⟨P,hP,zdB ?_⟩
  show zfa _ [.v (iL ws),.v (.int m)]=_
  simp [zfa,zak,zaa,mNil,mVar,zgl hl,e]
theorem zjG {r:Int} {ws:List Int} (hl:ws.length < 64) (hw:∀ w ∈ ws,w ≤ r):∃ P:List Int,P.length=ws.length∧zbq [iL ws,.int r] = .ok (iL P):=by
  obtain ⟨P,hP,e⟩:=zjM (r:=r) (ws:=ws) (od:=ordK ws) (by omega) (by rw [zoH]; omega) zmt
  refine ⟨P,hP,zdB ?_⟩
  show mSeq _ _ [.v (iL ws),.v (.int r)]=_
  have q1:mDo (zbS zav (zaa (mVar 0) (zaa (mVar 1) mNil))) [.v (iL ws),.v (.int r)] = .nx [.v (iL ws),.v (.int r)]:=by simp [mDo,zbS,zaa,mNil,mVar,zgF hw]
  refine (zaj q1).trans ?_
  simp [zfa,zak,zaa,mNil,mVar,zgl hl,e]
theorem zos {m x:Int} {ws:List Int} (hm:0 < m) (hl:ws.length ≤ 100) (x0:0 ≤ x) (x1:x ≤ 10000000000):∃ P:List Int,P.length=ws.length∧zb9 [iL ws,.int x,.int m] = .ok (iL P):=by
  obtain ⟨W,eW⟩:∃ W,W=iL ws:=⟨_,rfl⟩
  have f1:Fit 48271:=fitN 48271 (by decide)
  obtain ⟨δ,h1,P,y,o4,hP,y0,y1,rfl⟩:=zew (b:=zaw 4) (m:=zgB) D.int (fun pre δ=>∃ (P:List Int) (y:Int) (o4:Option D),P.length=pre.length∧0 ≤ y∧y ≤ 10000000000∧δ = [.v W,.v (.int y),.v (.int m),.o (iL P),sv o4]) ws
    (by
      rintro pre w post δ hall ⟨P,y,o4,hP,y0,y1,rfl⟩
      have pl:pre.length ≤ ws.length:=by rw [hall]; simp
      have fy:Fit y:=fitN 10000000000 (by omega)
      have a1:=zdb (y * 48271) (show (0:Int) < 2147483647 by decide)
      have a2:=zdg (y * 48271) (show (0:Int) < 2147483647 by decide)
      obtain ⟨y',ey⟩:∃ y',y'=y * 48271 % 2147483647 + 3:=⟨_,rfl⟩
      have q0:mAsg (m2 oAdd (m2 oMod (m2 oMul (mRd 1) (mC (.int 48271))) (mC (.int 2147483647))) (mC (.int 3))) (zaw 1) [.v W,.v (.int y),.v (.int m),.o (iL P),.v (.int w)] = .nx [.v W,.v (.int y'),.v (.int m),.o (iL P),.v (.int w)]:=zaI (d:=.int y') (by simp [mRd,mC,zel fy f1,za7,ey]) rfl
      have q1:=zfk (i:=3) (me:=m2 oMod (mRd 1) (mRd 2)) (δ:=[.v W,.v (.int y'),.v (.int m),.o (iL P),.v (.int w)]) (y:=y' % m) rfl (by simp [mRd,za7 hm]) (by omega)
      refine ⟨[.v W,.v (.int y),.v (.int m),.o (iL P),.v (.int w)],[.v W,.v (.int y'),.v (.int m),.o (iL (P ++ [y' % m])),.v (.int w)],?_,.inl ?_,P ++ [y' % m],y',some (.int w),by simp [hP],by omega,by omega,rfl⟩
      · rcases o4 with _ | o4 <;> rfl
      · exact (zaj q0).trans q1)
    [.v W,.v (.int x),.v (.int m),.o (iL []),.no] ⟨[],x,none,rfl,x0,x1,rfl⟩
  refine ⟨P,hP,zdB ?_⟩
  show mSeq _ _ [.v (iL ws),.v (.int x),.v (.int m),.no,.no]=_
  rw [← eW]
  have q1:mAsg (mLst mNil) (bNew 3) [.v W,.v (.int x),.v (.int m),.no,.no] = .nx [.v W,.v (.int x),.v (.int m),.o (iL []),.no]:=zaI (d:=iL []) (by simp [mLst,mNil,sizeLine,iL]) rfl
  have q2:zhd [.v W,.v (.int x),.v (.int m),.o (iL []),.no] = .nx [.v W,.v (.int y),.v (.int m),.o (iL P),sv o4]:=(zd6 (by rw [eW]; simp [mItL,mVar,iL])).trans h1
  exact (zaj q1).trans ((zaj q2).trans rfl)
theorem zlO {x y:D} (hx:zbi 8 x=true) (hy:zbi 8 y=true) (h:x ≠ y):oNeD x y=some (.bl true):=by
  unfold oNeD
  rw [zbn ⟨hx,hy⟩]
  simp [h]
theorem zpw {l:List D} {k:Nat} (h:l.length < k):cutD l (some (k:Int)) none = []:=by
  unfold cutD
  have e:HT.sIx l.length 0 (some (k:Int))=l.length:=by
    show (if (k:Int) < 0 then ((k:Int) + (l.length:Int)).toNat else min (k:Int).toNat l.length)=l.length
    rw [if_neg (by omega)]; omega
  rw [e]; simp
theorem zg6 {m x:Int} {P:List Int} (hm:0 ≤ m) (hl:P.length ≤ 100):∃ P':List Int,P'.length ≤ P.length + 1∧za8 [iL P,.int x,.int m] = .ok (iL P'):=by
  obtain ⟨L,eL⟩:∃ L,L=iL P:=⟨_,rfl⟩
  have lL:fLen [L]=some (.int P.length):=by rw [eL]; simp [iL]
  have f8:Fit 8:=fitN 5000 (by decide)
  have f64:Fit 64:=fitN 5000 (by decide)
  have f4096:Fit 4096:=fitN 5000 (by decide)
  have a0:=zdb (x / 8) (show (0:Int) < P.length + 1 by omega)
  have a1:=zdg (x / 8) (show (0:Int) < P.length + 1 by omega)
  obtain ⟨k,ek⟩:∃ k:Nat,x / 8 % (P.length + 1)=(k:Int):=⟨(x / 8 % (P.length + 1)).toNat,by omega⟩
  rw [ek] at a0 a1
  obtain ⟨o,_,io⟩:=zrb (a:=m) (b:=-1) (c:=x / 64 % (m + 1)) (e:=0) (zdb (x / 4096) (show (0:Int) < 4 by decide)) (zdg (x / 4096) (show (0:Int) < 4 by decide))
  refine (?_:∃ P':List Int,_∧_)
  have mp:(0:Int) < m + 1:=by omega
  have pp:(0:Int) < (P.length:Int) + 1:=by omega
  have q0:mAsg (m2 oMod (m2 oDiv (mRd 1) (mC (.int 8))) (m2 oAdd (mCB fLen (zaa (mRd 0) mNil)) (mC (.int 1)))) (zaw 3) [.v L,.v (.int x),.v (.int m),.no,.no] = .nx [.v L,.v (.int x),.v (.int m),.v (.int k),.no]:=zaI (d:=.int k) (by simp [mRd,mC,mCB,zaa,mNil,lL,zc0,f8,za7 pp,ek]) rfl
  have q1:mAsg (m2 oIxL (mLst (zaa (mVar 2) (zaa (m1 oNeg (mC (.int 1))) (zaa (m2 oMod (m2 oDiv (mRd 1) (mC (.int 64))) (m2 oAdd (mRd 2) (mC (.int 1)))) (zaa (mC (.int 0)) mNil))))) (m2 oMod (m2 oDiv (mRd 1) (mC (.int 4096))) (mC (.int 4)))) (zaw 4) [.v L,.v (.int x),.v (.int m),.v (.int k),.no] = .nx [.v L,.v (.int x),.v (.int m),.v (.int k),.v (.int o)] :=
    zaI (d:=.int o) (by simp [mLst,zaa,mNil,mVar,mRd,mC,zc0,f64,f4096,za7,za7 mp,sizeLine,io]) rfl
  have tk:∀ (j:Nat),j ≤ P.length→∀ δ:En,δ[0]?=some (.v L)→∀ mh:En→R D,mh δ = .ok (.int j)→mSl (mRd 0) mNoP (zbN mh) δ = .ok (iL (P.take j)):=fun j hj δ h mh hm=>zhE (by unfold mRd; rw [h,eL]) hm hj
  have dp:∀ (j:Nat),∀ δ:En,δ[0]?=some (.v L)→∀ mh:En→R D,mh δ = .ok (.int j)→mSl (mRd 0) (zbN mh) mNoP δ = .ok (iL (P.drop j)):=fun j δ h mh hm=>by
    by_cases hj:j ≤ P.length
    · exact zkz (by unfold mRd; rw [h,eL]) hm hj
    · have e:mSl (mRd 0) (zbN mh) mNoP δ = .ok (.lst (cutD (P.map .int) (some (j:Int)) none)):=by
        have hr:mRd 0 δ = .ok (iL P):=by unfold mRd; rw [h,eL]
        simp only [mSl,hr,mNoP,zbN,hm,R.bind_ok,znx,R.of_some,asL,iL]
      rw [e,zpw (by rw [List.length_map]; omega),List.drop_eq_nil_of_le (by omega)]; rfl
  have cat:∀ a b:List Int,a.length ≤ 1000→b.length ≤ 1000→oCat (iL a) (iL b)=some (iL (a ++ b)):=fun a b ha hb=>by
    refine (zkm (by rw [List.length_map,List.length_map]; omega)).trans ?_
    simp [iL]
  have cat2:∀ {m1 m2':En→R D} {δ:En} {a b:List Int},m1 δ = .ok (iL a)→m2' δ = .ok (iL b)→a.length ≤ 1000→b.length ≤ 1000→m2 oCat m1 m2' δ = .ok (iL (a ++ b)):=fun h1 h2 ha hb=>by
    simp [h1,h2,cat _ _ ha hb]
  have start:za8 [iL P,.int x,.int m]=runF 3 2 zdH [L,.int x,.int m]:=by rw [eL]; rfl
  rw [start]
  have tl:∀ j:Nat,(P.take j).length ≤ P.length:=fun j=>by rw [List.length_take]; omega
  have dl:∀ j:Nat,(P.drop j).length ≤ P.length:=fun j=>by rw [List.length_drop]; omega
  have one:∀ δ:En,δ[4]?=some (.v (.int o))→mLst (zaa (mVar 4) mNil) δ = .ok (iL [o]):=fun δ h=>by simp [mLst,zaa,mNil,mVar,h,sizeLine,iL]
  by_cases c0:x % 8=0
  · refine ⟨P.take k ++ P.drop (k + 1),by rw [List.length_append,List.length_take,List.length_drop]; omega,zaW ((zaj q0).trans ((zaj q1).trans (za5 ?_)))⟩
    rw [za9 (by simp [zal,mRd,mC,za7,c0])]
    unfold mRet
    rw [cat2 (tk k (by omega) _ rfl _ rfl) (dp (k + 1) _ rfl _ (by simp [mRd,mC])) (by have:=tl k; omega) (by have:=dl (k + 1); omega)]
    rfl
  · have n0:mIfS (zal (m2 oEq (m2 oMod (mRd 1) (mC (.int 8))) (mC (.int 0)))) (mRet (m2 oCat (mSl (mRd 0) mNoP (zbN (mVar 3))) (mSl (mRd 0) (zbN (m2 oAdd (mRd 3) (mC (.int 1)))) mNoP))) zaM [.v L,.v (.int x),.v (.int m),.v (.int k),.v (.int o)] = .nx [.v L,.v (.int x),.v (.int m),.v (.int k),.v (.int o)]:=by
      rw [zaZ (by simp [zal,mRd,mC,za7,c0])]; rfl
    by_cases c1:x % 8=1
    · refine ⟨P.take k ++ [o] ++ P.drop k,by rw [List.length_append,List.length_append,List.length_take,List.length_drop]; simp; omega,zaW ((zaj q0).trans ((zaj q1).trans ((zaj n0).trans (za5 ?_))))⟩
      rw [za9 (by simp [zal,mRd,mC,za7,c1])]
      unfold mRet
      rw [cat2 (cat2 (tk k (by omega) _ rfl _ rfl) (one _ rfl) (by have:=tl k; omega) (by simp)) (dp k _ rfl _ rfl) (by have:=tl k; rw [List.length_append]; simp; omega) (by have:=dl k; omega)]
      rfl
    · have n1:mIfS (zal (m2 oEq (m2 oMod (mRd 1) (mC (.int 8))) (mC (.int 1)))) (mRet (m2 oCat (m2 oCat (mSl (mRd 0) mNoP (zbN (mVar 3))) (mLst (zaa (mVar 4) mNil))) (mSl (mRd 0) (zbN (mVar 3)) mNoP))) zaM [.v L,.v (.int x),.v (.int m),.v (.int k),.v (.int o)] = .nx [.v L,.v (.int x),.v (.int m),.v (.int k),.v (.int o)]:=by
        rw [zaZ (by simp [zal,mRd,mC,za7,c1])]; rfl
      by_cases c2:x % 8 < 5∧P ≠ []
      · have pl:(0:Int) < P.length:=by have:=List.length_pos_iff.mpr c2.2; omega
        have b0:=zdb (x / 8) pl
        have b1:=zdg (x / 8) pl
        obtain ⟨j,ej⟩:∃ j:Nat,x / 8 % P.length=(j:Int):=⟨(x / 8 % P.length).toNat,by omega⟩
        rw [ej] at b0 b1
        have ne:oNeD L (.lst [])=some (.bl true):=by
          rw [eL]
          exact zlO (zb0 P) (zb0 []) fun z=>c2.2 (by have:=congrArg (fun d=>match d with | D.lst l=>l.length | _=>0) z; simpa [iL] using this)
        refine ⟨P.take j ++ [o] ++ P.drop (j + 1),by rw [List.length_append,List.length_append,List.length_take,List.length_drop]; simp; omega,zaW ((zaj q0).trans ((zaj q1).trans ((zaj n0).trans ((zaj n1).trans (za5 ?_)))))⟩
        rw [za9 (by simp [mAnd,zal,mRd,mC,za7,c2.1,mLst,mNil,sizeLine,ne])]
        have q2:mAsg (m2 oMod (m2 oDiv (mRd 1) (mC (.int 8))) (mCB fLen (zaa (mRd 0) mNil))) (zaw 3) [.v L,.v (.int x),.v (.int m),.v (.int k),.v (.int o)] = .nx [.v L,.v (.int x),.v (.int m),.v (.int j),.v (.int o)]:=zaI (d:=.int j) (by simp [mRd,mC,mCB,zaa,mNil,lL,zc0,f8,za7 pl,ej]) rfl
        refine (zaj q2).trans ?_
        unfold mRet
        rw [cat2 (cat2 (tk j (by omega) _ rfl _ rfl) (one _ rfl) (by have:=tl j; omega) (by simp)) (dp (j + 1) _ rfl _ (by simp [mRd,mC])) (by have:=tl j; rw [List.length_append]; simp; omega) (by have:=dl (j + 1); omega)]
        rfl
      · refine ⟨P,by omega,zaW ((zaj q0).trans ((zaj q1).trans ((zaj n0).trans ((zaj n1).trans ?_))))⟩
        have n2:(mAnd (zal (m2 oLt (m2 oMod (mRd 1) (mC (.int 8))) (mC (.int 5)))) (zal (m2 oNeD (mRd 0) (mLst mNil)))) [.v L,.v (.int x),.v (.int m),.v (.int k),.v (.int o)] = .ok false:=by
          by_cases c3:x % 8 < 5
          · have pe:P = []:=Classical.byContradiction fun z=>c2 ⟨c3,z⟩
            have ne:oNeD L (.lst [])=some (.bl false):=by rw [eL,pe]; exact zh2 (zb0 []) (zb0 []) rfl
            simp [mAnd,zal,mRd,mC,za7,c3,mLst,mNil,sizeLine,ne]
          · simp [mAnd,zal,mRd,mC,za7,c3]
        have n3:=zaZ (m:=mSeq (mAsg (m2 oMod (m2 oDiv (mRd 1) (mC (.int 8))) (mCB fLen (zaa (mRd 0) mNil))) (zaw 3)) (mRet (m2 oCat (m2 oCat (mSl (mRd 0) mNoP (zbN (mVar 3))) (mLst (zaa (mVar 4) mNil))) (mSl (mRd 0) (zbN (m2 oAdd (mRd 3) (mC (.int 1)))) mNoP)))) (m':=zaM) n2
        refine (zaj (n3.trans rfl)).trans ?_
        rw [← eL]; rfl
end My
namespace My
open PySem L2 PM
theorem zfC {l:List Int} {c:Int} (hl:l.length ≤ 1000):zbA [iL l,.int c] = .ok (.bl (decide (∀ q ∈ l,0 ≤ q∧q < c))):=by
  have k:zfD [.v (iL l),.v (.int c)] = .ok (.lst ((l.map fun q=>decide (0 ≤ q∧q < c)).map .bl)):=by
    refine zdE (l:=l.map .int) (by simp [mItL,mRd]) (by rw [List.length_map]; omega) ?_
    rw [List.map_map]
    refine zey .int _ _ fun q _=>?_
    have e:zbf [.v (iL l),.v (.int c)] [1] 1 = [.v (.int c),.no]:=rfl
    rw [e]
    by_cases h0:0 ≤ q
    · by_cases h1:q < c
      · simp [zeF,zbu,ziA,mC,mRd,h0,h1]
      · simp [zeF,zbu,ziA,mC,mRd,h0,h1]
    · simp [zeF,zbu,ziA,mC,mRd,h0]
  have fa:fAll [.lst ((l.map fun q=>decide (0 ≤ q∧q < c)).map .bl)]=some (.bl (decide (∀ q ∈ l,0 ≤ q∧q < c))):=by
    simp only [fAll,zn7,Option.map_some]
    congr 2
    rw [List.all_map]
    apply Bool.eq_iff_iff.mpr
    simp
  refine zaW ?_
  show mRet _ [.v (iL l),.v (.int c)]=_
  simp only [mRet,mCB,zaa,mNil,k,R.bind_ok,fa,R.of_some]; rfl
theorem zl8 (d:D) (h:d = .non∨∃ x,d = .str x):zco [d,d] = .ok (.bl true):=by
  refine zaW ?_
  show mSeq _ _ [.v d,.v d]=_
  rcases h with rfl | ⟨x,rfl⟩
  · rfl
  · have i:oIsi "str" (.str x)=some (.bl true):=rfl
    have q1:mIfS (zal (m2 oIs (mRd 1) (mC .non))) (mRet (m2 oIs (mRd 0) (mC .non))) zaM [.v (.str x),.v (.str x)] = .nx [.v (.str x),.v (.str x)]:=by
      rw [zaZ (by simp [zal,mRd,mC,isN])]; rfl
    refine (zaj q1).trans ?_
    have eq:oEq (.str x) (.str x)=some (.bl true):=by
      show (if scal (.str x) (.str x)=true then some (D.bl (decide (V.str x=V.str x))) else none)=_
      rw [if_pos (show scal (.str x) (.str x)=true from rfl),decide_eq_true rfl]
    simp [mRet,zi7,mRd,i,eq]
end My
namespace My
open PySem L2 PM
def encS (L:List Int) (f:Int→Int):D:=.dct (L.map .inl) (L.map fun b=>.int (f b))
theorem getS (L:List Int) (f:Int→Int) (t:Int):getK (L.map .inl) (L.map fun b=>D.int (f b)) (.inl t)=if t ∈ L then some (.int (f t)) else none:=by
  induction L with
  | nil=>rfl
  | cons a l ih =>
    simp only [List.map_cons,getK,ih]
    by_cases h:a=t
    · subst h; simp
    · have h':¬ (Sum.inl a:Key)=Sum.inl t:=fun e=>h (Sum.inl.inj e)
      rw [if_neg h']
      have e:(t ∈ a :: l)=(t ∈ l):=by
        rw [List.mem_cons]
        exact propext ⟨fun z=>z.resolve_left (fun e=>h e.symm),.inr⟩
      simp only [e]
theorem zq4 (L:List Int) (f:Int→Int) (t y:Int):PM.putL (L.map .inl) (L.map fun b=>D.int (f b)) (.inl t) (.int y)=L.map fun b=>.int (if b=t then y else f b):=by
  induction L with
  | nil=>rfl
  | cons a l ih =>
    simp only [List.map_cons,PM.putL,ih]
    by_cases h:a=t
    · rw [if_pos (by rw [h]),if_pos h]
    · rw [if_neg (fun e=>h (Sum.inl.inj e)),if_neg h]
theorem putS (L:List Int) (f:Int→Int) (t y:Int):putD (L.map .inl) (L.map fun b=>D.int (f b)) (.inl t) (.int y)=encS (if t ∈ L then L else L ++ [t]) (fun b=>if b=t then y else f b):=by
  unfold putD
  rw [zqw]
  by_cases h:t ∈ L
  · rw [if_pos (by simpa using h),if_pos h,zq4]; rfl
  · rw [if_neg (by simpa using h),if_neg h]
    unfold encS
    have e:L.map (fun b=>D.int (f b))=L.map fun b=>D.int (if b=t then y else f b):=List.map_congr_left fun b hb=>by
      have nz:¬ b=t:=fun z=>by rw [z] at hb; exact h hb
      rw [if_neg nz]
    rw [e]; simp
theorem zl1 {ws P:List Int} (hl:ws.length ≤ 100) (hP:P.length ≤ ws.length):zbQ [iL ws,iL P] = .ok (encS (uniq P) (sumB (ws.zip P))):=by
  obtain ⟨W,eW⟩:∃ W,W=iL ws:=⟨_,rfl⟩
  obtain ⟨L,eL⟩:∃ L,L=iL P:=⟨_,rfl⟩
  obtain ⟨δ,h1,o3,o4,rfl⟩:=zew (b:=bTup 2 (zbR (zaw 3) (zbR (zaw 4) bNil))) (m:=zdd) (fun x:Int × Int=>D.tup [.int x.1,.int x.2]) (fun pre δ=>∃ o3 o4,δ = [.v W,.v L,.o (encS (uniq (pre.map (·.2))) (sumB pre)),sv o3,sv o4]) (ws.zip P)
    (by
      rintro pre ⟨w,b⟩ post δ hall ⟨o3,o4,rfl⟩
      have pl:pre.length ≤ 100:=by
        have:=congrArg List.length hall
        rw [List.length_zip,List.length_append] at this
        omega
      obtain ⟨U,eU⟩:∃ U,U=uniq (pre.map (·.2)):=⟨_,rfl⟩
      have ul:U.length ≤ 100:=by
        have:=zeX (pre.map (·.2))
        rw [List.length_map] at this
        rw [eU]; omega
      have um:b ∈ U ↔ b ∈ pre.map (·.2):=by rw [eU]; exact (zfu _).2 b
      have ea:uniq ((pre ++ [(w,b)]).map (·.2))=if b ∈ U then U else U ++ [b]:=by rw [List.map_append,eU]; exact zhN _ _
      have es:(fun c=>if c=b then sumB pre b + w else sumB pre c)=sumB (pre ++ [(w,b)]):=by
        funext c
        rw [zhA]
        by_cases z:c=b
        · subst z; rw [if_pos rfl,if_pos rfl]
        · rw [if_neg z,if_neg (Ne.symm z),Int.add_zero]
      have g0:((if b ∈ U then some (D.int (sumB pre b)) else none).getD (D.int 0)) = .int (sumB pre b):=by
        by_cases z:b ∈ U
        · rw [if_pos z]; rfl
        · rw [if_neg z,zl3 (fun v=>z (um.mpr v))]; rfl
      have gt:zmf (mRd 2) (mVar 4) (mC (.int 0)) [.v W,.v L,.o (encS U (sumB pre)),.v (.int w),.v (.int b)] = .ok (.int (sumB pre b)):=by
        show R.of (some (((getK (U.map .inl) (U.map fun c=>D.int (sumB pre c)) (.inl b))).getD (.int 0)))=_
        rw [getS,g0]; rfl
      have q:zdd [.v W,.v L,.o (encS U (sumB pre)),.v (.int w),.v (.int b)] = .nx [.v W,.v L,.o (encS (uniq ((pre ++ [(w,b)]).map (·.2))) (sumB (pre ++ [(w,b)]))),.v (.int w),.v (.int b)]:=by
        have z:m2 oAdd (zmf (mRd 2) (mVar 4) (mC (.int 0))) (mRd 3) [.v W,.v L,.o (encS U (sumB pre)),.v (.int w),.v (.int b)] = .ok (.int (sumB pre b + w)):=by simp [gt,mRd]
        unfold zdd znJ
        show R.toO (m2 oAdd (zmf (mRd 2) (mVar 4) (mC (.int 0))) (mRd 3) [.v W,.v L,.o (encS U (sumB pre)),.v (.int w),.v (.int b)]) _ _=_
        rw [z]
        show ifC ((U.map (Sum.inl:Int→Key)).length < sizeLine) (O.nx (List.set [.v W,.v L,.o (encS U (sumB pre)),.v (.int w),.v (.int b)] 2 (.o (putD (U.map .inl) (U.map fun c=>D.int (sumB pre c)) (.inl b) (.int (sumB pre b + w)))))) .no=_
        rw [zbn (by rw [List.length_map]; show U.length < 16777216; omega),putS,es,ea]
        rfl
      refine ⟨[.v W,.v L,.o (encS (uniq (pre.map (·.2))) (sumB pre)),.v (.int w),.v (.int b)],_,?_,.inl (by rw [← eU]; exact q),some (.int w),some (.int b),rfl⟩
      rcases o3 with _ | o3 <;> rcases o4 with _ | o4 <;> rfl)
    [.v W,.v L,.o (.dct [] []),.no,.no] ⟨none,none,rfl⟩
  rw [zld hP] at h1
  refine zdB ?_
  show mSeq _ _ [.v (iL ws),.v (iL P),.no,.no,.no]=_
  rw [← eW,← eL]
  have q1:mAsg (mC (.dct [] [])) (bNew 2) [.v W,.v L,.no,.no,.no] = .nx [.v W,.v L,.o (.dct [] []),.no,.no]:=zaI (d:=.dct [] []) rfl rfl
  have q2:zge [.v W,.v L,.o (.dct [] []),.no,.no] = .nx [.v W,.v L,.o (encS (uniq P) (sumB (ws.zip P))),sv o3,sv o4]:=by
    refine (zd6 ?_).trans h1
    rw [eW,eL]
    simp [mZip,zaa,mNil,mVar,zip1,asL',iL,zm3]
  exact (zaj q1).trans ((zaj q2).trans rfl)
def most (ws P:List Int):Int:=mxL (0 :: (uniq P).map (sumB (ws.zip P)))
theorem zoZ {ws P:List Int} (hp:∀ w ∈ ws,0 < w) (b:Int):0 ≤ sumB (ws.zip P) b:=zok fun x hx=>Int.le_of_lt (hp x.1 (List.of_mem_zip (List.mem_filter.mp hx).1).1)
theorem zlh {m:Nat} {ws P:List Int} (hm:0 < m) (hp:∀ w ∈ ws,0 < w) (hl:P.length ≤ ws.length) (hP:∀ b ∈ P,0 ≤ b∧b < (m:Int)):most ws P=hvy m ws P:=by
  have a:=zfK (S:=0 :: (uniq P).map (sumB (ws.zip P))) (by simp)
  have b:=zfK (zoC hm (f:=sumB (ws.zip P)))
  have h1:most ws P ≤ hvy m ws P:=by
    unfold most hvy
    rcases List.mem_cons.mp a.1 with e | e
    · rw [e]
      exact Int.le_trans (zoZ hp 0) (b.2 _ (List.mem_map.mpr ⟨0,mem_upt.mpr (by omega),rfl⟩))
    · obtain ⟨c,hc,ec⟩:=List.mem_map.mp e
      rw [← ec]
      exact b.2 _ (List.mem_map.mpr ⟨c,mem_upt.mpr (hP c (((zfu P).2 c).mp hc)),rfl⟩)
  have h2:hvy m ws P ≤ most ws P:=by
    unfold most hvy
    obtain ⟨c,hc,ec⟩:=List.mem_map.mp b.1
    rw [← ec]
    by_cases z:c ∈ P
    · exact a.2 _ (List.mem_cons_of_mem _ (List.mem_map.mpr ⟨c,((zfu P).2 c).mpr z,rfl⟩))
    · have:sumB (ws.zip P) c=0:=zl3 (by rw [zld hl]; exact z)
      rw [this]
      exact a.2 0 List.mem_cons_self
  omega
theorem zkb {ws P:List Int} (hl:P.length ≤ 100):zec maxI [iL (0 :: (uniq P).map (sumB (ws.zip P)))]=some (.int (most ws P)):=zj6 (by simp)
theorem vals_of {ws P:List Int}:zjy (encS (uniq P) (sumB (ws.zip P)))=some (iL ((uniq P).map (sumB (ws.zip P)))):=by
  simp [zjy,encS,iL]
theorem zoN {P:List Int} {f:Int→Int}:zkH (encS (uniq P) f)=some (iL (uniq P)):=by
  simp only [zkH,encS,iL,List.map_map]; rfl
theorem zmR {ws P:List Int} (hp:∀ w ∈ ws,0 < w∧w ≤ 1000000000000000000) (hl:ws.length ≤ 100):0 ≤ most ws P∧most ws P ≤ 100000000000000000000:=by
  have a:=zfK (S:=0 :: (uniq P).map (sumB (ws.zip P))) (by simp)
  refine ⟨a.2 0 List.mem_cons_self,?_⟩
  unfold most
  rcases List.mem_cons.mp a.1 with e | e
  · rw [e]; decide
  · obtain ⟨c,_,ec⟩:=List.mem_map.mp e
    rw [← ec]
    unfold sumB
    have s:=zop (f:=fun x:Int × Int=>x.1) (l:=(ws.zip P).filter fun x=>decide (x.2=c)) (c:=1000000000000000000) fun x hx=>(hp x.1 (List.of_mem_zip (List.mem_filter.mp hx).1).1).2
    have l1:=List.length_filter_le (fun x:Int × Int=>decide (x.2=c)) (ws.zip P)
    have l2:(ws.zip P).length ≤ 100:=by rw [List.length_zip]; omega
    have:((((ws.zip P).filter fun x=>decide (x.2=c)).length:Nat):Int) * 1000000000000000000 ≤ 100 * 1000000000000000000:=Int.mul_le_mul_of_nonneg_right (by omega) (by decide)
    omega
end My
namespace My
open PySem L2 PM
theorem zpk {x y:D} (hx:zbi 8 x=true) (hy:zbi 8 y=true) (h:x ≠ y):oEqD x y=some (.bl false):=by
  unfold oEqD
  rw [zbn ⟨hx,hy⟩]
  simp [h]
theorem zlU {a b:Int}:zgL [.int a,.int b]=some (.int (if a < b then b else a)):=rfl
theorem mx2 (a b:Int):mxL [a,b]=if b < a then a else b:=by
  have h:=zfK (S:=[a,b]) (by simp)
  have h1:=h.2 a (by simp)
  have h2:=h.2 b (by simp)
  have h3:=h.1
  simp only [List.mem_cons,List.not_mem_nil,or_false] at h3
  split <;> omega
theorem mx3 (a b c:Int):mxL [a,b,c]=if (if b < a then a else b) < c then c else (if b < a then a else b):=by
  have h:=zfK (S:=[a,b,c]) (by simp)
  have h1:=h.2 a (by simp)
  have h2:=h.2 b (by simp)
  have h4:=h.2 c (by simp)
  have h3:=h.1
  simp only [List.mem_cons,List.not_mem_nil,or_false] at h3
  (repeat' split) <;> omega
theorem zoc {ws:List Int} (hp:∀ w ∈ ws,0 < w∧w ≤ 1000000000000000000) (hl:ws.length ≤ 100):0 ≤ ws.sum∧ws.sum ≤ 100000000000000000000:=by
  have a:=zok (f:=id) (l:=ws) fun x hx=>Int.le_of_lt (hp x hx).1
  have b:=zop (f:=id) (l:=ws) (c:=1000000000000000000) fun x hx=>(hp x hx).2
  simp only [List.map_id] at a b
  have:(ws.length:Int) * 1000000000000000000 ≤ 100 * 1000000000000000000:=Int.mul_le_mul_of_nonneg_right (by omega) (by decide)
  omega
theorem zms {s m:Int} (hm:0 < m) (h0:0 ≤ s):0 ≤ cdiv s m∧cdiv s m ≤ s:=by
  have h1:=zpf (t:=s) hm
  refine ⟨Classical.byContradiction fun z=>?_,zpb hm ?_⟩
  · have:m * cdiv s m < 0:=Int.mul_neg_of_pos_of_neg hm (by omega)
    omega
  · have:1 * s ≤ m * s:=Int.mul_le_mul_of_nonneg_right (by omega) h0
    omega
theorem zgS {m:Nat} {ws:List Int} (hm:0 < m) (hm1:m ≤ 100) (hp:∀ w ∈ ws,0 < w∧w ≤ 1000000000000000000) (hl:ws.length < 64):∃ B:Int,(0 ≤ B∧B ≤ 1000000000000000000000)∧zbB [iL ws,.int m] = .ok (.int B)∧zaR [iL ws,.int m] = .ok (.int B):=by
  obtain ⟨W,eW⟩:∃ W,W=iL ws:=⟨_,rfl⟩
  have lW:fLen [W]=some (.int ws.length):=by rw [eW]; simp [iL]
  have sW:fSum [W]=some (.int ws.sum):=by rw [eW]; exact zlf ws
  have sb:=zoc hp (show ws.length ≤ 100 by omega)
  have mp:(0:Int) < m:=by omega
  have fm:Fit (m:Int):=fitN 1000 (by omega)
  have cb:=zms (s:=ws.sum) mp sb.1
  by_cases c:ws = []
  · refine ⟨0,by omega,zaW ?_,zaW ?_⟩
    · show mSeq _ _ [.v (iL ws),.v (.int m),.no,.no]=_
      rw [← eW]
      refine za5 ?_
      rw [za9 (by simp [zal,mRd,mC,mCB,zaa,mNil,lW,c])]; rfl
    · show mSeq _ _ [.v (iL ws),.v (.int m),.no,.no]=_
      rw [← eW]
      have eq:oEqD W (.lst [])=some (.bl true):=by rw [eW,c]; exact zo1 (zb0 []) (zb0 []) rfl
      refine za5 ?_
      rw [za9 (by simp [zal,mRd,mLst,mNil,sizeLine,eq])]; rfl
  · have np:0 < ws.length:=List.length_pos_iff.mpr c
    obtain ⟨fl,efl⟩:∃ fl,fl=zhR ws:=⟨_,rfl⟩
    have pm:fl.Perm ws:=by rw [efl]; exact zfh ws
    have fll:fl.length=ws.length:=pm.length_eq
    have gm:∀ k:Int,0 ≤ k→k < ws.length→0 < gA fl k∧gA fl k ≤ 1000000000000000000:=fun k k0 k1=>hp _ (pm.mem_iff.mp (List.mem_of_getElem? (zkt (by omega))))
    have so:∀ rest:En,ziz (zaa (mRd 0) mNil) (.v W :: rest) = .ok (iL fl):=fun rest=>by
      show R.of (zfE W)=_
      rw [eW,efl]
      show R.of (zfE (.lst (ws.map .int)))=_
      rw [zlv hl]; rfl
    have ix:∀ k:Int,0 ≤ k→k < ws.length→oIxL (iL fl) (.int k)=some (.int (gA fl k)):=fun k k0 k1=>zjL k0 (by omega)
    have i0:=ix 0 (by omega) (by omega)
    have g0:=gm 0 (by omega) (by omega)
    have rr:=zog (t:=ws.sum) mp (by omega)
    obtain ⟨a,ea⟩:∃ a,a=cdiv ws.sum m:=⟨_,rfl⟩
    rw [← ea] at rr cb
    have la:(0:Int) - (0 - ws.sum) / m=a:=by rw [ea]; unfold cdiv; rw [Int.zero_sub,Int.zero_sub]
    have ne:oEqD W (.lst [])=some (.bl false):=by
      rw [eW]
      refine zpk (zb0 ws) (zb0 []) fun z=>c ?_
      have:=congrArg (fun d=>match d with | D.lst l=>l.length | _=>0) z
      simpa [iL] using this
    have p0:mIfS (zal (m2 oEq (mCB fLen (zaa (mRd 0) mNil)) (mC (.int 0)))) (mRet (mC (.int 0))) zaM [.v W,.v (.int m),.no,.no] = .nx [.v W,.v (.int m),.no,.no]:=by
      rw [zaZ (by simp [zal,mRd,mC,mCB,zaa,mNil,lW,c])]; rfl
    have p1:mAsg (ziz (zaa (mRd 0) mNil)) (zaw 2) [.v W,.v (.int m),.no,.no] = .nx [.v W,.v (.int m),.v (iL fl),.no]:=zaI (so _) rfl
    have p2:mAsg (mLst (zaa (zak zba (zaa (zbS zcn (zaa (mCB fSum (zaa (mRd 0) mNil)) (zaa (mVar 1) mNil))) mNil)) (zaa (m2 oIxL (mRd 2) (mC (.int 0))) mNil))) (bNew 3) [.v W,.v (.int m),.v (iL fl),.no] = .nx [.v W,.v (.int m),.v (iL fl),.o (iL [a,gA fl 0])]:=by
      refine zaI (d:=iL [a,gA fl 0]) ?_ rfl
      cases q:zcn [.int ws.sum,.int m] with
      | ok d =>
        rw [q,R.bind_ok] at rr
        have z:mLst (zaa (zak zba (zaa (zbS zcn (zaa (mCB fSum (zaa (mRd 0) mNil)) (zaa (mVar 1) mNil))) mNil)) (zaa (m2 oIxL (mRd 2) (mC (.int 0))) mNil)) [.v W,.v (.int m),.v (iL fl),.no] = .ok (.lst [.int a,.int (gA fl 0)]):=by
          simp [mLst,zaa,mNil,zak,zbS,mCB,mRd,mVar,mC,sW,q,rr,i0,sizeLine]
        exact z
      | _=>rw [q] at rr; cases rr
    have l0:mIfS (zal (m2 oEqD (mRd 0) (mLst mNil))) (mRet (mC (.int 0))) zaM [.v W,.v (.int m),.no,.no] = .nx [.v W,.v (.int m),.no,.no]:=by
      rw [zaZ (by simp [zal,mRd,mLst,mNil,sizeLine,ne])]; rfl
    obtain ⟨b,eb⟩:∃ b,b=if gA fl 0 < a then a else gA fl 0:=⟨_,rfl⟩
    have l2:mAsg (mCB zgL (zaa (m2 oIxL (mRd 2) (mC (.int 0))) (zaa (m2 oSub (mC (.int 0)) (m2 oDiv (m2 oSub (mC (.int 0)) (mCB fSum (zaa (mRd 0) mNil))) (mRd 1))) mNil))) (zaw 3) [.v W,.v (.int m),.v (iL fl),.no] = .nx [.v W,.v (.int m),.v (iL fl),.v (.int b)]:=by
      refine zaI (d:=.int b) ?_ rfl
      have z:m2 oSub (mC (.int 0)) (m2 oDiv (m2 oSub (mC (.int 0)) (mCB fSum (zaa (mRd 0) mNil))) (mRd 1)) [.v W,.v (.int m),.v (iL fl),.no] = .ok (.int a):=by
        rw [← la]
        simp [mRd,mC,mCB,zaa,mNil,sW,zc0 mp fm]
      have z2:m2 oIxL (mRd 2) (mC (.int 0)) [.v W,.v (.int m),.v (iL fl),.no] = .ok (.int (gA fl 0)):=by simp [mRd,mC,i0]
      rw [eb]
      unfold mCB
      show R.bind (R.bind (m2 oIxL (mRd 2) (mC (.int 0)) [.v W,.v (.int m),.v (iL fl),.no]) fun x=>R.bind (R.bind (m2 oSub (mC (.int 0)) (m2 oDiv (m2 oSub (mC (.int 0)) (mCB fSum (zaa (mRd 0) mNil))) (mRd 1)) [.v W,.v (.int m),.v (iL fl),.no]) fun y=>.ok [y]) fun l=>.ok (x :: l)) _=_
      rw [z,z2]
      rfl
    have b2:mxL [a,gA fl 0]=b:=by rw [mx2,eb]
    by_cases d:(m:Int) < ws.length
    · have i1:=ix ((m:Int) - 1) (by omega) (by omega)
      have i2:=ix (m:Int) (by omega) d
      have g1:=gm ((m:Int) - 1) (by omega) (by omega)
      have g2:=gm (m:Int) (by omega) d
      obtain ⟨e,ee⟩:∃ e,e=gA fl ((m:Int) - 1) + gA fl m:=⟨_,rfl⟩
      have b3:mxL [a,gA fl 0,e]=if b < e then e else b:=by rw [mx3,eb]
      have m3:zec maxI [iL [a,gA fl 0,e]]=some (.int (if b < e then e else b)):=by rw [zj6 (by simp),b3]
      refine ⟨if b < e then e else b,by (repeat' split) <;> omega,zaW ?_,zaW ?_⟩
      · show mSeq _ _ [.v (iL ws),.v (.int m),.no,.no]=_
        rw [← eW]
        refine (zaj p0).trans ((zaj p1).trans ((zaj p2).trans ?_))
        have p3:mIfS (zal (m2 oGt (mCB fLen (zaa (mRd 0) mNil)) (mRd 1))) (zdk 3 (m2 oAdd (m2 oIxL (mRd 2) (m2 oSub (mRd 1) (mC (.int 1)))) (m2 oIxL (mRd 2) (mRd 1)))) zaM [.v W,.v (.int m),.v (iL fl),.o (iL [a,gA fl 0])] = .nx [.v W,.v (.int m),.v (iL fl),.o (iL [a,gA fl 0,e])]:=by
          rw [za9 (by simp [zal,mRd,mCB,zaa,mNil,lW]; omega)]
          have z:=zfk (i:=3) (me:=m2 oAdd (m2 oIxL (mRd 2) (m2 oSub (mRd 1) (mC (.int 1)))) (m2 oIxL (mRd 2) (mRd 1))) (δ:=[.v W,.v (.int m),.v (iL fl),.o (iL [a,gA fl 0])]) (L:=[a,gA fl 0]) (y:=e) rfl (by simp [mRd,mC,i1,i2,ee]) (by simp)
          exact z
        refine (zaj p3).trans ?_
        simp [mRet,mCB,zaa,mNil,mRd,m3]
      · show mSeq _ _ [.v (iL ws),.v (.int m),.no,.no]=_
        rw [← eW]
        refine (zaj l0).trans ((zaj p1).trans ((zaj l2).trans ?_))
        have l3:mIfS (zal (m2 oGt (mCB fLen (zaa (mRd 0) mNil)) (mRd 1))) (mAsg (mCB zgL (zaa (mRd 3) (zaa (m2 oAdd (m2 oIxL (mRd 2) (m2 oSub (mRd 1) (mC (.int 1)))) (m2 oIxL (mRd 2) (mRd 1))) mNil))) (zaw 3)) zaM [.v W,.v (.int m),.v (iL fl),.v (.int b)] = .nx [.v W,.v (.int m),.v (iL fl),.v (.int (if b < e then e else b))]:=by
          rw [za9 (by simp [zal,mRd,mCB,zaa,mNil,lW]; omega)]
          exact zaI (d:=.int (if b < e then e else b)) (by simp [mCB,zaa,mNil,mRd,mC,i1,i2,zlU,ee]) rfl
        exact (zaj l3).trans rfl
    · have m2':zec maxI [iL [a,gA fl 0]]=some (.int b):=by rw [zj6 (by simp),b2]
      refine ⟨b,by rw [eb]; split <;> omega,zaW ?_,zaW ?_⟩
      · show mSeq _ _ [.v (iL ws),.v (.int m),.no,.no]=_
        rw [← eW]
        refine (zaj p0).trans ((zaj p1).trans ((zaj p2).trans ?_))
        have p3:mIfS (zal (m2 oGt (mCB fLen (zaa (mRd 0) mNil)) (mRd 1))) (zdk 3 (m2 oAdd (m2 oIxL (mRd 2) (m2 oSub (mRd 1) (mC (.int 1)))) (m2 oIxL (mRd 2) (mRd 1)))) zaM [.v W,.v (.int m),.v (iL fl),.o (iL [a,gA fl 0])] = .nx [.v W,.v (.int m),.v (iL fl),.o (iL [a,gA fl 0])]:=by
          rw [zaZ (by simp [zal,mRd,mCB,zaa,mNil,lW]; omega)]; rfl
        refine (zaj p3).trans ?_
        simp [mRet,mCB,zaa,mNil,mRd,m2']
      · show mSeq _ _ [.v (iL ws),.v (.int m),.no,.no]=_
        rw [← eW]
        refine (zaj l0).trans ((zaj p1).trans ((zaj l2).trans ?_))
        have l3:mIfS (zal (m2 oGt (mCB fLen (zaa (mRd 0) mNil)) (mRd 1))) (mAsg (mCB zgL (zaa (mRd 3) (zaa (m2 oAdd (m2 oIxL (mRd 2) (m2 oSub (mRd 1) (mC (.int 1)))) (m2 oIxL (mRd 2) (mRd 1))) mNil))) (zaw 3)) zaM [.v W,.v (.int m),.v (iL fl),.v (.int b)] = .nx [.v W,.v (.int m),.v (iL fl),.v (.int b)]:=by
          rw [zaZ (by simp [zal,mRd,mCB,zaa,mNil,lW]; omega)]; rfl
        exact (zaj l3).trans rfl
end My
namespace My
open PySem L2 PM
open Classical in
def ziM (m:Nat) (ws P:List Int) (B bd:Int):D:=if P.length ≠ ws.length∨¬ (∀ b ∈ P,0 ≤ b∧b < (m:Int)) then .str "put" else if B < bd then .str "bound" else if bd * (3 * (m:Int) - 1) < most ws P * 2 * m then .str "share" else .non
theorem zns (m:Nat) (ws P:List Int) (B bd:Int):ziM m ws P B bd = .non∨∃ x,ziM m ws P B bd = .str x:=by
  unfold ziM
  (repeat' split) <;> first | exact .inl rfl | exact .inr ⟨_,rfl⟩
theorem zfY {m:Nat} {ws P:List Int} {B bd:Int} (hm:0 < m) (hm1:m ≤ 100) (hp:∀ w ∈ ws,0 < w∧w ≤ 1000000000000000000) (hl:ws.length < 64) (hP:P.length ≤ 100) (hb:zbB [iL ws,.int m] = .ok (.int B)) (fb:bd.natAbs ≤ 10000000000000000000000) :
    zbx [iL ws,.int m,iL P,.int bd] = .ok (ziM m ws P B bd):=by
  obtain ⟨W,eW⟩:∃ W,W=iL ws:=⟨_,rfl⟩
  obtain ⟨L,eL⟩:∃ L,L=iL P:=⟨_,rfl⟩
  have lW:fLen [W]=some (.int ws.length):=by rw [eW]; simp [iL]
  have lL:fLen [L]=some (.int P.length):=by rw [eL]; simp [iL]
  have ab:=zfC (l:=P) (c:=(m:Int)) (by omega)
  rw [← eL] at ab
  rw [← eW] at hb
  refine zaW ?_
  show mSeq _ _ [.v (iL ws),.v (.int m),.v (iL P),.v (.int bd)]=_
  rw [← eW,← eL]
  unfold ziM
  by_cases c0:P.length ≠ ws.length∨¬ (∀ b ∈ P,0 ≤ b∧b < (m:Int))
  · rw [if_pos c0]
    refine za5 ?_
    rw [za9]
    · rfl
    · rcases c0 with c0 | c0
      · simp [mOr,zal,mRd,mCB,zaa,mNil,lW,lL,show ¬ ((P.length:Int)=ws.length) by omega]
      · by_cases z:(P.length:Int)=ws.length
        · simp [mOr,mNot,zal,mRd,mVar,mCB,zak,zaa,mNil,lW,lL,z,ab,c0]
        · simp [mOr,zal,mRd,mCB,zaa,mNil,lW,lL,z]
  · rw [if_neg c0]
    have c1:P.length=ws.length:=Classical.byContradiction fun z=>c0 (.inl z)
    have c2:∀ b ∈ P,0 ≤ b∧b < (m:Int):=Classical.byContradiction fun z=>c0 (.inr z)
    have n0:mIfS (mOr (zal (m2 oNe (mCB fLen (zaa (mRd 2) mNil)) (mCB fLen (zaa (mRd 0) mNil)))) (mNot (zal (zak zbA (zaa (mVar 2) (zaa (mVar 1) mNil)))))) (mRet (mC (.str "put"))) zaM [.v W,.v (.int m),.v L,.v (.int bd)] = .nx [.v W,.v (.int m),.v L,.v (.int bd)]:=by
      rw [zaZ]
      · rfl
      · have e:decide (∀ b ∈ P,0 ≤ b∧b < (m:Int))=true:=decide_eq_true c2
        rw [e] at ab
        simp [mOr,mNot,zal,mRd,mVar,mCB,zak,zaa,mNil,lW,lL,c1,ab]
    refine (zaj n0).trans ?_
    by_cases c3:B < bd
    · rw [if_pos c3]
      refine za5 ?_
      rw [za9 (by simp [zal,mRd,mVar,zbS,zaa,mNil,hb,c3])]; rfl
    · rw [if_neg c3]
      have n1:mIfS (zal (m2 oGt (mRd 3) (zbS zbB (zaa (mVar 0) (zaa (mVar 1) mNil))))) (mRet (mC (.str "bound"))) zaM [.v W,.v (.int m),.v L,.v (.int bd)] = .nx [.v W,.v (.int m),.v L,.v (.int bd)]:=by
        rw [zaZ (by simp [zal,mRd,mVar,zbS,zaa,mNil,hb,c3])]; rfl
      refine (zaj n1).trans ?_
      have hv:=zgf (ws:=ws) (put:=P) hm hm1 c2
      rw [← zlh hm (fun w hw=>(hp w hw).1) (by omega) c2,← eW,← eL] at hv
      have mb:=zmR (P:=P) hp (show ws.length ≤ 100 by omega)
      have f1:Fit (most ws P):=fitN 100000000000000000000 (by omega)
      have f2:Fit (most ws P * 2):=fitN 1000000000000000000000 (by omega)
      have f3:Fit 2:=fitN 100 (by decide)
      have f4:Fit (m:Int):=fitN 100 (by omega)
      have f5:Fit 3:=fitN 100 (by decide)
      have f6:Fit bd:=fitN 10000000000000000000000 fb
      have f7:Fit (3 * (m:Int) - 1):=fitN 1000 (by omega)
      have t:zal (m2 oGt (m2 oMul (m2 oMul (zak zb7 (zaa (mVar 0) (zaa (mVar 1) (zaa (mVar 2) mNil)))) (mC (.int 2))) (mRd 1)) (m2 oMul (mRd 3) (m2 oSub (m2 oMul (mC (.int 3)) (mRd 1)) (mC (.int 1))))) [.v W,.v (.int m),.v L,.v (.int bd)] = .ok (decide (bd * (3 * (m:Int) - 1) < most ws P * 2 * m)):=by
        simp [zal,mRd,mVar,mC,zak,zaa,mNil,hv,zel,f1,f2,f3,f4,f5,f6,f7]
      by_cases c4:bd * (3 * (m:Int) - 1) < most ws P * 2 * m
      · rw [if_pos c4]
        refine za5 ?_
        rw [za9 (by rw [t,decide_eq_true c4])]; rfl
      · rw [if_neg c4]
        refine (zaj (zaZ (by rw [t,decide_eq_false c4]))).trans ?_
        rfl
theorem ziU {m:Nat} {ws P:List Int} {B bd:Int} (hm:0 < m) (hm1:m ≤ 100) (hp:∀ w ∈ ws,0 < w∧w ≤ 1000000000000000000) (hl:ws.length < 64) (hP:P.length ≤ 100) (hb:zaR [iL ws,.int m] = .ok (.int B)) (fb:bd.natAbs ≤ 10000000000000000000000) :
    zbE [iL ws,.int m,iL P,.int bd] = .ok (ziM m ws P B bd):=by
  obtain ⟨W,eW⟩:∃ W,W=iL ws:=⟨_,rfl⟩
  obtain ⟨L,eL⟩:∃ L,L=iL P:=⟨_,rfl⟩
  have lW:fLen [W]=some (.int ws.length):=by rw [eW]; simp [iL]
  have lL:fLen [L]=some (.int P.length):=by rw [eL]; simp [iL]
  rw [← eW] at hb
  refine zaW ?_
  show mSeq _ _ [.v (iL ws),.v (.int m),.v (iL P),.v (.int bd),.no]=_
  rw [← eW,← eL]
  obtain ⟨bad,ebad⟩:∃ bad,bad=P.filter fun x=>decide (x < 0∨(m:Int) ≤ x):=⟨_,rfl⟩
  have k1:zbg [.v W,.v (.int m),.v L,.v (.int bd),.no] = .ok (.lst (bad.map fun _=>.int 1)):=by
    rw [ebad]
    refine zdE (l:=P.map .int) (by rw [eL]; simp [mItL,mRd,iL]) (by rw [List.length_map]; omega) ?_
    refine zgt .int _ (fun _=>.int 1) _ fun x _=>?_
    by_cases z0:x < 0
    · simp [zeF,zbf,zhH,zbu,mOr,zal,mRd,mC,z0]
    · by_cases z1:(m:Int) ≤ x <;> simp [zeF,zbf,zhH,zbu,mOr,zal,mRd,mC,z0,z1]
  have lk:mCB fLen (zaa zbg mNil) [.v W,.v (.int m),.v L,.v (.int bd),.no] = .ok (.int bad.length):=by simp [mCB,zaa,mNil,k1]
  have bz:(∀ b ∈ P,0 ≤ b∧b < (m:Int)) ↔ bad.length=0:=by
    rw [ebad,List.length_eq_zero_iff,List.filter_eq_nil_iff]
    constructor
    · intro h x hx e
      have:=h x hx
      have e:=of_decide_eq_true e
      omega
    · intro h x hx
      have:=h x hx
      have:¬ (x < 0∨(m:Int) ≤ x):=fun z=>this (decide_eq_true z)
      omega
  unfold ziM
  by_cases c0:P.length ≠ ws.length∨¬ (∀ b ∈ P,0 ≤ b∧b < (m:Int))
  · rw [if_pos c0]
    refine za5 ?_
    rw [za9]
    · rfl
    · by_cases z:(P.length:Int)=ws.length
      · have nb:¬ bad.length=0:=fun e=>(c0.resolve_left (by omega)) (bz.mpr e)
        have tl:zal (m2 oGt (mCB fLen (zaa zbg mNil)) (mC (.int 0))) [.v W,.v (.int m),.v L,.v (.int bd),.no] = .ok true:=by
          have:(0:Int) < bad.length:=by omega
          simp only [zal,zf3,lk,mC,R.bind_ok,zqy,decide_eq_true this]; rfl
        have te:zal (m2 oNe (mCB fLen (zaa (mRd 2) mNil)) (mCB fLen (zaa (mRd 0) mNil))) [.v W,.v (.int m),.v L,.v (.int bd),.no] = .ok false:=by simp [zal,mRd,mCB,zaa,mNil,lW,lL,z]
        unfold mOr
        rw [te,tl]; rfl
      · simp [mOr,zal,mRd,mCB,zaa,mNil,lW,lL,z]
  · rw [if_neg c0]
    have c1:P.length=ws.length:=Classical.byContradiction fun z=>c0 (.inl z)
    have c2:∀ b ∈ P,0 ≤ b∧b < (m:Int):=Classical.byContradiction fun z=>c0 (.inr z)
    have b0:=bz.mp c2
    have n0:mIfS (mOr (zal (m2 oNe (mCB fLen (zaa (mRd 2) mNil)) (mCB fLen (zaa (mRd 0) mNil)))) (zal (m2 oGt (mCB fLen (zaa zbg mNil)) (mC (.int 0))))) (mRet (mC (.str "put"))) zaM [.v W,.v (.int m),.v L,.v (.int bd),.no] = .nx [.v W,.v (.int m),.v L,.v (.int bd),.no]:=by
      rw [zaZ]
      · rfl
      · have tl:zal (m2 oGt (mCB fLen (zaa zbg mNil)) (mC (.int 0))) [.v W,.v (.int m),.v L,.v (.int bd),.no] = .ok false:=by
          have:¬ (0:Int) < bad.length:=by omega
          simp only [zal,zf3,lk,mC,R.bind_ok,zqy,decide_eq_false this]; rfl
        have te:zal (m2 oNe (mCB fLen (zaa (mRd 2) mNil)) (mCB fLen (zaa (mRd 0) mNil))) [.v W,.v (.int m),.v L,.v (.int bd),.no] = .ok false:=by simp [zal,mRd,mCB,zaa,mNil,lW,lL,c1]
        unfold mOr
        rw [te,tl]; rfl
    refine (zaj n0).trans ?_
    by_cases c3:B < bd
    · rw [if_pos c3]
      refine za5 ?_
      rw [za9 (by simp [zal,mRd,mVar,zak,zaa,mNil,hb,c3])]; rfl
    · rw [if_neg c3]
      have n1:mIfS (zal (m2 oGt (mRd 3) (zak zaR (zaa (mVar 0) (zaa (mVar 1) mNil))))) (mRet (mC (.str "bound"))) zaM [.v W,.v (.int m),.v L,.v (.int bd),.no] = .nx [.v W,.v (.int m),.v L,.v (.int bd),.no]:=by
        rw [zaZ (by simp [zal,mRd,mVar,zak,zaa,mNil,hb,c3])]; rfl
      refine (zaj n1).trans ?_
      have sm:=zl1 (ws:=ws) (P:=P) (by omega) (by omega)
      rw [← eW,← eL] at sm
      have ul:=zeX P
      have cat:oCat (.lst [.int 0]) (iL ((uniq P).map (sumB (ws.zip P))))=some (iL (0 :: (uniq P).map (sumB (ws.zip P)))):=by
        refine (zkm (by rw [List.length_map,List.length_map]; simp; omega)).trans ?_
        simp [iL]
      have q4:mAsg (mCB (zec maxI) (zaa (m2 oCat (mLst (zaa (mC (.int 0)) mNil)) (zf7 zjy (zak zbQ (zaa (mVar 0) (zaa (mVar 2) mNil))))) mNil)) (zaw 4) [.v W,.v (.int m),.v L,.v (.int bd),.no] = .nx [.v W,.v (.int m),.v L,.v (.int bd),.v (.int (most ws P))] :=
        zaI (d:=.int (most ws P)) (by simp [mCB,zaa,mNil,mLst,mC,zf7,zak,mVar,sm,vals_of,cat,zkb hP,sizeLine]) rfl
      refine (zaj q4).trans ?_
      have mb:=zmR (P:=P) hp (show ws.length ≤ 100 by omega)
      have f1:Fit (most ws P):=fitN 100000000000000000000 (by omega)
      have f2:Fit (most ws P * 2):=fitN 1000000000000000000000 (by omega)
      have f3:Fit 2:=fitN 100 (by decide)
      have f4:Fit (m:Int):=fitN 100 (by omega)
      have f5:Fit 3:=fitN 100 (by decide)
      have f6:Fit bd:=fitN 10000000000000000000000 fb
      have f7:Fit (3 * (m:Int) - 1):=fitN 1000 (by omega)
      have t:zal (m2 oGt (m2 oMul (m2 oMul (mRd 4) (mC (.int 2))) (mRd 1)) (m2 oMul (mRd 3) (m2 oSub (m2 oMul (mC (.int 3)) (mRd 1)) (mC (.int 1))))) [.v W,.v (.int m),.v L,.v (.int bd),.v (.int (most ws P))] = .ok (decide (bd * (3 * (m:Int) - 1) < most ws P * 2 * m)):=by
        simp [zal,mRd,mC,zel,f1,f2,f3,f4,f5,f6,f7]
      by_cases c4:bd * (3 * (m:Int) - 1) < most ws P * 2 * m
      · rw [if_pos c4]
        refine za5 ?_
        rw [za9 (by rw [t,decide_eq_true c4])]; rfl
      · rw [if_neg c4]
        refine (zaj (zaZ (by rw [t,decide_eq_false c4]))).trans ?_
        rfl
end My
namespace My
open PySem L2 PM
def srt (l:List Int):List Int:=l.mergeSort fun a b=>decide (a ≤ b)
theorem zj9 (l:List Int):(srt l).Perm l:=List.mergeSort_perm ..
theorem zp6 (l:List Int):(srt l).Pairwise (fun a b=>a ≤ b):=by
  have:=List.pairwise_mergeSort (le:=fun a b:Int=>decide (a ≤ b)) (fun a b c h1 h2=>by simp at *; omega) (fun a b=>by simp; omega) l
  exact this.imp fun {a b} h=>by simpa using h
theorem zqf (n:Nat):(upt n).Pairwise (fun a b=>a ≤ b):=by
  unfold upt
  rw [List.pairwise_map]
  exact (List.pairwise_lt_range (n:=n)).imp fun {a b} h=>by omega
theorem zqQ {l:List Int} {n:Nat}:srt l=upt n ↔ l.Perm (upt n):=by
  constructor
  · intro h; exact (zj9 l).symm.trans (by rw [h])
  · intro h
    exact List.Perm.eq_of_pairwise (fun a b _ _ h1 h2=>by omega) (zp6 l) (zqf n) ((zj9 l).trans h)
def mxD:List Int→Int
  | []=>-1
  | a :: l=>mxL (a :: l)
theorem zqP (P:List Int):(∀ x ∈ P,x ≤ mxD P)∧(P ≠ []→mxD P ∈ P):=by
  cases P with
  | nil=>exact ⟨fun x hx=>(by cases hx),fun h=>absurd rfl h⟩
  | cons a l=>exact ⟨(zfK (S:=a :: l) (by simp)).2,fun _=>(zfK (S:=a :: l) (by simp)).1⟩
theorem zqd (P:List Int):zh7 [iL P] (.int (-1))=some (.int (mxD P)):=by
  cases P with
  | nil=>rfl
  | cons a l=>simp [zh7,iL,zb1,mxD,mxL]
theorem zhS {P:List Int} {n:Nat} (hl:P.length=n):((∀ b ∈ P,0 ≤ b∧b < (n:Int))∧((uniq P).length:Int)=mxD P + 1) ↔ srt (uniq P)=upt (uniq P).length:=by
  have un:=zfu P
  have mx:=zqP P
  rw [zqQ]
  constructor
  · rintro ⟨h1,h2⟩
    have hk:∀ c ∈ P,0 ≤ c∧c < (((uniq P).length:Nat):Int):=fun c hc=>by
      have:=mx.1 c hc
      have:=h1 c hc
      omega
    have ct:=zkW hk
    have al:∀ b ∈ upt (uniq P).length,decide (b ∈ P)=true:=by
      refine List.length_filter_eq_length_iff.mp ?_
      rw [← ct,zcZ]
    refine (List.perm_ext_iff_of_nodup un.1 (zin _)).mpr fun x=>?_
    rw [un.2]
    exact ⟨fun hx=>mem_upt.mpr (hk x hx),fun hx=>of_decide_eq_true (al x hx)⟩
  · intro h
    have hm:∀ x,x ∈ P ↔ 0 ≤ x∧x < (((uniq P).length:Nat):Int):=fun x=>by rw [← un.2,h.mem_iff,mem_upt]
    have ul:=zeX P
    refine ⟨fun b hb=>?_,?_⟩
    · have:=(hm b).mp hb
      omega
    · by_cases z:P = []
      · subst z; simp [uniq,mxD]
      · have m1:=(hm _).mp (mx.2 z)
        have k1:0 < (uniq P).length:=by omega
        have:=mx.1 ((((uniq P).length:Nat):Int) - 1) ((hm _).mpr (by omega))
        omega
open Classical in
def gd (ws P:List Int):Bool:=decide (P.length=ws.length∧srt (uniq P)=upt (uniq P).length)
theorem zlt {P:List Int} (h:P.length ≤ 100):zdK [iL P]=some (.int (uniq P).length):=by
  unfold zdK iL
  simp only [zb1,Option.bind]
  exact zbn (p:=P.length < 4000) (by omega)
theorem zkV {ws P:List Int} (hP:P.length ≤ 100):zbp [iL ws,iL P] = .ok (.bl (gd ws P)):=by
  obtain ⟨W,eW⟩:∃ W,W=iL ws:=⟨_,rfl⟩
  obtain ⟨L,eL⟩:∃ L,L=iL P:=⟨_,rfl⟩
  have lW:fLen [W]=some (.int ws.length):=by rw [eW]; simp [iL]
  have lL:fLen [L]=some (.int P.length):=by rw [eL]; simp [iL]
  have ab:=zfC (l:=P) (c:=(ws.length:Int)) (by omega)
  have ls:=zlt hP
  have md:=zqd P
  rw [← eL] at ab ls md
  refine zaW ?_
  show mSeq _ _ [.v (iL ws),.v (iL P)]=_
  rw [← eW,← eL]
  by_cases c0:P.length=ws.length∧∀ b ∈ P,0 ≤ b∧b < (ws.length:Int)
  · have n0:mIfS (mOr (zal (m2 oNe (mCB fLen (zaa (mRd 1) mNil)) (mCB fLen (zaa (mRd 0) mNil)))) (mNot (zal (zak zbA (zaa (mVar 1) (zaa (mCB fLen (zaa (mRd 0) mNil)) mNil)))))) (mRet (mC (.bl false))) zaM [.v W,.v L] = .nx [.v W,.v L]:=by
      rw [zaZ]
      · rfl
      · have e:decide (∀ b ∈ P,0 ≤ b∧b < (ws.length:Int))=true:=decide_eq_true c0.2
        rw [e] at ab
        simp [mOr,mNot,zal,mRd,mVar,mCB,zak,zaa,mNil,lW,lL,c0.1,ab]
    refine (zaj n0).trans ?_
    have e:gd ws P=decide (((uniq P).length:Int)=mxD P + 1):=by
      unfold gd
      refine decide_eq_decide.mpr ?_
      rw [← zhS c0.1]
      exact ⟨fun h=>h.2.2,fun h=>⟨c0.1,c0.2,h⟩⟩
    rw [e]
    simp [mRet,mCB,zaa,mNil,mRd,zk4,mC,ls,md]
  · have e:gd ws P=false:=by
      unfold gd
      refine decide_eq_false fun h=>c0 ⟨h.1,((zhS h.1).mpr h.2).1⟩
    rw [e]
    refine za5 ?_
    rw [za9]
    · rfl
    · by_cases z:(P.length:Int)=ws.length
      · have c1:¬ ∀ b ∈ P,0 ≤ b∧b < (ws.length:Int):=fun h=>c0 ⟨by omega,h⟩
        have e:decide (∀ b ∈ P,0 ≤ b∧b < (ws.length:Int))=false:=decide_eq_false c1
        rw [e] at ab
        simp [mOr,mNot,zal,mRd,mVar,mCB,zak,zaa,mNil,lW,lL,z,ab]
      · simp [mOr,zal,mRd,mCB,zaa,mNil,lW,lL,z]
theorem zo9 {r:Int} {ws P:List Int} (r0:0 ≤ r) (hl:ws.length < 64) (hp:∀ w ∈ ws,0 < w) (hg:gd ws P=true):zbC [iL ws,.int r,iL P] = .ok (.bl (decide (r < most ws P))):=by
  obtain ⟨g1,g2⟩:=of_decide_eq_true hg
  have g3:=((zhS g1).mpr g2).1
  obtain ⟨W,eW⟩:∃ W,W=iL ws:=⟨_,rfl⟩
  obtain ⟨L,eL⟩:∃ L,L=iL P:=⟨_,rfl⟩
  have lW:fLen [W]=some (.int ws.length):=by rw [eW]; simp [iL]
  refine zaW ?_
  show mRet _ [.v (iL ws),.v (.int r),.v (iL P)]=_
  rw [← eW,← eL]
  by_cases z:ws.length=0
  · have pe:P = []:=List.length_eq_zero_iff.mp (by omega)
    have m0:most ws P=0:=by rw [pe]; simp [most,uniq,mxL,maxI]
    rw [m0]
    simp [mRet,zi7,mRd,mC,mCB,zaa,mNil,lW,z]
    omega
  · have hv:=zgf (m:=ws.length) (ws:=ws) (put:=P) (by omega) (by omega) g3
    rw [← zlh (m:=ws.length) (by omega) hp (by omega) g3,← eW,← eL] at hv
    have zn:0 < ws.length:=by omega
    simp [mRet,zi7,mRd,mVar,mC,mCB,zak,zaa,mNil,lW,zn,hv]
theorem ziK {r:Int} {ws:List Int} (r0:0 < r) (r1:r ≤ 1000000000000000000) (hp:∀ w ∈ ws,0 < w∧w ≤ 1000000000000000000) (hw:∀ w ∈ ws,w ≤ r) (hl:ws.length < 64):∃ B:Int,(0 ≤ B∧B ≤ 1000000000000000000000)∧zb4 [iL ws,.int r] = .ok (.int B)∧zaY [iL ws,.int r] = .ok (.int B):=by
  obtain ⟨W,eW⟩:∃ W,W=iL ws:=⟨_,rfl⟩
  have sW:fSum [W]=some (.int ws.sum):=by rw [eW]; exact zlf ws
  have sb:=zoc hp (show ws.length ≤ 100 by omega)
  have fr:Fit r:=fitN 1000000000000000000 (by omega)
  have f2:Fit 2:=fitN 100 (by decide)
  have cb:=zms (s:=ws.sum) r0 sb.1
  have rr:=zog (t:=ws.sum) r0 r1
  obtain ⟨a,ea⟩:∃ a,a=cdiv ws.sum r:=⟨_,rfl⟩
  rw [← ea] at rr cb
  have la:(0:Int) - (0 - ws.sum) / r=a:=by rw [ea]; unfold cdiv; rw [Int.zero_sub,Int.zero_sub]
  obtain ⟨G,eG⟩:∃ G,G=ws.filter fun x=>decide (r < 2 * x):=⟨_,rfl⟩
  have Gl:G.length ≤ 100:=by
    have:=List.length_filter_le (fun x=>decide (r < 2 * x)) ws
    rw [eG]; omega
  have k1:∀ s:Sl,zet [.v W,.v (.int r),s] = .ok (iL G):=fun s=>by
    rw [eG]
    refine zdE (l:=ws.map .int) (by rw [eW]; simp [mItL,mRd,iL]) (by rw [List.length_map]; omega) ?_
    refine zgt .int _ .int _ fun x hx=>?_
    have fx:Fit x:=fitN 1000000000000000000 (by have:=hp x hx; omega)
    by_cases z:r < 2 * x <;> simp [zeF,zbf,zhH,zbu,zal,mRd,mVar,mC,zel f2 fx,z]
  have k2:∀ s:Sl,zcy [.v W,.v (.int r),s] = .ok (iL G):=fun s=>by
    rw [eG]
    refine zdE (l:=ws.map .int) (by rw [eW]; simp [mItL,mRd,iL]) (by rw [List.length_map]; omega) ?_
    refine zgt .int _ .int _ fun x hx=>?_
    have e:x + x=2 * x:=by omega
    by_cases z:r < 2 * x <;> simp [zeF,zbf,zhH,zbu,zal,mRd,mVar,e,z]
  have lG:fLen [iL G]=some (.int G.length):=by simp [iL]
  refine ⟨if a < G.length then G.length else a,by split <;> omega,zaW ?_,zaW ?_⟩
  · show mSeq _ _ [.v (iL ws),.v (.int r),.no]=_
    have q0:mDo (zbS zav (zaa (mVar 0) (zaa (mVar 1) mNil))) [.v (iL ws),.v (.int r),.no] = .nx [.v (iL ws),.v (.int r),.no]:=by simp [mDo,zbS,zaa,mNil,mVar,zgF hw]
    refine (zaj q0).trans ?_
    rw [← eW]
    have q1:mAsg zet (zaw 2) [.v W,.v (.int r),.no] = .nx [.v W,.v (.int r),.v (iL G)]:=zaI (k1 _) rfl
    refine (zaj q1).trans ?_
    cases q:zcn [.int ws.sum,.int r] with
    | ok d =>
      rw [q,R.bind_ok] at rr
      simp [mRet,mCB,zaa,mNil,zak,zbS,mRd,mVar,sW,q,rr,zlU]
    | _=>rw [q] at rr; cases rr
  · show mSeq _ _ [.v (iL ws),.v (.int r),.no]=_
    rw [← eW]
    have q1:mAsg (mCB fLen (zaa zcy mNil)) (zaw 2) [.v W,.v (.int r),.no] = .nx [.v W,.v (.int r),.v (.int G.length)]:=zaI (d:=.int G.length) (by simp [mCB,zaa,mNil,k2]) rfl
    refine (zaj q1).trans ?_
    have z:m2 oSub (mC (.int 0)) (m2 oDiv (m2 oSub (mC (.int 0)) (mCB fSum (zaa (mRd 0) mNil))) (mRd 1)) [.v W,.v (.int r),.v (.int G.length)] = .ok (.int a):=by
      rw [← la]
      simp [mRd,mC,mCB,zaa,mNil,sW,zc0 r0 fr]
    have e:(if (G.length:Int) < a then a else (G.length:Int))=if a < (G.length:Int) then (G.length:Int) else a:=by split <;> split <;> omega
    rw [← e]
    show R.toO (R.bind (R.bind (mRd 2 [.v W,.v (.int r),.v (.int G.length)]) fun x=>R.bind (R.bind (m2 oSub (mC (.int 0)) (m2 oDiv (m2 oSub (mC (.int 0)) (mCB fSum (zaa (mRd 0) mNil))) (mRd 1)) [.v W,.v (.int r),.v (.int G.length)]) fun y=>.ok [y]) fun l=>.ok (x :: l)) fun l=>R.of (zgL l)) _ _=_
    rw [z]
    rfl
end My
namespace My
open PySem L2 PM
theorem zqi {a b:List Int} (h:iL a=iL b):a=b:=by
  have e:=congrArg asIs (D.lst.inj h)
  rw [zb1,zb1] at e
  exact Option.some.inj e
def zhG (r:Int) (ws P:List Int) (B bd:Int):D:=if gd ws P=false then .str "put" else if r < most ws P then .str "full" else if B < bd then .str "bound" else if bd * 3 < ((uniq P).length:Int) * 2 then .str "share" else .non
theorem znO (r:Int) (ws P:List Int) (B bd:Int):zhG r ws P B bd = .non∨∃ x,zhG r ws P B bd = .str x:=by
  unfold zhG
  (repeat' split) <;> first | exact .inl rfl | exact .inr ⟨_,rfl⟩
theorem zhz {r:Int} {ws P:List Int} {B bd:Int} (r0:0 < r) (hp:∀ w ∈ ws,0 < w∧w ≤ 1000000000000000000) (hw:∀ w ∈ ws,w ≤ r) (hl:ws.length < 64) (hP:P.length ≤ 100) (hb:zb4 [iL ws,.int r] = .ok (.int B)) (fb:bd.natAbs ≤ 10000000000000000000000) :
    zaX [iL ws,.int r,iL P,.int bd] = .ok (zhG r ws P B bd):=by
  have pe:=zkV (ws:=ws) hP
  have ro:=zgF hw
  have ls:=zlt hP
  have fu:gd ws P=true→zbC [iL ws,.int r,iL P] = .ok (.bl (decide (r < most ws P))):=zo9 (by omega) hl fun w hw=>(hp w hw).1
  have ul:=zeX P
  generalize iL ws=W at *
  generalize iL P=L at *
  refine zaW ?_
  show mSeq _ _ [.v W,.v (.int r),.v L,.v (.int bd)]=_
  have q0:mDo (zbS zav (zaa (mVar 0) (zaa (mVar 1) mNil))) [.v W,.v (.int r),.v L,.v (.int bd)] = .nx [.v W,.v (.int r),.v L,.v (.int bd)]:=by simp [mDo,zbS,zaa,mNil,mVar,ro]
  refine (zaj q0).trans ?_
  unfold zhG
  by_cases c0:gd ws P=false
  · rw [if_pos c0]
    rw [c0] at pe
    refine za5 ?_
    rw [za9 (by simp [mNot,zal,zak,zaa,mNil,mVar,pe])]; rfl
  · rw [if_neg c0]
    have c1:gd ws P=true:=by simpa using c0
    have fe:=fu c1
    rw [c1] at pe
    have n0:mIfS (mNot (zal (zak zbp (zaa (mVar 0) (zaa (mVar 2) mNil))))) (mRet (mC (.str "put"))) zaM [.v W,.v (.int r),.v L,.v (.int bd)] = .nx [.v W,.v (.int r),.v L,.v (.int bd)]:=by
      rw [zaZ (by simp [mNot,zal,zak,zaa,mNil,mVar,pe])]; rfl
    refine (zaj n0).trans ?_
    by_cases c2:r < most ws P
    · rw [if_pos c2]
      refine za5 ?_
      rw [za9 (by simp [zal,zak,zaa,mNil,mVar,fe,c2])]; rfl
    · rw [if_neg c2]
      have n1:mIfS (zal (zak zbC (zaa (mVar 0) (zaa (mVar 1) (zaa (mVar 2) mNil))))) (mRet (mC (.str "full"))) zaM [.v W,.v (.int r),.v L,.v (.int bd)] = .nx [.v W,.v (.int r),.v L,.v (.int bd)]:=by
        rw [zaZ (by simp [zal,zak,zaa,mNil,mVar,fe,c2])]; rfl
      refine (zaj n1).trans ?_
      by_cases c3:B < bd
      · rw [if_pos c3]
        refine za5 ?_
        rw [za9 (by simp [zal,mRd,mVar,zbS,zaa,mNil,hb,c3])]; rfl
      · rw [if_neg c3]
        have n2:mIfS (zal (m2 oGt (mRd 3) (zbS zb4 (zaa (mVar 0) (zaa (mVar 1) mNil))))) (mRet (mC (.str "bound"))) zaM [.v W,.v (.int r),.v L,.v (.int bd)] = .nx [.v W,.v (.int r),.v L,.v (.int bd)]:=by
          rw [zaZ (by simp [zal,mRd,mVar,zbS,zaa,mNil,hb,c3])]; rfl
        refine (zaj n2).trans ?_
        have f1:Fit 2:=fitN 100 (by decide)
        have f2:Fit (((uniq P).length:Nat):Int):=fitN 1000 (by omega)
        have f3:Fit 3:=fitN 100 (by decide)
        have f4:Fit bd:=fitN 10000000000000000000000 fb
        have t:zal (m2 oGt (m2 oMul (mC (.int 2)) (mCB zdK (zaa (mRd 2) mNil))) (m2 oMul (mC (.int 3)) (mRd 3))) [.v W,.v (.int r),.v L,.v (.int bd)] = .ok (decide (bd * 3 < ((uniq P).length:Int) * 2)):=by
          have e:decide (3 * bd < 2 * ((uniq P).length:Int))=decide (bd * 3 < ((uniq P).length:Int) * 2):=decide_eq_decide.mpr (by omega)
          rw [← e]
          simp [zal,mRd,mC,mCB,zaa,mNil,ls,zel,f1,f2,f3,f4]
        by_cases c4:bd * 3 < ((uniq P).length:Int) * 2
        · rw [if_pos c4]
          refine za5 ?_
          rw [za9 (by rw [t,decide_eq_true c4])]; rfl
        · rw [if_neg c4]
          refine (zaj (zaZ (by rw [t,decide_eq_false c4]))).trans ?_
          rfl
theorem zkO {r:Int} {ws P:List Int} {B bd:Int} (hp:∀ w ∈ ws,0 < w∧w ≤ 1000000000000000000) (hl:ws.length < 64) (hP:P.length ≤ 100) (hb:zaY [iL ws,.int r] = .ok (.int B)) (fb:bd.natAbs ≤ 10000000000000000000000) :
    zbW [iL ws,.int r,iL P,.int bd] = .ok (zhG r ws P B bd):=by
  obtain ⟨W,eW⟩:∃ W,W=iL ws:=⟨_,rfl⟩
  obtain ⟨L,eL⟩:∃ L,L=iL P:=⟨_,rfl⟩
  have lW:fLen [W]=some (.int ws.length):=by rw [eW]; simp [iL]
  have lL:fLen [L]=some (.int P.length):=by rw [eL]; simp [iL]
  rw [← eW] at hb
  refine zaW ?_
  show mSeq _ _ [.v (iL ws),.v (.int r),.v (iL P),.v (.int bd),.no]=_
  rw [← eW,← eL]
  by_cases c0:P.length=ws.length
  case neg =>
    have g:gd ws P=false:=by unfold gd; exact decide_eq_false fun h=>c0 h.1
    unfold zhG
    rw [if_pos g]
    refine za5 ?_
    rw [za9 (by simp [zal,mRd,mCB,zaa,mNil,lW,lL,show ¬ ((P.length:Int)=ws.length) by omega])]; rfl
  case pos =>
    have n0:mIfS (zal (m2 oNe (mCB fLen (zaa (mRd 2) mNil)) (mCB fLen (zaa (mRd 0) mNil)))) (mRet (mC (.str "put"))) zaM [.v W,.v (.int r),.v L,.v (.int bd),.no] = .nx [.v W,.v (.int r),.v L,.v (.int bd),.no]:=by
      rw [zaZ (by simp [zal,mRd,mCB,zaa,mNil,lW,lL,c0])]; rfl
    refine (zaj n0).trans ?_
    have sm:=zl1 (ws:=ws) (P:=P) (by omega) (by omega)
    rw [← eW,← eL] at sm
    have ul:=zeX P
    have vo:=vals_of (ws:=ws) (P:=P)
    have ko:=zoN (P:=P) (f:=sumB (ws.zip P))
    have ld:zgZ [encS (uniq P) (sumB (ws.zip P))]=some (.int (uniq P).length):=by simp [encS,zgZ]
    obtain ⟨S,eS⟩:∃ S,S=encS (uniq P) (sumB (ws.zip P)):=⟨_,rfl⟩
    rw [← eS] at sm vo ko ld
    have q1:mAsg (zak zbQ (zaa (mVar 0) (zaa (mVar 2) mNil))) (zaw 4) [.v W,.v (.int r),.v L,.v (.int bd),.no] = .nx [.v W,.v (.int r),.v L,.v (.int bd),.v S]:=zaI (d:=S) (by simp [zak,zaa,mNil,mVar,sm]) rfl
    refine (zaj q1).trans ?_
    have so:zd9 [iL (uniq P)]=some (iL (srt (uniq P))):=by
      unfold zd9 iL
      simp only [zb1,Option.bind]
      exact zbn (p:=(uniq P).length < 64) (by omega)
    have lr:=zqJ (n:=(uniq P).length) (by omega)
    have rdS:mRd 4 [.v W,.v (.int r),.v L,.v (.int bd),.v S] = .ok S:=rfl
    have e1:mCB zd9 (zaa (zf7 zkH (mRd 4)) mNil) [.v W,.v (.int r),.v L,.v (.int bd),.v S] = .ok (iL (srt (uniq P))):=by
      simp only [mCB,zaa,mNil,zf7,rdS,R.bind_ok,ko,R.of_some,so]
    have e2:zmk (zaa (mCB zgZ (zaa (mRd 4) mNil)) mNil) [.v W,.v (.int r),.v L,.v (.int bd),.v S] = .ok (iL (upt (uniq P).length)):=by
      simp only [zmk,mCB,zaa,mNil,rdS,R.bind_ok,ld,R.of_some,lr]
    have t0:zal (m2 oNeD (mCB zd9 (zaa (zf7 zkH (mRd 4)) mNil)) (zmk (zaa (mCB zgZ (zaa (mRd 4) mNil)) mNil))) [.v W,.v (.int r),.v L,.v (.int bd),.v S] = .ok (!gd ws P):=by
      unfold zal
      rw [zf3,e1,e2]
      by_cases g:srt (uniq P)=upt (uniq P).length
      · have gg:gd ws P=true:=by unfold gd; exact decide_eq_true ⟨c0,g⟩
        have:oNeD (iL (srt (uniq P))) (iL (upt (uniq P).length))=some (.bl false):=zh2 (zb0 _) (zb0 _) (by rw [g])
        rw [gg]
        simp only [R.bind_ok,this]; rfl
      · have gg:gd ws P=false:=by unfold gd; exact decide_eq_false fun h=>g h.2
        have:oNeD (iL (srt (uniq P))) (iL (upt (uniq P).length))=some (.bl true):=zlO (zb0 _) (zb0 _) fun z=>g (zqi z)
        rw [gg]
        simp only [R.bind_ok,this]; rfl
    unfold zhG
    by_cases c1:gd ws P=false
    · rw [if_pos c1]
      rw [c1] at t0
      refine za5 ?_
      rw [za9 t0]; rfl
    · rw [if_neg c1]
      have c2:gd ws P=true:=by simpa using c1
      rw [c2] at t0
      refine (zaj ((zaZ t0).trans rfl)).trans ?_
      have cat:oCat (.lst [.int 0]) (iL ((uniq P).map (sumB (ws.zip P))))=some (iL (0 :: (uniq P).map (sumB (ws.zip P)))):=by
        refine (zkm (by rw [List.length_map,List.length_map]; simp; omega)).trans ?_
        simp [iL]
      have t1:zal (m2 oGt (mCB (zec maxI) (zaa (m2 oCat (mLst (zaa (mC (.int 0)) mNil)) (zf7 zjy (mRd 4))) mNil)) (mRd 1)) [.v W,.v (.int r),.v L,.v (.int bd),.v S] = .ok (decide (r < most ws P)):=by
        simp [zal,mCB,zaa,mNil,mLst,mC,zf7,mRd,vo,cat,zkb hP,sizeLine]
      by_cases c3:r < most ws P
      · rw [if_pos c3]
        rw [decide_eq_true c3] at t1
        refine za5 ?_
        rw [za9 t1]; rfl
      · rw [if_neg c3]
        rw [decide_eq_false c3] at t1
        refine (zaj ((zaZ t1).trans rfl)).trans ?_
        by_cases c4:B < bd
        · rw [if_pos c4]
          refine za5 ?_
          rw [za9 (by simp [zal,mRd,mVar,zak,zaa,mNil,hb,c4])]; rfl
        · rw [if_neg c4]
          have n2:mIfS (zal (m2 oGt (mRd 3) (zak zaY (zaa (mVar 0) (zaa (mVar 1) mNil))))) (mRet (mC (.str "bound"))) zaM [.v W,.v (.int r),.v L,.v (.int bd),.v S] = .nx [.v W,.v (.int r),.v L,.v (.int bd),.v S]:=by
            rw [zaZ (by simp [zal,mRd,mVar,zak,zaa,mNil,hb,c4])]; rfl
          refine (zaj n2).trans ?_
          have f1:Fit 2:=fitN 100 (by decide)
          have f2:Fit (((uniq P).length:Nat):Int):=fitN 1000 (by omega)
          have f3:Fit 3:=fitN 100 (by decide)
          have f4:Fit bd:=fitN 10000000000000000000000 fb
          have t:zal (m2 oGt (m2 oMul (mCB zgZ (zaa (mRd 4) mNil)) (mC (.int 2))) (m2 oMul (mRd 3) (mC (.int 3)))) [.v W,.v (.int r),.v L,.v (.int bd),.v S] = .ok (decide (bd * 3 < ((uniq P).length:Int) * 2)):=by
            simp [zal,mRd,mC,mCB,zaa,mNil,ld,zel,f1,f2,f3,f4]
          by_cases c5:bd * 3 < ((uniq P).length:Int) * 2
          · rw [if_pos c5]
            refine za5 ?_
            rw [za9 (by rw [t,decide_eq_true c5])]; rfl
          · rw [if_neg c5]
            refine (zaj (zaZ (by rw [t,decide_eq_false c5]))).trans ?_
            rfl
end My
namespace My
open PySem L2 PM
def num (c k:Int):Int:=(c % 100000000000000000000 + k * k + 1) * (48271 + 2 * k) % 2147483647
theorem zeq (c k:Int) (h0:0 ≤ k) (h1:k ≤ 1000):zaN [.int c,.int k] = .ok (.int (num c k)):=by
  have e1:=zdb c (show (0:Int) < 100000000000000000000 by decide)
  have e2:=zdg c (show (0:Int) < 100000000000000000000 by decide)
  have e3:0 ≤ k * k:=Int.mul_nonneg h0 h0
  have e4:k * k ≤ 1000 * 1000:=Int.mul_le_mul h1 h1 h0 (by decide)
  have f1:Fit k:=fitN 1000 (by omega)
  have f2:Fit 2:=fitN 1000 (by decide)
  have f3:Fit (c % 100000000000000000000 + k * k + 1):=fitN (10 ^ 21) (by omega)
  have f4:Fit (48271 + 2 * k):=fitN (10 ^ 21) (by omega)
  simp [zaN,runF,zcH,zd8,mRet,mRd,mC,p20,za7,zel,f1,f2,f3,f4,num]
theorem zlx (c k:Int):0 ≤ num c k:=zdb _ (by decide)
theorem zod (c k:Int):num c k < 2147483647:=zdg _ (by decide)
theorem zgv (c k:Int) (h0:0 ≤ k) (h1:k ≤ 1000):∃ a:Int,(0 ≤ a∧a ≤ 1000000000000000000)∧za2 [.int c,.int k] = .ok (.int a):=by
  have nm:=zeq c k h0 h1
  have n0:=zlx c k
  have n1:=zod c k
  obtain ⟨n,en⟩:∃ n,n=num c k:=⟨_,rfl⟩
  rw [← en] at nm n0 n1
  have f3:Fit 3:=fitN 10 (by decide)
  have e1:=zdb c (show (0:Int) < 100000000000000000000 by decide)
  have e2:=zdg c (show (0:Int) < 100000000000000000000 by decide)
  have fc:Fit (c % 100000000000000000000):=fitN (10 ^ 20) (by omega)
  have fm:Fit 6364136223846793005:=fitN (10 ^ 20) (by decide)
  have q1:mAsg (zak zaN (zaa (mVar 0) (zaa (mVar 1) mNil))) (zaw 2) [.v (.int c),.v (.int k),.no] = .nx [.v (.int c),.v (.int k),.v (.int n)]:=zaI (d:=.int n) (by simp [zak,zaa,mNil,mVar,nm]) rfl
  by_cases c1:n % 3=0
  · have a1:=zdb (n / 3) (show (0:Int) < 4 by decide)
    have a2:=zdg (n / 3) (show (0:Int) < 4 by decide)
    refine ⟨n / 3 % 4,⟨a1,by omega⟩,zaW ((zaj q1).trans (za5 ?_))⟩
    rw [za9 (by simp [zal,mRd,mC,za7,c1])]
    simp [mRet,mRd,mC,za7,zc0,f3]
  · have n1':mIfS (zal (m2 oEq (m2 oMod (mRd 2) (mC (.int 3))) (mC (.int 0)))) (mRet (m2 oMod (m2 oDiv (mRd 2) (mC (.int 3))) (mC (.int 4)))) zaM [.v (.int c),.v (.int k),.v (.int n)] = .nx [.v (.int c),.v (.int k),.v (.int n)]:=by
      rw [zaZ (by simp [zal,mRd,mC,za7,c1])]; rfl
    by_cases c2:n % 3=1
    · have a1:=zdb (n / 3) (show (0:Int) < 30 by decide)
      have a2:=zdg (n / 3) (show (0:Int) < 30 by decide)
      refine ⟨n / 3 % 30,⟨a1,by omega⟩,zaW ((zaj q1).trans ((zaj n1').trans (za5 ?_)))⟩
      rw [za9 (by simp [zal,mRd,mC,za7,c2])]
      simp [mRet,mRd,mC,za7,zc0,f3]
    · have n2':mIfS (zal (m2 oEq (m2 oMod (mRd 2) (mC (.int 3))) (mC (.int 1)))) (mRet (m2 oMod (m2 oDiv (mRd 2) (mC (.int 3))) (mC (.int 30)))) zaM [.v (.int c),.v (.int k),.v (.int n)] = .nx [.v (.int c),.v (.int k),.v (.int n)]:=by
        rw [zaZ (by simp [zal,mRd,mC,za7,c2])]; rfl
      have a1:=zdb (c % 100000000000000000000 * 6364136223846793005 + n) (show (0:Int) < 1000000000000000001 by decide)
      have a2:=zdg (c % 100000000000000000000 * 6364136223846793005 + n) (show (0:Int) < 1000000000000000001 by decide)
      refine ⟨_,⟨a1,by omega⟩,zaW ((zaj q1).trans ((zaj n1').trans ((zaj n2').trans ?_)))⟩
      simp [mRet,mRd,mC,za7,p20,p18,zel fc fm]
theorem zih (l:List Int):zbi 7 (iL l)=true:=by
  unfold iL
  simp [zbi]
end My
namespace My
open PySem L2 PM
theorem zrk {a b c d e f g h:Int} {i:Int} (h0:0 ≤ i) (h1:i < 8):∃ x,(x=a∨x=b∨x=c∨x=d∨x=e∨x=f∨x=g∨x=h)∧oIxL (.lst [.int a,.int b,.int c,.int d,.int e,.int f,.int g,.int h]) (.int i)=some (.int x):=by
  rcases (show i=0∨i=1∨i=2∨i=3∨i=4∨i=5∨i=6∨i=7 by omega) with z | z | z | z | z | z | z | z <;> subst z
  · exact ⟨a,by simp,rfl⟩
  · exact ⟨b,by simp,rfl⟩
  · exact ⟨c,by simp,rfl⟩
  · exact ⟨d,by simp,rfl⟩
  · exact ⟨e,by simp,rfl⟩
  · exact ⟨f,by simp,rfl⟩
  · exact ⟨g,by simp,rfl⟩
  · exact ⟨h,by simp,rfl⟩
theorem zdY {B n:Int} (B0:0 ≤ B) (B1:B ≤ 1000000000000000000000):∃ bd:Int,bd.natAbs ≤ 10000000000000000000000∧zaQ [.int B,.int n] = .ok (.int bd):=by
  obtain ⟨x,hx,ix⟩:=zrk (a:=B) (b:=B) (c:=B + 1) (d:=B - 1) (e:=2 * B / 3) (f:=-1 - n / 16 % 9) (g:=0) (h:=B / 2) (zdb n (show (0:Int) < 8 by decide)) (zdg n (show (0:Int) < 8 by decide))
  have f1:Fit 2:=fitN 100 (by decide)
  have f2:Fit 3:=fitN 100 (by decide)
  have f3:Fit 16:=fitN 100 (by decide)
  have f4:Fit B:=fitN 1000000000000000000000 (by omega)
  have a0:=zdb (n / 16) (show (0:Int) < 9 by decide)
  have a1:=zdg (n / 16) (show (0:Int) < 9 by decide)
  refine ⟨x,?_,zaW ?_⟩
  · rcases hx with h | h | h | h | h | h | h | h <;> subst h <;> omega
  · have ng:oNeg (.int 1)=some (.int (-1)):=rfl
    show mRet _ [.v (.int B),.v (.int n)]=_
    simp [mRet,mLst,zaa,mNil,mRd,mVar,mC,za7,zc0,zel,f1,f2,f3,f4,ng,sizeLine,ix]
theorem ze9 (a b:List Int):zbi 8 (.tup [iL a,iL b])=true:=by
  have h1:=zih a
  have h2:=zih b
  simp only [zbi,List.all_cons,List.all_nil,h1,h2,Bool.and_true]
theorem zkD {m:Nat} {ws:List Int} {x:Int} (hm:0 < m) (hm1:m ≤ 100) (hp:∀ w ∈ ws,0 < w∧w ≤ 1000000000000000000) (hl:ws.length < 64) (x0:0 ≤ x) (x1:x ≤ 10000000000):zbM [iL ws,.int m,.int x] = .ok (.bl true):=by
  obtain ⟨P0,l0,h0⟩:=zkF (m:=m) (ws:=ws) hm hm1 hl
  obtain ⟨A,lA,hA⟩:=zos (m:=m) (x:=x) (ws:=ws) (by omega) (by omega) x0 x1
  obtain ⟨B,⟨B0,B1⟩,hB,hB'⟩:=zgS hm hm1 hp hl
  have nm:=zeq x 6 (by decide) (by decide)
  obtain ⟨bd,fb,hbd⟩:=zdY (n:=num x 6) B0 B1
  obtain ⟨W,eW⟩:∃ W,W=iL ws:=⟨_,rfl⟩
  have f4:Fit 4:=fitN 100 (by decide)
  have q0:mAsg (zak za4 (zaa (mVar 0) (zaa (mVar 1) mNil))) (zaw 3) [.v W,.v (.int m),.v (.int x),.no,.no,.no,.no] = .nx [.v W,.v (.int m),.v (.int x),.v (iL P0),.no,.no,.no]:=zaI (d:=iL P0) (by simp [zak,zaa,mNil,mVar,eW,h0]) rfl
  obtain ⟨P1,l1,q1⟩:∃ P1:List Int,P1.length=ws.length∧mIfS (zal (m2 oEq (m2 oMod (mRd 2) (mC (.int 4))) (mC (.int 3)))) (mAsg (zak zb9 (zaa (mVar 0) (zaa (mVar 2) (zaa (mVar 1) mNil)))) (zaw 3)) zaM [.v W,.v (.int m),.v (.int x),.v (iL P0),.no,.no,.no] = .nx [.v W,.v (.int m),.v (.int x),.v (iL P1),.no,.no,.no]:=by
    by_cases c:x % 4=3
    · refine ⟨A,lA,?_⟩
      rw [za9 (by simp [zal,mRd,mC,za7,c])]
      exact zaI (d:=iL A) (by simp [zak,zaa,mNil,mVar,eW,hA]) rfl
    · refine ⟨P0,l0,?_⟩
      rw [zaZ (by simp [zal,mRd,mC,za7,c])]; rfl
  obtain ⟨P2,l2,h2⟩:=zg6 (m:=m) (x:=x / 4) (P:=P1) (by omega) (by omega)
  have q2:mAsg (zak za8 (zaa (mVar 3) (zaa (m2 oDiv (mRd 2) (mC (.int 4))) (zaa (mVar 1) mNil)))) (zaw 3) [.v W,.v (.int m),.v (.int x),.v (iL P1),.no,.no,.no] = .nx [.v W,.v (.int m),.v (.int x),.v (iL P2),.no,.no,.no]:=zaI (d:=iL P2) (by simp [zak,zaa,mNil,mVar,mRd,mC,zc0,f4,h2]) rfl
  have q3:mAsg (zak zaQ (zaa (zak zaR (zaa (mVar 0) (zaa (mVar 1) mNil))) (zaa (zak zaN (zaa (mVar 2) (zaa (mC (.int 6)) mNil))) mNil))) (zaw 4) [.v W,.v (.int m),.v (.int x),.v (iL P2),.no,.no,.no] = .nx [.v W,.v (.int m),.v (.int x),.v (iL P2),.v (.int bd),.no,.no]:=zaI (d:=.int bd) (by simp [zak,zaa,mNil,mVar,mC,eW,hB',nm,hbd]) rfl
  have cb:=zfY (P:=P2) hm hm1 hp hl (by omega) hB fb
  have lb:=ziU (P:=P2) hm hm1 hp hl (by omega) hB' fb
  have sm:=zl8 _ (zns m ws P2 B bd)
  have ne:oNeD (.tup [iL ws,iL P2]) (.tup [iL ws,iL P2])=some (.bl false):=zh2 (ze9 _ _) (ze9 _ _) rfl
  rw [← eW] at cb lb ne
  generalize ziM m ws P2 B bd=w at cb lb sm
  obtain ⟨L,eL⟩:∃ L,L=iL P2:=⟨_,rfl⟩
  have fl:zeP [W]=some W:=by rw [eW]; rfl
  have fL:zeP [L]=some L:=by rw [eL]; rfl
  refine zaW ?_
  show mSeq _ _ [.v (iL ws),.v (.int m),.v (.int x),.no,.no,.no,.no]=_
  rw [← eW]
  refine (zaj q0).trans ((zaj q1).trans ((zaj q2).trans ((zaj q3).trans ?_)))
  rw [← eL] at cb lb ne ⊢
  have q4:mAsg (mTup (zaa (mCB zeP (zaa (mRd 0) mNil)) (zaa (mCB zeP (zaa (mRd 3) mNil)) mNil))) (zaw 5) [.v W,.v (.int m),.v (.int x),.v L,.v (.int bd),.no,.no] = .nx [.v W,.v (.int m),.v (.int x),.v L,.v (.int bd),.v (.tup [W,L]),.no]:=zaI (d:=.tup [W,L]) (by simp [mTup,mCB,zaa,mNil,mRd,sizeLine,fl,fL]) rfl
  have q5:mAsg (zak zbx (zaa (m2 oIxT (mRd 5) (mC (.int 0))) (zaa (mVar 1) (zaa (m2 oIxT (mRd 5) (mC (.int 1))) (zaa (mVar 4) mNil))))) (zaw 6) [.v W,.v (.int m),.v (.int x),.v L,.v (.int bd),.v (.tup [W,L]),.no] = .nx [.v W,.v (.int m),.v (.int x),.v L,.v (.int bd),.v (.tup [W,L]),.v w]:=zaI (d:=w) (by simp [zak,zaa,mNil,mVar,mRd,mC,cb]) rfl
  have q6:mIfS (zal (m2 oNeD (mRd 5) (mTup (zaa (mVar 0) (zaa (mVar 3) mNil))))) (mRet (mC (.bl false))) zaM [.v W,.v (.int m),.v (.int x),.v L,.v (.int bd),.v (.tup [W,L]),.v w] = .nx [.v W,.v (.int m),.v (.int x),.v L,.v (.int bd),.v (.tup [W,L]),.v w]:=by
    rw [zaZ (by simp [zal,mTup,zaa,mNil,mRd,mVar,sizeLine,ne])]; rfl
  refine (zaj q4).trans ((zaj q5).trans ((zaj q6).trans ?_))
  simp [mRet,zak,zaa,mNil,mVar,lb,sm]
theorem zpF {r:Int} {ws:List Int} {x:Int} (r0:0 < r) (r1:r ≤ 1000000000000000000) (hp:∀ w ∈ ws,0 < w∧w ≤ 1000000000000000000) (hw:∀ w ∈ ws,w ≤ r) (hl:ws.length < 64) (x0:0 ≤ x) (x1:x ≤ 10000000000):zcO [iL ws,.int r,.int x] = .ok (.bl true):=by
  obtain ⟨P0,l0,h0⟩:=zjG (r:=r) (ws:=ws) hl hw
  obtain ⟨A,lA,hA⟩:=zos (m:=1 + (ws.length:Int)) (x:=x) (ws:=ws) (by omega) (by omega) x0 x1
  obtain ⟨B,⟨B0,B1⟩,hB,hB'⟩:=ziK r0 r1 hp hw hl
  have nm:=zeq x 6 (by decide) (by decide)
  obtain ⟨bd,fb,hbd⟩:=zdY (n:=num x 6) B0 B1
  obtain ⟨W,eW⟩:∃ W,W=iL ws:=⟨_,rfl⟩
  have lW:fLen [W]=some (.int ws.length):=by rw [eW]; simp [iL]
  have f4:Fit 4:=fitN 100 (by decide)
  have q0:mAsg (zak zbq (zaa (mVar 0) (zaa (mVar 1) mNil))) (zaw 3) [.v W,.v (.int r),.v (.int x),.no,.no,.no,.no] = .nx [.v W,.v (.int r),.v (.int x),.v (iL P0),.no,.no,.no]:=zaI (d:=iL P0) (by simp [zak,zaa,mNil,mVar,eW,h0]) rfl
  obtain ⟨P1,l1,q1⟩:∃ P1:List Int,P1.length=ws.length∧mIfS (zal (m2 oEq (m2 oMod (mRd 2) (mC (.int 4))) (mC (.int 3)))) (mAsg (zak zb9 (zaa (mVar 0) (zaa (mVar 2) (zaa (m2 oAdd (mC (.int 1)) (mCB fLen (zaa (mRd 0) mNil))) mNil)))) (zaw 3)) zaM [.v W,.v (.int r),.v (.int x),.v (iL P0),.no,.no,.no] = .nx [.v W,.v (.int r),.v (.int x),.v (iL P1),.no,.no,.no]:=by
    by_cases c:x % 4=3
    · refine ⟨A,lA,?_⟩
      rw [← eW] at hA
      rw [za9 (by simp [zal,mRd,mC,za7,c])]
      exact zaI (d:=iL A) (by simp [zak,zaa,mNil,mVar,mCB,mRd,mC,lW,hA]) rfl
    · refine ⟨P0,l0,?_⟩
      rw [zaZ (by simp [zal,mRd,mC,za7,c])]; rfl
  obtain ⟨P2,l2,h2⟩:=zg6 (m:=(P1.length:Int)) (x:=x / 4) (P:=P1) (by omega) (by omega)
  have lP:fLen [iL P1]=some (.int P1.length):=by simp [iL]
  have q2:mAsg (zak za8 (zaa (mVar 3) (zaa (m2 oDiv (mRd 2) (mC (.int 4))) (zaa (mCB fLen (zaa (mRd 3) mNil)) mNil)))) (zaw 3) [.v W,.v (.int r),.v (.int x),.v (iL P1),.no,.no,.no] = .nx [.v W,.v (.int r),.v (.int x),.v (iL P2),.no,.no,.no]:=by
    refine zaI (d:=iL P2) ?_ rfl
    generalize iL P1=Z at lP h2 ⊢
    simp [zak,zaa,mNil,mVar,mCB,mRd,mC,zc0,f4,lP,h2]
  have q3:mAsg (zak zaQ (zaa (zak zaY (zaa (mVar 0) (zaa (mVar 1) mNil))) (zaa (zak zaN (zaa (mVar 2) (zaa (mC (.int 6)) mNil))) mNil))) (zaw 4) [.v W,.v (.int r),.v (.int x),.v (iL P2),.no,.no,.no] = .nx [.v W,.v (.int r),.v (.int x),.v (iL P2),.v (.int bd),.no,.no]:=zaI (d:=.int bd) (by simp [zak,zaa,mNil,mVar,mC,eW,hB',nm,hbd]) rfl
  have cb:=zhz (P:=P2) r0 hp hw hl (by omega) hB fb
  have lb:=zkO (P:=P2) hp hl (by omega) hB' fb
  have sm:=zl8 _ (znO r ws P2 B bd)
  have ne:oNeD (.tup [iL ws,iL P2]) (.tup [iL ws,iL P2])=some (.bl false):=zh2 (ze9 _ _) (ze9 _ _) rfl
  rw [← eW] at cb lb ne
  generalize zhG r ws P2 B bd=w at cb lb sm
  obtain ⟨L,eL⟩:∃ L,L=iL P2:=⟨_,rfl⟩
  have fl:zeP [W]=some W:=by rw [eW]; rfl
  have fL:zeP [L]=some L:=by rw [eL]; rfl
  refine zaW ?_
  show mSeq _ _ [.v (iL ws),.v (.int r),.v (.int x),.no,.no,.no,.no]=_
  rw [← eW]
  refine (zaj q0).trans ((zaj q1).trans ((zaj q2).trans ((zaj q3).trans ?_)))
  rw [← eL] at cb lb ne ⊢
  have q4:mAsg (mTup (zaa (mCB zeP (zaa (mRd 0) mNil)) (zaa (mCB zeP (zaa (mRd 3) mNil)) mNil))) (zaw 5) [.v W,.v (.int r),.v (.int x),.v L,.v (.int bd),.no,.no] = .nx [.v W,.v (.int r),.v (.int x),.v L,.v (.int bd),.v (.tup [W,L]),.no]:=zaI (d:=.tup [W,L]) (by simp [mTup,mCB,zaa,mNil,mRd,sizeLine,fl,fL]) rfl
  have q5:mAsg (zak zaX (zaa (m2 oIxT (mRd 5) (mC (.int 0))) (zaa (mVar 1) (zaa (m2 oIxT (mRd 5) (mC (.int 1))) (zaa (mVar 4) mNil))))) (zaw 6) [.v W,.v (.int r),.v (.int x),.v L,.v (.int bd),.v (.tup [W,L]),.no] = .nx [.v W,.v (.int r),.v (.int x),.v L,.v (.int bd),.v (.tup [W,L]),.v w]:=zaI (d:=w) (by simp [zak,zaa,mNil,mVar,mRd,mC,cb]) rfl
  have q6:mIfS (zal (m2 oNeD (mRd 5) (mTup (zaa (mVar 0) (zaa (mVar 3) mNil))))) (mRet (mC (.bl false))) zaM [.v W,.v (.int r),.v (.int x),.v L,.v (.int bd),.v (.tup [W,L]),.v w] = .nx [.v W,.v (.int r),.v (.int x),.v L,.v (.int bd),.v (.tup [W,L]),.v w]:=by
    rw [zaZ (by simp [zal,mTup,zaa,mNil,mRd,mVar,sizeLine,ne])]; rfl
  refine (zaj q4).trans ((zaj q5).trans ((zaj q6).trans ?_))
  simp [mRet,zak,zaa,mNil,mVar,lb,sm]
end My
namespace My
open PySem L2 PM
theorem zpy (k:Nat):zhW zcK (.exc (5 + 16 * (k + 1)))=some (.int (k:Int)):=by
  have e1:(5 + 16 * (k + 1)) % 16=5:=by omega
  have e2:(5 + 16 * (k + 1)) / 16=k + 1:=by omega
  have a:zcK (5 + 16 * (k + 1))=true:=by unfold zcK; rw [e1]; rfl
  simp only [zhW,a,e2]
  simp
  omega
theorem zj7 {vs:List Int} {r:Int} {X Y:D} {x:Xc} (rx:zav [iL vs,.int r] = .ex x):zaX [iL vs,.int r,X,Y] = .ex x:=by
  generalize iL vs=V at rx
  refine zmC (δ:=[.v V,.v (.int r),.v X,.v Y]) ?_
  show mSeq _ _ [.v V,.v (.int r),.v X,.v Y]=_
  have d:mDo (zbS zav (zaa (mVar 0) (zaa (mVar 1) mNil))) [.v V,.v (.int r),.v X,.v Y] = .ex [.v V,.v (.int r),.v X,.v Y] x:=by
    simp [mDo,zbS,zaa,mNil,mVar,rx,R.toO]
  unfold mSeq
  rw [d]
theorem zmG {vs:List Int} {r:Int} {t:Nat} (rx:zav [iL vs,.int r] = .ex ⟨5 + 16 * (t + 1)⟩):za1 [iL vs,.int r] = .ok (.bl true):=by
  have cx:=fun X Y=>zj7 (X:=X) (Y:=Y) rx
  generalize iL vs=V at cx
  refine zaW ?_
  show mSeq _ _ [.v V,.v (.int r)]=_
  refine za5 ?_
  have sb:zch (5 + 16 * (t + 1))=true:=by
    have e1:(5 + 16 * (t + 1)) % 16=5:=by omega
    unfold zch; rw [e1]; rfl
  have d:mDo (zbS zaX (zaa (mVar 0) (zaa (mVar 1) (zaa (mLst mNil) (zaa (mC (.int 0)) mNil))))) [.v V,.v (.int r)] = .ex [.v V,.v (.int r)] ⟨5 + 16 * (t + 1)⟩:=by
    simp [mDo,zbS,zaa,mNil,mVar,mC,mLst,sizeLine,cx,R.toO]
  unfold znt
  rw [d]
  dsimp only
  rw [if_pos sb]
  rfl
theorem zkZ {vs:List Int} {r:Int} {t:Nat} {Z:D} (rx:zav [iL vs,.int r] = .ex ⟨5 + 16 * (t + 1)⟩):zbP [iL vs,.int r,.int t,Z] = .ok (.bl true):=by
  have cx:=fun X Y=>zj7 (X:=X) (Y:=Y) rx
  generalize iL vs=V at cx
  refine zaW ?_
  show mSeq _ _ [.v V,.v (.int r),.v (.int t),.v Z,.no,.no]=_
  have e1:(5 + 16 * (t + 1)) % 16=5:=by omega
  have sb:zdo (5 + 16 * (t + 1))=true:=by
    unfold zdo; rw [e1]; rfl
  have q0:mAsg (mC .non) (zaw 4) [.v V,.v (.int r),.v (.int t),.v Z,.no,.no] = .nx [.v V,.v (.int r),.v (.int t),.v Z,.v .non,.no]:=zaI (d:=.non) rfl rfl
  have q1:mTry (mDo (zbS zaX (zaa (mVar 0) (zaa (mVar 1) (zaa (mVar 3) (zaa (mC (.int 1)) mNil)))))) zdo 5 (mAsg (mVar 5) (zaw 4)) [.v V,.v (.int r),.v (.int t),.v Z,.v .non,.no] = .nx [.v V,.v (.int r),.v (.int t),.v Z,.v (.exc (5 + 16 * (t + 1))),.no]:=by
    have d:mDo (zbS zaX (zaa (mVar 0) (zaa (mVar 1) (zaa (mVar 3) (zaa (mC (.int 1)) mNil))))) [.v V,.v (.int r),.v (.int t),.v Z,.v .non,.no] = .ex [.v V,.v (.int r),.v (.int t),.v Z,.v .non,.no] ⟨5 + 16 * (t + 1)⟩:=by
      simp [mDo,zbS,zaa,mNil,mVar,mC,cx,R.toO]
    unfold mTry
    rw [d]
    dsimp only
    rw [if_pos sb]
    rfl
  refine (zaj q0).trans ((zaj q1).trans ?_)
  have t1:zcv zbY (.exc (5 + 16 * (t + 1)))=some (.bl true):=by simp only [zcv,zbY,e1]; rfl
  have t2:zcv zc2 (.exc (5 + 16 * (t + 1)))=some (.bl false):=by simp only [zcv,zc2,e1]; rfl
  have t3:zcv zcU (.exc (5 + 16 * (t + 1)))=some (.bl false):=by simp only [zcv,zcU,e1]; rfl
  have t4:zcv zc7 (.exc (5 + 16 * (t + 1)))=some (.bl false):=by simp only [zcv,zc7,e1]; rfl
  have t5:zcv zcf (.exc (5 + 16 * (t + 1)))=some (.bl false):=by simp only [zcv,zcf,e1]; rfl
  have t6:zcv zdw (.exc (5 + 16 * (t + 1)))=some (.bl false):=by simp only [zcv,zdw,e1]; rfl
  have oa:=zpy t
  generalize 5 + 16 * (t + 1)=X at t1 t2 t3 t4 t5 t6 oa ⊢
  have nn:isN (.exc X)=false:=rfl
  have i1:oIsi "int" (.int (t:Int))=some (.bl true):=rfl
  have i2:oIsi "bool" (.int (t:Int))=some (.bl false):=rfl
  have n1:mIfS (mOr (zal (m2 oIs (mRd 4) (mC .non))) (mOr (mNot (zal (m1 (zcv zbY) (mRd 4)))) (zal (m1 (zcv zc2) (mRd 4))))) (mRet (mC (.bl false))) zaM [.v V,.v (.int r),.v (.int t),.v Z,.v (.exc X),.no] = .nx [.v V,.v (.int r),.v (.int t),.v Z,.v (.exc X),.no]:=by
    simp [mIfS,mOr,mNot,zal,mRd,mC,nn,t1,t2,zaM]
  have n2:mIfS (mOr (zal (m1 (zcv zcU) (mRd 4))) (mOr (zal (m1 (zcv zc7) (mRd 4))) (zal (m1 (zcv zcf) (mRd 4))))) (mRet (mC (.bl false))) zaM [.v V,.v (.int r),.v (.int t),.v Z,.v (.exc X),.no] = .nx [.v V,.v (.int r),.v (.int t),.v Z,.v (.exc X),.no]:=by
    simp [mIfS,mOr,zal,mRd,t3,t4,t5,zaM]
  have n3:mIfS (mOr (zal (m1 (zcv zdw) (mRd 4))) (mOr (mNot (zal (m1 (oIsi "int") (m1 (zhW zcK) (mRd 4))))) (zal (m1 (oIsi "bool") (m1 (zhW zcK) (mRd 4)))))) (mRet (mC (.bl false))) zaM [.v V,.v (.int r),.v (.int t),.v Z,.v (.exc X),.no] = .nx [.v V,.v (.int r),.v (.int t),.v Z,.v (.exc X),.no]:=by
    simp [mIfS,mOr,mNot,zal,mRd,t6,oa,i1,i2,zaM]
  refine (zaj n1).trans ((zaj n2).trans ((zaj n3).trans ?_))
  simp [mRet,mRd,oa]
theorem zqT {A B:List Int} (h:A.length + B.length ≤ 100000):oCat (iL A) (iL B)=some (iL (A ++ B)):=by
  refine (zkm (by rw [List.length_map,List.length_map]; omega)).trans ?_
  simp [iL]
theorem zpv {ma mb:En→R D} {δ:En} {a b:List Int} (h1:ma δ = .ok (iL a)) (h2:mb δ = .ok (iL b)) (hl:a.length + b.length ≤ 100000):m2 oCat ma mb δ = .ok (iL (a ++ b)):=by
  rw [zf3,h1,h2]
  simp only [R.bind_ok,zqT hl]; rfl
theorem zil {ws:List Int} {r x:Int} (hw:∀ w ∈ ws,w ≤ r) (hl:ws.length < 64) (x0:0 ≤ x):zbv [iL ws,.int r,.int x] = .ok (.bl true):=by
  refine zaW ?_
  show mSeq _ _ [.v (iL ws),.v (.int r),.v (.int x),.no,.no,.no]=_
  by_cases c:r=1000000000000000000
  · refine za5 ?_
    rw [za9 (by simp [zal,mRd,mC,p18,c])]; rfl
  · obtain ⟨W,eW⟩:∃ W,W=iL ws:=⟨_,rfl⟩
    have lW:fLen [W]=some (.int ws.length):=by rw [eW]; simp [iL]
    obtain ⟨t,ht,et⟩:∃ t:Nat,t ≤ ws.length∧x % ((ws.length:Int) + 1)=(t:Int):=by
      have a0:=zdb x (show (0:Int) < (ws.length:Int) + 1 by omega)
      have a1:=zdg x (show (0:Int) < (ws.length:Int) + 1 by omega)
      exact ⟨(x % ((ws.length:Int) + 1)).toNat,by omega,by omega⟩
    obtain ⟨k,hk,ek⟩:∃ k:Nat,k ≤ 1∧x / 64 % 2=(k:Int):=⟨(x / 64 % 2).toNat,by omega,by omega⟩
    have f64:Fit 64:=fitN 100 (by decide)
    rw [← eW]
    have n0:mIfS (zal (m2 oEq (mRd 1) (m2 oPow (mC (.int 10)) (mC (.int 18))))) (mRet (mC (.bl true))) zaM [.v W,.v (.int r),.v (.int x),.no,.no,.no] = .nx [.v W,.v (.int r),.v (.int x),.no,.no,.no]:=by
      rw [zaZ (by simp [zal,mRd,mC,p18,c])]; rfl
    have q1:mAsg (m2 oMod (mRd 2) (m2 oAdd (mCB fLen (zaa (mRd 0) mNil)) (mC (.int 1)))) (zaw 3) [.v W,.v (.int r),.v (.int x),.no,.no,.no] = .nx [.v W,.v (.int r),.v (.int x),.v (.int t),.no,.no]:=by
      refine zaI (d:=.int t) ?_ rfl
      simp [mRd,mC,mCB,zaa,mNil,lW,za7 (show (0:Int) < (ws.length:Int) + 1 by omega),et]
    have one:∀ l:En,mLst (zaa (m2 oAdd (mRd 1) (mC (.int 1))) mNil) (.v W :: .v (.int r) :: l) = .ok (iL [r + 1]):=fun l=>by simp [mLst,zaa,mNil,mRd,mC,sizeLine,iL]
    obtain ⟨bs,eb⟩:∃ bs,bs=(ws.take t ++ [r + 1]) ++ ws.drop t:=⟨_,rfl⟩
    have lb:bs.length=ws.length + 1:=by rw [eb]; simp; omega
    have q2:mAsg (m2 oCat (m2 oCat (mSl (mRd 0) mNoP (zbN (mVar 3))) (mLst (zaa (m2 oAdd (mRd 1) (mC (.int 1))) mNil))) (mSl (mRd 0) (zbN (mVar 3)) mNoP)) (zaw 4) [.v W,.v (.int r),.v (.int x),.v (.int t),.no,.no] = .nx [.v W,.v (.int r),.v (.int x),.v (.int t),.v (iL bs),.no]:=by
      refine zaI (d:=iL bs) ?_ rfl
      rw [eb]
      exact zpv (zpv (zhE (by rw [eW]; rfl) rfl ht) (one _) (by simp; omega)) (zkz (by rw [eW]; rfl) rfl ht) (by simp; omega)
    obtain ⟨vs,ev⟩:∃ vs,vs=bs ++ [r + 1].take k:=⟨_,rfl⟩
    have lv:vs.length ≤ ws.length + 2:=by rw [ev]; simp [lb]; omega
    have q3:mAsg (m2 oCat (mRd 4) (mSl (mLst (zaa (m2 oAdd (mRd 1) (mC (.int 1))) mNil)) mNoP (zbN (m2 oMod (m2 oDiv (mRd 2) (mC (.int 64))) (mC (.int 2)))))) (zaw 5) [.v W,.v (.int r),.v (.int x),.v (.int t),.v (iL bs),.no] = .nx [.v W,.v (.int r),.v (.int x),.v (.int t),.v (iL bs),.v (iL vs)]:=by
      refine zaI (d:=iL vs) ?_ rfl
      rw [ev]
      refine zpv rfl (zhE (one _) (k:=k) ?_ hk) (by simp [lb]; omega)
      simp [mRd,mC,zc0,f64,za7,ek]
    have gv:gA vs (t:Nat)=r + 1:=by
      have:(ws.take t).length=t:=by simp; omega
      rw [ev,eb]
      simp [gA,List.getD_eq_getElem?_getD,List.getElem?_append,this]
    have gl:∀ j:Nat,j < t→gA vs (j:Nat) ≤ r:=fun j hj=>by
      have:gA vs (j:Nat)=gA ws (j:Nat):=by
        have:(ws.take t).length=t:=by simp; omega
        rw [ev,eb]
        simp [gA,List.getD_eq_getElem?_getD,List.getElem?_append,List.getElem?_take,this,hj,show j < t + 1 by omega,show j < ws.length by omega]
      rw [this]
      exact hw _ (List.mem_of_getElem? (zkt (i:=(j:Int)) (by simp; omega)))
    have rx:=zmW (ws:=vs) (r:=r) (t:=t) (by rw [ev]; simp [lb]; omega) (by rw [gv]; omega) gl
    have ba:=zmG rx
    have rf:=fun Z=>zkZ (Z:=Z) rx
    have k1:zdX [.v W,.v (.int r),.v (.int x),.v (.int t),.v (iL bs),.v (iL vs)] = .ok (iL (List.replicate vs.length 0)):=ze8 (l:=vs) rfl (by omega)
    generalize iL (List.replicate vs.length 0)=Z0 at k1
    generalize iL vs=V at *
    generalize iL bs=Bs at *
    have n4:mIfS (mNot (zal (zak za1 (zaa (mVar 5) (zaa (mVar 1) mNil))))) (mRet (mC (.bl false))) zaM [.v W,.v (.int r),.v (.int x),.v (.int t),.v Bs,.v V] = .nx [.v W,.v (.int r),.v (.int x),.v (.int t),.v Bs,.v V]:=by
      rw [zaZ (by simp [mNot,zal,zak,zaa,mNil,mVar,ba])]; rfl
    refine (zaj n0).trans ((zaj q1).trans ((zaj q2).trans ((zaj q3).trans ((zaj n4).trans ?_))))
    have ng:oNeg (.int 1)=some (.int (-1)):=rfl
    simp [mRet,zi7,zak,zaa,mNil,mVar,mC,mLst,sizeLine,k1,rf,ng]
end My
namespace My
open PySem L2 PM
theorem zpn (c k:Int) (h0:0 ≤ k) (h1:k ≤ 1000):∃ w:Int,(0 < w∧w ≤ 1000000000000000000)∧∃ a:Int,za2 [.int c,.int k] = .ok (.int a)∧1 + a % 1000000000000000000=w:=by
  obtain ⟨a,ha,h⟩:=zgv c k h0 h1
  exact ⟨1 + a % 1000000000000000000,by omega,a,h,rfl⟩
theorem zn4 (cs:List Int) (th:Int) (hl:cs.length ≤ 63) (t0:th=0∨(2 ≤ th∧th ≤ 100000000000000001)):∃ ws:List Int,ws.length=cs.length∧(∀ w ∈ ws,0 < w∧w ≤ 1000000000000000000)∧(0 < th→∀ w ∈ ws,w=th)∧zcp [iL cs,.int th] = .ok (iL ws):=by
  by_cases c:0 < th
  · refine ⟨cs.map fun _=>th,by simp,fun w hw=>?_,fun _ w hw=>?_,zdB ?_⟩
    · obtain ⟨_,_,rfl⟩:=List.mem_map.mp hw
      omega
    · obtain ⟨_,_,rfl⟩:=List.mem_map.mp hw
      rfl
    · show mSeq _ _ [.v (iL cs),.v (.int th)]=_
      refine zpI ?_
      rw [za9 (by simp [zal,mRd,mC,c])]
      have k1:zeb [.v (iL cs),.v (.int th)] = .ok (iL (cs.map fun _=>th)):=by
        refine Eq.trans (zdE (l:=cs.map .int) (r:=cs.map fun _=>.int th) rfl (by rw [List.length_map]; omega) ?_) (by simp [iL,Function.comp_def])
        refine zey D.int (fun _:Int=>.int th) _ fun t _=>?_
        simp [zeF,zbf,zbu,mVar,zhH]
      simp [zfa,k1,R.toO]
  · obtain ⟨F,hF⟩:=Classical.axiomOfChoice (r:=fun (p:Int × Nat) (w:Int)=>p.2 ≤ 1000→(0 < w∧w ≤ 1000000000000000000)∧∃ a:Int,za2 [.int p.1,.int (p.2:Int)] = .ok (.int a)∧1 + a % 1000000000000000000=w) (fun p=>by
      by_cases h:p.2 ≤ 1000
      · obtain ⟨t,h1,h2⟩:=zpn p.1 (p.2:Int) (by omega) (by omega)
        exact ⟨t,fun _=>⟨h1,h2⟩⟩
      · exact ⟨0,fun z=>absurd z h⟩)
    have idx:∀ p ∈ cs.zipIdx,p.2 ≤ 1000:=fun p hp=>by
      have:=List.mk_mem_zipIdx_iff_getElem?.mp (show (p.1,p.2) ∈ cs.zipIdx from hp)
      have:=(List.getElem?_eq_some_iff.mp this).1
      omega
    refine ⟨cs.zipIdx.map F,by simp,fun t ht=>?_,fun z=>absurd z c,zdB ?_⟩
    · obtain ⟨p,hp,rfl⟩:=List.mem_map.mp ht
      exact (hF p (idx p hp)).1
    · show mSeq _ _ [.v (iL cs),.v (.int th)]=_
      have n1:mIfS (zal (m2 oGt (mRd 1) (mC (.int 0)))) (zfa zeb) zaM [.v (iL cs),.v (.int th)] = .nx [.v (iL cs),.v (.int th)]:=by
        rw [zaZ (by simp [zal,mRd,mC,c])]; rfl
      refine (zaj n1).trans ?_
      have k2:zfN [.v (iL cs),.v (.int th)] = .ok (iL (cs.zipIdx.map F)):=by
        refine Eq.trans (zdE (l:=zh1 (cs.map .int)) (r:=cs.zipIdx.map fun p=>.int (F p)) rfl (by rw [zgb]; simp; omega) ?_) (by simp [iL,Function.comp_def])
        rw [zgb,List.zipIdx_map,List.map_map]
        refine zey (fun p:Int × Nat=>.tup [.int (p.2:Int),.int p.1]) (fun p=>.int (F p)) _ fun p hp=>?_
        obtain ⟨a,ha,e⟩:=(hF p (idx p hp)).2
        simp [zeF,zbf,bTup,zbR,bNil,zbu,zak,zaa,mNil,mVar,mC,ha,p18,za7,e]
      simp [zfa,k2,R.toO]
theorem zpc (ws:List Int) (hp:∀ w ∈ ws,0 < w∧w ≤ 1000000000000000000):∃ mo:Int,(0 < mo∧mo ≤ 1000000000000000000)∧(∀ w ∈ ws,w ≤ mo)∧zh7 [iL ws] (.int 1)=some (.int mo):=by
  cases ws with
  | nil =>
    refine ⟨1,by decide,fun w hw=>(by cases hw),?_⟩
    simp [iL,zh7]
  | cons a l =>
    have hm:=zfK (S:=a :: l) (by simp)
    refine ⟨mxL (a :: l),hp _ hm.1,hm.2,?_⟩
    simp [iL,zh7,mxL,zb1]
end My
namespace My
open PySem L2 PM
theorem p17:oPow (.int 10) (.int 17)=some (.int 100000000000000000):=zl5 ⟨by decide,by decide,by decide⟩
theorem law_true (ns:List Int) (h:ns.length ≤ 63):zqR [.scr ns] = .ok (.bl true):=by
  obtain ⟨cl,hcut,hcl⟩:=znH ns (some 6) (some 36)
  have c0:zar [.scr ns,.int 0] = .ok (.int (ns.getD 0 0)):=zdq ns 0
  have c1:zar [.scr ns,.int 1] = .ok (.int (ns.getD 1 0)):=zdq ns 1
  have c2:zar [.scr ns,.int 2] = .ok (.int (ns.getD 2 0)):=zdq ns 2
  have c3:zar [.scr ns,.int 3] = .ok (.int (ns.getD 3 0)):=zdq ns 3
  have f3:Fit 3:=fitN 100 (by decide)
  have f20:Fit 20:=fitN 100 (by decide)
  refine zaW ?_
  show mSeq _ _ [.v (.scr ns),.no,.no,.no,.no,.no,.no]=_
  have q0:mAsg (mC (.int 0)) (zaw 1) [.v (.scr ns),.no,.no,.no,.no,.no,.no] = .nx [.v (.scr ns),.v (.int 0),.no,.no,.no,.no,.no]:=zaI (d:=.int 0) rfl rfl
  obtain ⟨am,⟨am0,am1⟩,ham⟩:=zgv (ns.getD 2 0) 2 (by decide) (by decide)
  obtain ⟨th,hth,q1⟩:∃ th:Int,(th=0∨(2 ≤ th∧th ≤ 100000000000000001))∧mIfS (zal (m2 oEq (m2 oMod (zak zar (zaa (mVar 0) (zaa (mC (.int 1)) mNil))) (mC (.int 3))) (mC (.int 1)))) (mAsg (m2 oAdd (mC (.int 2)) (m2 oMod (zak za2 (zaa (zak zar (zaa (mVar 0) (zaa (mC (.int 2)) mNil))) (zaa (mC (.int 2)) mNil))) (m2 oPow (mC (.int 10)) (mC (.int 17))))) (zaw 1)) zaM [.v (.scr ns),.v (.int 0),.no,.no,.no,.no,.no] = .nx [.v (.scr ns),.v (.int th),.no,.no,.no,.no,.no]:=by
    by_cases c:ns.getD 1 0 % 3=1
    · refine ⟨2 + am % 100000000000000000,by omega,?_⟩
      rw [za9 (by simp only [zal,zak,zaa,mNil,mVar,mC,zf3,List.getElem?_cons_zero,R.bind_ok,c1,R.nev_ok,R.of_some,za7 (show (0:Int) < 3 by decide),c]; rfl)]
      refine zaI (d:=.int (2 + am % 100000000000000000)) ?_ rfl
      simp only [zak,zaa,mNil,mVar,mC,zf3,List.getElem?_cons_zero,R.bind_ok,c2,R.nev_ok,ham,p17,R.of_some,za7 (show (0:Int) < 100000000000000000 by decide),zkr]
    · refine ⟨0,.inl rfl,?_⟩
      have t:zal (m2 oEq (m2 oMod (zak zar (zaa (mVar 0) (zaa (mC (.int 1)) mNil))) (mC (.int 3))) (mC (.int 1))) [.v (.scr ns),.v (.int 0),.no,.no,.no,.no,.no] = .ok (decide (ns.getD 1 0 % 3=1)):=by
        simp only [zal,zak,zaa,mNil,mVar,mC,zf3,List.getElem?_cons_zero,R.bind_ok,c1,R.nev_ok,R.of_some,za7 (show (0:Int) < 3 by decide)]
        simp
      rw [zaZ (by rw [t,decide_eq_false c])]; rfl
  obtain ⟨ws,wl,ok,al,hws⟩:=zn4 cl th (by omega) hth
  have hn:ws.length < 64:=by omega
  obtain ⟨mo,⟨mo0,mo1⟩,hmo,emo⟩:=zpc ws ok
  obtain ⟨a3,⟨a30,a31⟩,ha3⟩:=zgv (ns.getD 2 0) 3 (by decide) (by decide)
  obtain ⟨W,eW⟩:∃ W,W=iL ws:=⟨_,rfl⟩
  rw [← eW] at hws emo
  have q2:mAsg (zak zcp (zaa (mSl (mRd 0) (zbN (mC (.int 6))) (zbN (mC (.int 36)))) (zaa (mVar 1) mNil))) (zaw 2) [.v (.scr ns),.v (.int th),.no,.no,.no,.no,.no] = .nx [.v (.scr ns),.v (.int th),.v W,.no,.no,.no,.no]:=by
    refine zaI (d:=W) ?_ rfl
    have sl:mSl (mRd 0) (zbN (mC (.int 6))) (zbN (mC (.int 36))) [.v (.scr ns),.v (.int th),.no,.no,.no,.no,.no] = .ok (iL cl):=by
      simp only [mSl,mRd,zbN,mC,List.getElem?_cons_zero,R.bind_ok,znx,R.of_some,asL,hcut]
      rfl
    simp only [zak,zaa,mNil,sl,mVar,List.getElem?_cons_succ,List.getElem?_cons_zero,R.bind_ok,hws,R.nev_ok]
  have q3:mAsg (zk4 (zaa (mRd 2) mNil) (mC (.int 1))) (zaw 3) [.v (.scr ns),.v (.int th),.v W,.no,.no,.no,.no] = .nx [.v (.scr ns),.v (.int th),.v W,.v (.int mo),.no,.no,.no]:=by
    refine zaI (d:=.int mo) ?_ rfl
    simp only [zk4,zaa,mNil,mRd,mC,List.getElem?_cons_succ,List.getElem?_cons_zero,R.bind_ok,emo,R.of_some]
  obtain ⟨r,r0,r1,hw,q4⟩:∃ r:Int,0 < r∧r ≤ 1000000000000000000∧(∀ w ∈ ws,w ≤ r)∧mIfS (zal (m2 oGt (mRd 1) (mC (.int 0)))) (mAsg (m2 oSub (m2 oMul (mC (.int 3)) (mRd 1)) (mC (.int 1))) (zaw 3)) (mAsg (mCB zmh (zaa (m2 oPow (mC (.int 10)) (mC (.int 18))) (zaa (m2 oAdd (mRd 3) (m2 oMod (zak za2 (zaa (zak zar (zaa (mVar 0) (zaa (mC (.int 2)) mNil))) (zaa (mC (.int 3)) mNil))) (m2 oAdd (mRd 3) (mC (.int 1))))) mNil))) (zaw 3)) [.v (.scr ns),.v (.int th),.v W,.v (.int mo),.no,.no,.no] = .nx [.v (.scr ns),.v (.int th),.v W,.v (.int r),.no,.no,.no]:=by
    by_cases c:0 < th
    · refine ⟨3 * th - 1,by omega,by omega,fun w hw=>by have:=al c w hw; omega,?_⟩
      rw [za9 (by simp [zal,mRd,mC,c])]
      have ft:Fit th:=fitN 1000000000000000000 (by omega)
      exact zaI (d:=.int (3 * th - 1)) (by simp [mRd,mC,zel f3 ft]) rfl
    · have b0:=zdb a3 (show (0:Int) < mo + 1 by omega)
      obtain ⟨z,ez⟩:∃ z,z=a3 % (mo + 1):=⟨_,rfl⟩
      rw [← ez] at b0
      refine ⟨if mo + z < 1000000000000000000 then mo + z else 1000000000000000000,by split <;> omega,by split <;> omega,fun w hw=>by have:=hmo w hw; split <;> omega,?_⟩
      rw [zaZ (by simp [zal,mRd,mC,c])]
      refine zaI (d:=.int (if mo + z < 1000000000000000000 then mo + z else 1000000000000000000)) ?_ rfl
      simp only [mCB,zak,zaa,mNil,mVar,mRd,mC,zf3,List.getElem?_cons_succ,List.getElem?_cons_zero,R.bind_ok,c2,R.nev_ok,ha3,p18,R.of_some,zkr,za7 (show (0:Int) < mo + 1 by omega),← ez,zoM]
  obtain ⟨m,m0,m1,em⟩:∃ m:Nat,0 < m∧m ≤ 100∧1 + ns.getD 0 0 % 20=(m:Int):=by
    have a0:=zdb (ns.getD 0 0) (show (0:Int) < 20 by decide)
    have a1:=zdg (ns.getD 0 0) (show (0:Int) < 20 by decide)
    exact ⟨(1 + ns.getD 0 0 % 20).toNat,by omega,by omega,by omega⟩
  have q5:mAsg (m2 oAdd (mC (.int 1)) (m2 oMod (zak zar (zaa (mVar 0) (zaa (mC (.int 0)) mNil))) (mC (.int 20)))) (zaw 4) [.v (.scr ns),.v (.int th),.v W,.v (.int r),.no,.no,.no] = .nx [.v (.scr ns),.v (.int th),.v W,.v (.int r),.v (.int m),.no,.no]:=by
    refine zaI (d:=.int m) ?_ rfl
    simp only [zak,zaa,mNil,mVar,mC,zf3,List.getElem?_cons_zero,R.bind_ok,c0,R.nev_ok,R.of_some,za7 (show (0:Int) < 20 by decide),zkr,em]
  have bn:=fun (x:Int) (x0:0 ≤ x) (x1:x ≤ 10000000000)=>zkD m0 m1 ok hn x0 x1
  have bi:=fun (x:Int) (x0:0 ≤ x) (x1:x ≤ 10000000000)=>zpF r0 r1 ok hw hn x0 x1
  have tg:=fun (x:Int) (x0:0 ≤ x)=>zil hw hn x0
  rw [← eW] at bn bi tg
  obtain ⟨δ,h1,o5,o6,rfl⟩:=zew (b:=zaw 5) (m:=zli) D.int (fun _ δ=>∃ o5 o6:Option D,δ = [.v (.scr ns),.v (.int th),.v W,.v (.int r),.v (.int m),sv o5,sv o6]) [3,4,5]
    (by
      rintro pre k post δ hall ⟨o5,o6,rfl⟩
      have kr:0 ≤ k∧k ≤ 5:=by
        have:k ∈ [3,4,5]:=by rw [hall]; simp
        simp at this; omega
      have ck:=zmA ns kr.1
      have nm:=zeq (ns.getD k.toNat 0 + ns.getD 1 0) (3 * k) (by omega) (by omega)
      have z0:=zlx (ns.getD k.toNat 0 + ns.getD 1 0) (3 * k)
      have z1:=zod (ns.getD k.toNat 0 + ns.getD 1 0) (3 * k)
      obtain ⟨z,ez⟩:∃ z,z=num (ns.getD k.toNat 0 + ns.getD 1 0) (3 * k):=⟨_,rfl⟩
      rw [← ez] at nm z0 z1
      have fk:Fit k:=fitN 10 (by omega)
      refine ⟨[.v (.scr ns),.v (.int th),.v W,.v (.int r),.v (.int m),.v (.int k),sv o6],[.v (.scr ns),.v (.int th),.v W,.v (.int r),.v (.int m),.v (.int k),.v (.int z)],zhJ rfl,.inl ?_,some (.int k),some (.int z),rfl⟩
      have s1:mAsg (zak zaN (zaa (m2 oAdd (zak zar (zaa (mVar 0) (zaa (mVar 5) mNil))) (zak zar (zaa (mVar 0) (zaa (mC (.int 1)) mNil)))) (zaa (m2 oMul (mC (.int 3)) (mRd 5)) mNil))) (zaw 6) [.v (.scr ns),.v (.int th),.v W,.v (.int r),.v (.int m),.v (.int k),sv o6] = .nx [.v (.scr ns),.v (.int th),.v W,.v (.int r),.v (.int m),.v (.int k),.v (.int z)]:=by
        refine zaI (d:=.int z) ?_ (zhJ rfl)
        simp only [zak,zaa,mNil,mVar,mRd,mC,zf3,List.getElem?_cons_succ,List.getElem?_cons_zero,R.bind_ok,ck,c1,R.nev_ok,R.of_some,zkr,zel f3 fk,nm]
      refine (zaj s1).trans ?_
      have b1:=bn z z0 (by omega)
      have b2:=bi (z / 3) (by omega) (by omega)
      have t1:zal (zak zbM (zaa (mVar 2) (zaa (mVar 4) (zaa (mVar 6) mNil)))) [.v (.scr ns),.v (.int th),.v W,.v (.int r),.v (.int m),.v (.int k),.v (.int z)] = .ok true:=by
        simp [zal,zak,zaa,mNil,mVar,b1]
      have t2:zal (zak zcO (zaa (mVar 2) (zaa (mVar 3) (zaa (m2 oDiv (mRd 6) (mC (.int 3))) mNil)))) [.v (.scr ns),.v (.int th),.v W,.v (.int r),.v (.int m),.v (.int k),.v (.int z)] = .ok true:=by
        simp [zal,zak,zaa,mNil,mVar,mRd,mC,zc0,f3,b2]
      rw [zaZ (by simp [mOr,mNot,t1,t2])]; rfl)
    [.v (.scr ns),.v (.int th),.v W,.v (.int r),.v (.int m),.no,.no] ⟨none,none,rfl⟩
  have q6:zoj [.v (.scr ns),.v (.int th),.v W,.v (.int r),.v (.int m),.no,.no]=_:=(zd6 (l:=[3,4,5].map .int) (by
    have:rng [.int 3,.int 6]=some ([3,4,5].map .int):=(rng2 (by decide) (by decide)).trans rfl
    simp only [mRng,zaa,mNil,mC,R.bind_ok,this,R.of_some])).trans h1
  refine (zaj q0).trans ((zaj q1).trans ((zaj q2).trans ((zaj q3).trans ((zaj q4).trans ((zaj q5).trans ((zaj q6).trans ?_))))))
  obtain ⟨δ,eδ⟩:∃ δ:En,δ = [.v (.scr ns),.v (.int th),.v W,.v (.int r),.v (.int m),sv o5,sv o6]:=⟨_,rfl⟩
  have t9:zal (m2 oEq (m2 oMod (m2 oDiv (zak zar (zaa (mVar 0) (zaa (mC (.int 0)) mNil))) (mC (.int 20))) (mC (.int 6))) (mC (.int 1))) δ = .ok (decide (ns.getD 0 0 / 20 % 6=1)):=by
    rw [eδ]
    simp only [zal,zak,zaa,mNil,mVar,mC,zf3,List.getElem?_cons_zero,R.bind_ok,c0,R.nev_ok,R.of_some,zc0 (show (0:Int) < 20 by decide) f20,za7 (show (0:Int) < 6 by decide)]
    simp
  have ret:mRet (zak zbv (zaa (mVar 2) (zaa (mVar 3) (zaa (zak zaN (zaa (zak zar (zaa (mVar 0) (zaa (mC (.int 3)) mNil))) (zaa (mC (.int 1)) mNil))) mNil)))) δ = .rt (.bl true):=by
    rw [eδ]
    have nm:=zeq (ns.getD 3 0) 1 (by decide) (by decide)
    have tx:=tg _ (zlx (ns.getD 3 0) 1)
    simp only [mRet,zak,zaa,mNil,mVar,mC,List.getElem?_cons_succ,List.getElem?_cons_zero,R.bind_ok,c3,R.nev_ok,nm,tx]
    rfl
  rw [← eδ]
  by_cases c:ns.getD 0 0 / 20 % 6=1
  · refine za5 ?_
    rw [za9 (by rw [t9,decide_eq_true c])]
    exact ret
  · refine (zaj (zaZ (by rw [t9,decide_eq_false c]))).trans ?_
    rfl
end My
namespace My
open PySem L2 PM PyProof.Rows
def top (i:Nat):Stmt:=PySem.Challenge.pw_goodenough_k47_puttings_looked_at.main.body.getD i (.Pass ⟨0,0,0,0⟩)
abbrev XO0:XOT:=fun _ _ _ _ _=>False
def zrm:Stmt→Stmt
  | .ClassDef _ _ _ b _ _ _ _ _ _ _=>b.getD 0 (.Pass ⟨0,0,0,0⟩)
  | s=>s
structure Adr where
  EnoughError:Addr
  NoShare:Addr
  NoLengths:Addr
  TooMany:Addr
  NoCover:Addr
  NoRoom:Addr
  NoText:Addr
  f_NoRoom:Addr
def caT (ad:Adr):Nat→Addr
  | 0=>ad.EnoughError
  | 1=>ad.NoShare
  | 2=>ad.NoLengths
  | 3=>ad.TooMany
  | 4=>ad.NoCover
  | 5=>ad.NoRoom
  | 6=>ad.NoText
  | _=>0
def caF (ad:Adr) (c:Nat):Addr:=caT ad (c % 16)
def anT:Nat→Str
  | 5=>"thing"
  | _=>Str.empty
def anF (c:Nat):Str:=anT (c % 16)
abbrev KX (K:PySem.W.Frag) (ad:Adr):Kx:=⟨K,caF ad,anF⟩
def zkB (K:PySem.W.Frag):Sp:=fun vs H Q _=>∃ (a:Addr) (ns:List Int),vs = [.ref a]∧SqL K H a (ns.map V.int)∧ns.length ≤ 63∧∀ H',Q (.bl true) H'
structure Txt (K:PySem.W.Frag) (mg:Str→Option Value) (ad:Adr):Prop where
  len:mg "len"=none
  abs:mg "abs"=none
  isinstance:mg "isinstance"=none
  list:mg "list"=none
  sum:mg "sum"=none
  int:mg "int"=none
  bool:mg "bool"=none
  str:mg "str"=none
  range:mg "range"=none
  enumerate:mg "enumerate"=none
  max:mg "max"=none
  min:mg "min"=none
  sorted:mg "sorted"=none
  zip:mg "zip"=none
  set:mg "set"=none
  all:mg "all"=none
  ValueError:mg "ValueError"=none
  m_EnoughError:mg "EnoughError"=some (.ref ad.EnoughError)
  m_NoShare:mg "NoShare"=some (.ref ad.NoShare)
  m_NoLengths:mg "NoLengths"=some (.ref ad.NoLengths)
  m_TooMany:mg "TooMany"=some (.ref ad.TooMany)
  m_NoCover:mg "NoCover"=some (.ref ad.NoCover)
  m_NoRoom:mg "NoRoom"=some (.ref ad.NoRoom)
  m_NoText:mg "NoText"=some (.ref ad.NoText)
  i_NoRoom:zhm K ad.NoRoom [.type "ValueError",.type "Exception",.type "BaseException",.type "object"] "ValueError.__new__" ad.f_NoRoom=true
  fn_NoRoom:PySem.W.isFn K (.ref ad.f_NoRoom)=true
  na_NoRoom:NoAttr K ad.NoRoom "thing"
  e_NoShare:PySem.W.excIn K ad.NoShare [.type "ValueError",.type "Exception",.type "BaseException",.type "object"] "ValueError.__new__"=true
  b_EnoughError:PySem.W.mroIn K ad.EnoughError (.type "BaseException")=some true
  b_NoRoom:PySem.W.mroIn K ad.NoRoom (.type "BaseException")=some true
  z_NoShare:ExcCls K ad.NoShare
  kc_NoShare_EnoughError:PySem.W.kitCls K (.ref ad.NoShare) (.ref ad.EnoughError)=some true
  k_NoShare_NoShare:PySem.W.kitOne K (.ref ad.NoShare) (.ref ad.NoShare)=some true
  k_NoShare_NoLengths:PySem.W.kitOne K (.ref ad.NoShare) (.ref ad.NoLengths)=some false
  k_NoShare_TooMany:PySem.W.kitOne K (.ref ad.NoShare) (.ref ad.TooMany)=some false
  k_NoShare_NoCover:PySem.W.kitOne K (.ref ad.NoShare) (.ref ad.NoCover)=some false
  k_NoShare_NoText:PySem.W.kitOne K (.ref ad.NoShare) (.ref ad.NoText)=some false
  k_NoShare_ValueError:PySem.W.kitOne K (.ref ad.NoShare) (.type "ValueError")=some true
  z_NoRoom:ExcCls K ad.NoRoom
  a_NoRoom:ExcA K ad.NoRoom
  kc_NoRoom_EnoughError:PySem.W.kitCls K (.ref ad.NoRoom) (.ref ad.EnoughError)=some true
  kc_NoRoom_NoRoom:PySem.W.kitCls K (.ref ad.NoRoom) (.ref ad.NoRoom)=some true
  k_NoRoom_NoShare:PySem.W.kitOne K (.ref ad.NoRoom) (.ref ad.NoShare)=some false
  k_NoRoom_NoLengths:PySem.W.kitOne K (.ref ad.NoRoom) (.ref ad.NoLengths)=some false
  k_NoRoom_TooMany:PySem.W.kitOne K (.ref ad.NoRoom) (.ref ad.TooMany)=some false
  k_NoRoom_NoCover:PySem.W.kitOne K (.ref ad.NoRoom) (.ref ad.NoCover)=some false
  k_NoRoom_NoText:PySem.W.kitOne K (.ref ad.NoRoom) (.ref ad.NoText)=some false
  k_NoRoom_ValueError:PySem.W.kitOne K (.ref ad.NoRoom) (.type "ValueError")=some true
section
variable {P:Program} {w:World} {K:PySem.W.Frag} {mg:Str→Option Value} {base:Heap} {ad:Adr}
theorem zgT (T:Txt K mg ad):∀ c,zch c=true→PySem.W.kitCls (KX K ad).f (.ref ((KX K ad).ca c)) (.ref ad.EnoughError)=some true:=by
  have key:∀ r,zdT r=true→PySem.W.kitCls K (.ref (caT ad r)) (.ref ad.EnoughError)=some true:=by
    intro c h
    match c,h with
    | 1,_=>exact T.kc_NoShare_EnoughError
    | 5,_=>exact T.kc_NoRoom_EnoughError
  exact fun c h=>key (c % 16) h
theorem zlc (T:Txt K mg ad):∀ c,zdo c=true→PySem.W.kitCls (KX K ad).f (.ref ((KX K ad).ca c)) (.ref ad.NoRoom)=some true:=by
  have key:∀ r,zgJ r=true→PySem.W.kitCls K (.ref (caT ad r)) (.ref ad.NoRoom)=some true:=by
    intro c h
    match c,h with
    | 5,_=>exact T.kc_NoRoom_NoRoom
  exact fun c h=>key (c % 16) h
theorem zk5 (T:Txt K mg ad):∀ c b,zc2 c=some b→ExcCls (KX K ad).f ((KX K ad).ca c)∧PySem.W.kitOne (KX K ad).f (.ref ((KX K ad).ca c)) (.ref ad.NoShare)=some b:=by
  have key:∀ r b,zfQ r=some b→ExcCls K (caT ad r)∧PySem.W.kitOne K (.ref (caT ad r)) (.ref ad.NoShare)=some b:=by
    intro c b h
    match c,h with
    | 1,h=>cases h; exact ⟨T.z_NoShare,T.k_NoShare_NoShare⟩
    | 5,h=>cases h; exact ⟨T.z_NoRoom,T.k_NoRoom_NoShare⟩
  exact fun c b h=>key (c % 16) b h
theorem zja (T:Txt K mg ad):∀ c b,zcf c=some b→ExcCls (KX K ad).f ((KX K ad).ca c)∧PySem.W.kitOne (KX K ad).f (.ref ((KX K ad).ca c)) (.ref ad.NoLengths)=some b:=by
  have key:∀ r b,zeJ r=some b→ExcCls K (caT ad r)∧PySem.W.kitOne K (.ref (caT ad r)) (.ref ad.NoLengths)=some b:=by
    intro c b h
    match c,h with
    | 1,h=>cases h; exact ⟨T.z_NoShare,T.k_NoShare_NoLengths⟩
    | 5,h=>cases h; exact ⟨T.z_NoRoom,T.k_NoRoom_NoLengths⟩
  exact fun c b h=>key (c % 16) b h
theorem zk0 (T:Txt K mg ad):∀ c b,zcU c=some b→ExcCls (KX K ad).f ((KX K ad).ca c)∧PySem.W.kitOne (KX K ad).f (.ref ((KX K ad).ca c)) (.ref ad.TooMany)=some b:=by
  have key:∀ r b,zfz r=some b→ExcCls K (caT ad r)∧PySem.W.kitOne K (.ref (caT ad r)) (.ref ad.TooMany)=some b:=by
    intro c b h
    match c,h with
    | 1,h=>cases h; exact ⟨T.z_NoShare,T.k_NoShare_TooMany⟩
    | 5,h=>cases h; exact ⟨T.z_NoRoom,T.k_NoRoom_TooMany⟩
  exact fun c b h=>key (c % 16) b h
theorem zkP (T:Txt K mg ad):∀ c b,zc7 c=some b→ExcCls (KX K ad).f ((KX K ad).ca c)∧PySem.W.kitOne (KX K ad).f (.ref ((KX K ad).ca c)) (.ref ad.NoCover)=some b:=by
  have key:∀ r b,zfS r=some b→ExcCls K (caT ad r)∧PySem.W.kitOne K (.ref (caT ad r)) (.ref ad.NoCover)=some b:=by
    intro c b h
    match c,h with
    | 1,h=>cases h; exact ⟨T.z_NoShare,T.k_NoShare_NoCover⟩
    | 5,h=>cases h; exact ⟨T.z_NoRoom,T.k_NoRoom_NoCover⟩
  exact fun c b h=>key (c % 16) b h
theorem zmF (T:Txt K mg ad):∀ c b,zdw c=some b→ExcCls (KX K ad).f ((KX K ad).ca c)∧PySem.W.kitOne (KX K ad).f (.ref ((KX K ad).ca c)) (.ref ad.NoText)=some b:=by
  have key:∀ r b,zgh r=some b→ExcCls K (caT ad r)∧PySem.W.kitOne K (.ref (caT ad r)) (.ref ad.NoText)=some b:=by
    intro c b h
    match c,h with
    | 1,h=>cases h; exact ⟨T.z_NoShare,T.k_NoShare_NoText⟩
    | 5,h=>cases h; exact ⟨T.z_NoRoom,T.k_NoRoom_NoText⟩
  exact fun c b h=>key (c % 16) b h
theorem zhI (T:Txt K mg ad):∀ c b,zbY c=some b→ExcCls (KX K ad).f ((KX K ad).ca c)∧PySem.W.kitOne (KX K ad).f (.ref ((KX K ad).ca c)) (.type "ValueError")=some b:=by
  have key:∀ r b,zei r=some b→ExcCls K (caT ad r)∧PySem.W.kitOne K (.ref (caT ad r)) (.type "ValueError")=some b:=by
    intro c b h
    match c,h with
    | 1,h=>cases h; exact ⟨T.z_NoShare,T.k_NoShare_ValueError⟩
    | 5,h=>cases h; exact ⟨T.z_NoRoom,T.k_NoRoom_ValueError⟩
  exact fun c b h=>key (c % 16) b h
theorem zlV (k:Nat):caF ad (5 + 16 * (k + 1))=ad.NoRoom:=by
  unfold caF
  rw [show (5 + 16 * (k + 1)) % 16=5 by omega]; rfl
theorem zml (k:Nat):anF (5 + 16 * (k + 1)) = "thing":=by
  unfold anF
  rw [show (5 + 16 * (k + 1)) % 16=5 by omega]; rfl
theorem zhQ (T:Txt K mg ad):∀ c,zcK c=true→ExcCls (KX K ad).f ((KX K ad).ca c)∧NoAttr (KX K ad).f ((KX K ad).ca c) "thing"∧(KX K ad).an c = "thing":=by
  have key:∀ r,zik r=true→ExcCls K (caT ad r)∧NoAttr K (caT ad r) "thing"∧anT r = "thing":=by
    intro c h
    match c,h with
    | 5,_=>exact ⟨T.z_NoRoom,T.na_NoRoom,rfl⟩
  exact fun c h=>key (c % 16) h
abbrev zbO:Stmt:=zrm (top 6)
theorem zgY:FnScope ["self","thing"] ["self","thing"] (zao zbO):=⟨rfl,rfl,rfl,by decide +kernel,rfl,by decide +kernel,by decide +kernel⟩
theorem zgV {f:Addr} {fd:FuncData} (F:Fun K "__init__" "NoRoom.__init__" zbO f fd):FnOk P w K mg base CX0 1 f fd ["self","thing"] (spI K "thing"):=by
  refine F.ok zgY (fun vs H Q E h=>zpj h) (fun cdv A outer s H vs Q E hr h=>?_)
  obtain ⟨e,C,xs,n,rfl,hH,zA,zN,q⟩:=h
  exact ⟨_,zam (zpA (pv 0) (pv 1) rfl),_,rfl,_,rfl,e,C,xs,rfl,hH,zA,zN,fun dx hd=>q dx hd⟩
abbrev zdC:Stmt:=top 34
theorem zgU:FnScope ["_law_script","_law_k"] ["_law_script","_law_k"] (zao zdC):=⟨rfl,rfl,rfl,by decide +kernel,rfl,by decide +kernel,by decide +kernel⟩
theorem zgW {f:Addr} {fd:FuncData} (F:Fun K "_law_cell_at" "_law_cell_at" zdC f fd) (T:Txt K mg ad)  : FnOk P w K mg base CX0 1 f fd ["_law_script","_law_k"] (spM (KX K ad) (xoK (KX K ad)) zar):=by
  refine F.ok zgU (fun vs H Q E h=>za0 h) (fun cdv A outer s H vs Q E hr h=>?_)
  have hu:=zbD hr
  exact ⟨_,(zaf (zbj (zaH zmi (pv 1) (zas zaB (by rfl) T.len PySem.boot_len (zab (pv 0) zae)) (zaP _))
      (zam (zaE (zd3 zcz (pv 0) (pv 1) (fun _ _=>rfl))))
      zaK)
      (zam (zaE zah))),zb8 (K:=(KX K ad)) (XO:=(xoK (KX K ad))) (E:=E) (np:=2) (nv:=0) (m:=zcJ)
      (zap (zbk (zaG (zan zmY zac ((zbr zbH (zaq zac zaD))).r))
      (zaF (zan zdS zac zac))
      zaJ)
      (zaF zai)) rfl h⟩
abbrev zev:Stmt:=top 35
theorem zh3:FnScope ["_law_cell","_law_k"] ["_law_cell","_law_k"] (zao zev):=⟨rfl,rfl,rfl,by decide +kernel,rfl,by decide +kernel,by decide +kernel⟩
theorem zhx {f:Addr} {fd:FuncData} (F:Fun K "_law_number" "_law_number" zev f fd) (T:Txt K mg ad)  : FnOk P w K mg base CX0 1 f fd ["_law_cell","_law_k"] (spM (KX K ad) (xoK (KX K ad)) zaN):=by
  refine F.ok zh3 (fun vs H Q E h=>za0 h) (fun cdv A outer s H vs Q E hr h=>?_)
  have hu:=zbD hr
  exact ⟨_,(zam (zaE (zaz zbm (zaz zbs (zaz zbz (zaz zbz (zaz zbm (pv 0) (zaz zgI zah zah)) (zaz zbs (pv 1) (pv 1))) zah) (zaz zbz zah (zaz zbs zah (pv 1)))) zah))),zb8 (K:=(KX K ad)) (XO:=(xoK (KX K ad))) (E:=E) (np:=2) (nv:=0) (m:=zd8)
      (zaF (zan zbl ((zan zbV ((zan zby ((zan zby ((zan zbl zac ((zan zgA (zai).r (zai).r)).r)).r ((zan zbV zac zac)).r)).r (zai).r)).r ((zan zby (zai).r ((zan zbV (zai).r zac)).r)).r)).r (zai).r)) rfl h⟩
abbrev zep:Stmt:=top 36
theorem sc_law_amount:FnScope ["_law_cell","_law_k","_law_number_here"] ["_law_cell","_law_k"] (zao zep):=⟨rfl,rfl,rfl,by decide +kernel,rfl,by decide +kernel,by decide +kernel⟩
theorem zhv {f:Addr} {fd:FuncData} (F:Fun K "_law_amount" "_law_amount" zep f fd) (T:Txt K mg ad) (G_law_number:Has P w K mg base CX0 1 "_law_number" ["_law_cell","_law_k"] (spM (KX K ad) (xoK (KX K ad)) zaN)):FnOk P w K mg base CX0 2 f fd ["_law_cell","_law_k"] (spM (KX K ad) (xoK (KX K ad)) za2):=by
  refine F.ok sc_law_amount (fun vs H Q E h=>za0 h) (fun cdv A outer s H vs Q E hr h=>?_)
  have hu:=zbD hr
  exact ⟨_,(zaf (zaS (i:=2) sc_law_amount.nd rfl (by first | exact Or.inl rfl | exact Or.inr rfl) (zaL G_law_number (hr.mono (by decide)) (by rfl) za3 (zab (pv 0) (zab (pv 1) zae))))
      (zaf (zbj (zaH zeU (zaz zbm (pv 2) zah) zah (zaP _))
      (zam (zaE (zaz zbm (zaz zbd (pv 2) zah) zah)))
      zaK)
      (zaf (zbj (zaH zeU (zaz zbm (pv 2) zah) zah (zaP _))
      (zam (zaE (zaz zbm (zaz zbd (pv 2) zah) zah)))
      zaK)
      (zam (zaE (zaz zbm (zaz zbz (zaz zbs (zaz zbm (pv 0) (zaz zgI zah zah)) zah) (pv 2)) (zaz zbz (zaz zgI zah zah) zah))))))),zb8 (K:=(KX K ad)) (XO:=(xoK (KX K ad))) (E:=E) (np:=2) (nv:=1) (m:=zfR)
      (zap (zaV (zaC (zad zag (zad zag zat))) zaA)
      (zap (zbk (zaG (zan zeS ((zan zbl zac (zai).r)).r (zai).r))
      (zaF (zan zbl ((zan zcb zac (zai).r)).r (zai).r))
      zaJ)
      (zap (zbk (zaG (zan zeS ((zan zbl zac (zai).r)).r (zai).r))
      (zaF (zan zbl ((zan zcb zac (zai).r)).r (zai).r))
      zaJ)
      (zaF (zan zbl ((zan zby ((zan zbV ((zan zbl zac ((zan zgA (zai).r (zai).r)).r)).r (zai).r)).r zac)).r ((zan zby ((zan zgA (zai).r (zai).r)).r (zai).r)).r))))) rfl h⟩
abbrev zc4:Stmt:=top 37
theorem ziu:FnScope ["_law_cells","_law_thirds"] ["_law_cells","_law_thirds"] (zao zc4):=⟨rfl,rfl,rfl,by decide +kernel,rfl,by decide +kernel,by decide +kernel⟩
theorem ziR {f:Addr} {fd:FuncData} (F:Fun K "_law_sizes" "_law_sizes" zc4 f fd) (T:Txt K mg ad) (G_law_amount:Has P w K mg base CX0 2 "_law_amount" ["_law_cell","_law_k"] (spM (KX K ad) (xoK (KX K ad)) za2)):FnOk P w K mg base CX0 3 f fd ["_law_cells","_law_thirds"] (spO (KX K ad) (xoK (KX K ad)) zcp):=by
  refine F.ok ziu (fun vs H Q E h=>zem h) (fun cdv A outer s H vs Q E hr h=>?_)
  have hu:=zbD hr
  exact ⟨_,(zaf (zbj (zaH zds (pv 1) zah (zaP _))
      (zam (zaE (zft rfl (zc3 (pv 0)) (zes (zao zc4) ["_law_cells","_law_thirds"] ["_law_thirds","_law_cell"] [1] 1 rfl rfl rfl (by decide +kernel) (by decide +kernel) (by decide +kernel) rfl (by decide +kernel) (fun cl C s H fp pins=>(zbe (i:=1) (show List.Nodup (["_law_thirds","_law_cell"]:List Str) by decide +kernel) rfl (Or.inl rfl))) (fun cl C s H fp pins=>(pv 0)) (Or.inl ⟨rfl,rfl⟩)))))
      zaK)
      (zam (zaE (zft rfl (zjR rfl T.enumerate (zab (pv 0) zae)) (zes (zao zc4) ["_law_cells","_law_thirds"] ["_law_k","_law_cell"] [] 2 rfl rfl rfl (by decide +kernel) (by decide +kernel) (by decide +kernel) rfl (by decide +kernel) (fun cl C s H fp pins=>(ziv rfl (zcs (zbe (i:=0) (show List.Nodup (["_law_k","_law_cell"]:List Str) by decide +kernel) rfl (Or.inl rfl)) (zcs (zbe (i:=1) (show List.Nodup (["_law_k","_law_cell"]:List Str) by decide +kernel) rfl (Or.inl rfl)) zgy)))) (fun cl C s H fp pins=>(zaz zbz zah (zaz zbm (zaL G_law_amount (hr.mono (by decide)) (by rfl) za3 (zab (pv 1) (zab (pv 0) zae))) (zaz zgI zah zah)))) (Or.inl ⟨rfl,rfl⟩)))))),zfW (K:=(KX K ad)) (XO:=(xoK (KX K ad))) (E:=E) (np:=2) (nv:=0) (m:=zgM)
      (zap (zbk (zaG (zan zdA zac (zai).r))
      (zgp (zcc (zdf zac) (by decide) zbZ zcD (Or.inl ⟨rfl,rfl⟩) zag))
      zaJ)
      (zgp (zcc (zn8 (zaq zac zaD)) (by decide) (zi6 (zct zbZ (zct zbZ zgm))) (zpZ (zks zcD (zks zcD zoR))) (Or.inl ⟨rfl,rfl⟩) (zan zby (zai).r ((zan zbl ((zaC (zad zag (zad zag zat)))).r ((zan zgA (zai).r (zai).r)).r)).r)))) rfl h⟩
abbrev zaO:Stmt:=top 13
theorem zfq:FnScope ["sizes"] ["sizes"] (zao zaO):=⟨rfl,rfl,rfl,by decide +kernel,rfl,by decide +kernel,by decide +kernel⟩
theorem zfs {f cdM tP:Addr} {oc:Value} {od anM:Option Addr} {osl:Array (Option Value)} {kVM docM pmM ctM:Value} (lk:K.lookup f=some ⟨oc,od,.func (PySem.W.fnOf "greatest_order" "greatest_order" (zcC zaO) (zcg zaO) (zao zaO) .none kVM docM pmM anM (.ref cdM) ctM),osl⟩) (hcd:PySem.W.codeIn K (.ref cdM) "greatest_order"=true) (T:Txt K mg ad) (hT:zhU K=some (tP,#[.str ("greatest_order" ++ ".<locals>." ++ "<lambda>") 0,rawInt ((42:Nat):Int),rawInt ((41:Nat):Int)])) (hC:PySem.W.codeHdIn K cdM tP=true) (hB:BmAt mg base):FnOk P w K mg base CX0 1 f (PySem.W.fnOf "greatest_order" "greatest_order" (zcC zaO) (zcg zaO) (zao zaO) .none kVM docM pmM anM (.ref cdM) ctM) ["sizes"] (spO (KX K ad) (xoK (KX K ad)) zbb):=by
  refine zoG lk hcd zfq (fun vs H Q E h=>zem h) (fun A outer s H vs Q E hr h=>?_)
  have hu:=zbD hr
  exact ⟨_,(zam (zaE (zng rfl hr (by rfl) T.sorted (zab (zlj (by rfl) T.range (zab (zas zaB (by rfl) T.len PySem.boot_len (zab (pv 0) zae)) zae)) zae) hT hC rfl hB (fun cc h=>by cases h; rfl) rfl (fun _ _ _ _ _ _=>rfl) rfl rfl rfl rfl rfl (by decide +kernel) rfl rfl (by decide) (by decide) (by decide)))),zfW (K:=(KX K ad)) (XO:=(xoK (KX K ad))) (E:=E) (np:=1) (nv:=0) (m:=zd0)
      (zgp zlg) rfl h⟩
abbrev zhZ:Stmt:=top 14
theorem zlH:FnScope ["sums"] ["sums"] (zao zhZ):=⟨rfl,rfl,rfl,by decide +kernel,rfl,by decide +kernel,by decide +kernel⟩
theorem zlF {f:Addr} {fd:FuncData} (F:Fun K "freest" "freest" zhZ f fd) (T:Txt K mg ad)  : FnOk P w K mg base CX0 1 f fd ["sums"] (spM (KX K ad) (xoK (KX K ad)) zex):=by
  refine F.ok zlH (fun vs H Q E h=>za0 h) (fun cdv A outer s H vs Q E hr h=>?_)
  have hu:=zbD hr
  exact ⟨_,(zam (zaE (znG PySem.F.plainAttrs_list PySem.F.slot_list_index PySem.F.type_list_index zl0 (pv 0) (zab (zas (zmP rfl) (by rfl) T.min boot_min (zab (pv 0) zae)) zae)))),zb8 (K:=(KX K ad)) (XO:=(xoK (KX K ad))) (E:=E) (np:=1) (nv:=0) (m:=zjY)
      (zaF (zny zac (zbr zgs (zaq zac zaD)))) rfl h⟩
abbrev zbF:Stmt:=top 15
theorem sc_put_by_benches:FnScope ["works","many","order","sums","put","number","bench"] ["works","many","order"] (zao zbF):=⟨rfl,rfl,rfl,by decide +kernel,rfl,by decide +kernel,by decide +kernel⟩
theorem zfn {f:Addr} {fd:FuncData} (F:Fun K "put_by" "put_by" zbF f fd) (T:Txt K mg ad) (G_freest:Has P w K mg base CX0 1 "freest" ["sums"] (spM (KX K ad) (xoK (KX K ad)) zex)):FnOk P w K mg base CX0 2 f fd ["works","many","order"] (spO (KX K ad) (xoK (KX K ad)) zbG):=by
  refine F.ok sc_put_by_benches (fun vs H Q E h=>zem h) (fun cdv A outer s H vs Q E hr h=>?_)
  have hu:=zbD hr
  exact ⟨_,(zaf (zgO (i:=3) sc_put_by_benches.nd rfl (by first | exact Or.inl rfl | exact Or.inr rfl) rfl (ziB rfl T.range (zab (pv 1) zae)) (zes (zao zbF) ["works","many","order","sums","put","number","bench"] ["bench"] [] 1 rfl rfl rfl (by decide +kernel) (by decide +kernel) (by decide +kernel) rfl (by decide +kernel) (fun cl C s H fp pins=>(zbe (i:=0) (show List.Nodup (["bench"]:List Str) by decide +kernel) rfl (Or.inl rfl))) (fun cl C s H fp pins=>zah) (Or.inl ⟨rfl,rfl⟩)) rfl)
      (zaf (zgO (i:=4) sc_put_by_benches.nd rfl (by first | exact Or.inl rfl | exact Or.inr rfl) rfl (zc3 (pv 0)) (zes (zao zbF) ["works","many","order","sums","put","number","bench"] ["work"] [] 1 rfl rfl rfl (by decide +kernel) (by decide +kernel) (by decide +kernel) rfl (by decide +kernel) (fun cl C s H fp pins=>(zbe (i:=0) (show List.Nodup (["work"]:List Str) by decide +kernel) rfl (Or.inl rfl))) (fun cl C s H fp pins=>zah) (Or.inl ⟨rfl,rfl⟩)) rfl)
      (zaf (zfI PassesOwn.never rfl (zc3 (pv 2)) (zbe (i:=5) sc_put_by_benches.nd rfl (by first | exact Or.inl rfl | exact Or.inr rfl))
      (zaf (zaS (i:=6) sc_put_by_benches.nd rfl (by first | exact Or.inl rfl | exact Or.inr rfl) (zaL G_freest (hr.mono (by decide)) (by rfl) za3 (zab (pv 3) zae)))
      (zaf (zjI (pv 3) (pv 6) zh5 (zd3 zcz (pv 0) (pv 5) (fun _ _=>rfl)) zoe zeY)
      (zam (zou (pv 6) (zoq (pv 4) (pv 5) zeY))))))
      (zam (zaE (pv 4)))))),zfW (K:=(KX K ad)) (XO:=(xoK (KX K ad))) (E:=E) (np:=3) (nv:=4) (m:=zdW)
      (zap (zfT (zcc (zid len1 (zad zag zat)).c (by decide) zbZ zcD (Or.inl ⟨rfl,rfl⟩) zai))
      (zap (zfT (zcc (zdf zac) (by decide) zbZ zcD (Or.inl ⟨rfl,rfl⟩) zai))
      (zap (zfP (zjs zag) zaA
      (zap (zaV (zj0 (znd zlI)) zaA)
      (zap (zju zag (zan zdS zac zac))
      (zmy zag zag))))
      zhs))) rfl h⟩
abbrev zb6:Stmt:=top 17
theorem zeE:FnScope ["works","many"] ["works","many"] (zao zb6):=⟨rfl,rfl,rfl,by decide +kernel,rfl,by decide +kernel,by decide +kernel⟩
theorem zeA {f:Addr} {fd:FuncData} (F:Fun K "put_longest_first" "put_longest_first" zb6 f fd) (T:Txt K mg ad) (G_greatest_order:Has P w K mg base CX0 1 "greatest_order" ["sizes"] (spO (KX K ad) (xoK (KX K ad)) zbb)) (G_put_by_benches:Has P w K mg base CX0 2 "put_by_benches" ["works","many","order"] (spO (KX K ad) (xoK (KX K ad)) zbG)):FnOk P w K mg base CX0 3 f fd ["works","many"] (spO (KX K ad) (xoK (KX K ad)) za4):=by
  refine F.ok zeE (fun vs H Q E h=>zem h) (fun cdv A outer s H vs Q E hr h=>?_)
  have hu:=zbD hr
  exact ⟨_,(zam (zaE (zaL G_put_by_benches (hr.mono (by decide)) (by rfl) za3 (zab (pv 0) (zab (pv 1) (zab (zaL G_greatest_order (hr.mono (by decide)) (by rfl) za3 (zab (pv 0) zae)) zae)))))),zfW (K:=(KX K ad)) (XO:=(xoK (KX K ad))) (E:=E) (np:=2) (nv:=0) (m:=zc9)
      (zgp (zbL (zad zag (zad zag (zad ((zbL (zad zag zat))).e zat))))) rfl h⟩
abbrev zgn:Stmt:=top 44
theorem sc_law_any:FnScope ["_law_sizes_here","_law_number_here","_law_many","_law_found","_law_size"] ["_law_sizes_here","_law_number_here","_law_many"] (zao zgn):=⟨rfl,rfl,rfl,by decide +kernel,rfl,by decide +kernel,by decide +kernel⟩
theorem zkI {f:Addr} {fd:FuncData} (F:Fun K "_law_any" "_law_any" zgn f fd) (T:Txt K mg ad)  : FnOk P w K mg base CX0 1 f fd ["_law_sizes_here","_law_number_here","_law_many"] (spO (KX K ad) (xoK (KX K ad)) zb9):=by
  refine F.ok sc_law_any (fun vs H Q E h=>zem h) (fun cdv A outer s H vs Q E hr h=>?_)
  have hu:=zbD hr
  exact ⟨_,(zaf (zaS (i:=3) sc_law_any.nd rfl (by first | exact Or.inl rfl | exact Or.inr rfl) (zda zae))
      (zaf (zfI PassesOwn.never rfl (zc3 (pv 0)) (zbe (i:=4) sc_law_any.nd rfl (by first | exact Or.inl rfl | exact Or.inr rfl))
      (zaf (zaS (i:=1) sc_law_any.nd rfl (by first | exact Or.inl rfl | exact Or.inr rfl) (zaz zbz (zaz zbm (zaz zbs (pv 1) zah) zah) zah))
      (zam (zeo (znG PySem.F.plainAttrs_list PySem.F.slot_list_append PySem.F.type_list_append ze1 (pv 3) (zab (zaz zbm (pv 1) (pv 2)) zae))))))
      (zam (zaE (pv 3))))),zfW (K:=(KX K ad)) (XO:=(xoK (KX K ad))) (E:=E) (np:=3) (nv:=2) (m:=ziV)
      (zap (zfT (zb3 zat))
      (zap (zfP (zjs zag) zaA
      (zap (zaV (zan zby ((zan zbl ((zan zbV zac (zai).r)).r (zai).r)).r (zai).r) zaA)
      (zgj (zan zbl zac zac))))
      zhs)) rfl h⟩
abbrev zdQ:Stmt:=top 43
theorem sc_law_changed:FnScope ["_law_put","_law_number_here","_law_many","_law_at","_law_other"] ["_law_put","_law_number_here","_law_many"] (zao zdQ):=⟨rfl,rfl,rfl,by decide +kernel,rfl,by decide +kernel,by decide +kernel⟩
theorem zg2 {f:Addr} {fd:FuncData} (F:Fun K "_law_changed" "_law_changed" zdQ f fd) (T:Txt K mg ad)  : FnOk P w K mg base CX0 1 f fd ["_law_put","_law_number_here","_law_many"] (spM (KX K ad) (xoK (KX K ad)) za8):=by
  refine F.ok sc_law_changed (fun vs H Q E h=>za0 h) (fun cdv A outer s H vs Q E hr h=>?_)
  have hu:=zbD hr
  exact ⟨_,(zaf (zaS (i:=3) sc_law_changed.nd rfl (by first | exact Or.inl rfl | exact Or.inr rfl) (zaz zbm (zaz zbd (pv 1) zah) (zaz zbz (zas zaB (by rfl) T.len PySem.boot_len (zab (pv 0) zae)) zah)))
      (zaf (zaS (i:=4) sc_law_changed.nd rfl (by first | exact Or.inl rfl | exact Or.inr rfl) (zd3 zcz (zda (zab (pv 2) (zab (zjJ zgr zah) (zab (zaz zbm (zaz zbd (pv 1) zah) (zaz zbz (pv 2) zah)) (zab zah zae))))) (zaz zbm (zaz zbd (pv 1) zah) zah) (fun _ _=>rfl)))
      (zaf (zbj (zaH zeU (zaz zbm (pv 1) zah) zah (zaP _))
      (zam (zaE (zaz zdj (zcu zdi (pv 0) zdL (zcT (pv 3))) (zcu zdi (pv 0) (zcT (zaz zbz (pv 3) zah)) zdL))))
      zaK)
      (zaf (zbj (zaH zeU (zaz zbm (pv 1) zah) zah (zaP _))
      (zam (zaE (zaz zdj (zaz zdj (zcu zdi (pv 0) zdL (zcT (pv 3))) (zda (zab (pv 4) zae))) (zcu zdi (pv 0) (zcT (pv 3)) zdL))))
      zaK)
      (zaf (zbj ((zqs (zaH zmi (zaz zbm (pv 1) zah) zah (zaP _)) (zo8 (zaH (zj4 hr.units) (pv 0) (zda zae) (zaP _))))).pt
      (zaf (zaS (i:=3) sc_law_changed.nd rfl (by first | exact Or.inl rfl | exact Or.inr rfl) (zaz zbm (zaz zbd (pv 1) zah) (zas zaB (by rfl) T.len PySem.boot_len (zab (pv 0) zae))))
      (zam (zaE (zaz zdj (zaz zdj (zcu zdi (pv 0) zdL (zcT (pv 3))) (zda (zab (pv 4) zae))) (zcu zdi (pv 0) (zcT (zaz zbz (pv 3) zah)) zdL)))))
      zaK)
      (zam (zaE (pv 0)))))))),zb8 (K:=(KX K ad)) (XO:=(xoK (KX K ad))) (E:=E) (np:=3) (nv:=2) (m:=zdH)
      (zap (zaV (zan zbl ((zan zcb zac (zai).r)).r ((zan zby ((zbr zbH (zaq zac zaD))).r (zai).r)).r) zaA)
      (zap (zaV (zan zdS ((zb3 (zad zag (zad (zjC zgg (zai).r) (zad (zan zbl ((zan zcb zac (zai).r)).r ((zan zby zac (zai).r)).r) (zad zai zat)))))).e.r ((zan zbl ((zan zcb zac (zai).r)).r (zai).r)).r) zaA)
      (zap (zbk (zaG (zan zeS ((zan zbl zac (zai).r)).r (zai).r))
      (zaF ((zeK zeM ((zbX zac zhC (zcR zag))).e.r ((zbX zac (zcR (zan zby zac (zai).r)) zhC)).e.r)).e)
      zaJ)
      (zap (zbk (zaG (zan zeS ((zan zbl zac (zai).r)).r (zai).r))
      (zaF ((zeK zeM ((zeK zeM ((zbX zac zhC (zcR zag))).e.r ((zb3 (zad zag zat))).e.r)).e.r ((zbX zac (zcR zag) zhC)).e.r)).e)
      zaJ)
      (zap (zbk (zpW (zaG (zan zmY ((zan zbl zac (zai).r)).r (zai).r)) (zaG (zan zke zac ((zb3 zat)).e.r)))
      (zap (zaV (zan zbl ((zan zcb zac (zai).r)).r ((zbr zbH (zaq zac zaD))).r) zaA)
      (zaF ((zeK zeM ((zeK zeM ((zbX zac zhC (zcR zag))).e.r ((zb3 (zad zag zat))).e.r)).e.r ((zbX zac (zcR (zan zby zac (zai).r)) zhC)).e.r)).e))
      zaJ)
      (zaF zag)))))) rfl h⟩
abbrev zcr:Stmt:=top 39
theorem sc_law_bench_bound:FnScope ["_law_sizes_here","_law_many","_law_falling","_law_bound"] ["_law_sizes_here","_law_many"] (zao zcr):=⟨rfl,rfl,rfl,by decide +kernel,rfl,by decide +kernel,by decide +kernel⟩
theorem zfb {f:Addr} {fd:FuncData} (F:Fun K "_law_bench_bound" "_law_bench_bound" zcr f fd) (T:Txt K mg ad)  : FnOk P w K mg base CX0 1 f fd ["_law_sizes_here","_law_many"] (spM (KX K ad) (xoK (KX K ad)) zaR):=by
  refine F.ok sc_law_bench_bound (fun vs H Q E h=>za0 h) (fun cdv A outer s H vs Q E hr h=>?_)
  have hu:=zbD hr
  exact ⟨_,(zaf (zbj (zaH (zqj hr.units) (pv 0) (zda zae) (zaP _))
      (zam (zaE zah))
      zaK)
      (zaf (zaS (i:=2) sc_law_bench_bound.nd rfl (by first | exact Or.inl rfl | exact Or.inr rfl) (zj8 (by rfl) T.sorted (zab (pv 0) zae)))
      (zaf (zaS (i:=3) sc_law_bench_bound.nd rfl (by first | exact Or.inl rfl | exact Or.inr rfl) (zas (ze4 rfl) (by rfl) T.max boot_max (zab (zd3 zcz (pv 2) zah (fun _ _=>rfl)) (zab (zaz zeu zah (zaz zbd (zaz zeu zah (zas (zcI rfl) (by rfl) T.sum boot_sum (zab (pv 0) zae))) (pv 1))) zae))))
      (zaf (zbj (zaH zds (zas zaB (by rfl) T.len PySem.boot_len (zab (pv 0) zae)) (pv 1) (zaP _))
      (zam (zaS (i:=3) sc_law_bench_bound.nd rfl (by first | exact Or.inl rfl | exact Or.inr rfl) (zas (ze4 rfl) (by rfl) T.max boot_max (zab (pv 3) (zab (zaz zbz (zd3 zcz (pv 2) (zaz zeu (pv 1) zah) (fun _ _=>rfl)) (zd3 zcz (pv 2) (pv 1) (fun _ _=>rfl))) zae)))))
      zaK)
      (zam (zaE (pv 3))))))),zb8 (K:=(KX K ad)) (XO:=(xoK (KX K ad))) (E:=E) (np:=2) (nv:=2) (m:=zdp)
      (zap (zbk (zaG (zan zqt zac ((zb3 zat)).e.r))
      (zaF zai)
      zaJ)
      (zap (zaV ((ziJ (zaq zac zaD))).e zaA)
      (zap (zaV (zbr zhY (zaq ((zan zdS zac (zai).r)).r (zaq ((zan zee (zai).r ((zan zcb ((zan zee (zai).r ((zbr zko (zaq zac zaD))).r)).r zac)).r)).r zaD))) zaA)
      (zap (zbk (zaG (zan zdA ((zbr zbH (zaq zac zaD))).r zac))
      (zaV (zbr zhY (zaq zac (zaq ((zan zby ((zan zdS zac ((zan zee zac (zai).r)).r)).r ((zan zdS zac zac)).r)).r zaD))) zaA)
      zaJ)
      (zaF zag))))) rfl h⟩
abbrev zb5:Stmt:=top 45
theorem zeG:FnScope ["_law_bound","_law_number_here"] ["_law_bound","_law_number_here"] (zao zb5):=⟨rfl,rfl,rfl,by decide +kernel,rfl,by decide +kernel,by decide +kernel⟩
theorem zeD {f:Addr} {fd:FuncData} (F:Fun K "_law_bound_changed" "_law_bound_changed" zb5 f fd) (T:Txt K mg ad)  : FnOk P w K mg base CX0 1 f fd ["_law_bound","_law_number_here"] (spM (KX K ad) (xoK (KX K ad)) zaQ):=by
  refine F.ok zeG (fun vs H Q E h=>za0 h) (fun cdv A outer s H vs Q E hr h=>?_)
  have hu:=zbD hr
  exact ⟨_,(zam (zaE (zd3 zcz (zda (zab (pv 0) (zab (pv 0) (zab (zaz zbz (pv 0) zah) (zab (zaz zeu (pv 0) zah) (zab (zaz zbd (zaz zbs zah (pv 0)) zah) (zab (zaz zeu (zjJ zgr zah) (zaz zbm (zaz zbd (pv 1) zah) zah)) (zab zah (zab (zaz zbd (pv 0) zah) zae))))))))) (zaz zbm (pv 1) zah) (fun _ _=>rfl)))),zb8 (K:=(KX K ad)) (XO:=(xoK (KX K ad))) (E:=E) (np:=2) (nv:=0) (m:=zcQ)
      (zaF (zan zdS ((zb3 (zad zag (zad zag (zad (zan zby zac (zai).r) (zad (zan zee zac (zai).r) (zad (zan zcb ((zan zbV (zai).r zac)).r (zai).r) (zad (zan zee ((zjC zgg (zai).r)).r ((zan zbl ((zan zcb zac (zai).r)).r (zai).r)).r) (zad zai (zad (zan zcb zac (zai).r) zat)))))))))).e.r ((zan zbl zac (zai).r)).r)) rfl h⟩
abbrev zdO:Stmt:=top 28
theorem ziX:FnScope ["numbers","count"] ["numbers","count"] (zao zdO):=⟨rfl,rfl,rfl,by decide +kernel,rfl,by decide +kernel,by decide +kernel⟩
theorem zi2 {f:Addr} {fd:FuncData} (F:Fun K "all_below" "all_below" zdO f fd) (T:Txt K mg ad)  : FnOk P w K mg base CX0 1 f fd ["numbers","count"] (spM (KX K ad) (xoK (KX K ad)) zbA):=by
  refine F.ok ziX (fun vs H Q E h=>za0 h) (fun cdv A outer s H vs Q E hr h=>?_)
  have hu:=zbD hr
  exact ⟨_,(zam (zaE (zas (zlP rfl) (by rfl) T.all boot_all (zab (zft rfl (zc3 (pv 0)) (zes (zao zdO) ["numbers","count"] ["count","number"] [1] 1 rfl rfl rfl (by decide +kernel) (by decide +kernel) (by decide +kernel) rfl (by decide +kernel) (fun cl C s H fp pins=>(zbe (i:=1) (show List.Nodup (["count","number"]:List Str) by decide +kernel) rfl (Or.inl rfl))) (fun cl C s H fp pins=>(znL zqv zmi zah (pv 1) (pv 0))) (Or.inl ⟨rfl,rfl⟩))) zae)))),zb8 (K:=(KX K ad)) (XO:=(xoK (KX K ad))) (E:=E) (np:=2) (nv:=0) (m:=zgi)
      (zaF (zbr zp3 (zaq ((zcc (zdf zac) (by decide) zbZ zcD (Or.inl ⟨rfl,rfl⟩) (znU zp2 zmY (zai).r zac zac))).e.r zaD))) rfl h⟩
abbrev zcS:Stmt:=top 9
theorem sc_common_factor:FnScope ["one","other","great","small","rest"] ["one","other"] (zao zcS):=⟨rfl,rfl,rfl,by decide +kernel,rfl,by decide +kernel,by decide +kernel⟩
theorem zf0 {f:Addr} {fd:FuncData} (F:Fun K "common_factor" "common_factor" zcS f fd) (T:Txt K mg ad)  : FnOk P w K mg base CX0 1 f fd ["one","other"] (spM (KX K ad) (xoK (KX K ad)) zbK):=by
  refine F.ok sc_common_factor (fun vs H Q E h=>za0 h) (fun cdv A outer s H vs Q E hr h=>?_)
  have hu:=zbD hr
  exact ⟨_,(zaf (zaS (i:=2) sc_common_factor.nd rfl (by first | exact Or.inl rfl | exact Or.inr rfl) (zas zkp (by rfl) T.abs boot_abs (zab (pv 0) zae)))
      (zaf (zaS (i:=3) sc_common_factor.nd rfl (by first | exact Or.inl rfl | exact Or.inr rfl) (zas zkp (by rfl) T.abs boot_abs (zab (pv 1) zae)))
      (zaf (zn9 PassesOwn.never (zaH zds (pv 3) zah (zaP _))
      (zaf (zaS (i:=4) sc_common_factor.nd rfl (by first | exact Or.inl rfl | exact Or.inr rfl) (zaz zbm (pv 2) (pv 3)))
      (zaf (zaS (i:=2) sc_common_factor.nd rfl (by first | exact Or.inl rfl | exact Or.inr rfl) (pv 3))
      (zam (zaS (i:=3) sc_common_factor.nd rfl (by first | exact Or.inl rfl | exact Or.inr rfl) (pv 4))))))
      (zam (zaE (pv 2)))))),zb8 (K:=(KX K ad)) (XO:=(xoK (KX K ad))) (E:=E) (np:=2) (nv:=3) (m:=zc5)
      (zap (zaV (zbr zol (zaq zac zaD)) zaA)
      (zap (zaV (zbr zol (zaq zac zaD)) zaA)
      (zap (zoa (zaG (zan zdA zac (zai).r))
      (zap (zaV (zan zbl zac zac) zaA)
      (zap (zaV zag zaA)
      (zaV zag zaA))))
      (zaF zag)))) rfl h⟩
abbrev zjr:Stmt:=top 10
theorem sc_share:FnScope ["top","bottom","factor"] ["top","bottom"] (zao zjr):=⟨rfl,rfl,rfl,by decide +kernel,rfl,by decide +kernel,by decide +kernel⟩
theorem znZ {f:Addr} {fd:FuncData} (F:Fun K "share" "share" zjr f fd) (T:Txt K mg ad) (G_common_factor:Has P w K mg base CX0 1 "common_factor" ["one","other"] (spM (KX K ad) (xoK (KX K ad)) zbK)):FnOk P w K mg base (CX1 P w) 2 f fd ["top","bottom"] (spM (KX K ad) (xoK (KX K ad)) zcn):=by
  refine F.ok1 sc_share (fun vs H Q E h=>za0 h) (fun cdv A outer s H vs Q E hr h=>?_)
  have hu:=zbD hr
  exact ⟨_,(zaf (zbj (zaH zeU (pv 1) zah (zaP _))
      (zam (znC rfl (by rfl) T.m_NoShare T.e_NoShare PySem.F.excBase_ValueError (by decide +kernel) PySem.F.excBase_ValueError zrj (zab zcG zae)))
      zaK)
      (zaf (zaS (i:=2) sc_share.nd rfl (by first | exact Or.inl rfl | exact Or.inr rfl) (zaL G_common_factor (hr.mono (by decide)) (by rfl) za3 (zab (pv 0) (zab (pv 1) zae))))
      (zaf (zbj (zaH zmi (pv 1) zah (zaP _))
      (zam (zaS (i:=2) sc_share.nd rfl (by first | exact Or.inl rfl | exact Or.inr rfl) (zjJ zgr (pv 2))))
      zaK)
      (zam (zaE (zit (zab (zaz zbd (pv 0) (pv 2)) (zab (zaz zbd (pv 1) (pv 2)) zae)))))))),zb8 (K:=(KX K ad)) (XO:=(xoK (KX K ad))) (E:=E) (np:=2) (nv:=1) (m:=zjg)
      (zap (zbk (zaG (zan zeS zac (zai).r))
      (znu (c:=1) rfl (by decide) (zad zcF zat))
      zaJ)
      (zap (zaV (zaC (zad zag (zad zag zat))) zaA)
      (zap (zbk (zaG (zan zmY zac (zai).r))
      (zaV (zjC zgg zac) zaA)
      zaJ)
      (zaF (zjb (zad (zan zcb zac zac) (zad (zan zcb zac zac) zat))))))) rfl h⟩
abbrev zer:Stmt:=top 11
theorem zhw:FnScope ["one"] ["one"] (zao zer):=⟨rfl,rfl,rfl,by decide +kernel,rfl,by decide +kernel,by decide +kernel⟩
theorem zh8 {f:Addr} {fd:FuncData} (F:Fun K "rounded_up" "rounded_up" zer f fd) (T:Txt K mg ad)  : FnOk P w K mg base CX0 1 f fd ["one"] (spM (KX K ad) (xoK (KX K ad)) zba):=by
  refine F.ok zhw (fun vs H Q E h=>za0 h) (fun cdv A outer s H vs Q E hr h=>?_)
  have hu:=zbD hr
  exact ⟨_,(zam (zaE (zjJ zgr (zaz zbd (zjJ zgr (zd3 zhj (pv 0) zah (fun _ _=>rfl))) (zd3 zhj (pv 0) zah (fun _ _=>rfl)))))),zb8 (K:=(KX K ad)) (XO:=(xoK (KX K ad))) (E:=E) (np:=1) (nv:=0) (m:=zen)
      (zaF (zjC zgg ((zan zcb ((zjC zgg ((zan zhi zac (zai).r)).r)).r ((zan zhi zac (zai).r)).r)).r)) rfl h⟩
abbrev zdJ:Stmt:=top 19
theorem sc_bench_bound:FnScope ["works","many","falling","bounds"] ["works","many"] (zao zdJ):=⟨rfl,rfl,rfl,by decide +kernel,rfl,by decide +kernel,by decide +kernel⟩
theorem zgX {f:Addr} {fd:FuncData} (F:Fun K "bench_bound" "bench_bound" zdJ f fd) (T:Txt K mg ad) (G_share:Has P w K mg base (CX1 P w) 2 "share" ["top","bottom"] (spM (KX K ad) (xoK (KX K ad)) zcn)) (G_rounded_up:Has P w K mg base CX0 1 "rounded_up" ["one"] (spM (KX K ad) (xoK (KX K ad)) zba)):FnOk P w K mg base (CX1 P w) 3 f fd ["works","many"] (spM (KX K ad) (xoK (KX K ad)) zbB):=by
  refine F.ok1 sc_bench_bound (fun vs H Q E h=>za0 h) (fun cdv A outer s H vs Q E hr h=>?_)
  have hu:=zbD hr
  exact ⟨_,(zaf (zbj (zaH zeU (zas zaB (by rfl) T.len PySem.boot_len (zab (pv 0) zae)) zah (zaP _))
      (zam (zaE zah))
      zaK)
      (zaf (zaS (i:=2) sc_bench_bound.nd rfl (by first | exact Or.inl rfl | exact Or.inr rfl) (zj8 (by rfl) T.sorted (zab (pv 0) zae)))
      (zaf (zaS (i:=3) sc_bench_bound.nd rfl (by first | exact Or.inl rfl | exact Or.inr rfl) (zda (zab (zaL G_rounded_up (hr.mono (by decide)) (by rfl) za3 (zab (zdI G_share (hr.mono (by decide)) (by rfl) zjt (zab (zas (zcI rfl) (by rfl) T.sum boot_sum (zab (pv 0) zae)) (zab (pv 1) zae))) zae)) (zab (zd3 zcz (pv 2) zah (fun _ _=>rfl)) zae))))
      (zaf (zbj (zaH zds (zas zaB (by rfl) T.len PySem.boot_len (zab (pv 0) zae)) (pv 1) (zaP _))
      (zam (zeo (znG PySem.F.plainAttrs_list PySem.F.slot_list_append PySem.F.type_list_append ze1 (pv 3) (zab (zaz zbz (zd3 zcz (pv 2) (zaz zeu (pv 1) zah) (fun _ _=>rfl)) (zd3 zcz (pv 2) (pv 1) (fun _ _=>rfl))) zae))))
      zaK)
      (zam (zaE (zas (zeV rfl) (by rfl) T.max boot_max (zab (pv 3) zae)))))))),zb8 (K:=(KX K ad)) (XO:=(xoK (KX K ad))) (E:=E) (np:=2) (nv:=2) (m:=zeW)
      (zap (zbk (zaG (zan zeS ((zbr zbH (zaq zac zaD))).r (zai).r))
      (zaF zai)
      zaJ)
      (zap (zaV ((ziJ (zaq zac zaD))).e zaA)
      (zap (zfT (zb3 (zad (zaC (zad (zcM (zad (zbr zko (zaq zac zaD)) (zad zag zat))) zat)) (zad (zan zdS zac (zai).r) zat))))
      (zap (zbk (zaG (zan zdA ((zbr zbH (zaq zac zaD))).r zac))
      (zgj (zan zby ((zan zdS zac ((zan zee zac (zai).r)).r)).r ((zan zdS zac zac)).r))
      zaJ)
      (zaF (zbr zgs (zaq zac zaD))))))) rfl h⟩
abbrev zez:Stmt:=top 18
theorem sc_heaviest:FnScope ["works","many","put","sums","work","bench"] ["works","many","put"] (zao zez):=⟨rfl,rfl,rfl,by decide +kernel,rfl,by decide +kernel,by decide +kernel⟩
theorem zjP {f:Addr} {fd:FuncData} (F:Fun K "heaviest" "heaviest" zez f fd) (T:Txt K mg ad)  : FnOk P w K mg base CX0 1 f fd ["works","many","put"] (spM (KX K ad) (xoK (KX K ad)) zb7):=by
  refine F.ok sc_heaviest (fun vs H Q E h=>za0 h) (fun cdv A outer s H vs Q E hr h=>?_)
  have hu:=zbD hr
  exact ⟨_,(zaf (zgO (i:=3) sc_heaviest.nd rfl (by first | exact Or.inl rfl | exact Or.inr rfl) rfl (ziB rfl T.range (zab (pv 1) zae)) (zes (zao zez) ["works","many","put","sums","work","bench"] ["bench"] [] 1 rfl rfl rfl (by decide +kernel) (by decide +kernel) (by decide +kernel) rfl (by decide +kernel) (fun cl C s H fp pins=>(zbe (i:=0) (show List.Nodup (["bench"]:List Str) by decide +kernel) rfl (Or.inl rfl))) (fun cl C s H fp pins=>zah) (Or.inl ⟨rfl,rfl⟩)) rfl)
      (zaf (zfI PassesOwn.never rfl (zoz rfl T.zip (zab (pv 0) (zab (pv 2) zae))) (ziv rfl (zcs (zbe (i:=4) sc_heaviest.nd rfl (by first | exact Or.inl rfl | exact Or.inr rfl)) (zcs (zbe (i:=5) sc_heaviest.nd rfl (by first | exact Or.inl rfl | exact Or.inr rfl)) zgy)))
      (zam (zjI (pv 3) (pv 5) zh5 (pv 4) zoe zeY)))
      (zam (zaE (zas (zeV rfl) (by rfl) T.max boot_max (zab (pv 3) zae)))))),zb8 (K:=(KX K ad)) (XO:=(xoK (KX K ad))) (E:=E) (np:=3) (nv:=3) (m:=zg9)
      (zap (zfT (zcc (zid len1 (zad zag zat)).c (by decide) zbZ zcD (Or.inl ⟨rfl,rfl⟩) zai))
      (zap (zfP (zox (zad zag (zad zag zat))) (zi6 (zct zaA (zct zaA zgm)))
      (zju zag zag))
      (zaF (zbr zgs (zaq zac zaD))))) rfl h⟩
abbrev zcY:Stmt:=top 29
theorem zf4:FnScope ["works","many","put","bound"] ["works","many","put","bound"] (zao zcY):=⟨rfl,rfl,rfl,by decide +kernel,rfl,by decide +kernel,by decide +kernel⟩
theorem zf1 {f:Addr} {fd:FuncData} (F:Fun K "check_benches" "check_benches" zcY f fd) (T:Txt K mg ad) (G_all_below:Has P w K mg base CX0 1 "all_below" ["numbers","count"] (spM (KX K ad) (xoK (KX K ad)) zbA)) (G_bench_bound:Has P w K mg base (CX1 P w) 3 "bench_bound" ["works","many"] (spM (KX K ad) (xoK (KX K ad)) zbB)) (G_heaviest:Has P w K mg base CX0 1 "heaviest" ["works","many","put"] (spM (KX K ad) (xoK (KX K ad)) zb7)):FnOk P w K mg base (CX1 P w) 4 f fd ["works","many","put","bound"] (spM (KX K ad) (xoK (KX K ad)) zbx):=by
  refine F.ok1 zf4 (fun vs H Q E h=>za0 h) (fun cdv A outer s H vs Q E hr h=>?_)
  have hu:=zbD hr
  exact ⟨_,(zaf (zbj ((zgP (zaH znF (zas zaB (by rfl) T.len PySem.boot_len (zab (pv 2) zae)) (zas zaB (by rfl) T.len PySem.boot_len (zab (pv 0) zae)) (zaP _)) (zfO (zfG (zcX (zaL G_all_below (hr.mono (by decide)) (by rfl) za3 (zab (pv 2) (zab (pv 1) zae)))))))).pt
      (zam (zaE zcG))
      zaK)
      (zaf (zbj (zaH zds (pv 3) (zdI G_bench_bound (hr.mono (by decide)) (by rfl) zjt (zab (pv 0) (zab (pv 1) zae))) (zaP _))
      (zam (zaE zcG))
      zaK)
      (zaf (zbj (zaH zds (zaz zbs (zaz zbs (zaL G_heaviest (hr.mono (by decide)) (by rfl) za3 (zab (pv 0) (zab (pv 1) (zab (pv 2) zae)))) zah) (pv 1)) (zaz zbs (pv 3) (zaz zeu (zaz zbs zah (pv 1)) zah)) (zaP _))
      (zam (zaE zcG))
      zaK)
      (zam (zaE zfJ))))),zb8 (K:=(KX K ad)) (XO:=(xoK (KX K ad))) (E:=E) (np:=4) (nv:=0) (m:=zea)
      (zap (zbk (zgk (zaG (zan znj ((zbr zbH (zaq zac zaD))).r ((zbr zbH (zaq zac zaD))).r)) (zfB (st_b (zaC (zad zag (zad zag zat))))))
      (zaF zcF)
      zaJ)
      (zap (zbk (zaG (zan zdA zac ((zcM (zad zag (zad zag zat)))).r))
      (zaF zcF)
      zaJ)
      (zap (zbk (zaG (zan zdA ((zan zbV ((zan zbV ((zaC (zad zag (zad zag (zad zag zat))))).r (zai).r)).r zac)).r ((zan zbV zac ((zan zee ((zan zbV (zai).r zac)).r (zai).r)).r)).r))
      (zaF zcF)
      zaJ)
      (zaF zfU)))) rfl h⟩
abbrev zfr:Stmt:=top 38
theorem sc_law_sums:FnScope ["_law_sizes_here","_law_put","_law_sums_here","_law_size","_law_spot"] ["_law_sizes_here","_law_put"] (zao zfr):=⟨rfl,rfl,rfl,by decide +kernel,rfl,by decide +kernel,by decide +kernel⟩
theorem zjU {f:Addr} {fd:FuncData} (F:Fun K "_law_sums" "_law_sums" zfr f fd) (T:Txt K mg ad)  : FnOk P w K mg base CX0 1 f fd ["_law_sizes_here","_law_put"] (spO (KX K ad) (xoK (KX K ad)) zbQ):=by
  refine F.ok sc_law_sums (fun vs H Q E h=>zem h) (fun cdv A outer s H vs Q E hr h=>?_)
  have hu:=zbD hr
  exact ⟨_,(zaf (zaS (i:=2) sc_law_sums.nd rfl (by first | exact Or.inl rfl | exact Or.inr rfl) zno)
      (zaf (zfI PassesOwn.never rfl (zoz rfl T.zip (zab (pv 0) (zab (pv 1) zae))) (ziv rfl (zcs (zbe (i:=3) sc_law_sums.nd rfl (by first | exact Or.inl rfl | exact Or.inr rfl)) (zcs (zbe (i:=4) sc_law_sums.nd rfl (by first | exact Or.inl rfl | exact Or.inr rfl)) zgy)))
      (zam (zpt hu (pv 2) (pv 4) (zaz zbz (zni hu (pv 2) (pv 4) zah (zra)) (pv 3)) rfl)))
      (zam (zaE (pv 2))))),zfW (K:=(KX K ad)) (XO:=(xoK (KX K ad))) (E:=E) (np:=2) (nv:=3) (m:=zhh)
      (zap (zfT znn)
      (zap (zfP (zox (zad zag (zad zag zat))) (zi6 (zct zaA (zct zaA zgm)))
      (zpB zag (zan zby ((zpl zac zag zai)).r zac)))
      zhs)) rfl h⟩
abbrev zb2:Stmt:=top 40
theorem sc_law_bench_word:FnScope ["_law_sizes_here","_law_many","_law_put","_law_bound","_law_most"] ["_law_sizes_here","_law_many","_law_put","_law_bound"] (zao zb2):=⟨rfl,rfl,rfl,by decide +kernel,rfl,by decide +kernel,by decide +kernel⟩
theorem zfg {f:Addr} {fd:FuncData} (F:Fun K "_law_bench_word" "_law_bench_word" zb2 f fd) (T:Txt K mg ad) (G_law_bench_bound:Has P w K mg base CX0 1 "_law_bench_bound" ["_law_sizes_here","_law_many"] (spM (KX K ad) (xoK (KX K ad)) zaR)) (G_law_sums:Has P w K mg base CX0 1 "_law_sums" ["_law_sizes_here","_law_put"] (spO (KX K ad) (xoK (KX K ad)) zbQ)):FnOk P w K mg base CX0 2 f fd ["_law_sizes_here","_law_many","_law_put","_law_bound"] (spM (KX K ad) (xoK (KX K ad)) zbE):=by
  refine F.ok sc_law_bench_word (fun vs H Q E h=>za0 h) (fun cdv A outer s H vs Q E hr h=>?_)
  have hu:=zbD hr
  exact ⟨_,(zaf (zbj ((zgP (zaH znF (zas zaB (by rfl) T.len PySem.boot_len (zab (pv 2) zae)) (zas zaB (by rfl) T.len PySem.boot_len (zab (pv 0) zae)) (zaP _)) (zfO (zaH zds (zas zaB (by rfl) T.len PySem.boot_len (zab (zft rfl (zc3 (pv 2)) (zes (zao zb2) ["_law_sizes_here","_law_many","_law_put","_law_bound","_law_most"] ["_law_many","_law_spot"] [1] 1 rfl rfl rfl (by decide +kernel) (by decide +kernel) (by decide +kernel) rfl (by decide +kernel) (fun cl C s H fp pins=>(zbe (i:=1) (show List.Nodup (["_law_many","_law_spot"]:List Str) by decide +kernel) rfl (Or.inl rfl))) (fun cl C s H fp pins=>zah) (Or.inr ⟨_,_,rfl,rfl,fun cl C s H fp pins=>((zgP (zaH zmi (pv 1) zah (zaP _)) (zfO (zaH zrc (pv 1) (pv 0) (zaP _))))).pt⟩))) zae)) zah (zaP _))))).pt
      (zam (zaE zcG))
      zaK)
      (zaf (zbj (zaH zds (pv 3) (zaL G_law_bench_bound (hr.mono (by decide)) (by rfl) za3 (zab (pv 0) (zab (pv 1) zae))) (zaP _))
      (zam (zaE zcG))
      zaK)
      (zaf (zaS (i:=4) sc_law_bench_word.nd rfl (by first | exact Or.inl rfl | exact Or.inr rfl) (zas (zeV rfl) (by rfl) T.max boot_max (zab (zaz zdj (zda (zab zah zae)) (zbU (zfV rfl) (by rfl) T.list boot_list (zab (zmQ (zaL G_law_sums (hr.mono (by decide)) (by rfl) za3 (zab (pv 0) (zab (pv 2) zae)))) zae))) zae)))
      (zaf (zbj (zaH zds (zaz zbs (zaz zbs (pv 4) zah) (pv 1)) (zaz zbs (pv 3) (zaz zeu (zaz zbs zah (pv 1)) zah)) (zaP _))
      (zam (zaE zcG))
      zaK)
      (zam (zaE zfJ)))))),zb8 (K:=(KX K ad)) (XO:=(xoK (KX K ad))) (E:=E) (np:=4) (nv:=1) (m:=zdV)
      (zap (zbk (zgk (zaG (zan znj ((zbr zbH (zaq zac zaD))).r ((zbr zbH (zaq zac zaD))).r)) (zaG (zan zdA ((zbr zbH (zaq ((zcc (zdf zac) (by decide) zbZ zcD (Or.inr ⟨_,_,rfl,rfl,(zgk (zaG (zan zmY zac (zai).r)) (zaG (zan zqY zac zac)))⟩) zai)).e.r zaD))).r (zai).r)))
      (zaF zcF)
      zaJ)
      (zap (zbk (zaG (zan zdA zac ((zaC (zad zag (zad zag zat)))).r))
      (zaF zcF)
      zaJ)
      (zap (zaV (zbr zgs (zaq ((zeK zeM ((zb3 (zad zai zat))).e.r ((zky ((zbL (zad zag (zad zag zat)))).e.r)).e.r)).e.r zaD)) zaA)
      (zap (zbk (zaG (zan zdA ((zan zbV ((zan zbV zac (zai).r)).r zac)).r ((zan zbV zac ((zan zee ((zan zbV (zai).r zac)).r (zai).r)).r)).r))
      (zaF zcF)
      zaJ)
      (zaF zfU))))) rfl h⟩
abbrev zfx:Stmt:=top 46
theorem zjo:FnScope ["_law_found","_law_due"] ["_law_found","_law_due"] (zao zfx):=⟨rfl,rfl,rfl,by decide +kernel,rfl,by decide +kernel,by decide +kernel⟩
theorem zjf {f:Addr} {fd:FuncData} (F:Fun K "_law_same" "_law_same" zfx f fd) (T:Txt K mg ad)  : FnOk P w K mg base CX0 1 f fd ["_law_found","_law_due"] (spM (KX K ad) (xoK (KX K ad)) zco):=by
  refine F.ok zjo (fun vs H Q E h=>za0 h) (fun cdv A outer s H vs Q E hr h=>?_)
  have hu:=zbD hr
  exact ⟨_,(zaf (zbj (zaH zmw (pv 1) zfJ (zaP _))
      (zam (zaE (zfy zmw (pv 0) zfJ (zaP _))))
      zaK)
      (zam (zaE (zlX (zas zc1 (by rfl) T.isinstance boot_isinstance (zab (pv 0) (zab (zhL (v:=.ty "str") (by rfl) T.str boot_str rfl) zae))) (zmb (zfy zeU (pv 0) (pv 1) (zaP _))))))),zb8 (K:=(KX K ad)) (XO:=(xoK (KX K ad))) (E:=E) (np:=2) (nv:=0) (m:=zhc)
      (zap (zbk (zaG (zan zo0 zac (zfU).r))
      (zaF (zan zo0 zac (zfU).r))
      zaJ)
      (zaF (zlw (zmI znQ zac) (zan zeS zac zac)))) rfl h⟩
abbrev zdD:Stmt:=top 47
theorem sc_law_benches:FnScope ["_law_sizes_here","_law_many","_law_number_here","_law_put","_law_bound","_law_handed","_law_found"] ["_law_sizes_here","_law_many","_law_number_here"] (zao zdD):=⟨rfl,rfl,rfl,by decide +kernel,rfl,by decide +kernel,by decide +kernel⟩
theorem zgR {f:Addr} {fd:FuncData} (F:Fun K "_law_benches" "_law_benches" zdD f fd) (T:Txt K mg ad) (G_law_number:Has P w K mg base CX0 1 "_law_number" ["_law_cell","_law_k"] (spM (KX K ad) (xoK (KX K ad)) zaN)) (G_put_longest_first:Has P w K mg base CX0 3 "put_longest_first" ["works","many"] (spO (KX K ad) (xoK (KX K ad)) za4)) (G_law_any:Has P w K mg base CX0 1 "_law_any" ["_law_sizes_here","_law_number_here","_law_many"] (spO (KX K ad) (xoK (KX K ad)) zb9)) (G_law_changed:Has P w K mg base CX0 1 "_law_changed" ["_law_put","_law_number_here","_law_many"] (spM (KX K ad) (xoK (KX K ad)) za8)) (G_law_bench_bound:Has P w K mg base CX0 1 "_law_bench_bound" ["_law_sizes_here","_law_many"] (spM (KX K ad) (xoK (KX K ad)) zaR)) (G_law_bound_changed:Has P w K mg base CX0 1 "_law_bound_changed" ["_law_bound","_law_number_here"] (spM (KX K ad) (xoK (KX K ad)) zaQ)) (G_check_benches:Has P w K mg base (CX1 P w) 4 "check_benches" ["works","many","put","bound"] (spM (KX K ad) (xoK (KX K ad)) zbx)) (G_law_bench_word:Has P w K mg base CX0 2 "_law_bench_word" ["_law_sizes_here","_law_many","_law_put","_law_bound"] (spM (KX K ad) (xoK (KX K ad)) zbE)) (G_law_same:Has P w K mg base CX0 1 "_law_same" ["_law_found","_law_due"] (spM (KX K ad) (xoK (KX K ad)) zco)):FnOk P w K mg base CX0 5 f fd ["_law_sizes_here","_law_many","_law_number_here"] (spM (KX K ad) (xoK (KX K ad)) zbM):=by
  refine F.ok sc_law_benches (fun vs H Q E h=>za0 h) (fun cdv A outer s H vs Q E hr h=>?_)
  have hu:=zbD hr
  exact ⟨_,(zaf (zaS (i:=3) sc_law_benches.nd rfl (by first | exact Or.inl rfl | exact Or.inr rfl) (zaL G_put_longest_first (hr.mono (by decide)) (by rfl) za3 (zab (pv 0) (zab (pv 1) zae))))
      (zaf (zbj (zaH zeU (zaz zbm (pv 2) zah) zah (zaP _))
      (zam (zaS (i:=3) sc_law_benches.nd rfl (by first | exact Or.inl rfl | exact Or.inr rfl) (zaL G_law_any (hr.mono (by decide)) (by rfl) za3 (zab (pv 0) (zab (pv 2) (zab (pv 1) zae))))))
      zaK)
      (zaf (zaS (i:=3) sc_law_benches.nd rfl (by first | exact Or.inl rfl | exact Or.inr rfl) (zaL G_law_changed (hr.mono (by decide)) (by rfl) za3 (zab (pv 3) (zab (zaz zbd (pv 2) zah) (zab (pv 1) zae)))))
      (zaf (zaS (i:=4) sc_law_benches.nd rfl (by first | exact Or.inl rfl | exact Or.inr rfl) (zaL G_law_bound_changed (hr.mono (by decide)) (by rfl) za3 (zab (zaL G_law_bench_bound (hr.mono (by decide)) (by rfl) za3 (zab (pv 0) (zab (pv 1) zae))) (zab (zaL G_law_number (hr.mono (by decide)) (by rfl) za3 (zab (pv 2) (zab zah zae))) zae))))
      (zaf (zaS (i:=5) sc_law_benches.nd rfl (by first | exact Or.inl rfl | exact Or.inr rfl) (zit (zab (zbU zdc (by rfl) T.list boot_list (zab (pv 0) zae)) (zab (zbU zdc (by rfl) T.list boot_list (zab (pv 3) zae)) zae))))
      (zaf (zaS (i:=6) sc_law_benches.nd rfl (by first | exact Or.inl rfl | exact Or.inr rfl) (zaL G_check_benches (hr.mono (by decide)) (by rfl) zps (zab (zd3 zhj (pv 5) zah (fun _ _=>rfl)) (zab (pv 1) (zab (zd3 zhj (pv 5) zah (fun _ _=>rfl)) (zab (pv 4) zae))))))
      (zaf (zbj (zaH (zj4 hr.units) (pv 5) (zit (zab (pv 0) (zab (pv 3) zae))) (zaP _))
      (zam (zaE zf5))
      zaK)
      (zam (zaE (zaL G_law_same (hr.mono (by decide)) (by rfl) za3 (zab (pv 6) (zab (zaL G_law_bench_word (hr.mono (by decide)) (by rfl) za3 (zab (pv 0) (zab (pv 1) (zab (pv 3) (zab (pv 4) zae))))) zae)))))))))))),zb8 (K:=(KX K ad)) (XO:=(xoK (KX K ad))) (E:=E) (np:=3) (nv:=4) (m:=ze0)
      (zap (zaV ((zbL (zad zag (zad zag zat)))).e zaA)
      (zap (zbk (zaG (zan zeS ((zan zbl zac (zai).r)).r (zai).r))
      (zaV ((zbL (zad zag (zad zag (zad zag zat))))).e zaA)
      zaJ)
      (zap (zaV (zaC (zad zag (zad (zan zcb zac (zai).r) (zad zag zat)))) zaA)
      (zap (zaV (zaC (zad (zaC (zad zag (zad zag zat))) (zad (zaC (zad zag (zad zai zat))) zat))) zaA)
      (zap (zaV (zjb (zad ((zjc zhX (zaq zac zaD))).e (zad ((zjc zhX (zaq zac zaD))).e zat))) zaA)
      (zap (zaV (zaC (zad (zan zhi zac (zai).r) (zad zag (zad (zan zhi zac (zai).r) (zad zag zat))))) zaA)
      (zap (zbk (zaG (zan zke zac ((zjb (zad zag (zad zag zat)))).r))
      (zaF zfX)
      zaJ)
      (zaF (zaC (zad zag (zad (zaC (zad zag (zad zag (zad zag (zad zag zat))))) zat))))))))))) rfl h⟩
abbrev zcd:Stmt:=top 21
theorem sc_refuse_too_great:FnScope ["sizes","room","number","size"] ["sizes","room"] (zao zcd):=⟨rfl,rfl,rfl,by decide +kernel,rfl,by decide +kernel,by decide +kernel⟩
theorem zeT {f:Addr} {fd:FuncData} (F:Fun K "refuse_too_great" "refuse_too_great" zcd f fd) (T:Txt K mg ad)  (I_NoRoom:HasI P w K mg base ad.f_NoRoom ["self","thing"] (spI K "thing")):FnOk P w K mg base (CX1 P w) 3 f fd ["sizes","room"] (spM (KX K ad) (xoK (KX K ad)) zav):=by
  refine F.ok1 sc_refuse_too_great (fun vs H Q E h=>za0 h) (fun cdv A outer s H vs Q E hr h=>?_)
  have hu:=zbD hr
  exact ⟨_,(zam (zfI PassesOwn.leaving rfl (zjR rfl T.enumerate (zab (pv 0) zae)) (ziv rfl (zcs (zbe (i:=2) sc_refuse_too_great.nd rfl (by first | exact Or.inl rfl | exact Or.inr rfl)) (zcs (zbe (i:=3) sc_refuse_too_great.nd rfl (by first | exact Or.inl rfl | exact Or.inr rfl)) zgy)))
      (zam (zbj (zaH zds (pv 3) (pv 1) (zaP _))
      (zam (zm7 rfl rfl (by rfl) T.m_NoRoom T.i_NoRoom PySem.F.excBase_ValueError (by decide +kernel) PySem.F.excBase_ValueError zqH I_NoRoom (hr.mono (by decide)) T.fn_NoRoom (zab (pv 2) zae)))
      zaK)))),zb8 (K:=(KX K ad)) (XO:=(xoK (KX K ad))) (E:=E) (np:=2) (nv:=2) (m:=zbI)
      (zfP (zmT (zad zag zat)) (zi6 (zct zaA (zct zaA zgm)))
      (zbk (zaG (zan zdA zac zac))
      (zlZ (c0:=5) (by decide) (fun k=>(zlV k).symm) zml T.a_NoRoom T.na_NoRoom (zad zag zat))
      zaJ)) rfl h⟩
abbrev zcq:Stmt:=top 22
theorem sc_first_that_fits:FnScope ["free","size","number","space"] ["free","size"] (zao zcq):=⟨rfl,rfl,rfl,by decide +kernel,rfl,by decide +kernel,by decide +kernel⟩
theorem ze5 {f:Addr} {fd:FuncData} (F:Fun K "first_that_fits" "first_that_fits" zcq f fd) (T:Txt K mg ad)  : FnOk P w K mg base CX0 1 f fd ["free","size"] (spM (KX K ad) (xoK (KX K ad)) za6):=by
  refine F.ok sc_first_that_fits (fun vs H Q E h=>za0 h) (fun cdv A outer s H vs Q E hr h=>?_)
  have hu:=zbD hr
  exact ⟨_,(zaf (zfI PassesOwn.never rfl (zjR rfl T.enumerate (zab (pv 0) zae)) (ziv rfl (zcs (zbe (i:=2) sc_first_that_fits.nd rfl (by first | exact Or.inl rfl | exact Or.inr rfl)) (zcs (zbe (i:=3) sc_first_that_fits.nd rfl (by first | exact Or.inl rfl | exact Or.inr rfl)) zgy)))
      (zam (zbj (zaH zqv (pv 1) (pv 3) (zaP _))
      (zam (zaE (pv 2)))
      zaK)))
      (zam (zaE (zas zaB (by rfl) T.len PySem.boot_len (zab (pv 0) zae))))),zb8 (K:=(KX K ad)) (XO:=(xoK (KX K ad))) (E:=E) (np:=2) (nv:=2) (m:=zdz)
      (zap (zfP (zmT (zad zag zat)) (zi6 (zct zaA (zct zaA zgm)))
      (zbk (zaG (zan zp2 zac zac))
      (zaF zag)
      zaJ))
      (zaF (zbr zbH (zaq zac zaD)))) rfl h⟩
abbrev zcL:Stmt:=top 23
theorem sc_put_by_bins:FnScope ["sizes","room","order","free","put","number","chosen"] ["sizes","room","order"] (zao zcL):=⟨rfl,rfl,rfl,by decide +kernel,rfl,by decide +kernel,by decide +kernel⟩
theorem zg5 {f:Addr} {fd:FuncData} (F:Fun K "put_by" "put_by" zcL f fd) (T:Txt K mg ad) (G_first_that_fits:Has P w K mg base CX0 1 "first_that_fits" ["free","size"] (spM (KX K ad) (xoK (KX K ad)) za6)):FnOk P w K mg base CX0 2 f fd ["sizes","room","order"] (spO (KX K ad) (xoK (KX K ad)) zci):=by
  refine F.ok sc_put_by_bins (fun vs H Q E h=>zem h) (fun cdv A outer s H vs Q E hr h=>?_)
  have hu:=zbD hr
  exact ⟨_,(zaf (zaS (i:=3) sc_put_by_bins.nd rfl (by first | exact Or.inl rfl | exact Or.inr rfl) (zda zae))
      (zaf (zgO (i:=4) sc_put_by_bins.nd rfl (by first | exact Or.inl rfl | exact Or.inr rfl) rfl (zc3 (pv 0)) (zes (zao zcL) ["sizes","room","order","free","put","number","chosen"] ["size"] [] 1 rfl rfl rfl (by decide +kernel) (by decide +kernel) (by decide +kernel) rfl (by decide +kernel) (fun cl C s H fp pins=>(zbe (i:=0) (show List.Nodup (["size"]:List Str) by decide +kernel) rfl (Or.inl rfl))) (fun cl C s H fp pins=>zah) (Or.inl ⟨rfl,rfl⟩)) rfl)
      (zaf (zfI PassesOwn.never rfl (zc3 (pv 2)) (zbe (i:=5) sc_put_by_bins.nd rfl (by first | exact Or.inl rfl | exact Or.inr rfl))
      (zaf (zaS (i:=6) sc_put_by_bins.nd rfl (by first | exact Or.inl rfl | exact Or.inr rfl) (zaL G_first_that_fits (hr.mono (by decide)) (by rfl) za3 (zab (pv 3) (zab (zd3 zcz (pv 0) (pv 5) (fun _ _=>rfl)) zae))))
      (zaf (zbj (zaH zeU (pv 6) (zas zaB (by rfl) T.len PySem.boot_len (zab (pv 3) zae)) (zaP _))
      (zam (zeo (znG PySem.F.plainAttrs_list PySem.F.slot_list_append PySem.F.type_list_append ze1 (pv 3) (zab (pv 1) zae))))
      zaK)
      (zaf (zjI (pv 3) (pv 6) zh5 (zd3 zcz (pv 0) (pv 5) (fun _ _=>rfl)) zqU zeY)
      (zam (zou (pv 6) (zoq (pv 4) (pv 5) zeY)))))))
      (zam (zaE (pv 4)))))),zfW (K:=(KX K ad)) (XO:=(xoK (KX K ad))) (E:=E) (np:=3) (nv:=4) (m:=ze6)
      (zap (zfT (zb3 zat))
      (zap (zfT (zcc (zdf zac) (by decide) zbZ zcD (Or.inl ⟨rfl,rfl⟩) zai))
      (zap (zfP (zjs zag) zaA
      (zap (zaV (zj0 (znd (zn0 (zan zdS zac zac) zlI))) zaA)
      (zap (zbk (zaG (zan zeS zac ((zbr zbH (zaq zac zaD))).r))
      (zgj zag)
      zaJ)
      (zap (zju zag (zan zdS zac zac))
      (zmy zag zag)))))
      zhs))) rfl h⟩
abbrev zcA:Stmt:=top 25
theorem zfi:FnScope ["sizes","room"] ["sizes","room"] (zao zcA):=⟨rfl,rfl,rfl,by decide +kernel,rfl,by decide +kernel,by decide +kernel⟩
theorem zfo {f:Addr} {fd:FuncData} (F:Fun K "greatest_first" "greatest_first" zcA f fd) (T:Txt K mg ad) (G_greatest_order:Has P w K mg base CX0 1 "greatest_order" ["sizes"] (spO (KX K ad) (xoK (KX K ad)) zbb)) (G_refuse_too_great:Has P w K mg base (CX1 P w) 3 "refuse_too_great" ["sizes","room"] (spM (KX K ad) (xoK (KX K ad)) zav)) (G_put_by_bins:Has P w K mg base CX0 2 "put_by_bins" ["sizes","room","order"] (spO (KX K ad) (xoK (KX K ad)) zci)):FnOk P w K mg base (CX1 P w) 4 f fd ["sizes","room"] (spO (KX K ad) (xoK (KX K ad)) zbq):=by
  refine F.ok1 zfi (fun vs H Q E h=>zem h) (fun cdv A outer s H vs Q E hr h=>?_)
  have hu:=zbD hr
  exact ⟨_,(zaf (zeo (zdI G_refuse_too_great (hr.mono (by decide)) (by rfl) zjt (zab (pv 0) (zab (pv 1) zae))))
      (zam (zaE (zaL G_put_by_bins (hr.mono (by decide)) (by rfl) za3 (zab (pv 0) (zab (pv 1) (zab (zaL G_greatest_order (hr.mono (by decide)) (by rfl) za3 (zab (pv 0) zae)) zae))))))),zfW (K:=(KX K ad)) (XO:=(xoK (KX K ad))) (E:=E) (np:=2) (nv:=0) (m:=zdU)
      (zap (zgK (zcM (zad zag (zad zag zat))))
      (zgp (zbL (zad zag (zad zag (zad ((zbL (zad zag zat))).e zat)))))) rfl h⟩
abbrev zca:Stmt:=top 41
theorem sc_law_bin_bound:FnScope ["_law_sizes_here","_law_room","_law_halves"] ["_law_sizes_here","_law_room"] (zao zca):=⟨rfl,rfl,rfl,by decide +kernel,rfl,by decide +kernel,by decide +kernel⟩
theorem zf2 {f:Addr} {fd:FuncData} (F:Fun K "_law_bin_bound" "_law_bin_bound" zca f fd) (T:Txt K mg ad)  : FnOk P w K mg base CX0 1 f fd ["_law_sizes_here","_law_room"] (spM (KX K ad) (xoK (KX K ad)) zaY):=by
  refine F.ok sc_law_bin_bound (fun vs H Q E h=>za0 h) (fun cdv A outer s H vs Q E hr h=>?_)
  have hu:=zbD hr
  exact ⟨_,(zaf (zaS (i:=2) sc_law_bin_bound.nd rfl (by first | exact Or.inl rfl | exact Or.inr rfl) (zas zaB (by rfl) T.len PySem.boot_len (zab (zft rfl (zc3 (pv 0)) (zes (zao zca) ["_law_sizes_here","_law_room","_law_halves"] ["_law_room","_law_size"] [1] 1 rfl rfl rfl (by decide +kernel) (by decide +kernel) (by decide +kernel) rfl (by decide +kernel) (fun cl C s H fp pins=>(zbe (i:=1) (show List.Nodup (["_law_room","_law_size"]:List Str) by decide +kernel) rfl (Or.inl rfl))) (fun cl C s H fp pins=>(pv 1)) (Or.inr ⟨_,_,rfl,rfl,fun cl C s H fp pins=>(zaH zds (zaz zbz (pv 1) (pv 1)) (pv 0) (zaP _))⟩))) zae)))
      (zam (zaE (zas (ze4 rfl) (by rfl) T.max boot_max (zab (pv 2) (zab (zaz zeu zah (zaz zbd (zaz zeu zah (zas (zcI rfl) (by rfl) T.sum boot_sum (zab (pv 0) zae))) (pv 1))) zae)))))),zb8 (K:=(KX K ad)) (XO:=(xoK (KX K ad))) (E:=E) (np:=2) (nv:=1) (m:=zd5)
      (zap (zaV (zbr zbH (zaq ((zcc (zdf zac) (by decide) zbZ zcD (Or.inr ⟨_,_,rfl,rfl,(zaG (zan zdA ((zan zby zac zac)).r zac))⟩) zag)).e.r zaD)) zaA)
      (zaF (zbr zhY (zaq zac (zaq ((zan zee (zai).r ((zan zcb ((zan zee (zai).r ((zbr zko (zaq zac zaD))).r)).r zac)).r)).r zaD))))) rfl h⟩
abbrev zcB:Stmt:=top 30
theorem zfp:FnScope ["sizes","put"] ["sizes","put"] (zao zcB):=⟨rfl,rfl,rfl,by decide +kernel,rfl,by decide +kernel,by decide +kernel⟩
theorem zfv {f:Addr} {fd:FuncData} (F:Fun K "is_bin_putting" "is_bin_putting" zcB f fd) (T:Txt K mg ad) (G_all_below:Has P w K mg base CX0 1 "all_below" ["numbers","count"] (spM (KX K ad) (xoK (KX K ad)) zbA)):FnOk P w K mg base CX0 2 f fd ["sizes","put"] (spM (KX K ad) (xoK (KX K ad)) zbp):=by
  refine F.ok zfp (fun vs H Q E h=>za0 h) (fun cdv A outer s H vs Q E hr h=>?_)
  have hu:=zbD hr
  exact ⟨_,(zaf (zbj ((zgP (zaH znF (zas zaB (by rfl) T.len PySem.boot_len (zab (pv 1) zae)) (zas zaB (by rfl) T.len PySem.boot_len (zab (pv 0) zae)) (zaP _)) (zfO (zfG (zcX (zaL G_all_below (hr.mono (by decide)) (by rfl) za3 (zab (pv 1) (zab (zas zaB (by rfl) T.len PySem.boot_len (zab (pv 0) zae)) zae)))))))).pt
      (zam (zaE zf5))
      zaK)
      (zam (zaE (zfy zeU (zas zie (by rfl) T.len PySem.boot_len (zab (zbU (ziw rfl) (by rfl) T.set boot_set (zab (pv 1) zae)) zae)) (zaz zbz (zlk rfl (by rfl) T.max (zab (pv 1) zae) (zjJ zgr zah)) zah) (zaP _))))),zb8 (K:=(KX K ad)) (XO:=(xoK (KX K ad))) (E:=E) (np:=2) (nv:=0) (m:=zdR)
      (zap (zbk (zgk (zaG (zan znj ((zbr zbH (zaq zac zaD))).r ((zbr zbH (zaq zac zaD))).r)) (zfB (st_b (zaC (zad zag (zad (zbr zbH (zaq zac zaD)) zat))))))
      (zaF zfX)
      zaJ)
      (zaF (zan zeS ((ziq (zaq zac zaD))).r ((zan zby ((zll (zaq zac zaD) (zjC zgg (zai).r))).r (zai).r)).r))) rfl h⟩
abbrev zdP:Stmt:=top 31
theorem zg3:FnScope ["sizes","room","put"] ["sizes","room","put"] (zao zdP):=⟨rfl,rfl,rfl,by decide +kernel,rfl,by decide +kernel,by decide +kernel⟩
theorem zg1 {f:Addr} {fd:FuncData} (F:Fun K "is_too_full" "is_too_full" zdP f fd) (T:Txt K mg ad) (G_heaviest:Has P w K mg base CX0 1 "heaviest" ["works","many","put"] (spM (KX K ad) (xoK (KX K ad)) zb7)):FnOk P w K mg base CX0 2 f fd ["sizes","room","put"] (spM (KX K ad) (xoK (KX K ad)) zbC):=by
  refine F.ok zg3 (fun vs H Q E h=>za0 h) (fun cdv A outer s H vs Q E hr h=>?_)
  have hu:=zbD hr
  exact ⟨_,(zam (zaE (zlX (zfy zds (zas zaB (by rfl) T.len PySem.boot_len (zab (pv 0) zae)) zah (zaP _)) (zmb (zfy zds (zaL G_heaviest (hr.mono (by decide)) (by rfl) za3 (zab (pv 0) (zab (zas zaB (by rfl) T.len PySem.boot_len (zab (pv 0) zae)) (zab (pv 2) zae)))) (pv 1) (zaP _)))))),zb8 (K:=(KX K ad)) (XO:=(xoK (KX K ad))) (E:=E) (np:=3) (nv:=0) (m:=zfc)
      (zaF (zlw (zan zdA ((zbr zbH (zaq zac zaD))).r (zai).r) (zan zdA ((zaC (zad zag (zad (zbr zbH (zaq zac zaD)) (zad zag zat))))).r zac))) rfl h⟩
abbrev zdM:Stmt:=top 26
theorem sc_bin_bound:FnScope ["sizes","room","great"] ["sizes","room"] (zao zdM):=⟨rfl,rfl,rfl,by decide +kernel,rfl,by decide +kernel,by decide +kernel⟩
theorem ziQ {f:Addr} {fd:FuncData} (F:Fun K "bin_bound" "bin_bound" zdM f fd) (T:Txt K mg ad) (G_share:Has P w K mg base (CX1 P w) 2 "share" ["top","bottom"] (spM (KX K ad) (xoK (KX K ad)) zcn)) (G_rounded_up:Has P w K mg base CX0 1 "rounded_up" ["one"] (spM (KX K ad) (xoK (KX K ad)) zba)) (G_refuse_too_great:Has P w K mg base (CX1 P w) 3 "refuse_too_great" ["sizes","room"] (spM (KX K ad) (xoK (KX K ad)) zav)):FnOk P w K mg base (CX1 P w) 4 f fd ["sizes","room"] (spM (KX K ad) (xoK (KX K ad)) zb4):=by
  refine F.ok1 sc_bin_bound (fun vs H Q E h=>za0 h) (fun cdv A outer s H vs Q E hr h=>?_)
  have hu:=zbD hr
  exact ⟨_,(zaf (zeo (zdI G_refuse_too_great (hr.mono (by decide)) (by rfl) zjt (zab (pv 0) (zab (pv 1) zae))))
      (zaf (zgO (i:=2) sc_bin_bound.nd rfl (by first | exact Or.inl rfl | exact Or.inr rfl) rfl (zc3 (pv 0)) (zes (zao zdM) ["sizes","room","great"] ["room","size"] [1] 1 rfl rfl rfl (by decide +kernel) (by decide +kernel) (by decide +kernel) rfl (by decide +kernel) (fun cl C s H fp pins=>(zbe (i:=1) (show List.Nodup (["room","size"]:List Str) by decide +kernel) rfl (Or.inl rfl))) (fun cl C s H fp pins=>(pv 1)) (Or.inr ⟨_,_,rfl,rfl,fun cl C s H fp pins=>(zaH zds (zaz zbs zah (pv 1)) (pv 0) (zaP _))⟩)) rfl)
      (zam (zaE (zas (ze4 rfl) (by rfl) T.max boot_max (zab (zaL G_rounded_up (hr.mono (by decide)) (by rfl) za3 (zab (zdI G_share (hr.mono (by decide)) (by rfl) zjt (zab (zas (zcI rfl) (by rfl) T.sum boot_sum (zab (pv 0) zae)) (zab (pv 1) zae))) zae)) (zab (zas zaB (by rfl) T.len PySem.boot_len (zab (pv 2) zae)) zae))))))),zb8 (K:=(KX K ad)) (XO:=(xoK (KX K ad))) (E:=E) (np:=2) (nv:=1) (m:=zgD)
      (zap (zgK (zcM (zad zag (zad zag zat))))
      (zap (zaV ((zcc (zdf zac) (by decide) zbZ zcD (Or.inr ⟨_,_,rfl,rfl,(zaG (zan zdA ((zan zbV (zai).r zac)).r zac))⟩) zag)).e zaA)
      (zaF (zbr zhY (zaq ((zaC (zad (zcM (zad (zbr zko (zaq zac zaD)) (zad zag zat))) zat))).r (zaq ((zbr zbH (zaq zac zaD))).r zaD)))))) rfl h⟩
abbrev zek:Stmt:=top 32
theorem zho:FnScope ["sizes","room","put","bound"] ["sizes","room","put","bound"] (zao zek):=⟨rfl,rfl,rfl,by decide +kernel,rfl,by decide +kernel,by decide +kernel⟩
theorem zhu {f:Addr} {fd:FuncData} (F:Fun K "check_bins" "check_bins" zek f fd) (T:Txt K mg ad) (G_refuse_too_great:Has P w K mg base (CX1 P w) 3 "refuse_too_great" ["sizes","room"] (spM (KX K ad) (xoK (KX K ad)) zav)) (G_is_bin_putting:Has P w K mg base CX0 2 "is_bin_putting" ["sizes","put"] (spM (KX K ad) (xoK (KX K ad)) zbp)) (G_is_too_full:Has P w K mg base CX0 2 "is_too_full" ["sizes","room","put"] (spM (KX K ad) (xoK (KX K ad)) zbC)) (G_bin_bound:Has P w K mg base (CX1 P w) 4 "bin_bound" ["sizes","room"] (spM (KX K ad) (xoK (KX K ad)) zb4)):FnOk P w K mg base (CX1 P w) 5 f fd ["sizes","room","put","bound"] (spM (KX K ad) (xoK (KX K ad)) zaX):=by
  refine F.ok1 zho (fun vs H Q E h=>za0 h) (fun cdv A outer s H vs Q E hr h=>?_)
  have hu:=zbD hr
  exact ⟨_,(zaf (zeo (zdI G_refuse_too_great (hr.mono (by decide)) (by rfl) zjt (zab (pv 0) (zab (pv 1) zae))))
      (zaf (zbj (zfG (zcX (zaL G_is_bin_putting (hr.mono (by decide)) (by rfl) za3 (zab (pv 0) (zab (pv 2) zae)))))
      (zam (zaE zcG))
      zaK)
      (zaf (zbj (zcX (zaL G_is_too_full (hr.mono (by decide)) (by rfl) za3 (zab (pv 0) (zab (pv 1) (zab (pv 2) zae)))))
      (zam (zaE zcG))
      zaK)
      (zaf (zbj (zaH zds (pv 3) (zdI G_bin_bound (hr.mono (by decide)) (by rfl) zjt (zab (pv 0) (zab (pv 1) zae))) (zaP _))
      (zam (zaE zcG))
      zaK)
      (zaf (zbj (zaH zds (zaz zbs zah (zas zie (by rfl) T.len PySem.boot_len (zab (zbU (ziw rfl) (by rfl) T.set boot_set (zab (pv 2) zae)) zae))) (zaz zbs zah (pv 3)) (zaP _))
      (zam (zaE zcG))
      zaK)
      (zam (zaE zfJ))))))),zb8 (K:=(KX K ad)) (XO:=(xoK (KX K ad))) (E:=E) (np:=4) (nv:=0) (m:=zfL)
      (zap (zgK (zcM (zad zag (zad zag zat))))
      (zap (zbk (zfB (st_b (zaC (zad zag (zad zag zat)))))
      (zaF zcF)
      zaJ)
      (zap (zbk (st_b (zaC (zad zag (zad zag (zad zag zat)))))
      (zaF zcF)
      zaJ)
      (zap (zbk (zaG (zan zdA zac ((zcM (zad zag (zad zag zat)))).r))
      (zaF zcF)
      zaJ)
      (zap (zbk (zaG (zan zdA ((zan zbV (zai).r ((ziq (zaq zac zaD))).r)).r ((zan zbV (zai).r zac)).r))
      (zaF zcF)
      zaJ)
      (zaF zfU)))))) rfl h⟩
abbrev zdn:Stmt:=top 42
theorem sc_law_bin_word:FnScope ["_law_sizes_here","_law_room","_law_put","_law_bound","_law_sums_here"] ["_law_sizes_here","_law_room","_law_put","_law_bound"] (zao zdn):=⟨rfl,rfl,rfl,by decide +kernel,rfl,by decide +kernel,by decide +kernel⟩
theorem zgo {f:Addr} {fd:FuncData} (F:Fun K "_law_bin_word" "_law_bin_word" zdn f fd) (T:Txt K mg ad) (G_law_sums:Has P w K mg base CX0 1 "_law_sums" ["_law_sizes_here","_law_put"] (spO (KX K ad) (xoK (KX K ad)) zbQ)) (G_law_bin_bound:Has P w K mg base CX0 1 "_law_bin_bound" ["_law_sizes_here","_law_room"] (spM (KX K ad) (xoK (KX K ad)) zaY)):FnOk P w K mg base CX0 2 f fd ["_law_sizes_here","_law_room","_law_put","_law_bound"] (spM (KX K ad) (xoK (KX K ad)) zbW):=by
  refine F.ok sc_law_bin_word (fun vs H Q E h=>za0 h) (fun cdv A outer s H vs Q E hr h=>?_)
  have hu:=zbD hr
  exact ⟨_,(zaf (zbj (zaH znF (zas zaB (by rfl) T.len PySem.boot_len (zab (pv 2) zae)) (zas zaB (by rfl) T.len PySem.boot_len (zab (pv 0) zae)) (zaP _))
      (zam (zaE zcG))
      zaK)
      (zaf (zaS (i:=4) sc_law_bin_word.nd rfl (by first | exact Or.inl rfl | exact Or.inr rfl) (zaL G_law_sums (hr.mono (by decide)) (by rfl) za3 (zab (pv 0) (zab (pv 2) zae))))
      (zaf (zbj (zaH (zj4 hr.units) (zas zjw (by rfl) T.sorted boot_sorted (zab (zbU (ziN rfl) (by rfl) T.list boot_list (zab (zo7 (pv 4)) zae)) zae)) (zbU (zkC rfl) (by rfl) T.list boot_list (zab (zlj (by rfl) T.range (zab (zas zi4 (by rfl) T.len PySem.boot_len (zab (pv 4) zae)) zae)) zae)) (zaP _))
      (zam (zaE zcG))
      zaK)
      (zaf (zbj (zaH zds (zas (zeV rfl) (by rfl) T.max boot_max (zab (zaz zdj (zda (zab zah zae)) (zbU (zfV rfl) (by rfl) T.list boot_list (zab (zmQ (pv 4)) zae))) zae)) (pv 1) (zaP _))
      (zam (zaE zcG))
      zaK)
      (zaf (zbj (zaH zds (pv 3) (zaL G_law_bin_bound (hr.mono (by decide)) (by rfl) za3 (zab (pv 0) (zab (pv 1) zae))) (zaP _))
      (zam (zaE zcG))
      zaK)
      (zaf (zbj (zaH zds (zaz zbs (zas zi4 (by rfl) T.len PySem.boot_len (zab (pv 4) zae)) zah) (zaz zbs (pv 3) zah) (zaP _))
      (zam (zaE zcG))
      zaK)
      (zam (zaE zfJ)))))))),zb8 (K:=(KX K ad)) (XO:=(xoK (KX K ad))) (E:=E) (np:=4) (nv:=1) (m:=zeL)
      (zap (zbk (zaG (zan znj ((zbr zbH (zaq zac zaD))).r ((zbr zbH (zaq zac zaD))).r))
      (zaF zcF)
      zaJ)
      (zap (zaV ((zbL (zad zag (zad zag zat)))).e zaA)
      (zap (zbk (zaG (zan zke ((zjc zmc (zaq ((znq zac)).e.r zaD))).e.r ((zlB (zad (zbr zlm (zaq zac zaD)) zat))).e.r))
      (zaF zcF)
      zaJ)
      (zap (zbk (zaG (zan zdA ((zbr zgs (zaq ((zeK zeM ((zb3 (zad zai zat))).e.r ((zky zac)).e.r)).e.r zaD))).r zac))
      (zaF zcF)
      zaJ)
      (zap (zbk (zaG (zan zdA zac ((zaC (zad zag (zad zag zat)))).r))
      (zaF zcF)
      zaJ)
      (zap (zbk (zaG (zan zdA ((zan zbV ((zbr zlm (zaq zac zaD))).r (zai).r)).r ((zan zbV zac (zai).r)).r))
      (zaF zcF)
      zaJ)
      (zaF zfU))))))) rfl h⟩
abbrev zfl:Stmt:=top 48
theorem sc_law_bins:FnScope ["_law_sizes_here","_law_room","_law_number_here","_law_put","_law_bound","_law_handed","_law_found"] ["_law_sizes_here","_law_room","_law_number_here"] (zao zfl):=⟨rfl,rfl,rfl,by decide +kernel,rfl,by decide +kernel,by decide +kernel⟩
theorem zjT {f:Addr} {fd:FuncData} (F:Fun K "_law_bins" "_law_bins" zfl f fd) (T:Txt K mg ad) (G_law_number:Has P w K mg base CX0 1 "_law_number" ["_law_cell","_law_k"] (spM (KX K ad) (xoK (KX K ad)) zaN)) (G_law_any:Has P w K mg base CX0 1 "_law_any" ["_law_sizes_here","_law_number_here","_law_many"] (spO (KX K ad) (xoK (KX K ad)) zb9)) (G_law_changed:Has P w K mg base CX0 1 "_law_changed" ["_law_put","_law_number_here","_law_many"] (spM (KX K ad) (xoK (KX K ad)) za8)) (G_law_bound_changed:Has P w K mg base CX0 1 "_law_bound_changed" ["_law_bound","_law_number_here"] (spM (KX K ad) (xoK (KX K ad)) zaQ)) (G_law_same:Has P w K mg base CX0 1 "_law_same" ["_law_found","_law_due"] (spM (KX K ad) (xoK (KX K ad)) zco)) (G_greatest_first:Has P w K mg base (CX1 P w) 4 "greatest_first" ["sizes","room"] (spO (KX K ad) (xoK (KX K ad)) zbq)) (G_law_bin_bound:Has P w K mg base CX0 1 "_law_bin_bound" ["_law_sizes_here","_law_room"] (spM (KX K ad) (xoK (KX K ad)) zaY)) (G_check_bins:Has P w K mg base (CX1 P w) 5 "check_bins" ["sizes","room","put","bound"] (spM (KX K ad) (xoK (KX K ad)) zaX)) (G_law_bin_word:Has P w K mg base CX0 2 "_law_bin_word" ["_law_sizes_here","_law_room","_law_put","_law_bound"] (spM (KX K ad) (xoK (KX K ad)) zbW)):FnOk P w K mg base CX0 6 f fd ["_law_sizes_here","_law_room","_law_number_here"] (spM (KX K ad) (xoK (KX K ad)) zcO):=by
  refine F.ok sc_law_bins (fun vs H Q E h=>za0 h) (fun cdv A outer s H vs Q E hr h=>?_)
  have hu:=zbD hr
  exact ⟨_,(zaf (zaS (i:=3) sc_law_bins.nd rfl (by first | exact Or.inl rfl | exact Or.inr rfl) (zaL G_greatest_first (hr.mono (by decide)) (by rfl) zps (zab (pv 0) (zab (pv 1) zae))))
      (zaf (zbj (zaH zeU (zaz zbm (pv 2) zah) zah (zaP _))
      (zam (zaS (i:=3) sc_law_bins.nd rfl (by first | exact Or.inl rfl | exact Or.inr rfl) (zaL G_law_any (hr.mono (by decide)) (by rfl) za3 (zab (pv 0) (zab (pv 2) (zab (zaz zbz zah (zas zaB (by rfl) T.len PySem.boot_len (zab (pv 0) zae))) zae))))))
      zaK)
      (zaf (zaS (i:=3) sc_law_bins.nd rfl (by first | exact Or.inl rfl | exact Or.inr rfl) (zaL G_law_changed (hr.mono (by decide)) (by rfl) za3 (zab (pv 3) (zab (zaz zbd (pv 2) zah) (zab (zas zaB (by rfl) T.len PySem.boot_len (zab (pv 3) zae)) zae)))))
      (zaf (zaS (i:=4) sc_law_bins.nd rfl (by first | exact Or.inl rfl | exact Or.inr rfl) (zaL G_law_bound_changed (hr.mono (by decide)) (by rfl) za3 (zab (zaL G_law_bin_bound (hr.mono (by decide)) (by rfl) za3 (zab (pv 0) (zab (pv 1) zae))) (zab (zaL G_law_number (hr.mono (by decide)) (by rfl) za3 (zab (pv 2) (zab zah zae))) zae))))
      (zaf (zaS (i:=5) sc_law_bins.nd rfl (by first | exact Or.inl rfl | exact Or.inr rfl) (zit (zab (zbU zdc (by rfl) T.list boot_list (zab (pv 0) zae)) (zab (zbU zdc (by rfl) T.list boot_list (zab (pv 3) zae)) zae))))
      (zaf (zaS (i:=6) sc_law_bins.nd rfl (by first | exact Or.inl rfl | exact Or.inr rfl) (zaL G_check_bins (hr.mono (by decide)) (by rfl) zps (zab (zd3 zhj (pv 5) zah (fun _ _=>rfl)) (zab (pv 1) (zab (zd3 zhj (pv 5) zah (fun _ _=>rfl)) (zab (pv 4) zae))))))
      (zaf (zbj (zaH (zj4 hr.units) (pv 5) (zit (zab (pv 0) (zab (pv 3) zae))) (zaP _))
      (zam (zaE zf5))
      zaK)
      (zam (zaE (zaL G_law_same (hr.mono (by decide)) (by rfl) za3 (zab (pv 6) (zab (zaL G_law_bin_word (hr.mono (by decide)) (by rfl) za3 (zab (pv 0) (zab (pv 1) (zab (pv 3) (zab (pv 4) zae))))) zae)))))))))))),zb8 (K:=(KX K ad)) (XO:=(xoK (KX K ad))) (E:=E) (np:=3) (nv:=4) (m:=zhg)
      (zap (zaV ((zbL (zad zag (zad zag zat)))).e zaA)
      (zap (zbk (zaG (zan zeS ((zan zbl zac (zai).r)).r (zai).r))
      (zaV ((zbL (zad zag (zad zag (zad (zan zby (zai).r ((zbr zbH (zaq zac zaD))).r) zat))))).e zaA)
      zaJ)
      (zap (zaV (zaC (zad zag (zad (zan zcb zac (zai).r) (zad (zbr zbH (zaq zac zaD)) zat)))) zaA)
      (zap (zaV (zaC (zad (zaC (zad zag (zad zag zat))) (zad (zaC (zad zag (zad zai zat))) zat))) zaA)
      (zap (zaV (zjb (zad ((zjc zhX (zaq zac zaD))).e (zad ((zjc zhX (zaq zac zaD))).e zat))) zaA)
      (zap (zaV (zaC (zad (zan zhi zac (zai).r) (zad zag (zad (zan zhi zac (zai).r) (zad zag zat))))) zaA)
      (zap (zbk (zaG (zan zke zac ((zjb (zad zag (zad zag zat)))).r))
      (zaF zfX)
      zaJ)
      (zaF (zaC (zad zag (zad (zaC (zad zag (zad zag (zad zag (zad zag zat))))) zat))))))))))) rfl h⟩
abbrev zbT:Stmt:=top 50
theorem zeg:FnScope ["_law_sizes_here","_law_room"] ["_law_sizes_here","_law_room"] (zao zbT):=⟨rfl,rfl,rfl,by decide +kernel,rfl,by decide +kernel,by decide +kernel⟩
theorem zd7 {f:Addr} {fd:FuncData} (F:Fun K "_law_refused_by_any" "_law_refused_by_any" zbT f fd) (T:Txt K mg ad) (G_check_bins:Has P w K mg base (CX1 P w) 5 "check_bins" ["sizes","room","put","bound"] (spM (KX K ad) (xoK (KX K ad)) zaX)):FnOk P w K mg base CX0 6 f fd ["_law_sizes_here","_law_room"] (spM (KX K ad) (xoK (KX K ad)) za1):=by
  refine F.ok zeg (fun vs H Q E h=>za0 h) (fun cdv A outer s H vs Q E hr h=>?_)
  have hu:=zbD hr
  exact ⟨_,(zaf (zpo rfl rfl (by rfl) T.m_EnoughError T.b_EnoughError (fun E pl xe hpx=>(zam (zeo (zdI G_check_bins (hr.mono (by decide)) (by rfl) hpx (zab (pv 0) (zab (pv 1) (zab (zda zae) (zab zah zae))))))))
      (fun ea=>(zam (zaE zf5))))
      (zam (zaE zf5))),zb8 (K:=(KX K ad)) (XO:=(xoK (KX K ad))) (E:=E) (np:=2) (nv:=0) (m:=zcE)
      (zap (zpD (zgT T) (fun _=>(zgK (zcM (zad zag (zad zag (zad ((zb3 zat)).e (zad zai zat)))))))
      (zaF zfX))
      (zaF zfX)) rfl h⟩
abbrev zdN:Stmt:=top 49
theorem sc_law_refused:FnScope ["_law_sizes_here","_law_room","_law_thing","_law_put","_law_caught","error"] ["_law_sizes_here","_law_room","_law_thing","_law_put"] (zao zdN):=⟨rfl,rfl,rfl,by decide +kernel,rfl,by decide +kernel,by decide +kernel⟩
theorem zgQ {f:Addr} {fd:FuncData} (F:Fun K "_law_refused" "_law_refused" zdN f fd) (T:Txt K mg ad) (G_check_bins:Has P w K mg base (CX1 P w) 5 "check_bins" ["sizes","room","put","bound"] (spM (KX K ad) (xoK (KX K ad)) zaX)):FnOk P w K mg base CX0 6 f fd ["_law_sizes_here","_law_room","_law_thing","_law_put"] (spM (KX K ad) (xoK (KX K ad)) zbP):=by
  refine F.ok sc_law_refused (fun vs H Q E h=>za0 h) (fun cdv A outer s H vs Q E hr h=>?_)
  have hu:=zbD hr
  exact ⟨_,(zaf (zaS (i:=4) sc_law_refused.nd rfl (by first | exact Or.inl rfl | exact Or.inr rfl) zfJ)
      (zaf (zqS (i:=5) rfl rfl rfl sc_law_refused.nd rfl rfl (by rfl) T.m_NoRoom T.b_NoRoom (fun E pl xe hpx=>(zam (zeo (zdI G_check_bins (hr.mono (by decide)) (by rfl) hpx (zab (pv 0) (zab (pv 1) (zab (pv 3) (zab zah zae))))))))
      (fun ea=>(zam (zaS (i:=4) sc_law_refused.nd rfl (by first | exact Or.inl rfl | exact Or.inr rfl) (pv 5)))))
      (zaf (zbj ((zgP (zaH zmw (pv 4) zfJ (zaP _)) (zgP (zfG (zcX (zas zbo (by rfl) T.isinstance boot_isinstance (zab (pv 4) (zab (zhL (v:=.ty "ValueError") (by rfl) T.ValueError PyProof.Rows.Boot.«ValueError» rfl) zae))))) (zfO (zcX (zas zbo (by rfl) T.isinstance boot_isinstance (zab (pv 4) (zab (zgC (v:=.ref ad.NoShare) (by rfl) T.m_NoShare rfl) zae)))))))).pt
      (zam (zaE zf5))
      zaK)
      (zaf (zbj ((zgP (zcX (zas zbo (by rfl) T.isinstance boot_isinstance (zab (pv 4) (zab (zgC (v:=.ref ad.TooMany) (by rfl) T.m_TooMany rfl) zae)))) (zgP (zcX (zas zbo (by rfl) T.isinstance boot_isinstance (zab (pv 4) (zab (zgC (v:=.ref ad.NoCover) (by rfl) T.m_NoCover rfl) zae)))) (zfO (zcX (zas zbo (by rfl) T.isinstance boot_isinstance (zab (pv 4) (zab (zgC (v:=.ref ad.NoLengths) (by rfl) T.m_NoLengths rfl) zae)))))))).pt
      (zam (zaE zf5))
      zaK)
      (zaf (zbj ((zgP (zcX (zas zbo (by rfl) T.isinstance boot_isinstance (zab (pv 4) (zab (zgC (v:=.ref ad.NoText) (by rfl) T.m_NoText rfl) zae)))) (zgP (zfG (zcX (zas zc1 (by rfl) T.isinstance boot_isinstance (zab (zjO (pv 4) rfl) (zab (zhL (v:=.ty "int") (by rfl) T.int boot_int rfl) zae))))) (zfO (zcX (zas zc1 (by rfl) T.isinstance boot_isinstance (zab (zjO (pv 4) rfl) (zab (zhL (v:=.ty "bool") (by rfl) T.bool boot_bool rfl) zae)))))))).pt
      (zam (zaE zf5))
      zaK)
      (zam (zaE (zfy zeU (zjO (pv 4) rfl) (pv 2) (zaP _))))))))),zb8 (K:=(KX K ad)) (XO:=(xoK (KX K ad))) (E:=E) (np:=4) (nv:=2) (m:=zff)
      (zap (zaV zfU zaA)
      (zap (zqu (zlc T) (fun _=>(zgK (zcM (zad zag (zad zag (zad zag (zad zai zat)))))))
      (zaV zag zaA))
      (zap (zbk (zgk (zaG (zan zo0 zac (zfU).r)) (zgk (zfB (st_b (zfw rfl (zhI T) zac))) (st_b (zfw rfl (zk5 T) zac))))
      (zaF zfX)
      zaJ)
      (zap (zbk (zgk (st_b (zfw rfl (zk0 T) zac)) (zgk (st_b (zfw rfl (zkP T) zac)) (st_b (zfw rfl (zja T) zac))))
      (zaF zfX)
      zaJ)
      (zap (zbk (zgk (st_b (zfw rfl (zmF T) zac)) (zgk (zfB (st_b (zmI zn2 ((zjH (zhQ T) zac)).r))) (st_b (zmI zmM ((zjH (zhQ T) zac)).r))))
      (zaF zfX)
      zaJ)
      (zaF (zan zeS ((zjH (zhQ T) zac)).r zac))))))) rfl h⟩
abbrev zck:Stmt:=top 51
theorem sc_law_too_great:FnScope ["_law_sizes_here","_law_room","_law_number_here","_law_at","_law_bad","_law_later"] ["_law_sizes_here","_law_room","_law_number_here"] (zao zck):=⟨rfl,rfl,rfl,by decide +kernel,rfl,by decide +kernel,by decide +kernel⟩
theorem zf8 {f:Addr} {fd:FuncData} (F:Fun K "_law_too_great" "_law_too_great" zck f fd) (T:Txt K mg ad) (G_law_refused_by_any:Has P w K mg base CX0 6 "_law_refused_by_any" ["_law_sizes_here","_law_room"] (spM (KX K ad) (xoK (KX K ad)) za1)) (G_law_refused:Has P w K mg base CX0 6 "_law_refused" ["_law_sizes_here","_law_room","_law_thing","_law_put"] (spM (KX K ad) (xoK (KX K ad)) zbP)):FnOk P w K mg base CX0 7 f fd ["_law_sizes_here","_law_room","_law_number_here"] (spM (KX K ad) (xoK (KX K ad)) zbv):=by
  refine F.ok sc_law_too_great (fun vs H Q E h=>za0 h) (fun cdv A outer s H vs Q E hr h=>?_)
  have hu:=zbD hr
  exact ⟨_,(zaf (zbj (zaH zeU (pv 1) (zaz zgI zah zah) (zaP _))
      (zam (zaE zf5))
      zaK)
      (zaf (zaS (i:=3) sc_law_too_great.nd rfl (by first | exact Or.inl rfl | exact Or.inr rfl) (zaz zbm (pv 2) (zaz zbz (zas zaB (by rfl) T.len PySem.boot_len (zab (pv 0) zae)) zah)))
      (zaf (zaS (i:=4) sc_law_too_great.nd rfl (by first | exact Or.inl rfl | exact Or.inr rfl) (zaz zdj (zaz zdj (zcu zdi (pv 0) zdL (zcT (pv 3))) (zda (zab (zaz zbz (pv 1) zah) zae))) (zcu zdi (pv 0) (zcT (pv 3)) zdL)))
      (zaf (zaS (i:=5) sc_law_too_great.nd rfl (by first | exact Or.inl rfl | exact Or.inr rfl) (zaz zdj (pv 4) (zcu zdi (zda (zab (zaz zbz (pv 1) zah) zae)) zdL (zcT (zaz zbm (zaz zbd (pv 2) zah) zah)))))
      (zaf (zbj (zfG (zcX (zaL G_law_refused_by_any (hr.mono (by decide)) (by rfl) za3 (zab (pv 5) (zab (pv 1) zae)))))
      (zam (zaE zf5))
      zaK)
      (zam (zaE (zlX (zaL G_law_refused (hr.mono (by decide)) (by rfl) za3 (zab (pv 5) (zab (pv 1) (zab (pv 3) (zab (zft rfl (zc3 (pv 5)) (zes (zao zck) ["_law_sizes_here","_law_room","_law_number_here","_law_at","_law_bad","_law_later"] ["_law_size"] [] 1 rfl rfl rfl (by decide +kernel) (by decide +kernel) (by decide +kernel) rfl (by decide +kernel) (fun cl C s H fp pins=>(zbe (i:=0) (show List.Nodup (["_law_size"]:List Str) by decide +kernel) rfl (Or.inl rfl))) (fun cl C s H fp pins=>zah) (Or.inl ⟨rfl,rfl⟩))) zae))))) (zmb (zaL G_law_refused (hr.mono (by decide)) (by rfl) za3 (zab (pv 5) (zab (pv 1) (zab (pv 3) (zab (zda (zab (zjJ zgr zah) zae)) zae)))))))))))))),zb8 (K:=(KX K ad)) (XO:=(xoK (KX K ad))) (E:=E) (np:=3) (nv:=3) (m:=zef)
      (zap (zbk (zaG (zan zeS zac ((zan zgA (zai).r (zai).r)).r))
      (zaF zfX)
      zaJ)
      (zap (zaV (zan zbl zac ((zan zby ((zbr zbH (zaq zac zaD))).r (zai).r)).r) zaA)
      (zap (zaV ((zeK zeM ((zeK zeM ((zbX zac zhC (zcR zag))).e.r ((zb3 (zad (zan zby zac (zai).r) zat))).e.r)).e.r ((zbX zac (zcR zag) zhC)).e.r)).e zaA)
      (zap (zaV ((zeK zeM zac ((zbX ((zb3 (zad (zan zby zac (zai).r) zat))).e.r zhC (zcR (zan zbl ((zan zcb zac (zai).r)).r (zai).r)))).e.r)).e zaA)
      (zap (zbk (zfB (st_b (zaC (zad zag (zad zag zat)))))
      (zaF zfX)
      zaJ)
      (zaF (zlw (zaC (zad zag (zad zag (zad zag (zad ((zcc (zdf zac) (by decide) zbZ zcD (Or.inl ⟨rfl,rfl⟩) zai)).e zat))))) (zaC (zad zag (zad zag (zad zag (zad ((zb3 (zad (zjC zgg (zai).r) zat))).e zat)))))))))))) rfl h⟩
abbrev zh0:Stmt:=top 52
theorem sc_law:FnScope ["_law_script","_law_thirds","_law_sizes_here","_law_room","_law_many","_law_k","_law_number_here"] ["_law_script"] (zao zh0):=⟨rfl,rfl,rfl,by decide +kernel,rfl,by decide +kernel,by decide +kernel⟩
theorem zqa {f:Addr} {fd:FuncData} (F:Fun K "law" "law" zh0 f fd) (T:Txt K mg ad) (G_law_cell_at:Has P w K mg base CX0 1 "_law_cell_at" ["_law_script","_law_k"] (spM (KX K ad) (xoK (KX K ad)) zar)) (G_law_number:Has P w K mg base CX0 1 "_law_number" ["_law_cell","_law_k"] (spM (KX K ad) (xoK (KX K ad)) zaN)) (G_law_amount:Has P w K mg base CX0 2 "_law_amount" ["_law_cell","_law_k"] (spM (KX K ad) (xoK (KX K ad)) za2)) (G_law_sizes:Has P w K mg base CX0 3 "_law_sizes" ["_law_cells","_law_thirds"] (spO (KX K ad) (xoK (KX K ad)) zcp)) (G_law_benches:Has P w K mg base CX0 5 "_law_benches" ["_law_sizes_here","_law_many","_law_number_here"] (spM (KX K ad) (xoK (KX K ad)) zbM)) (G_law_bins:Has P w K mg base CX0 6 "_law_bins" ["_law_sizes_here","_law_room","_law_number_here"] (spM (KX K ad) (xoK (KX K ad)) zcO)) (G_law_too_great:Has P w K mg base CX0 7 "_law_too_great" ["_law_sizes_here","_law_room","_law_number_here"] (spM (KX K ad) (xoK (KX K ad)) zbv)):FnOk P w K mg base CX0 8 f fd ["_law_script"] (zkB K):=by
  refine F.ok sc_law (fun vs H Q E h=>?_) (fun cdv A outer s H vs Q E hr h=>?_)
  · obtain ⟨a,ns,rfl,_⟩:=h
    rfl
  · obtain ⟨a,ns,rfl,hS,hlen,hq⟩:=h
    have hu:=zbD hr
    exact ⟨_,(zaf (zaS (i:=1) sc_law.nd rfl (by first | exact Or.inl rfl | exact Or.inr rfl) zah)
      (zaf (zbj (zaH zeU (zaz zbm (zaL G_law_cell_at (hr.mono (by decide)) (by rfl) za3 (zab (pv 0) (zab zah zae))) zah) zah (zaP _))
      (zam (zaS (i:=1) sc_law.nd rfl (by first | exact Or.inl rfl | exact Or.inr rfl) (zaz zbz zah (zaz zbm (zaL G_law_amount (hr.mono (by decide)) (by rfl) za3 (zab (zaL G_law_cell_at (hr.mono (by decide)) (by rfl) za3 (zab (pv 0) (zab zah zae))) (zab zah zae))) (zaz zgI zah zah)))))
      zaK)
      (zaf (zaS (i:=2) sc_law.nd rfl (by first | exact Or.inl rfl | exact Or.inr rfl) (zaL G_law_sizes (hr.mono (by decide)) (by rfl) za3 (zab (zcu zdi (pv 0) (zcT zah) (zcT zah)) (zab (pv 1) zae))))
      (zaf (zaS (i:=3) sc_law.nd rfl (by first | exact Or.inl rfl | exact Or.inr rfl) (zlk rfl (by rfl) T.max (zab (pv 2) zae) zah))
      (zaf (zbj (zaH zds (pv 1) zah (zaP _))
      (zam (zaS (i:=3) sc_law.nd rfl (by first | exact Or.inl rfl | exact Or.inr rfl) (zaz zeu (zaz zbs zah (pv 1)) zah)))
      (zam (zaS (i:=3) sc_law.nd rfl (by first | exact Or.inl rfl | exact Or.inr rfl) (zas (zmo rfl) (by rfl) T.min boot_min (zab (zaz zgI zah zah) (zab (zaz zbz (pv 3) (zaz zbm (zaL G_law_amount (hr.mono (by decide)) (by rfl) za3 (zab (zaL G_law_cell_at (hr.mono (by decide)) (by rfl) za3 (zab (pv 0) (zab zah zae))) (zab zah zae))) (zaz zbz (pv 3) zah))) zae))))))
      (zaf (zaS (i:=4) sc_law.nd rfl (by first | exact Or.inl rfl | exact Or.inr rfl) (zaz zbz zah (zaz zbm (zaL G_law_cell_at (hr.mono (by decide)) (by rfl) za3 (zab (pv 0) (zab zah zae))) zah)))
      (zaf (zfI PassesOwn.never rfl (zl6 rfl T.range (zab zah (zab zah zae))) (zbe (i:=5) sc_law.nd rfl (by first | exact Or.inl rfl | exact Or.inr rfl))
      (zaf (zaS (i:=6) sc_law.nd rfl (by first | exact Or.inl rfl | exact Or.inr rfl) (zaL G_law_number (hr.mono (by decide)) (by rfl) za3 (zab (zaz zbz (zaL G_law_cell_at (hr.mono (by decide)) (by rfl) za3 (zab (pv 0) (zab (pv 5) zae))) (zaL G_law_cell_at (hr.mono (by decide)) (by rfl) za3 (zab (pv 0) (zab zah zae)))) (zab (zaz zbs zah (pv 5)) zae))))
      (zam (zbj ((zgP (zfG (zcX (zaL G_law_benches (hr.mono (by decide)) (by rfl) za3 (zab (pv 2) (zab (pv 4) (zab (pv 6) zae)))))) (zfO (zfG (zcX (zaL G_law_bins (hr.mono (by decide)) (by rfl) za3 (zab (pv 2) (zab (pv 3) (zab (zaz zbd (pv 6) zah) zae))))))))).pt
      (zam (zaE zf5))
      zaK))))
      (zaf (zbj (zaH zeU (zaz zbm (zaz zbd (zaL G_law_cell_at (hr.mono (by decide)) (by rfl) za3 (zab (pv 0) (zab zah zae))) zah) zah) zah (zaP _))
      (zam (zaE (zaL G_law_too_great (hr.mono (by decide)) (by rfl) za3 (zab (pv 2) (zab (pv 3) (zab (zaL G_law_number (hr.mono (by decide)) (by rfl) za3 (zab (zaL G_law_cell_at (hr.mono (by decide)) (by rfl) za3 (zab (pv 0) (zab zah zae))) (zab zah zae))) zae))))))
      zaK)
      (zam (zaE zf5)))))))))),zb8 (K:=(KX K ad)) (XO:=(xoK (KX K ad))) (E:=E) (np:=1) (nv:=6) (m:=zql)
      (zap (zaV zai zaA)
      (zap (zbk (zaG (zan zeS ((zan zbl ((zaC (zad zag (zad zai zat)))).r (zai).r)).r (zai).r))
      (zaV (zan zby (zai).r ((zan zbl ((zaC (zad (zaC (zad zag (zad zai zat))) (zad zai zat)))).r ((zan zgA (zai).r (zai).r)).r)).r) zaA)
      zaJ)
      (zap (zaV ((zbL (zad ((zbX zac (zcR zai) (zcR zai))).e (zad zag zat)))).e zaA)
      (zap (zaV (zll (zaq zac zaD) zai) zaA)
      (zap (zbk (zaG (zan zdA zac (zai).r))
      (zaV (zan zee ((zan zbV (zai).r zac)).r (zai).r) zaA)
      (zaV (zbr zoP (zaq ((zan zgA (zai).r (zai).r)).r (zaq ((zan zby zac ((zan zbl ((zaC (zad (zaC (zad zag (zad zai zat))) (zad zai zat)))).r ((zan zby zac (zai).r)).r)).r)).r zaD))) zaA))
      (zap (zaV (zan zby (zai).r ((zan zbl ((zaC (zad zag (zad zai zat)))).r (zai).r)).r) zaA)
      (zap (zfP (zmZ len2 (zad zai (zad zai zat))) zaA
      (zap (zaV (zaC (zad (zan zby ((zaC (zad zag (zad zag zat)))).r ((zaC (zad zag (zad zai zat)))).r) (zad (zan zbV (zai).r zac) zat))) zaA)
      (zbk (zgk (zfB (st_b (zaC (zad zag (zad zag (zad zag zat)))))) (zfB (st_b (zaC (zad zag (zad zag (zad (zan zcb zac (zai).r) zat)))))))
      (zaF zfX)
      zaJ)))
      (zap (zbk (zaG (zan zeS ((zan zbl ((zan zcb ((zaC (zad zag (zad zai zat)))).r (zai).r)).r (zai).r)).r (zai).r))
      (zaF (zaC (zad zag (zad zag (zad (zaC (zad (zaC (zad zag (zad zai zat))) (zad zai zat))) zat)))))
      zaJ)
      (zaF zfX))))))))) rfl (zpP (f:=zqR) (law_true ns hlen) hS hq)⟩
end
theorem all_mk {l:PySem.W.OpenLaw} {w:World} {K:PySem.W.Frag} {h:Heap} {mg:Str→Option Value} {fa:Addr} (X:K.In h) (G:h.Ns mainGlobals mg) (hfa:mg "law"=some (.ref fa))
    (d0:∃ f fd,DefAt K "_law_cell_at" zdC f fd)
    (d1:∃ f fd,DefAt K "_law_number" zev f fd)
    (d2:∃ f fd,DefAt K "_law_amount" zep f fd)
    (d3:∃ f fd,DefAt K "_law_sizes" zc4 f fd)
    (d5:∃ f fd,DefAt K "freest" zhZ f fd)
    (d6:∃ f fd,DefAs K "put_by_benches" "put_by" zbF f fd)
    (d7:∃ f fd,DefAt K "put_longest_first" zb6 f fd)
    (d8:∃ f fd,DefAt K "_law_any" zgn f fd)
    (d9:∃ f fd,DefAt K "_law_changed" zdQ f fd)
    (d10:∃ f fd,DefAt K "_law_bench_bound" zcr f fd)
    (d11:∃ f fd,DefAt K "_law_bound_changed" zb5 f fd)
    (d12:∃ f fd,DefAt K "all_below" zdO f fd)
    (d13:∃ f fd,DefAt K "common_factor" zcS f fd)
    (d14:∃ f fd,DefAt K "share" zjr f fd)
    (d15:∃ f fd,DefAt K "rounded_up" zer f fd)
    (d16:∃ f fd,DefAt K "bench_bound" zdJ f fd)
    (d17:∃ f fd,DefAt K "heaviest" zez f fd)
    (d18:∃ f fd,DefAt K "check_benches" zcY f fd)
    (d19:∃ f fd,DefAt K "_law_sums" zfr f fd)
    (d20:∃ f fd,DefAt K "_law_bench_word" zb2 f fd)
    (d21:∃ f fd,DefAt K "_law_same" zfx f fd)
    (d22:∃ f fd,DefAt K "_law_benches" zdD f fd)
    (d23:∃ f fd,DefAt K "refuse_too_great" zcd f fd)
    (d24:∃ f fd,DefAt K "first_that_fits" zcq f fd)
    (d25:∃ f fd,DefAs K "put_by_bins" "put_by" zcL f fd)
    (d26:∃ f fd,DefAt K "greatest_first" zcA f fd)
    (d27:∃ f fd,DefAt K "_law_bin_bound" zca f fd)
    (d28:∃ f fd,DefAt K "is_bin_putting" zcB f fd)
    (d29:∃ f fd,DefAt K "is_too_full" zdP f fd)
    (d30:∃ f fd,DefAt K "bin_bound" zdM f fd)
    (d31:∃ f fd,DefAt K "check_bins" zek f fd)
    (d32:∃ f fd,DefAt K "_law_bin_word" zdn f fd)
    (d33:∃ f fd,DefAt K "_law_bins" zfl f fd)
    (d34:∃ f fd,DefAt K "_law_refused_by_any" zbT f fd)
    (d35:∃ f fd,DefAt K "_law_refused" zdN f fd)
    (d36:∃ f fd,DefAt K "_law_too_great" zck f fd)
    {fL:Addr} {oc:Value} {od an:Option Addr} {osl:Array (Option Value)} {kV doc pm cdv ct:Value} (aL:PySem.W.nsIn K mainGlobals "law"=some (some (.ref fL)))
    (lL:K.lookup fL=some ⟨oc,od,.func (PySem.W.fnOf "law" "law" (zcC zh0) (zcg zh0) (zao zh0) .none kV doc pm an cdv ct),osl⟩) (cL:PySem.W.codeIn K cdv "law"=true) (kL:PySem.W.keepIn K (.ref fL)=true)
    (z0:PySem.W.nsIn K mainGlobals "len"=some none)
    (z1:PySem.W.nsIn K mainGlobals "abs"=some none)
    (z2:PySem.W.nsIn K mainGlobals "isinstance"=some none)
    (z3:PySem.W.nsIn K mainGlobals "list"=some none)
    (z4:PySem.W.nsIn K mainGlobals "sum"=some none)
    (z5:PySem.W.nsIn K mainGlobals "int"=some none)
    (z6:PySem.W.nsIn K mainGlobals "bool"=some none)
    (z7:PySem.W.nsIn K mainGlobals "str"=some none)
    (z8:PySem.W.nsIn K mainGlobals "range"=some none)
    (z9:PySem.W.nsIn K mainGlobals "enumerate"=some none)
    (z10:PySem.W.nsIn K mainGlobals "max"=some none)
    (z11:PySem.W.nsIn K mainGlobals "min"=some none)
    (z12:PySem.W.nsIn K mainGlobals "sorted"=some none)
    (z13:PySem.W.nsIn K mainGlobals "zip"=some none)
    (z14:PySem.W.nsIn K mainGlobals "set"=some none)
    (z15:PySem.W.nsIn K mainGlobals "all"=some none)
    (z16:PySem.W.nsIn K mainGlobals "ValueError"=some none)
    {cEnoughError cNoShare cNoLengths cTooMany cNoCover cNoRoom cNoText:Addr}
    {fNoRoom:Addr} {ocNoRoom:Value} {odNoRoom anNoRoom:Option Addr} {oslNoRoom:Array (Option Value)} {kVNoRoom docNoRoom pmNoRoom cdvNoRoom ctNoRoom:Value}
    {fM cdM tP:Addr} {ocM oc2:Value} {odM anM od2:Option Addr} {oslM osl2:Array (Option Value)} {vT:Array Value} {kVM docM pmM ctM:Value}
    (un_EnoughError:PySem.W.nsIn K mainGlobals "EnoughError"=some (some (.ref cEnoughError)))
    (un_NoShare:PySem.W.nsIn K mainGlobals "NoShare"=some (some (.ref cNoShare)))
    (un_NoLengths:PySem.W.nsIn K mainGlobals "NoLengths"=some (some (.ref cNoLengths)))
    (un_TooMany:PySem.W.nsIn K mainGlobals "TooMany"=some (some (.ref cTooMany)))
    (un_NoCover:PySem.W.nsIn K mainGlobals "NoCover"=some (some (.ref cNoCover)))
    (un_NoRoom:PySem.W.nsIn K mainGlobals "NoRoom"=some (some (.ref cNoRoom)))
    (un_NoText:PySem.W.nsIn K mainGlobals "NoText"=some (some (.ref cNoText)))
    (ui_NoRoom:PySem.W.findIn K (.ref cNoRoom) "__init__"=some (some (.ref fNoRoom)))
    (ul_NoRoom:K.lookup fNoRoom=some ⟨ocNoRoom,odNoRoom,.func (PySem.W.fnOf "__init__" "NoRoom.__init__" (zcC zbO) (zcg zbO) (zao zbO) .none kVNoRoom docNoRoom pmNoRoom anNoRoom cdvNoRoom ctNoRoom),oslNoRoom⟩)
    (uc_NoRoom:PySem.W.codeIn K cdvNoRoom "NoRoom.__init__"=true)
    (uk_NoRoom:PySem.W.keepIn K (.ref fNoRoom)=true)
    (ux_NoRoom:zhm K cNoRoom [.type "ValueError",.type "Exception",.type "BaseException",.type "object"] "ValueError.__new__" fNoRoom=true)
    (uf_NoRoom:PySem.W.isFn K (.ref fNoRoom)=true)
    (una_NoRoom:PySem.W.findIn K (.ref cNoRoom) "thing"=some none)
    (usa_NoRoom:PySem.W.findIn K (.ref cNoRoom) "__setattr__"=some (some (.builtin "object.__setattr__")))
    (uov_NoRoom:znh K cNoRoom=true)
    (ue_NoShare:PySem.W.excIn K cNoShare [.type "ValueError",.type "Exception",.type "BaseException",.type "object"] "ValueError.__new__"=true)
    (ub_EnoughError:PySem.W.mroIn K cEnoughError (.type "BaseException")=some true)
    (ub_NoRoom:PySem.W.mroIn K cNoRoom (.type "BaseException")=some true)
    (uzn:PySem.W.specialIn K (.builtin "object.__class__") "__get__"=some (some (.builtin "getset_descriptor.__get__")))
    (uzt:PySem.W.takesIn K (.builtin "object.__class__")=some true)
    (uhd_EnoughError:PySem.W.hasDictIn K cEnoughError=true)
    (uhd_NoShare:PySem.W.hasDictIn K cNoShare=true)
    (uhd_NoLengths:PySem.W.hasDictIn K cNoLengths=true)
    (uhd_TooMany:PySem.W.hasDictIn K cTooMany=true)
    (uhd_NoCover:PySem.W.hasDictIn K cNoCover=true)
    (uhd_NoRoom:PySem.W.hasDictIn K cNoRoom=true)
    (uhd_NoText:PySem.W.hasDictIn K cNoText=true)
    (uty_EnoughError:PySem.W.typeIn K (.ref cEnoughError)=some (.type "type"))
    (uty_NoShare:PySem.W.typeIn K (.ref cNoShare)=some (.type "type"))
    (uty_NoLengths:PySem.W.typeIn K (.ref cNoLengths)=some (.type "type"))
    (uty_TooMany:PySem.W.typeIn K (.ref cTooMany)=some (.type "type"))
    (uty_NoCover:PySem.W.typeIn K (.ref cNoCover)=some (.type "type"))
    (uty_NoRoom:PySem.W.typeIn K (.ref cNoRoom)=some (.type "type"))
    (uty_NoText:PySem.W.typeIn K (.ref cNoText)=some (.type "type"))
    (uga_NoShare:PySem.W.findIn K (.ref cNoShare) "__getattribute__"=some (some (.builtin "BaseException.__getattribute__")))
    (ugn_NoShare:PySem.W.findIn K (.ref cNoShare) "__getattr__"=some none)
    (uha_NoShare:PySem.W.findIn K (.ref cNoShare) "__class__"=some (some (.builtin "object.__class__")))
    (umr_NoShare_EnoughError:PySem.W.mroIn K cNoShare (.ref cEnoughError)=some true)
    (umr_NoShare_NoShare:PySem.W.mroIn K cNoShare (.ref cNoShare)=some true)
    (umr_NoShare_NoLengths:PySem.W.mroIn K cNoShare (.ref cNoLengths)=some false)
    (umr_NoShare_TooMany:PySem.W.mroIn K cNoShare (.ref cTooMany)=some false)
    (umr_NoShare_NoCover:PySem.W.mroIn K cNoShare (.ref cNoCover)=some false)
    (umr_NoShare_NoRoom:PySem.W.mroIn K cNoShare (.ref cNoRoom)=some false)
    (umr_NoShare_NoText:PySem.W.mroIn K cNoShare (.ref cNoText)=some false)
    (umt_NoShare_object:PySem.W.mroIn K cNoShare (.type "object")=some true)
    (umt_NoShare_BaseException:PySem.W.mroIn K cNoShare (.type "BaseException")=some true)
    (umt_NoShare_ValueError:PySem.W.mroIn K cNoShare (.type "ValueError")=some true)
    (uga_NoRoom:PySem.W.findIn K (.ref cNoRoom) "__getattribute__"=some (some (.builtin "BaseException.__getattribute__")))
    (ugn_NoRoom:PySem.W.findIn K (.ref cNoRoom) "__getattr__"=some none)
    (uha_NoRoom:PySem.W.findIn K (.ref cNoRoom) "__class__"=some (some (.builtin "object.__class__")))
    (umr_NoRoom_EnoughError:PySem.W.mroIn K cNoRoom (.ref cEnoughError)=some true)
    (umr_NoRoom_NoShare:PySem.W.mroIn K cNoRoom (.ref cNoShare)=some false)
    (umr_NoRoom_NoLengths:PySem.W.mroIn K cNoRoom (.ref cNoLengths)=some false)
    (umr_NoRoom_TooMany:PySem.W.mroIn K cNoRoom (.ref cTooMany)=some false)
    (umr_NoRoom_NoCover:PySem.W.mroIn K cNoRoom (.ref cNoCover)=some false)
    (umr_NoRoom_NoRoom:PySem.W.mroIn K cNoRoom (.ref cNoRoom)=some true)
    (umr_NoRoom_NoText:PySem.W.mroIn K cNoRoom (.ref cNoText)=some false)
    (umt_NoRoom_object:PySem.W.mroIn K cNoRoom (.type "object")=some true)
    (umt_NoRoom_BaseException:PySem.W.mroIn K cNoRoom (.type "BaseException")=some true)
    (umt_NoRoom_ValueError:PySem.W.mroIn K cNoRoom (.type "ValueError")=some true)
    (vn:PySem.W.nsIn K mainGlobals "greatest_order"=some (some (.ref fM)))
    (vl:K.lookup fM=some ⟨ocM,odM,.func (PySem.W.fnOf "greatest_order" "greatest_order" (zcC zaO) (zcg zaO) (zao zaO) .none kVM docM pmM anM (.ref cdM) ctM),oslM⟩)
    (vc:PySem.W.codeIn K (.ref cdM) "greatest_order"=true)
    (vk:PySem.W.keepIn K (.ref fM)=true)
    (vv:K.lookup cdM=some ⟨oc2,od2,.fields vT,osl2⟩)
    (vt:vT[11]?=some (Value.ref tP))
    (vT:zhU K=some (tP,#[.str ("greatest_order" ++ ".<locals>." ++ "<lambda>") 0,rawInt ((42:Nat):Int),rawInt ((41:Nat):Int)]))
    (vC:PySem.W.codeHdIn K cdM tP=true)
    : ∃ fd:FuncData,(∀ (s:Shared) (v:Value),BindsTo s fd ⟨[v],[]⟩ [("_law_script",v)])∧∀ base:Heap,K.In base→base.Ns mainGlobals mg→BmAt mg base→FnOk l.prog w K mg base CX0 8 fa fd ["_law_script"] (zkB K):=by
  have e:=hfa.symm.trans (PySem.W.mg_of X G aL)
  cases e
  let ad:Adr:=⟨cEnoughError,cNoShare,cNoLengths,cTooMany,cNoCover,cNoRoom,cNoText,fNoRoom⟩
  have T:Txt K mg ad:=⟨PySem.W.mg_none_of X G z0,PySem.W.mg_none_of X G z1,PySem.W.mg_none_of X G z2,PySem.W.mg_none_of X G z3,PySem.W.mg_none_of X G z4,PySem.W.mg_none_of X G z5,PySem.W.mg_none_of X G z6,PySem.W.mg_none_of X G z7,PySem.W.mg_none_of X G z8,PySem.W.mg_none_of X G z9,PySem.W.mg_none_of X G z10,PySem.W.mg_none_of X G z11,PySem.W.mg_none_of X G z12,PySem.W.mg_none_of X G z13,PySem.W.mg_none_of X G z14,PySem.W.mg_none_of X G z15,PySem.W.mg_none_of X G z16,PySem.W.mg_of X G un_EnoughError,PySem.W.mg_of X G un_NoShare,PySem.W.mg_of X G un_NoLengths,PySem.W.mg_of X G un_TooMany,PySem.W.mg_of X G un_NoCover,PySem.W.mg_of X G un_NoRoom,PySem.W.mg_of X G un_NoText,ux_NoRoom,uf_NoRoom,una_NoRoom,ue_NoShare,ub_EnoughError,ub_NoRoom,⟨uga_NoShare,ugn_NoShare,uhd_NoShare,uha_NoShare,uzn,uzt,umt_NoShare_object,umt_NoShare_BaseException⟩,zh4 uhd_EnoughError uty_EnoughError umr_NoShare_EnoughError,zdm uhd_NoShare uty_NoShare umr_NoShare_NoShare umr_NoShare_NoShare,zdm uhd_NoLengths uty_NoLengths umr_NoShare_NoLengths umr_NoShare_NoShare,zdm uhd_TooMany uty_TooMany umr_NoShare_TooMany umr_NoShare_NoShare,zdm uhd_NoCover uty_NoCover umr_NoShare_NoCover umr_NoShare_NoShare,zdm uhd_NoText uty_NoText umr_NoShare_NoText umr_NoShare_NoShare,zkc zed umt_NoShare_ValueError,⟨uga_NoRoom,ugn_NoRoom,uhd_NoRoom,uha_NoRoom,uzn,uzt,umt_NoRoom_object,umt_NoRoom_BaseException⟩,⟨⟨uga_NoRoom,ugn_NoRoom,uhd_NoRoom,uha_NoRoom,uzn,uzt,umt_NoRoom_object,umt_NoRoom_BaseException⟩,usa_NoRoom,uov_NoRoom⟩,zh4 uhd_EnoughError uty_EnoughError umr_NoRoom_EnoughError,zh4 uhd_NoRoom uty_NoRoom umr_NoRoom_NoRoom,zdm uhd_NoShare uty_NoShare umr_NoRoom_NoShare umr_NoRoom_NoRoom,zdm uhd_NoLengths uty_NoLengths umr_NoRoom_NoLengths umr_NoRoom_NoRoom,zdm uhd_TooMany uty_TooMany umr_NoRoom_TooMany umr_NoRoom_NoRoom,zdm uhd_NoCover uty_NoCover umr_NoRoom_NoCover umr_NoRoom_NoRoom,zdm uhd_NoText uty_NoText umr_NoRoom_NoText umr_NoRoom_NoRoom,zkc zed umt_NoRoom_ValueError⟩
  obtain ⟨f0,g0,D0⟩:=d0
  obtain ⟨f1,g1,D1⟩:=d1
  obtain ⟨f2,g2,D2⟩:=d2
  obtain ⟨f3,g3,D3⟩:=d3
  obtain ⟨f5,g5,D5⟩:=d5
  obtain ⟨f6,g6,D6⟩:=d6
  obtain ⟨f7,g7,D7⟩:=d7
  obtain ⟨f8,g8,D8⟩:=d8
  obtain ⟨f9,g9,D9⟩:=d9
  obtain ⟨f10,g10,D10⟩:=d10
  obtain ⟨f11,g11,D11⟩:=d11
  obtain ⟨f12,g12,D12⟩:=d12
  obtain ⟨f13,g13,D13⟩:=d13
  obtain ⟨f14,g14,D14⟩:=d14
  obtain ⟨f15,g15,D15⟩:=d15
  obtain ⟨f16,g16,D16⟩:=d16
  obtain ⟨f17,g17,D17⟩:=d17
  obtain ⟨f18,g18,D18⟩:=d18
  obtain ⟨f19,g19,D19⟩:=d19
  obtain ⟨f20,g20,D20⟩:=d20
  obtain ⟨f21,g21,D21⟩:=d21
  obtain ⟨f22,g22,D22⟩:=d22
  obtain ⟨f23,g23,D23⟩:=d23
  obtain ⟨f24,g24,D24⟩:=d24
  obtain ⟨f25,g25,D25⟩:=d25
  obtain ⟨f26,g26,D26⟩:=d26
  obtain ⟨f27,g27,D27⟩:=d27
  obtain ⟨f28,g28,D28⟩:=d28
  obtain ⟨f29,g29,D29⟩:=d29
  obtain ⟨f30,g30,D30⟩:=d30
  obtain ⟨f31,g31,D31⟩:=d31
  obtain ⟨f32,g32,D32⟩:=d32
  obtain ⟨f33,g33,D33⟩:=d33
  obtain ⟨f34,g34,D34⟩:=d34
  obtain ⟨f35,g35,D35⟩:=d35
  obtain ⟨f36,g36,D36⟩:=d36
  have D4:DefAt K "greatest_order" zaO fM _:=⟨vn,ziG (st:=zaO) vl vc vk⟩
  have FL:=ziG (st:=zh0) lL cL kL
  refine ⟨PySem.W.fnOf "law" "law" (zcC zh0) (zcg zh0) (zao zh0) .none kV doc pm an cdv ct,fun s v=>.of_eq rfl,fun base _ _ KB=>?_⟩
  have F_NoRoom:=ziG (st:=zbO) ul_NoRoom uc_NoRoom uk_NoRoom
  have I_NoRoom:HasI l.prog w K mg base fNoRoom ["self","thing"] (spI K "thing"):=⟨_,zgV F_NoRoom,F_NoRoom.binds fun _ _ _ _ _ _ us hl=>match us,hl with | [_,_],_=>rfl⟩
  have G_law_cell_at:Has l.prog w K mg base CX0 1 "_law_cell_at" ["_law_script","_law_k"] (spM (KX K ad) (xoK (KX K ad)) zar):=D0.has X G (zgW D0.fn T  ) (D0.fn.binds fun _ _ _ _ _ _ us hl=>match us,hl with | [_,_],_=>rfl)
  have G_law_number:Has l.prog w K mg base CX0 1 "_law_number" ["_law_cell","_law_k"] (spM (KX K ad) (xoK (KX K ad)) zaN):=D1.has X G (zhx D1.fn T  ) (D1.fn.binds fun _ _ _ _ _ _ us hl=>match us,hl with | [_,_],_=>rfl)
  have G_law_amount:Has l.prog w K mg base CX0 2 "_law_amount" ["_law_cell","_law_k"] (spM (KX K ad) (xoK (KX K ad)) za2):=D2.has X G (zhv D2.fn T  G_law_number) (D2.fn.binds fun _ _ _ _ _ _ us hl=>match us,hl with | [_,_],_=>rfl)
  have G_law_sizes:Has l.prog w K mg base CX0 3 "_law_sizes" ["_law_cells","_law_thirds"] (spO (KX K ad) (xoK (KX K ad)) zcp):=D3.has X G (ziR D3.fn T  G_law_amount) (D3.fn.binds fun _ _ _ _ _ _ us hl=>match us,hl with | [_,_],_=>rfl)
  have G_greatest_order:Has l.prog w K mg base CX0 1 "greatest_order" ["sizes"] (spO (KX K ad) (xoK (KX K ad)) zbb):=D4.has X G (zfs vl vc T vT vC KB ) (D4.fn.binds fun _ _ _ _ _ _ us hl=>match us,hl with | [_],_=>rfl)
  have G_freest:Has l.prog w K mg base CX0 1 "freest" ["sums"] (spM (KX K ad) (xoK (KX K ad)) zex):=D5.has X G (zlF D5.fn T  ) (D5.fn.binds fun _ _ _ _ _ _ us hl=>match us,hl with | [_],_=>rfl)
  have G_put_by_benches:Has l.prog w K mg base CX0 2 "put_by_benches" ["works","many","order"] (spO (KX K ad) (xoK (KX K ad)) zbG):=D6.has X G (zfn D6.fn T  G_freest) (D6.fn.binds fun _ _ _ _ _ _ us hl=>match us,hl with | [_,_,_],_=>rfl)
  have G_put_longest_first:Has l.prog w K mg base CX0 3 "put_longest_first" ["works","many"] (spO (KX K ad) (xoK (KX K ad)) za4):=D7.has X G (zeA D7.fn T  G_greatest_order G_put_by_benches) (D7.fn.binds fun _ _ _ _ _ _ us hl=>match us,hl with | [_,_],_=>rfl)
  have G_law_any:Has l.prog w K mg base CX0 1 "_law_any" ["_law_sizes_here","_law_number_here","_law_many"] (spO (KX K ad) (xoK (KX K ad)) zb9):=D8.has X G (zkI D8.fn T  ) (D8.fn.binds fun _ _ _ _ _ _ us hl=>match us,hl with | [_,_,_],_=>rfl)
  have G_law_changed:Has l.prog w K mg base CX0 1 "_law_changed" ["_law_put","_law_number_here","_law_many"] (spM (KX K ad) (xoK (KX K ad)) za8):=D9.has X G (zg2 D9.fn T  ) (D9.fn.binds fun _ _ _ _ _ _ us hl=>match us,hl with | [_,_,_],_=>rfl)
  have G_law_bench_bound:Has l.prog w K mg base CX0 1 "_law_bench_bound" ["_law_sizes_here","_law_many"] (spM (KX K ad) (xoK (KX K ad)) zaR):=D10.has X G (zfb D10.fn T  ) (D10.fn.binds fun _ _ _ _ _ _ us hl=>match us,hl with | [_,_],_=>rfl)
  have G_law_bound_changed:Has l.prog w K mg base CX0 1 "_law_bound_changed" ["_law_bound","_law_number_here"] (spM (KX K ad) (xoK (KX K ad)) zaQ):=D11.has X G (zeD D11.fn T  ) (D11.fn.binds fun _ _ _ _ _ _ us hl=>match us,hl with | [_,_],_=>rfl)
  have G_all_below:Has l.prog w K mg base CX0 1 "all_below" ["numbers","count"] (spM (KX K ad) (xoK (KX K ad)) zbA):=D12.has X G (zi2 D12.fn T  ) (D12.fn.binds fun _ _ _ _ _ _ us hl=>match us,hl with | [_,_],_=>rfl)
  have G_common_factor:Has l.prog w K mg base CX0 1 "common_factor" ["one","other"] (spM (KX K ad) (xoK (KX K ad)) zbK):=D13.has X G (zf0 D13.fn T  ) (D13.fn.binds fun _ _ _ _ _ _ us hl=>match us,hl with | [_,_],_=>rfl)
  have G_share:Has l.prog w K mg base (CX1 l.prog w) 2 "share" ["top","bottom"] (spM (KX K ad) (xoK (KX K ad)) zcn):=D14.has X G (znZ D14.fn T  G_common_factor) (D14.fn.binds fun _ _ _ _ _ _ us hl=>match us,hl with | [_,_],_=>rfl)
  have G_rounded_up:Has l.prog w K mg base CX0 1 "rounded_up" ["one"] (spM (KX K ad) (xoK (KX K ad)) zba):=D15.has X G (zh8 D15.fn T  ) (D15.fn.binds fun _ _ _ _ _ _ us hl=>match us,hl with | [_],_=>rfl)
  have G_bench_bound:Has l.prog w K mg base (CX1 l.prog w) 3 "bench_bound" ["works","many"] (spM (KX K ad) (xoK (KX K ad)) zbB):=D16.has X G (zgX D16.fn T  G_share G_rounded_up) (D16.fn.binds fun _ _ _ _ _ _ us hl=>match us,hl with | [_,_],_=>rfl)
  have G_heaviest:Has l.prog w K mg base CX0 1 "heaviest" ["works","many","put"] (spM (KX K ad) (xoK (KX K ad)) zb7):=D17.has X G (zjP D17.fn T  ) (D17.fn.binds fun _ _ _ _ _ _ us hl=>match us,hl with | [_,_,_],_=>rfl)
  have G_check_benches:Has l.prog w K mg base (CX1 l.prog w) 4 "check_benches" ["works","many","put","bound"] (spM (KX K ad) (xoK (KX K ad)) zbx):=D18.has X G (zf1 D18.fn T  G_all_below G_bench_bound G_heaviest) (D18.fn.binds fun _ _ _ _ _ _ us hl=>match us,hl with | [_,_,_,_],_=>rfl)
  have G_law_sums:Has l.prog w K mg base CX0 1 "_law_sums" ["_law_sizes_here","_law_put"] (spO (KX K ad) (xoK (KX K ad)) zbQ):=D19.has X G (zjU D19.fn T  ) (D19.fn.binds fun _ _ _ _ _ _ us hl=>match us,hl with | [_,_],_=>rfl)
  have G_law_bench_word:Has l.prog w K mg base CX0 2 "_law_bench_word" ["_law_sizes_here","_law_many","_law_put","_law_bound"] (spM (KX K ad) (xoK (KX K ad)) zbE):=D20.has X G (zfg D20.fn T  G_law_bench_bound G_law_sums) (D20.fn.binds fun _ _ _ _ _ _ us hl=>match us,hl with | [_,_,_,_],_=>rfl)
  have G_law_same:Has l.prog w K mg base CX0 1 "_law_same" ["_law_found","_law_due"] (spM (KX K ad) (xoK (KX K ad)) zco):=D21.has X G (zjf D21.fn T  ) (D21.fn.binds fun _ _ _ _ _ _ us hl=>match us,hl with | [_,_],_=>rfl)
  have G_law_benches:Has l.prog w K mg base CX0 5 "_law_benches" ["_law_sizes_here","_law_many","_law_number_here"] (spM (KX K ad) (xoK (KX K ad)) zbM):=D22.has X G (zgR D22.fn T  G_law_number G_put_longest_first G_law_any G_law_changed G_law_bench_bound G_law_bound_changed G_check_benches G_law_bench_word G_law_same) (D22.fn.binds fun _ _ _ _ _ _ us hl=>match us,hl with | [_,_,_],_=>rfl)
  have G_refuse_too_great:Has l.prog w K mg base (CX1 l.prog w) 3 "refuse_too_great" ["sizes","room"] (spM (KX K ad) (xoK (KX K ad)) zav):=D23.has X G (zeT D23.fn T  I_NoRoom) (D23.fn.binds fun _ _ _ _ _ _ us hl=>match us,hl with | [_,_],_=>rfl)
  have G_first_that_fits:Has l.prog w K mg base CX0 1 "first_that_fits" ["free","size"] (spM (KX K ad) (xoK (KX K ad)) za6):=D24.has X G (ze5 D24.fn T  ) (D24.fn.binds fun _ _ _ _ _ _ us hl=>match us,hl with | [_,_],_=>rfl)
  have G_put_by_bins:Has l.prog w K mg base CX0 2 "put_by_bins" ["sizes","room","order"] (spO (KX K ad) (xoK (KX K ad)) zci):=D25.has X G (zg5 D25.fn T  G_first_that_fits) (D25.fn.binds fun _ _ _ _ _ _ us hl=>match us,hl with | [_,_,_],_=>rfl)
  have G_greatest_first:Has l.prog w K mg base (CX1 l.prog w) 4 "greatest_first" ["sizes","room"] (spO (KX K ad) (xoK (KX K ad)) zbq):=D26.has X G (zfo D26.fn T  G_greatest_order G_refuse_too_great G_put_by_bins) (D26.fn.binds fun _ _ _ _ _ _ us hl=>match us,hl with | [_,_],_=>rfl)
  have G_law_bin_bound:Has l.prog w K mg base CX0 1 "_law_bin_bound" ["_law_sizes_here","_law_room"] (spM (KX K ad) (xoK (KX K ad)) zaY):=D27.has X G (zf2 D27.fn T  ) (D27.fn.binds fun _ _ _ _ _ _ us hl=>match us,hl with | [_,_],_=>rfl)
  have G_is_bin_putting:Has l.prog w K mg base CX0 2 "is_bin_putting" ["sizes","put"] (spM (KX K ad) (xoK (KX K ad)) zbp):=D28.has X G (zfv D28.fn T  G_all_below) (D28.fn.binds fun _ _ _ _ _ _ us hl=>match us,hl with | [_,_],_=>rfl)
  have G_is_too_full:Has l.prog w K mg base CX0 2 "is_too_full" ["sizes","room","put"] (spM (KX K ad) (xoK (KX K ad)) zbC):=D29.has X G (zg1 D29.fn T  G_heaviest) (D29.fn.binds fun _ _ _ _ _ _ us hl=>match us,hl with | [_,_,_],_=>rfl)
  have G_bin_bound:Has l.prog w K mg base (CX1 l.prog w) 4 "bin_bound" ["sizes","room"] (spM (KX K ad) (xoK (KX K ad)) zb4):=D30.has X G (ziQ D30.fn T  G_share G_rounded_up G_refuse_too_great) (D30.fn.binds fun _ _ _ _ _ _ us hl=>match us,hl with | [_,_],_=>rfl)
  have G_check_bins:Has l.prog w K mg base (CX1 l.prog w) 5 "check_bins" ["sizes","room","put","bound"] (spM (KX K ad) (xoK (KX K ad)) zaX):=D31.has X G (zhu D31.fn T  G_refuse_too_great G_is_bin_putting G_is_too_full G_bin_bound) (D31.fn.binds fun _ _ _ _ _ _ us hl=>match us,hl with | [_,_,_,_],_=>rfl)
  have G_law_bin_word:Has l.prog w K mg base CX0 2 "_law_bin_word" ["_law_sizes_here","_law_room","_law_put","_law_bound"] (spM (KX K ad) (xoK (KX K ad)) zbW):=D32.has X G (zgo D32.fn T  G_law_sums G_law_bin_bound) (D32.fn.binds fun _ _ _ _ _ _ us hl=>match us,hl with | [_,_,_,_],_=>rfl)
  have G_law_bins:Has l.prog w K mg base CX0 6 "_law_bins" ["_law_sizes_here","_law_room","_law_number_here"] (spM (KX K ad) (xoK (KX K ad)) zcO):=D33.has X G (zjT D33.fn T  G_law_number G_law_any G_law_changed G_law_bound_changed G_law_same G_greatest_first G_law_bin_bound G_check_bins G_law_bin_word) (D33.fn.binds fun _ _ _ _ _ _ us hl=>match us,hl with | [_,_,_],_=>rfl)
  have G_law_refused_by_any:Has l.prog w K mg base CX0 6 "_law_refused_by_any" ["_law_sizes_here","_law_room"] (spM (KX K ad) (xoK (KX K ad)) za1):=D34.has X G (zd7 D34.fn T  G_check_bins) (D34.fn.binds fun _ _ _ _ _ _ us hl=>match us,hl with | [_,_],_=>rfl)
  have G_law_refused:Has l.prog w K mg base CX0 6 "_law_refused" ["_law_sizes_here","_law_room","_law_thing","_law_put"] (spM (KX K ad) (xoK (KX K ad)) zbP):=D35.has X G (zgQ D35.fn T  G_check_bins) (D35.fn.binds fun _ _ _ _ _ _ us hl=>match us,hl with | [_,_,_,_],_=>rfl)
  have G_law_too_great:Has l.prog w K mg base CX0 7 "_law_too_great" ["_law_sizes_here","_law_room","_law_number_here"] (spM (KX K ad) (xoK (KX K ad)) zbv):=D36.has X G (zf8 D36.fn T  G_law_refused_by_any G_law_refused) (D36.fn.binds fun _ _ _ _ _ _ us hl=>match us,hl with | [_,_,_],_=>rfl)
  exact zqa FL T G_law_cell_at G_law_number G_law_amount G_law_sizes G_law_benches G_law_bins G_law_too_great
theorem walk {l:PySem.W.OpenLaw} {q:Program} {loose:List Str} {XP:(Str→Option Value)→Heap→Prop} {YP:World→Heap→Prop} {d:DefRec} {K:Params→PySem.W.Frag} (hn:l.most=some 63) (hdf:d.params.defaults = [])
    (hY:∀ (w:World) (h:Heap),YP w h→(K w.params).In h) {tP:Addr} (hY2:∀ (w:World) (h:Heap),YP w h→∀ t ∈ [tP],h.get? t=some (PySem.W.tabObj #[])) (hT:∀ w:World,zi5 (K w.params) tP=true)
    (F:∀ (w:World) (mg:Str→Option Value) (fa:Addr) (h:Heap),(K w.params).In h→h.Ns mainGlobals mg→mg d.name=some (.ref fa) →
      ∃ fd:FuncData,(∀ (s:Shared) (u:Value),BindsTo s fd ⟨[u],[]⟩ [("_law_script",u)])∧∀ base:Heap,(K w.params).In base→base.Ns mainGlobals mg→BmAt mg base→FnOk l.prog w (K w.params) mg base CX0 8 fa fd ["_law_script"] (zkB (K w.params))) :
    PySem.W.WalkO q loose XP YP l.row.toRowW d [] (fun f vs=>PySem.call f vs) :=
  L2.walk_ofT (n:=63) (k:=8) (x:="_law_script") (CX:=fun _=>CX0) (sp:=fun w=>zkB (K w.params)) hn (by decide) hdf ⟨rfl,by decide,by decide⟩ hY hY2 hT F (fun _ _ a ns hl hS=>⟨a,ns,rfl,hS,hl,fun _=>rfl⟩) fun _ _ _ _ _ z=>z
end My
def PySem.W.Fast.tw4959145483066599504:Nat:=0
def PySem.W.Fast.tw4858224746203842267:Nat:=0
def PySem.W.Fast.tw12540235612569957834:Nat:=0
def PySem.W.Fast.tw18366412747049889029:Nat:=0
def PySem.W.Fast.tw1885117694027225238:Nat:=0
def PySem.W.Fast.tw3340076846209049334:Nat:=0
def PySem.W.Fast.tw4133308705962264294:Nat:=0
def PySem.W.Fast.tw9470958430154504037:Nat:=0
def PySem.W.Fast.tw10100876389419963650:Nat:=0
def PySem.W.Fast.tw11916103662193703780:Nat:=0
def PySem.W.Fast.tw16311826152080980903:Nat:=0
def PySem.W.Fast.tw13487829200710249342:Nat:=0
def PySem.W.Fast.tw15494597347510491717:Nat:=0
def PySem.W.Fast.tw8090063390260547691:Nat:=0
def PySem.W.Fast.tw14052498207570515640:Nat:=0
open PySem PySem.W PyProof.Rows
set_option maxRecDepth 100000 in
set_option maxHeartbeats 0 in
theorem PySem.Challenge.cw_goodenough_k47_puttings_looked_at_holds : PySem.Challenge.rw_goodenough_k47_puttings_looked_at.Holds := by
  w_on; o_law; k_head; (case hw=>w_witness2)
  k_fill
  refine My.walk (l:=PySem.Challenge.rw_goodenough_k47_puttings_looked_at) rfl rfl (fun w h Y=>by first | exact PySem.W.kIn_of Y | exact PySem.W.km_in_of Y) (fun w h Y=>PySem.W.km_tabs_of Y) ?tab ?F
  (case tab=>intro w; kernel_rfl)
  case F =>
    intro w mg fa h KX G hmg
    refine' My.all_mk KX G hmg (L2.defAt_mk ?a0 ?l0 ?c0 ?k0) (L2.defAt_mk ?a1 ?l1 ?c1 ?k1) (L2.defAt_mk ?a2 ?l2 ?c2 ?k2) (L2.defAt_mk ?a3 ?l3 ?c3 ?k3) (L2.defAt_mk ?a5 ?l5 ?c5 ?k5) (L2.defAs_mk ?a6 ?l6 ?c6 ?k6) (L2.defAt_mk ?a7 ?l7 ?c7 ?k7) (L2.defAt_mk ?a8 ?l8 ?c8 ?k8) (L2.defAt_mk ?a9 ?l9 ?c9 ?k9) (L2.defAt_mk ?a10 ?l10 ?c10 ?k10) (L2.defAt_mk ?a11 ?l11 ?c11 ?k11) (L2.defAt_mk ?a12 ?l12 ?c12 ?k12) (L2.defAt_mk ?a13 ?l13 ?c13 ?k13) (L2.defAt_mk ?a14 ?l14 ?c14 ?k14) (L2.defAt_mk ?a15 ?l15 ?c15 ?k15) (L2.defAt_mk ?a16 ?l16 ?c16 ?k16) (L2.defAt_mk ?a17 ?l17 ?c17 ?k17) (L2.defAt_mk ?a18 ?l18 ?c18 ?k18) (L2.defAt_mk ?a19 ?l19 ?c19 ?k19) (L2.defAt_mk ?a20 ?l20 ?c20 ?k20) (L2.defAt_mk ?a21 ?l21 ?c21 ?k21) (L2.defAt_mk ?a22 ?l22 ?c22 ?k22) (L2.defAt_mk ?a23 ?l23 ?c23 ?k23) (L2.defAt_mk ?a24 ?l24 ?c24 ?k24) (L2.defAs_mk ?a25 ?l25 ?c25 ?k25) (L2.defAt_mk ?a26 ?l26 ?c26 ?k26) (L2.defAt_mk ?a27 ?l27 ?c27 ?k27) (L2.defAt_mk ?a28 ?l28 ?c28 ?k28) (L2.defAt_mk ?a29 ?l29 ?c29 ?k29) (L2.defAt_mk ?a30 ?l30 ?c30 ?k30) (L2.defAt_mk ?a31 ?l31 ?c31 ?k31) (L2.defAt_mk ?a32 ?l32 ?c32 ?k32) (L2.defAt_mk ?a33 ?l33 ?c33 ?k33) (L2.defAt_mk ?a34 ?l34 ?c34 ?k34) (L2.defAt_mk ?a35 ?l35 ?c35 ?k35) (L2.defAt_mk ?a36 ?l36 ?c36 ?k36) ?aL ?lL ?cL ?kL ?z0 ?z1 ?z2 ?z3 ?z4 ?z5 ?z6 ?z7 ?z8 ?z9 ?z10 ?z11 ?z12 ?z13 ?z14 ?z15 ?z16 ?un_EnoughError ?un_NoShare ?un_NoLengths ?un_TooMany ?un_NoCover ?un_NoRoom ?un_NoText ?ui_NoRoom ?ul_NoRoom ?uc_NoRoom ?uk_NoRoom ?ux_NoRoom ?uf_NoRoom ?una_NoRoom ?usa_NoRoom ?uov_NoRoom ?ue_NoShare ?ub_EnoughError ?ub_NoRoom ?uzn ?uzt ?uhd_EnoughError ?uhd_NoShare ?uhd_NoLengths ?uhd_TooMany ?uhd_NoCover ?uhd_NoRoom ?uhd_NoText ?uty_EnoughError ?uty_NoShare ?uty_NoLengths ?uty_TooMany ?uty_NoCover ?uty_NoRoom ?uty_NoText ?uga_NoShare ?ugn_NoShare ?uha_NoShare ?umr_NoShare_EnoughError ?umr_NoShare_NoShare ?umr_NoShare_NoLengths ?umr_NoShare_TooMany ?umr_NoShare_NoCover ?umr_NoShare_NoRoom ?umr_NoShare_NoText ?umt_NoShare_object ?umt_NoShare_BaseException ?umt_NoShare_ValueError ?uga_NoRoom ?ugn_NoRoom ?uha_NoRoom ?umr_NoRoom_EnoughError ?umr_NoRoom_NoShare ?umr_NoRoom_NoLengths ?umr_NoRoom_TooMany ?umr_NoRoom_NoCover ?umr_NoRoom_NoRoom ?umr_NoRoom_NoText ?umt_NoRoom_object ?umt_NoRoom_BaseException ?umt_NoRoom_ValueError ?vn ?vl ?vc ?vk ?vv ?vt ?vT ?vC
    (case a0=>k_is); (case l0=>k_is); (case c0=>k_is); (case k0=>k_is)
    (case a1=>k_is); (case l1=>k_is); (case c1=>k_is); (case k1=>k_is)
    (case a2=>k_is); (case l2=>k_is); (case c2=>k_is); (case k2=>k_is)
    (case a3=>k_is); (case l3=>k_is); (case c3=>k_is); (case k3=>k_is)
    (case a5=>k_is); (case l5=>k_is); (case c5=>k_is); (case k5=>k_is)
    (case a6=>k_is); (case l6=>k_is); (case c6=>k_is); (case k6=>k_is)
    (case a7=>k_is); (case l7=>k_is); (case c7=>k_is); (case k7=>k_is)
    (case a8=>k_is); (case l8=>k_is); (case c8=>k_is); (case k8=>k_is)
    (case a9=>k_is); (case l9=>k_is); (case c9=>k_is); (case k9=>k_is)
    (case a10=>k_is); (case l10=>k_is); (case c10=>k_is); (case k10=>k_is)
    (case a11=>k_is); (case l11=>k_is); (case c11=>k_is); (case k11=>k_is)
    (case a12=>k_is); (case l12=>k_is); (case c12=>k_is); (case k12=>k_is)
    (case a13=>k_is); (case l13=>k_is); (case c13=>k_is); (case k13=>k_is)
    (case a14=>k_is); (case l14=>k_is); (case c14=>k_is); (case k14=>k_is)
    (case a15=>k_is); (case l15=>k_is); (case c15=>k_is); (case k15=>k_is)
    (case a16=>k_is); (case l16=>k_is); (case c16=>k_is); (case k16=>k_is)
    (case a17=>k_is); (case l17=>k_is); (case c17=>k_is); (case k17=>k_is)
    (case a18=>k_is); (case l18=>k_is); (case c18=>k_is); (case k18=>k_is)
    (case a19=>k_is); (case l19=>k_is); (case c19=>k_is); (case k19=>k_is)
    (case a20=>k_is); (case l20=>k_is); (case c20=>k_is); (case k20=>k_is)
    (case a21=>k_is); (case l21=>k_is); (case c21=>k_is); (case k21=>k_is)
    (case a22=>k_is); (case l22=>k_is); (case c22=>k_is); (case k22=>k_is)
    (case a23=>k_is); (case l23=>k_is); (case c23=>k_is); (case k23=>k_is)
    (case a24=>k_is); (case l24=>k_is); (case c24=>k_is); (case k24=>k_is)
    (case a25=>k_is); (case l25=>k_is); (case c25=>k_is); (case k25=>k_is)
    (case a26=>k_is); (case l26=>k_is); (case c26=>k_is); (case k26=>k_is)
    (case a27=>k_is); (case l27=>k_is); (case c27=>k_is); (case k27=>k_is)
    (case a28=>k_is); (case l28=>k_is); (case c28=>k_is); (case k28=>k_is)
    (case a29=>k_is); (case l29=>k_is); (case c29=>k_is); (case k29=>k_is)
    (case a30=>k_is); (case l30=>k_is); (case c30=>k_is); (case k30=>k_is)
    (case a31=>k_is); (case l31=>k_is); (case c31=>k_is); (case k31=>k_is)
    (case a32=>k_is); (case l32=>k_is); (case c32=>k_is); (case k32=>k_is)
    (case a33=>k_is); (case l33=>k_is); (case c33=>k_is); (case k33=>k_is)
    (case a34=>k_is); (case l34=>k_is); (case c34=>k_is); (case k34=>k_is)
    (case a35=>k_is); (case l35=>k_is); (case c35=>k_is); (case k35=>k_is)
    (case a36=>k_is); (case l36=>k_is); (case c36=>k_is); (case k36=>k_is)
    (case aL=>k_is); (case lL=>k_is); (case cL=>k_is); (case kL=>k_is)
    (case z0=>k_is)
    (case z1=>k_is)
    (case z2=>k_is)
    (case z3=>k_is)
    (case z4=>k_is)
    (case z5=>k_is)
    (case z6=>k_is)
    (case z7=>k_is)
    (case z8=>k_is)
    (case z9=>k_is)
    (case z10=>k_is)
    (case z11=>k_is)
    (case z12=>k_is)
    (case z13=>k_is)
    (case z14=>k_is)
    (case z15=>k_is)
    (case z16=>k_is)
    (case un_EnoughError=>k_is)
    (case un_NoShare=>k_is)
    (case un_NoLengths=>k_is)
    (case un_TooMany=>k_is)
    (case un_NoCover=>k_is)
    (case un_NoRoom=>k_is)
    (case un_NoText=>k_is)
    (case ui_NoRoom=>k_is)
    (case ul_NoRoom=>k_is)
    (case uc_NoRoom=>k_is)
    (case uk_NoRoom=>k_is)
    (case ux_NoRoom=>kernel_rfl)
    (case uf_NoRoom=>k_is)
    (case una_NoRoom=>k_is)
    (case usa_NoRoom=>k_is)
    (case uov_NoRoom=>kernel_rfl)
    (case ue_NoShare=>k_exc)
    (case ub_EnoughError=>k_is)
    (case ub_NoRoom=>k_is)
    (case uzn=>k_is)
    (case uzt=>k_is)
    (case uhd_EnoughError=>k_is)
    (case uhd_NoShare=>k_is)
    (case uhd_NoLengths=>k_is)
    (case uhd_TooMany=>k_is)
    (case uhd_NoCover=>k_is)
    (case uhd_NoRoom=>k_is)
    (case uhd_NoText=>k_is)
    (case uty_EnoughError=>k_is)
    (case uty_NoShare=>k_is)
    (case uty_NoLengths=>k_is)
    (case uty_TooMany=>k_is)
    (case uty_NoCover=>k_is)
    (case uty_NoRoom=>k_is)
    (case uty_NoText=>k_is)
    (case uga_NoShare=>k_is)
    (case ugn_NoShare=>k_is)
    (case uha_NoShare=>k_is)
    (case umr_NoShare_EnoughError=>k_is)
    (case umr_NoShare_NoShare=>k_is)
    (case umr_NoShare_NoLengths=>k_is)
    (case umr_NoShare_TooMany=>k_is)
    (case umr_NoShare_NoCover=>k_is)
    (case umr_NoShare_NoRoom=>k_is)
    (case umr_NoShare_NoText=>k_is)
    (case umt_NoShare_object=>k_is)
    (case umt_NoShare_BaseException=>k_is)
    (case umt_NoShare_ValueError=>k_is)
    (case uga_NoRoom=>k_is)
    (case ugn_NoRoom=>k_is)
    (case uha_NoRoom=>k_is)
    (case umr_NoRoom_EnoughError=>k_is)
    (case umr_NoRoom_NoShare=>k_is)
    (case umr_NoRoom_NoLengths=>k_is)
    (case umr_NoRoom_TooMany=>k_is)
    (case umr_NoRoom_NoCover=>k_is)
    (case umr_NoRoom_NoRoom=>k_is)
    (case umr_NoRoom_NoText=>k_is)
    (case umt_NoRoom_object=>k_is)
    (case umt_NoRoom_BaseException=>k_is)
    (case umt_NoRoom_ValueError=>k_is)
    (case vn=>k_is)
    (case vl=>k_is)
    (case vc=>k_is)
    (case vk=>k_is)
    (case vv=>k_is)
    (case vt=>rfl)
    (case vT=>kernel_rfl)
    (case vC=>kernel_rfl)
#print axioms PySem.Challenge.cw_goodenough_k47_puttings_looked_at_holds
