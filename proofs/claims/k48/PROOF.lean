import PyProof.Rows.All
import Wide.All
import OpenK.AllK
import Wide.FinOn
import Lean
import PyProof.EqAt
import PyProof.EqKinds
import PyProof.TupleCall
import PySem.Challenge.RW_goodenough_k48_sacks_and_places_looked_a
set_option Elab.async false
set_option linter.all false
set_option maxRecDepth 100000
set_option maxHeartbeats 4000000
noncomputable section
namespace L2
open PySem PySem.Spec PyProof.Rows
abbrev Key:=Sum Int Str
def zpo:Key→Value→Bool
  | .inl k,v=>Value.isInt k v
  | .inr x,v=>Value.isStrOf x v
def keyH (w:World):Key→Int
  | .inl k=>hashInt k
  | .inr x=>hashStr w x
theorem zbT:∀ {k:Key} {v:Value},zpo k v=true→(∃ i t,k=Sum.inl i∧v=Value.int i t)∨(∃ x t,k=Sum.inr x∧v=Value.str x t)
  | .inl i,v,h=>by
    obtain ⟨t,e⟩:=Value.isInt_shape (k:=i) (v:=v) h
    exact .inl ⟨i,t,rfl,e⟩
  | .inr x,v,h=>by
    obtain ⟨t,e⟩:=Value.isStrOf_shape (x:=x) (v:=v) h
    exact .inr ⟨x,t,rfl,e⟩
theorem zpq (a b:Int):decide ((Sum.inl a:Key)=Sum.inl b)=(a == b):=by
  by_cases e:a=b
  · subst e; simp
  · have h:¬ (Sum.inl a:Key)=Sum.inl b:=fun q=>e (Sum.inl.inj q)
    rw [decide_eq_false h]
    exact (beq_eq_false_iff_ne.mpr e).symm
theorem zps (a b:Str):decide ((Sum.inr a:Key)=Sum.inr b)=decide (a=b):=by
  by_cases e:a=b
  · subst e; simp
  · have h:¬ (Sum.inr a:Key)=Sum.inr b:=fun q=>e (Sum.inr.inj q)
    rw [decide_eq_false h,decide_eq_false e]
theorem zoZ (a:Int) (b:Str):decide ((Sum.inl a:Key)=Sum.inr b)=false:=decide_eq_false (fun q=>nomatch q)
theorem zoW (a:Str) (b:Int):decide ((Sum.inr a:Key)=Sum.inl b)=false:=decide_eq_false (fun q=>nomatch q)
def zlA (prog:Program) (w:World):PySem.KeyKind prog w Key where
  is:=zpo
  hash:=keyH w
  inj:=fun v a b ha hb=>by
    rcases zbT ha with ⟨i,t,rfl,rfl⟩ | ⟨x,t,rfl,rfl⟩
    · rcases zbT hb with ⟨j,u,rfl,e⟩ | ⟨y,u,rfl,e⟩
      · injection e with e1 _; rw [e1]
      · exact nomatch e
    · rcases zbT hb with ⟨j,u,rfl,e⟩ | ⟨y,u,rfl,e⟩
      · exact nomatch e
      · injection e with e1 _; rw [e1]
  byValue:=fun k v h=>by
    rcases zbT h with ⟨i,t,rfl,rfl⟩ | ⟨x,t,rfl,rfl⟩ <;> rfl
  pyHash:=fun hv h=>by
    rcases zbT hv with ⟨i,t,rfl,rfl⟩ | ⟨x,t,rfl,rfl⟩
    · exact wpAny_pyHash_int h
    · exact wpAny_pyHash_str h
  eqBool:=fun hu hv h=>by
    rcases zbT hu with ⟨i,t,rfl,rfl⟩ | ⟨x,t,rfl,rfl⟩
    · rcases zbT hv with ⟨j,u,rfl,rfl⟩ | ⟨y,u,rfl,rfl⟩
      · rw [zpq] at h; exact wpAny_eqBool_int h
      · rw [zoZ] at h; exact SeqAt.EqAt.int_str i t y u _ _ _ _ h
    · rcases zbT hv with ⟨j,u,rfl,rfl⟩ | ⟨y,u,rfl,rfl⟩
      · rw [zoW] at h; exact SeqAt.EqAt.str_int x t j u _ _ _ _ h
      · rw [zps] at h; exact wpAny_eqBool_str h
  «strs»:=fun k x t v h=>by
    rcases zbT h with ⟨i,u,rfl,e⟩ | ⟨y,u,rfl,e⟩
    · exact nomatch e
    · injection e with e1 _
      subst e1
      cases v <;> rfl
end L2
namespace L2
open PySem PySem.Spec PyProof.Rows
inductive V where
  | non | bl (b:Bool) | int (i:Int) | str (x:Str) | byt (b:Array UInt8) | flt (b:UInt64) | ref (a:Addr) | ty (n:String)
  deriving DecidableEq
def RelV:V→Value→Prop
  | .non,u=>u=Value.none
  | .bl b,u=>u=Value.bool b
  | .int i,u=>∃ t,u=Value.int i t
  | .str x,u=>∃ t,u=Value.str x t
  | .byt b,u=>∃ t,u=Value.bytes b t
  | .flt b,u=>∃ t,u=Value.float b t
  | .ref a,u=>u=Value.ref a
  | .ty n,u=>u=Value.type n
abbrev Vals:List V→List Value→Prop:=Paired RelV
theorem Vals.length {xs:List V} {us:List Value} (r:Vals xs us):xs.length=us.length:=Paired.length r
theorem Vals.get:∀ {xs:List V} {us:List Value} {i:Nat} {x:V},Vals xs us→xs[i]?=some x→∃ u,us[i]?=some u∧RelV x u
  | _,_,_,_,.nil,e=>by simp at e
  | _,_,0,_,.cons r _,e=>by simp at e; subst e; exact ⟨_,rfl,r⟩
  | _,_,i + 1,x,.cons _ t,e=>by
    obtain ⟨u,h1,h2⟩:=Vals.get (i:=i) (x:=x) t (by simpa using e)
    exact ⟨u,by simpa using h1,h2⟩
theorem Vals.set {x:V} {u:Value} (r:RelV x u):∀ {xs:List V} {us:List Value} (i:Nat),Vals xs us→Vals (xs.set i x) (us.set i u)
  | _,_,_,.nil=>.nil
  | _,_,0,.cons _ t=>.cons r t
  | _,_,i + 1,.cons q t=>.cons q (Vals.set r i t)
theorem Vals.append:∀ {xs ys:List V} {us ws:List Value},Vals xs us→Vals ys ws→Vals (xs ++ ys) (us ++ ws)
  | _,_,_,_,.nil,s=>s
  | _,_,_,_,.cons r t,s=>.cons r (Vals.append t s)
theorem Vals.take:∀ {xs:List V} {us:List Value} (n:Nat),Vals xs us→Vals (xs.take n) (us.take n)
  | _,_,0,_=>.nil
  | _,_,_ + 1,.nil=>.nil
  | _,_,n + 1,.cons r t=>.cons r (Vals.take n t)
theorem Vals.drop:∀ {xs:List V} {us:List Value} (n:Nat),Vals xs us→Vals (xs.drop n) (us.drop n)
  | _,_,0,r=>r
  | _,_,_ + 1,.nil=>.nil
  | _,_,n + 1,.cons _ t=>Vals.drop n t
def RelO:Option V→Option Value→Prop
  | some v,some u=>RelV v u
  | none,none=>True
  | _,_=>False
def KV {κ:Type}:List (κ × V)→List (κ × Value)→Prop:=Paired fun (p:κ × V) (q:κ × Value)=>p.1=q.1∧RelV p.2 q.2
def kV:Key→V
  | .inl i=>.int i
  | .inr x=>.str x
inductive HO where
  | lst (xs:List V)
  | tup (xs:List V)
  | dK (kvs:List (Key × V)) | dT (kvs:List (List Key × V))
  | set (S:Int→Bool) (n:Nat)
  | ins (C dx:Addr) (fs:List (Str × V))
  | own (x:Addr)
  | xd (fs:List (Str × V))
  | met (f x:Addr)
  | rng (lo hi:Int)
  | frz (o:Obj) (u:HO)
  | tbl (ps:Array Value)
  | ext (φ:Heap→Prop)
abbrev Hp:=Addr→Option HO
def upd (H:Hp) (a:Addr) (o:HO):Hp:=fun b=>if b=a then some o else H b
theorem zaY {H:Hp} {a:Addr} {o:HO}:upd H a o a=some o:=by unfold upd; rw [if_pos rfl]
theorem zaH {H:Hp} {a b:Addr} {o:HO} (h:b ≠ a):upd H a o b=H b:=by unfold upd; rw [if_neg h]
theorem zaW {H:Hp} {a b:Addr} {o:HO} (h:H a=some o) (h':H b=none):a ≠ b:=by
  intro e; subst e; rw [h] at h'; cases h'
def zo1 (fd:FuncData):Option Pos :=
  match fd.body with
  | .stmts [.Return (some (.Call _ _ [⟨_,.Lambda _ _ _ pos,_⟩] _)) _]=>some pos
  | _=>none
def zpW (K:PySem.W.Frag) (v:Value):Option Addr :=
  match v with
  | .ref c=>match K.lookup c with
    | some o=>match o.data with
      | .fields vs=>match (vs[11]?:Option Value) with
        | some (.ref P)=>some P
        | _=>none
      | _=>none
    | _=>none
  | _=>none
def zlK (K:PySem.W.Frag):Option (Addr × Array Value) :=
  K.findSome? fun p=>match p.2.data with
    | .func fd=>match zo1 fd with
      | some pos=>(zpW K fd.code).map fun P=>(P,#[.str (fd.qualname ++ ".<locals>." ++ "<lambda>") 0,rawInt pos.line,rawInt pos.col])
      | none=>none
    | _=>none
def TblOk (H:Hp) (h:Heap) (a:Addr) (ps:Array Value):Prop :=
  ∃ (q:Str) (t:Tok) (ln cl:Int) (more:List Value) (real:Array Value),ps.toList = .str q t :: rawInt ln :: rawInt cl :: more∧h.get? a=some { cls:=.none,data:=.fields real } ∧
    (real = #[]∨∃ (c:Addr) (o:Obj) (vs:Array Value) (u:Tok),real = #[rawInt ln,rawInt cl,.ref c]∧H c=some (.own a)∧h.get? c=some o∧o.data = .fields vs∧vs[1]?=some (.str q u))
theorem TblOk.lt {H:Hp} {h:Heap} {a:Addr} {ps:Array Value} (x:TblOk H h a ps):a < h.objs.size:=by
  obtain ⟨_,_,_,_,_,_,_,e,_⟩:=x
  exact Heap.lt_size e
theorem TblOk.stay {H H':Hp} {h h':Heap} {a:Addr} {ps:Array Value} (x:TblOk H h a ps) (k:∀ b u,(b=a∨H b=some (.own a))→h.get? b=some u→h'.get? b=some u)
    (ho:∀ b,H b=some (.own a)→H' b=some (.own a)):TblOk H' h' a ps:=by
  obtain ⟨q,t,ln,cl,more,real,e1,e2,e3⟩:=x
  refine ⟨q,t,ln,cl,more,real,e1,k _ _ (.inl rfl) e2,?_⟩
  rcases e3 with e3 | ⟨c,o,vs,u,r1,r2,r3,r4⟩
  · exact .inl e3
  · exact .inr ⟨c,o,vs,u,r1,ho _ r2,k _ _ (.inr r2) r3,r4⟩
def TbAt (K:PySem.W.Frag) (H:Hp):Prop:=∀ t,zlK K=some t→∃ more,H t.1=some (.tbl (t.2 ++ more))
theorem TbAt.none {K:PySem.W.Frag} {H:Hp} (h:zlK K = .none):TbAt K H:=fun t e=>by rw [h] at e; cases e
theorem TbAt.grown {K:PySem.W.Frag} {H H':Hp} (x:TbAt K H) (g:∀ b ps,H b=some (.tbl ps)→∃ more,H' b=some (.tbl (ps ++ more))):TbAt K H':=fun t e=>by
  obtain ⟨m1,e1⟩:=x t e
  obtain ⟨m2,e2⟩:=g _ _ e1
  exact ⟨m1 ++ m2,by rw [e2,Array.append_assoc]⟩
section
variable (P:Program) (w:World)
def ObjOk (H:Hp) (h:Heap) (a:Addr):HO→Prop
  | .lst xs=>xs.length ≤ sizeLine∧∃ (its:List Value) (n:Nat),Vals xs its∧h.get? a=some { cls:=.type "list",data:=.seq its.toArray n }
  | .tup xs=>xs.length ≤ sizeLine∧∃ its:List Value,Vals xs its∧IsTup h a its.toArray
  | .dK kvs=>kvs.length ≤ sizeLine∧(a == sysModules)=false∧∃ vs,KV kvs vs∧h.DictOf (zlA P w) a vs
  | .dT kvs=>kvs.length ≤ sizeLine∧(a == sysModules)=false∧∃ xs:List (List Key × Addr × Value),
      Paired (fun (p:List Key × V) (q:List Key × Addr × Value)=>p.1=q.1∧H q.2.1=some (.tup (p.1.map kV))∧RelV p.2 q.2.2) kvs xs ∧
      ∃ o es ep,h.get? a=some o∧o.ExactDict∧o.data = .dict es ep∧es.toList=xs.map (entryOfKey (tupleKind (zlA P w)))∧(xs.map (·.1)).Nodup
  | .set S n=>h.SetOf (intKind P w) a S n
  | .ins C dx fs=>H dx=some (.own a)∧fs.length ≤ 1000∧dx ≠ a∧h.get? a=some (PySem.W.instObj C dx) ∧
      ∃ mA,h.Ns1 dx mA∧(∀ f,RelO (fs.lookup f) (mA f))∧PySem.Within mA (fs.map (·.1))
  | .own _=>∃ o,h.get? a=some o
  | .xd fs=>∃ mA,h.Ns1 a mA∧∀ f,RelO (fs.lookup f) (mA f)
  | .rng lo hi=>∃ t u v,h.get? a=some { cls:=.type "range",data:=.fields #[.int lo t,.int hi u,.int 1 v] }
  | .frz o u=>h.get? a=some o∧ObjOk H h a u
  | .tbl ps=>TblOk H h a ps
  | .met f x=>h.get? a=some (PySem.W.methodObj (.ref f) (.ref x))
  | .ext φ=>φ h∧(∃ o,h.get? a=some o)∧∀ h1 h2:Heap,φ h1→(∀ o,h1.get? a=some o→h2.get? a=some o)→φ h2
def HOk (H:Hp) (h:Heap):Prop:=∀ a o,H a=some o→ObjOk P w H h a o
end
section
variable {P:Program} {w:World} {H H':Hp} {h h':Heap} {a:Addr} {o:HO}
theorem ObjOk.lt (x:ObjOk P w H h a o):a < h.objs.size:=by
  cases o with
  | lst xs=>obtain ⟨_,_,_,_,e⟩:=x; exact Heap.lt_size e
  | tup xs=>obtain ⟨_,_,_,p⟩:=x; exact p.lt
  | dK kvs=>obtain ⟨_,_,_,_,o,_,_,e,_⟩:=x; exact Heap.lt_size e
  | dT kvs=>obtain ⟨_,_,_,_,o,_,_,e,_⟩:=x; exact Heap.lt_size e
  | set S n=>obtain ⟨o,_,_,_,e,_⟩:=x; exact Heap.lt_size e
  | ins C dx fs=>obtain ⟨_,_,_,e,_⟩:=x; exact Heap.lt_size e
  | own y=>obtain ⟨_,e⟩:=x; exact Heap.lt_size e
  | xd fs=>obtain ⟨_,⟨_,_,_,e,_⟩,_⟩:=x; exact Heap.lt_size e
  | rng lo hi=>obtain ⟨_,_,_,e⟩:=x; exact Heap.lt_size e
  | frz ob u=>obtain ⟨e,_⟩:=x; exact Heap.lt_size e
  | tbl ps=>exact TblOk.lt x
  | met f y=>exact Heap.lt_size (show h.get? a=some _ from x)
  | ext φ=>obtain ⟨_,⟨_,e⟩,_⟩:=x; exact Heap.lt_size e
theorem Paired.mapP {α β:Type} {F G:α→β→Prop}:∀ {l₁:List α} {l₂:List β},Paired F l₁ l₂→(∀ a b,F a b→G a b)→Paired G l₁ l₂
  | _,_,.nil,_=>.nil
  | _,_,.cons r t,f=>.cons (f _ _ r) (Paired.mapP t f)
theorem ObjOk.stay (x:ObjOk P w H h a o) (k:∀ b u,(b=a∨H b=some (.own a))→h.get? b=some u→h'.get? b=some u)
    (ho:∀ b,H b=some (.own a)→H' b=some (.own a)) (ht:∀ b xs,H b=some (.tup xs)→H' b=some (.tup xs)):ObjOk P w H' h' a o:=by
  induction o with
  | lst xs=>obtain ⟨z,its,n,r,e⟩:=x; exact ⟨z,its,n,r,k _ _ (.inl rfl) e⟩
  | tup xs=>obtain ⟨z,its,r,ob,e,c⟩:=x; exact ⟨z,its,r,ob,k _ _ (.inl rfl) e,c⟩
  | dK kvs=>obtain ⟨z,y,vs,r,ob,es,ep,e,c⟩:=x; exact ⟨z,y,vs,r,ob,es,ep,k _ _ (.inl rfl) e,c⟩
  | dT kvs =>
    obtain ⟨z,y,xs,r,ob,es,ep,e,c⟩:=x
    exact ⟨z,y,xs,Paired.mapP r fun p q z=>⟨z.1,ht _ _ z.2.1,z.2.2⟩,ob,es,ep,k _ _ (.inl rfl) e,c⟩
  | set S n=>obtain ⟨ob,es,ep,t,e,c⟩:=x; exact ⟨ob,es,ep,t,k _ _ (.inl rfl) e,c⟩
  | ins C dx fs =>
    obtain ⟨d,z,ne,e,mA,⟨od,es,ep,e2,c⟩,r⟩:=x
    exact ⟨ho _ d,z,ne,k _ _ (.inl rfl) e,mA,⟨od,es,ep,k _ _ (.inr d) e2,c⟩,r⟩
  | own y=>obtain ⟨ob,e⟩:=x; exact ⟨ob,k _ _ (.inl rfl) e⟩
  | xd fs=>obtain ⟨mA,⟨od,es,ep,e,c⟩,r⟩:=x; exact ⟨mA,⟨od,es,ep,k _ _ (.inl rfl) e,c⟩,r⟩
  | rng lo hi=>obtain ⟨t,u,v,e⟩:=x; exact ⟨t,u,v,k _ _ (.inl rfl) e⟩
  | frz ob u ih=>obtain ⟨e,q⟩:=x; exact ⟨k _ _ (.inl rfl) e,ih q⟩
  | tbl ps=>exact TblOk.stay x k ho
  | met f y =>
    have e:h.get? a=some (PySem.W.methodObj (.ref f) (.ref y)):=x
    show h'.get? a=some (PySem.W.methodObj (.ref f) (.ref y))
    exact k a _ (.inl rfl) e
  | ext φ=>obtain ⟨p,⟨o,e⟩,st⟩:=x; exact ⟨st _ _ p fun o q=>k _ _ (.inl rfl) q,⟨o,k _ _ (.inl rfl) e⟩,st⟩
theorem HOk.lt (x:HOk P w H h) (e:H a=some o):a < h.objs.size:=(x a o e).lt
theorem HOk.fresh (x:HOk P w H h) (e:h.objs.size ≤ a):H a=none:=by
  cases q:H a with
  | none=>rfl
  | some u=>exact absurd (Nat.lt_of_lt_of_le (x.lt q) e) (Nat.lt_irrefl _)
theorem HOk.kept (x:HOk P w H h) (k:∀ b u,h.get? b=some u→h'.get? b=some u):HOk P w H h':=fun a o e =>
  (x a o e).stay (fun b u _ q=>k b u q) (fun _ q=>q) fun _ _ q=>q
theorem HOk.laid (x:HOk P w H h) (k:∀ b u,h.get? b=some u→h'.get? b=some u) (hp:h.objs.size ≤ a) (new:ObjOk P w (upd H a o) h' a o):HOk P w (upd H a o) h':=fun b u e=>by
  have hn:=x.fresh hp
  by_cases hb:b=a
  · subst hb; rw [zaY] at e; cases e; exact new
  · rw [zaH hb] at e
    exact (x b u e).stay (fun c v _ q=>k c v q) (fun c q=>by rw [zaH (zaW q hn)]; exact q) fun c xs q=>by rw [zaH (zaW q hn)]; exact q
end
def Rd (H:Hp) (a:Addr) (u:HO):Prop:=H a=some u∨∃ o,H a=some (.frz o u)
theorem Rd.ok {P:Program} {w:World} {H:Hp} {h:Heap} {a:Addr} {u:HO} (r:Rd H a u) (x:HOk P w H h):ObjOk P w H h a u:=by
  rcases r with r | ⟨o,r⟩
  · exact x a u r
  · obtain ⟨_,q⟩:=x a _ r
    exact q
def Mut:Option HO→Prop
  | some (.lst _)=>True
  | some (.dK _)=>True
  | some (.dT _)=>True
  | some (.set _ _)=>True
  | some (.ins _ _ _)=>True
  | some (.ext _)=>True
  | _=>False
section
variable {P:Program} {w:World} {H:Hp} {h h':Heap} {x e:Addr} {o':HO}
theorem HOk.write (ok:HOk P w H h) (mu:Mut (H x)) (he:e=x∨H e=some (.own x)) (k:∀ b u,b ≠ e→h.get? b=some u→h'.get? b=some u) (heo:∃ u,h'.get? e=some u)
    (new:ObjOk P w (upd H x o') h' x o'):HOk P w (upd H x o') h':=fun b u q=>by
  have nown:∀ c y,H c=some (.own y)→c ≠ x:=fun c y r z=>by subst z; rw [r] at mu; exact mu
  have ntup:∀ c xs,H c=some (.tup xs)→c ≠ x:=fun c xs r z=>by subst z; rw [r] at mu; exact mu
  by_cases hb:b=x
  · subst hb; rw [zaY] at q; cases q; exact new
  · rw [zaH hb] at q
    by_cases hbe:b=e
    · have q':H b=some (.own x):=by
        rcases he with z | z
        · exact absurd (hbe.trans z) hb
        · rw [hbe]; exact z
      rw [q] at q'; cases q'
      obtain ⟨v,hv⟩:=heo
      exact ⟨v,by rw [hbe]; exact hv⟩
    · refine (ok b u q).stay (fun c v hc r=>k c v ?_ r) (fun c r=>by rw [zaH (nown c b r)]; exact r) fun c xs r=>by rw [zaH (ntup c xs r)]; exact r
      rcases hc with rfl | hc
      · exact hbe
      · rintro rfl
        rcases he with z | z
        · exact nown c b hc z
        · rw [hc] at z; cases z; exact hb rfl
end
structure Un (fs ex:List Addr) (H H':Hp) (h h':Heap):Prop where
  keep:∀ b o,h.get? b=some o→H b=none→b ∉ fs→b ∉ ex→h'.get? b=some o
  slot:∀ b o,h.get? b=some o→H b=none→b ∈ fs→b ∉ ex→∃ sl,h'.get? b=some { o with slots:=sl }
  free:∀ b o,h.get? b=some o→H b=none→b ∉ ex→H' b=none
  there:∀ b o,h.get? b=some o→b ∉ ex→∃ o',h'.get? b=some o'
  tups:∀ b xs,H b=some (.tup xs)→H' b=some (.tup xs)
  frzs:∀ b o u,H b=some (.frz o u)→H' b=some (.frz o u)
  tbls:∀ b ps,H b=some (.tbl ps)→∃ more,H' b=some (.tbl (ps ++ more))
section
variable {fs fs' ex ex':List Addr} {H H1 H2:Hp} {h h1 h2 h':Heap} {a x e:Addr} {o:HO}
theorem Un.any (u:Un fs ex H H1 h h1) {b:Addr} {ob:Obj} (q:h.get? b=some ob) (n:H b=none) (hx:b ∉ ex):∃ sl,h1.get? b=some { ob with slots:=sl }:=by
  by_cases hb:b ∈ fs
  · exact u.slot b ob q n hb hx
  · exact ⟨ob.slots,u.keep b ob q n hb hx⟩
theorem Un.kept (k:∀ b u,h.get? b=some u→h'.get? b=some u):Un fs ex H H h h' :=
  ⟨fun b ob q _ _ _=>k b ob q,fun b ob q _ _ _=>⟨ob.slots,k b ob q⟩,fun _ _ _ n _=>n,fun b ob q _=>⟨ob,k b ob q⟩,fun _ _ q=>q,fun _ _ _ q=>q,fun _ ps q=>⟨#[],by rw [q]; simp⟩⟩
theorem Un.refl:Un fs ex H H h h:=Un.kept fun _ _ q=>q
theorem Un.laid (k:∀ b u,h.get? b=some u→h'.get? b=some u) (hp:h.objs.size ≤ a) (hn:H a=none):Un fs ex H (upd H a o) h h' where
  keep:=fun b u q _ _ _=>k b u q
  slot:=fun b u q _ _ _=>⟨u.slots,k b u q⟩
  free:=fun b u q n _=>by rw [zaH (Nat.ne_of_lt (Nat.lt_of_lt_of_le (Heap.lt_size q) hp))]; exact n
  there:=fun b u q _=>⟨u,k b u q⟩
  tups:=fun b xs q=>by rw [zaH (zaW q hn)]; exact q
  frzs:=fun b u xs q=>by rw [zaH (zaW q hn)]; exact q
  tbls:=fun b ps q=>⟨#[],by rw [zaH (zaW q hn),q]; simp⟩
theorem Un.write (mu:Mut (H x)) (he:e=x∨H e=some (.own x)) (k:∀ b u,b ≠ e→h.get? b=some u→h'.get? b=some u) (heo:∃ u,h'.get? e=some u):Un fs ex H (upd H x o) h h':=by
  have hx:∀ b,H b=none→b ≠ x:=fun b n z=>by subst z; rw [n] at mu; exact mu
  have hb:∀ b,H b=none→b ≠ e:=fun b n z=>by
    subst z
    rcases he with r | r
    · exact hx b n r
    · rw [n] at r; cases r
  have hm:∀ b u,H b=some u→¬ Mut (some u)→b ≠ x:=fun b u q nm z=>by subst z; rw [q] at mu; exact nm mu
  refine ⟨fun b u q n _ _=>k b u (hb b n) q,fun b u q n _ _=>⟨u.slots,k b u (hb b n) q⟩,fun b u q n _=>by rw [zaH (hx b n)]; exact n,fun b u q _=>?_,
    fun b xs q=>by rw [zaH (hm b _ q fun z=>z)]; exact q,fun b u xs q=>by rw [zaH (hm b _ q fun z=>z)]; exact q,fun b ps q=>⟨#[],by rw [zaH (hm b _ q fun z=>z),q]; simp⟩⟩
  by_cases hbe:b=e
  · subst hbe; exact heo
  · exact ⟨u,k b u hbe q⟩
end
def trk (h:Heap) (H:Hp):List Addr:=(List.range h.objs.size).filter fun a=>(H a).isSome
def hidT (h:Heap) (H:Hp):Heap:=PySem.W.hideAll h (trk h H)
theorem zm2 (h:Heap) (H:Hp):(hidT h H).objs.size=h.objs.size:=PySem.W.hideAll_size _ _
theorem zna {h:Heap} {H:Hp} {b:Addr} {o:Obj} (e:h.get? b=some o) (n:H b=none):(hidT h H).get? b=some o :=
  PySem.W.hideAll_get _ e fun hm=>by
    have q:(H b).isSome=true:=(List.mem_filter.mp hm).2
    rw [n] at q; simp at q
theorem zoC {h:Heap} {H:Hp} {b:Addr} {o:Obj} (e:(hidT h H).get? b=some o):h.get? b=some o∧H b=none:=by
  have e':h.get? b=some o:=PySem.W.of_hideAll (trk h H) e
  refine ⟨e',?_⟩
  cases q:H b with
  | none=>rfl
  | some x =>
    have hm:b ∈ trk h H:=List.mem_filter.mpr ⟨List.mem_range.mpr (Heap.lt_size e'),by simp [q]⟩
    have z:(hidT h H).get? b=none:=PySem.W.hideAll_none (trk h H) hm
    rw [z] at e; cases e
def zpT (g h:Heap) (L:Addr):List (Addr × Obj):=(List.range h.objs.size).filterMap fun a=>if a=L∨(g.get? a).isSome=true then none else (h.get? a).map fun o=>(a,o)
end L2
namespace L2
open PySem PySem.Spec PyProof.Rows
structure Mod (K:PySem.W.Frag) (mg:Str→Option Value) (base:Heap):Prop where
  kin:K.In base
  glob:base.Ns mainGlobals mg
  blt:∃ mb,base.Ns builtinsNs mb∧∀ x:Str,x ≠ "__name__"→mb x=bootBuiltins x
  nolimit:base.NoLimit
structure Cx where
  prog:Program
  w:World
  K:PySem.W.Frag
  mg:Str→Option Value
  base:Heap
  A:Around
  N:List Str
  s₀:Shared
  H₀:Hp
  env:Env
  outer:List Env
  stack:List Env
  ex:List Addr
  fn:Str→Bool
  calm:Bool
  pn:List (Addr × Obj)
  xe:Value→Shared→Prop
def frs (l:List Env):List Addr:=l.filterMap (·.frame)
abbrev Cx.fs (X:Cx):List Addr:=frs X.outer
def Vis (sc:Scope) (x:Str):Prop:=sc.names.lookup x=some .local∨sc.names.lookup x=some .cell∨sc.names.lookup x=some .free
def Loc (sc:Scope) (x:Str):Prop:=sc.names.lookup x=some .local∨sc.names.lookup x=some .cell
def Look (env:Env) (h:Heap) (m:Str→Option Value) (x:Str) (u:Value):Prop :=
  (env.kindOf x=some .local∧m x=some u)∨((env.kindOf x=some .cell∨env.kindOf x=some .free)∧∃ c,env.cells.lookup x=some c∧h.IsCell c (some u))
structure Cx.Ok (X:Cx):Prop where
  mod:Mod X.K X.mg X.base
  kind:X.env.scope.kind = .function
  glob:X.env.globals=mainGlobals
  blt:X.env.builtins=builtinsNs
  above:X.s₀.heap.objs.size ≤ X.env.locals
  inj:∀ x y c,X.env.cells.lookup x=some c→X.env.cells.lookup y=some c→x=y
  has:∀ x,(X.env.kindOf x=some .cell∨X.env.kindOf x=some .free)→∃ c,X.env.cells.lookup x=some c
  cab:∀ x c,X.fn x=true→X.env.cells.lookup x=some c→X.s₀.heap.objs.size ≤ c
  hd:X.calm=true→X.A.handled=none
  frames:X.A.frames=some X.stack
  stk:X.stack=X.outer∨(X.stack=X.env :: X.outer∧X.env.frame=some X.env.locals)
  exf:∀ b ∈ X.ex,b ≠ X.env.locals∧∀ x c,X.env.cells.lookup x=some c→c ≠ b
  bs:∀ b o,X.base.get? b=some o→X.s₀.heap.get? b=some o∧X.H₀ b=none
  bsz:X.base.objs.size ≤ X.s₀.heap.objs.size
  noex:∀ b o,X.base.get? b=some o→b ∉ X.ex
  exfs:∀ b ∈ X.ex,b ∉ X.fs
  funs:X.s₀.heap.FunFrames X.base X.outer
  frf:∀ b ∈ X.fs,X.H₀ b=none
  tb:TbAt X.K X.H₀
structure Inv (X:Cx) (pins:List (Addr × Obj)) (σ:List (Option V)) (H:Hp) (s:Shared):Prop where
  ok:X.Ok
  os:s.os=X.s₀.os
  bare:AllBare s.gens
  base:Un X.fs X.ex X.H₀ H X.s₀.heap s.heap
  loc:∃ m,s.heap.Ns X.env.locals m∧∀ (i:Nat) (x:Str) (v:V),X.N[i]?=some x→σ[i]?=some (some v)→Vis X.env.scope x→∃ u,RelV v u∧Look X.env s.heap m x u
  cell:∀ x c,X.env.cells.lookup x=some c→∃ v,s.heap.IsCell c v
  free:H X.env.locals=none
  freeC:∀ x c,X.env.cells.lookup x=some c→H c=none
  pin:∀ p ∈ X.pn ++ pins,s.heap.get? p.1=some p.2∧H p.1=none∧p.1 ≠ X.env.locals∧p.1 ∉ X.fs∧∀ v,p.2.data ≠ .cell v
  hok:HOk X.prog X.w H s.heap
  len:σ.length=X.N.length
section
variable {X:Cx} {pins:List (Addr × Obj)} {σ:List (Option V)} {H H':Hp} {s:Shared} {h':Heap}
theorem Cx.Ok.nofr (ok:X.Ok) {b:Addr} {o:Obj} (e:X.base.get? b=some o):b ∉ X.fs:=fun hb=>by
  have:=(ok.funs.mem hb).1
  rw [e] at this; cases this
theorem Inv.bs (I:Inv X pins σ H s):∀ b o,X.base.get? b=some o→s.heap.get? b=some o∧H b=none:=fun b o e =>
  ⟨I.base.keep b o (I.ok.bs b o e).1 (I.ok.bs b o e).2 (I.ok.nofr e) (I.ok.noex b o e),I.base.free b o (I.ok.bs b o e).1 (I.ok.bs b o e).2 (I.ok.noex b o e)⟩
theorem Inv.bk (I:Inv X pins σ H s):∀ b o,X.base.get? b=some o→s.heap.get? b=some o:=fun b o e=>(I.bs b o e).1
theorem Inv.mod (I:Inv X pins σ H s):Mod X.K X.mg X.base:=I.ok.mod
theorem Inv.kIn (I:Inv X pins σ H s):X.K.In s.heap:=I.ok.mod.kin.keeps I.bk
theorem Inv.fr (I:Inv X pins σ H s):∃ m,Fr X.base X.env.locals s.heap m :=
  let ⟨m,hn,_⟩:=I.loc
  ⟨m,hn,I.bk,Nat.le_trans I.ok.bsz I.ok.above⟩
theorem Inv.lt (I:Inv X pins σ H s):X.env.locals < s.heap.objs.size:=let ⟨_,hn,_⟩:=I.loc; hn.lt
theorem Inv.sz (I:Inv X pins σ H s):X.s₀.heap.objs.size ≤ s.heap.objs.size:=Nat.le_trans I.ok.above (Nat.le_of_lt I.lt)
theorem Inv.nofs (I:Inv X pins σ H s) {a:Addr} (h:s.heap.objs.size ≤ a):a ∉ X.fs:=fun hb=>by
  obtain ⟨_,o,ho,_⟩:=I.ok.funs.mem hb
  exact absurd (Nat.lt_of_lt_of_le (Heap.lt_size ho) (Nat.le_trans I.sz h)) (Nat.lt_irrefl _)
theorem Inv.cne (I:Inv X pins σ H s):∀ x c,X.env.cells.lookup x=some c→c ≠ X.env.locals:=fun x c e z=>by
  obtain ⟨v,o,ho,hd⟩:=I.cell x c e
  obtain ⟨m,⟨o',es,ep,ho',hd',_⟩,_⟩:=I.loc
  rw [z,ho'] at ho; cases ho; rw [hd'] at hd; cases hd
theorem Inv.funs (I:Inv X pins σ H s):s.heap.FunFrames X.base X.outer:=by
  have all:∀ (l:List Env),(∀ b ∈ frs l,b ∈ X.fs)→X.s₀.heap.FunFrames X.base l→s.heap.FunFrames X.base l:=by
    intro l
    induction l with
    | nil=>intro _ _; trivial
    | cons env r ih =>
      intro hs hl
      obtain ⟨hk,⟨L,o,hf,hn,ho,hd⟩,hr⟩:=hl
      have hL:L ∈ X.fs:=hs L (by unfold frs; rw [List.filterMap_cons,hf]; exact List.mem_cons_self)
      obtain ⟨sl,e⟩:=I.base.slot L o ho (I.ok.frf L hL) hL fun z=>I.ok.exfs L z hL
      exact ⟨hk,⟨L,_,hf,hn,e,hd⟩,ih (fun b hb=>hs b (by unfold frs; rw [List.filterMap_cons,hf]; exact List.mem_cons_of_mem _ hb)) hr⟩
  exact all X.outer (fun _ hb=>hb) I.ok.funs
theorem Inv.stack (I:Inv X pins σ H s):s.heap.FunFrames X.base X.stack:=by
  rcases I.ok.stk with e | ⟨e,hf⟩
  · rw [e]; exact I.funs
  · rw [e]
    obtain ⟨m,hn,_⟩:=I.loc
    refine .cons (by rw [I.ok.kind]; decide) hf hn ?_ I.funs
    exact Heap.get?_none_of_le (Nat.le_trans I.ok.bsz I.ok.above)
theorem Inv.stkSub (I:Inv X pins σ H s):∀ b ∈ frs X.stack,b ∈ X.env.locals :: X.fs:=fun b hb=>by
  rcases I.ok.stk with e | ⟨e,hf⟩
  · rw [e] at hb; exact List.mem_cons_of_mem _ hb
  · rw [e] at hb
    unfold frs at hb
    rw [List.filterMap_cons,hf] at hb
    exact hb
theorem Inv.stkFree (I:Inv X pins σ H s):∀ b ∈ frs X.stack,H b=none:=fun b hb=>by
  rcases List.mem_cons.mp (I.stkSub b hb) with e | hb
  · rw [e]; exact I.free
  · obtain ⟨_,o,ho,_⟩:=I.ok.funs.mem hb
    exact I.base.free b o ho (I.ok.frf b hb) fun z=>I.ok.exfs b z hb
theorem Inv.step {g':Array GenState} {t':Nat} {d':Drawn} {ch:List Addr} (I:Inv X pins σ H s)
    (hch:∀ b ∈ ch,(b ∈ X.ex∨X.s₀.heap.objs.size ≤ b)∧b ≠ X.env.locals∧(∀ x c,X.env.cells.lookup x=some c→c ≠ b)∧∀ p ∈ X.pn ++ pins,p.1 ≠ b)
    (keep:∀ b o,b ≠ X.env.locals→b ∉ X.fs→b ∉ ch→s.heap.get? b=some o→H b=none→h'.get? b=some o)
    (slot:∀ b o,b ≠ X.env.locals→b ∈ X.fs→b ∉ ch→s.heap.get? b=some o→H b=none→∃ sl,h'.get? b=some { o with slots:=sl }) (free:∀ b o,b ∉ ch→s.heap.get? b=some o→H b=none→H' b=none)
    (there:∀ b o,b ∉ ch→s.heap.get? b=some o→∃ o',h'.get? b=some o')
    (tups:∀ b xs,H b=some (.tup xs)→H' b=some (.tup xs)) (frzs:∀ b o u,H b=some (.frz o u)→H' b=some (.frz o u)) (tbls:∀ b ps,H b=some (.tbl ps)→∃ more,H' b=some (.tbl (ps ++ more)))
    (ns:∀ m,s.heap.Ns X.env.locals m→h'.Ns X.env.locals m) (hok:HOk X.prog X.w H' h') (hg:AllBare g') :
    Inv X pins σ H' { s with heap:=h',gens:=g',drawn:=d',toks:=t' }:=by
  have neL:∀ b o,X.s₀.heap.get? b=some o→b ≠ X.env.locals:=fun b o e=>Nat.ne_of_lt (Nat.lt_of_lt_of_le (Heap.lt_size e) I.ok.above)
  have neC:∀ b o,X.s₀.heap.get? b=some o→b ∉ X.ex→b ∉ ch:=fun b o e hx hb=>by
    rcases (hch b hb).1 with z | z
    · exact hx z
    · exact absurd (Nat.lt_of_lt_of_le (Heap.lt_size e) z) (Nat.lt_irrefl _)
  have cellK:∀ x c,X.env.cells.lookup x=some c→∀ v,s.heap.IsCell c v→h'.IsCell c v:=fun x c e v ⟨o,ho,hd⟩=>by
    have nch:c ∉ ch:=fun z=>(hch c z).2.2.1 x c e rfl
    by_cases hc:c ∈ X.fs
    · obtain ⟨sl,q⟩:=slot c o (I.cne x c e) hc nch ho (I.freeC x c e)
      exact ⟨_,q,hd⟩
    · exact ⟨o,keep c o (I.cne x c e) hc nch ho (I.freeC x c e),hd⟩
  refine ⟨I.ok,I.os,hg,⟨fun b o e n hb hx=>?_,fun b o e n hb hx=>?_,fun b o e n hx=>?_,fun b o e hx=>?_,fun b xs e=>tups b xs (I.base.tups b xs e),fun b o xs e=>frzs b o xs (I.base.frzs b o xs e),fun b ps e=>?_⟩,?_,fun x c e=>?_,?_,fun x c e=>?_,fun p hp=>?_,hok,I.len⟩
  · exact keep b o (neL b o e) hb (neC b o e hx) (I.base.keep b o e n hb hx) (I.base.free b o e n hx)
  · obtain ⟨sl,e1⟩:=I.base.slot b o e n hb hx
    obtain ⟨sl',e2⟩:=slot b _ (neL b o e) hb (neC b o e hx) e1 (I.base.free b o e n hx)
    exact ⟨sl',e2⟩
  · obtain ⟨o',e1⟩:=I.base.there b o e hx
    exact free b o' (neC b o e hx) e1 (I.base.free b o e n hx)
  · obtain ⟨o',e1⟩:=I.base.there b o e hx
    exact there b o' (neC b o e hx) e1
  · obtain ⟨m1,e1⟩:=I.base.tbls b ps e
    obtain ⟨m2,e2⟩:=tbls b _ e1
    exact ⟨m1 ++ m2,by rw [e2,Array.append_assoc]⟩
  · obtain ⟨m,hn,hl⟩:=I.loc
    refine ⟨m,ns m hn,fun i x v e1 e2 e3=>?_⟩
    obtain ⟨u,r,l⟩:=hl i x v e1 e2 e3
    refine ⟨u,r,?_⟩
    rcases l with l | ⟨k,c,e,z⟩
    · exact .inl l
    · exact .inr ⟨k,c,e,cellK x c e _ z⟩
  · obtain ⟨v,z⟩:=I.cell x c e
    exact ⟨v,cellK x c e v z⟩
  · obtain ⟨m,⟨o,_,_,ho,_⟩,_⟩:=I.loc
    exact free _ o (fun z=>(hch _ z).2.1 rfl) ho I.free
  · obtain ⟨v,o,ho,hd⟩:=I.cell x c e
    exact free c o (fun z=>(hch c z).2.2.1 x c e rfl) ho (I.freeC x c e)
  · obtain ⟨e,n,ne,nf,d⟩:=I.pin p hp
    have nch:p.1 ∉ ch:=fun z=>(hch p.1 z).2.2.2 p hp rfl
    exact ⟨keep p.1 p.2 ne nf nch e n,free p.1 p.2 nch e n,ne,nf,d⟩
theorem Inv.un {t':Nat} (I:Inv X pins σ H s) (u:Un X.fs [] H H' s.heap h') (hok:HOk X.prog X.w H' h'):Inv X pins σ H' { s with heap:=h',toks:=t' }:=by
  obtain ⟨m,⟨o,es,ep,ho,r⟩,_⟩:=id I.loc
  obtain ⟨sl,hL⟩:=u.any ho I.free (by simp)
  exact I.step (g':=s.gens) (d':=s.drawn) (ch:=[]) (fun _ z=>nomatch z) (fun b o _ hb _ e n=>u.keep b o e n hb (by simp)) (fun b o _ hb _ e n=>u.slot b o e n hb (by simp)) (fun b o _ e n=>u.free b o e n (by simp)) (fun b o _ e=>u.there b o e (by simp)) u.tups u.frzs u.tbls (fun m' hm=>by
    obtain ⟨o',es',ep',ho',r'⟩:=hm
    rw [ho] at ho'; cases ho'
    exact ⟨_,es',ep',hL,r'⟩) hok I.bare
theorem Inv.call {g':Array GenState} {t':Nat} {d':Drawn} {ch:List Addr} (I:Inv X pins σ H s) (u:Un (frs X.stack) ch H H' s.heap h') (hok:HOk X.prog X.w H' h') (hg:AllBare g')
    (hch:∀ b ∈ ch,(b ∈ X.ex∨X.s₀.heap.objs.size ≤ b)∧b ≠ X.env.locals∧(∀ x c,X.env.cells.lookup x=some c→c ≠ b)∧∀ p ∈ X.pn ++ pins,p.1 ≠ b) :
    Inv X pins σ H' { s with heap:=h',gens:=g',drawn:=d',toks:=t' }:=by
  obtain ⟨m,⟨o,es,ep,ho,r⟩,_⟩:=id I.loc
  obtain ⟨sl,hL⟩:=u.any ho I.free fun z=>(hch _ z).2.1 rfl
  exact I.step (ch:=ch) hch (fun b o hL hb hc e n=>u.keep b o e n (fun z=>(List.mem_cons.mp (I.stkSub b z)).elim hL hb) hc) (fun b o _ _ hc e n=>u.any e n hc) (fun b o hc e n=>u.free b o e n hc) (fun b o hc e=>u.there b o e hc) u.tups u.frzs u.tbls (fun m' hm=>by
    obtain ⟨o',es',ep',ho',r'⟩:=hm
    rw [ho] at ho'; cases ho'
    exact ⟨_,es',ep',hL,r'⟩) hok hg
theorem Inv.turned {t':Nat} {it:Addr} (I:Inv X pins σ H s) (k:∀ b o,b ≠ it→s.heap.get? b=some o→h'.get? b=some o) (hn:H it=none) (hL:it ≠ X.env.locals)
    (h1:it ∈ X.ex∨X.s₀.heap.objs.size ≤ it) (h2:∀ x c,X.env.cells.lookup x=some c→c ≠ it) (h3:∀ p ∈ X.pn ++ pins,p.1 ≠ it):Inv X pins σ H { s with heap:=h',toks:=t' }:=by
  have nit:∀ b u,H b=some u→b ≠ it:=fun b u e z=>by rw [z,hn] at e; cases e
  refine I.step (g':=s.gens) (d':=s.drawn) (ch:=[it]) (fun b hb=>?_) (fun b o _ _ hc e _=>k b o (fun z=>hc (by simp [z])) e) (fun b o _ _ hc e _=>⟨o.slots,k b o (fun z=>hc (by simp [z])) e⟩) (fun _ _ _ _ n=>n)
    (fun b o hc e=>⟨o,k b o (fun z=>hc (by simp [z])) e⟩) (fun _ _ e=>e) (fun _ _ _ e=>e) (fun b ps e=>⟨#[],by rw [e]; simp⟩) (fun m hm=>?_) (fun b u e=>?_) I.bare
  · have e:b=it:=by simpa using hb
    subst e
    exact ⟨h1,hL,h2,h3⟩
  · obtain ⟨o,es,ep,ho,r⟩:=hm
    exact ⟨o,es,ep,k _ o (Ne.symm hL) ho,r⟩
  · refine (I.hok b u e).stay (fun c v hc q=>k c v ?_ q) (fun _ q=>q) fun _ _ q=>q
    rcases hc with z | z
    · rw [z]; exact nit b u e
    · exact nit c _ z
theorem Inv.tok (I:Inv X pins σ H s) (t:Nat):Inv X pins σ H { s with toks:=t }:=I.un (h':=s.heap) (t':=t) Un.refl I.hok
theorem Inv.kept {t':Nat} (I:Inv X pins σ H s) (k:∀ b u,s.heap.get? b=some u→h'.get? b=some u):Inv X pins σ H { s with heap:=h',toks:=t' }:=I.un (Un.kept k) (I.hok.kept k)
theorem Inv.laid {a:Addr} {o:HO} {t':Nat} (I:Inv X pins σ H s) (k:∀ b u,s.heap.get? b=some u→h'.get? b=some u) (hp:s.heap.objs.size ≤ a) (new:ObjOk X.prog X.w (upd H a o) h' a o) :
    Inv X pins σ (upd H a o) { s with heap:=h',toks:=t' }:=I.un (Un.laid k hp (I.hok.fresh hp)) (I.hok.laid k hp new)
theorem Inv.write {x e:Addr} {o:HO} {t':Nat} (I:Inv X pins σ H s) (mu:Mut (H x)) (he:e=x∨H e=some (.own x)) (k:∀ b u,b ≠ e→s.heap.get? b=some u→h'.get? b=some u) (heo:∃ u,h'.get? e=some u)
    (new:ObjOk X.prog X.w (upd H x o) h' x o):Inv X pins σ (upd H x o) { s with heap:=h',toks:=t' }:=I.un (Un.write mu he k heo) (I.hok.write mu he k heo new)
theorem Inv.weak {σ':List (Option V)} (I:Inv X pins σ H s) (hl:σ'.length=σ.length) (w:∀ (i:Nat) v,σ'[i]?=some (some v)→σ[i]?=some (some v)):Inv X pins σ' H s :=
  ⟨I.ok,I.os,I.bare,I.base,let ⟨m,hn,hl'⟩:=I.loc; ⟨m,hn,fun i x v e1 e2 e3=>hl' i x v e1 (w i v e2) e3⟩,I.cell,I.free,I.freeC,I.pin,I.hok,hl.trans I.len⟩
theorem Inv.pins_of {pins':List (Addr × Obj)} (I:Inv X pins σ H s) (h:∀ p ∈ pins',s.heap.get? p.1=some p.2∧H p.1=none∧p.1 ≠ X.env.locals∧p.1 ∉ X.fs∧∀ v,p.2.data ≠ .cell v):Inv X pins' σ H s :=
  ⟨I.ok,I.os,I.bare,I.base,I.loc,I.cell,I.free,I.freeC,fun p hp=>(List.mem_append.mp hp).elim (fun z=>I.pin p (List.mem_append_left _ z)) (h p),I.hok,I.len⟩
theorem zit {N:List Str} (hN:N.Nodup) {i j:Nat} {x:Str} (a:N[i]?=some x) (b:N[j]?=some x):i=j:=by
  obtain ⟨h1,e1⟩:=List.getElem?_eq_some_iff.mp a
  obtain ⟨h2,e2⟩:=List.getElem?_eq_some_iff.mp b
  exact (List.getElem_inj hN).mp (e1.trans e2.symm)
theorem zmN {M:Model} {A:Around} {E:Value→Shared→Prop} {i:Nat} {x:Str} {v:V} {u:Value} {Q:Unit→Shared→Prop} (I:Inv X pins σ H s) (hN:X.N.Nodup) (hi:X.N[i]?=some x) (hx:Loc X.env.scope x) (r:RelV v u)
    (h:∀ s',Inv X pins (σ.set i (some v)) H s'→(∃ a,Heap.SameBut a s.heap s'.heap∧(a=X.env.locals∨X.env.cells.lookup x=some a))→Q () s') (hf:X.fn x=true∨X.env.scope.names.lookup x=some .local:=by first | exact .inl rfl | exact .inr rfl | assumption):wpAny M A (storeName X.env x u) Q E s:=by
  obtain ⟨m,hn,hl⟩:=id I.loc
  have hcls:(X.env.scope.kind == .class || (X.env.scope.kind == .module && X.env.locals != X.env.globals))=false:=by rw [I.ok.kind]; rfl
  have hiσ:i < σ.length:=by rw [I.len]; exact (List.getElem?_eq_some_iff.mp hi).1
  have cne:=I.cne
  have tracked:∀ {a:Addr} {h':Heap},(∃ o,s.heap.get? a=some o∧H a=none)→Heap.SameBut a s.heap h'→HOk X.prog X.w H h':=fun {a h'} ha hs b ob e=>by
    obtain ⟨_,_,hfree⟩:=ha
    refine (I.hok b ob e).stay (fun c w' hc q=>(hs.2 c ?_).trans q) (fun _ q=>q) fun _ _ q=>q
    rintro rfl
    rcases hc with rfl | hc
    · rw [hfree] at e; cases e
    · rw [hfree] at hc; cases hc
  rcases hx with hk | hk
  · refine wpAny_storeName_local hk hn (fun h' hn' hs=>?_) hcls
    obtain ⟨oL,_,_,hoL,_⟩:=id hn
    refine h _ ⟨I.ok,I.os,I.bare,⟨fun b o e n hb hx=>?_,fun b o e n hb hx=>?_,I.base.free,fun b o e hx=>?_,I.base.tups,I.base.frzs,I.base.tbls⟩,⟨_,hn',fun j y v' e1 e2 e3=>?_⟩,fun y c e=>?_,I.free,I.freeC,fun p hp=>?_,tracked ⟨oL,hoL,I.free⟩ hs,by simpa using I.len⟩ ⟨_,hs,.inl rfl⟩
    · exact (hs.2 b (Nat.ne_of_lt (Nat.lt_of_lt_of_le (Heap.lt_size e) I.ok.above))).trans (I.base.keep b o e n hb hx)
    · obtain ⟨sl,e1⟩:=I.base.slot b o e n hb hx
      exact ⟨sl,(hs.2 b (Nat.ne_of_lt (Nat.lt_of_lt_of_le (Heap.lt_size e) I.ok.above))).trans e1⟩
    · obtain ⟨o',e1⟩:=I.base.there b o e hx
      exact ⟨o',(hs.2 b (Nat.ne_of_lt (Nat.lt_of_lt_of_le (Heap.lt_size e) I.ok.above))).trans e1⟩
    · by_cases hj:j=i
      · subst hj
        rw [hi] at e1; cases e1
        rw [List.getElem?_set_self hiσ] at e2
        cases e2
        exact ⟨u,r,.inl ⟨hk,by simp⟩⟩
      · rw [List.getElem?_set_ne (Ne.symm hj)] at e2
        obtain ⟨u',r',q⟩:=hl j y v' e1 e2 e3
        refine ⟨u',r',?_⟩
        rcases q with ⟨k,e⟩ | ⟨k,c,e,z⟩
        · refine .inl ⟨k,?_⟩
          have:y ≠ x:=fun e=>hj (zit hN e1 (e ▸ hi))
          simp [this,e]
        · exact .inr ⟨k,c,e,z.sameBut hs (cne y c e)⟩
    · obtain ⟨w',z⟩:=I.cell y c e
      exact ⟨w',z.sameBut hs (cne y c e)⟩
    · obtain ⟨e,n,ne,nf,d⟩:=I.pin p hp
      exact ⟨(hs.2 p.1 ne).trans e,n,ne,nf,d⟩
  · have hfn:X.fn x=true:=by
      rcases hf with z | z
      · exact z
      · rw [z] at hk; cases hk
    obtain ⟨c,hc⟩:=I.ok.has x (.inl hk)
    obtain ⟨w',z⟩:=I.cell x c hc
    refine wpAny_storeName_cell I.ok.kind hk hc z (fun h' hc' hs=>?_)
    obtain ⟨oc,hoc,hocd⟩:=id z
    refine h { s with heap:=h' } ⟨I.ok,I.os,I.bare,⟨fun b o e n hb hx=>?_,fun b o e n hb hx=>?_,I.base.free,fun b o e hx=>?_,I.base.tups,I.base.frzs,I.base.tbls⟩,⟨m,hn.sameBut hs (Ne.symm (cne x c hc)),fun j y v' e1 e2 e3=>?_⟩,fun y c' e=>?_,I.free,I.freeC,fun p hp=>?_,tracked ⟨oc,hoc,I.freeC x c hc⟩ hs,by simpa using I.len⟩ ⟨c,hs,.inr hc⟩
    · exact (hs.2 b (Nat.ne_of_lt (Nat.lt_of_lt_of_le (Heap.lt_size e) (I.ok.cab x c hfn hc)))).trans (I.base.keep b o e n hb hx)
    · obtain ⟨sl,e1⟩:=I.base.slot b o e n hb hx
      exact ⟨sl,(hs.2 b (Nat.ne_of_lt (Nat.lt_of_lt_of_le (Heap.lt_size e) (I.ok.cab x c hfn hc)))).trans e1⟩
    · obtain ⟨o',e1⟩:=I.base.there b o e hx
      exact ⟨o',(hs.2 b (Nat.ne_of_lt (Nat.lt_of_lt_of_le (Heap.lt_size e) (I.ok.cab x c hfn hc)))).trans e1⟩
    · by_cases hj:j=i
      · subst hj
        rw [hi] at e1; cases e1
        rw [List.getElem?_set_self hiσ] at e2
        cases e2
        exact ⟨u,r,.inr ⟨.inl hk,c,hc,hc'⟩⟩
      · rw [List.getElem?_set_ne (Ne.symm hj)] at e2
        obtain ⟨u',r',q⟩:=hl j y v' e1 e2 e3
        refine ⟨u',r',?_⟩
        rcases q with q | ⟨k,c',e,z'⟩
        · exact .inl q
        · refine .inr ⟨k,c',e,z'.sameBut hs ?_⟩
          rintro rfl
          exact hj (zit hN e1 (I.ok.inj _ _ _ e hc ▸ hi))
    · by_cases hcc:c'=c
      · subst hcc; exact ⟨_,hc'⟩
      · obtain ⟨w2,z2⟩:=I.cell y c' e
        exact ⟨w2,z2.sameBut hs hcc⟩
    · obtain ⟨e,n,ne,nf,d⟩:=I.pin p hp
      refine ⟨(hs.2 p.1 ?_).trans e,n,ne,nf,d⟩
      intro q
      rw [q,hoc] at e
      have q':oc=p.2:=Option.some.inj e
      exact d w' (by rw [← q']; exact hocd)
theorem zdL {M:Model} {A:Around} {E:Value→Shared→Prop} {i:Nat} {x:Str} {v:V} {u:Value} {Q:Unit→Shared→Prop} (I:Inv X pins σ H s) (hN:X.N.Nodup) (hi:X.N[i]?=some x) (hx:Loc X.env.scope x) (r:RelV v u)
    (h:∀ s',Inv X pins (σ.set i (some v)) H s'→Q () s') (hf:X.fn x=true∨X.env.scope.names.lookup x=some .local:=by first | exact .inl rfl | exact .inr rfl | assumption):wpAny M A (storeName X.env x u) Q E s :=
  zmN I hN hi hx r (fun s' I' _=>h s' I') hf
end
abbrev XK:=Value→Option Addr→Hp→Prop
abbrev St:=List (Option V)
abbrev VK:=V→Hp→Prop
abbrev TE:=St→Hp→VK→Prop
abbrev TT:=St→Hp→(Bool→Hp→Prop)→Prop
abbrev TA:=St→Hp→(List V→Hp→Prop)→Prop
structure Ends where
  nx:St→Hp→Prop
  rt:VK
  bk:St→Hp→Prop:=fun _ _=>False
  ct:St→Hp→Prop:=fun _ _=>False
abbrev TS:=Ends→St→Hp→Prop
def EP (X:Cx) (pins:List (Addr × Obj)) (σ:St) (Q:VK) (u:Value) (s':Shared):Prop:=∃ v H',Inv X pins σ H' s'∧RelV v u∧Q v H'
def TP (X:Cx) (pins:List (Addr × Obj)) (σ:St) (Q:Bool→Hp→Prop) (b:Bool) (s':Shared):Prop:=∃ H',Inv X pins σ H' s'∧Q b H'
def AP (X:Cx) (pins:List (Addr × Obj)) (σ:St) (Q:List V→Hp→Prop) (us:List Value) (s':Shared):Prop:=∃ vs H',Inv X pins σ H' s'∧Vals vs us∧Q vs H'
def SP (X:Cx) (pins:List (Addr × Obj)) (D:Ends) (f:Flow) (s':Shared):Prop :=
  match f with
  | .next=>∃ σ' H',Inv X pins σ' H' s'∧D.nx σ' H'
  | .brk=>∃ σ' H',Inv X pins σ' H' s'∧D.bk σ' H'
  | .cont=>∃ σ' H',Inv X pins σ' H' s'∧D.ct σ' H'
  | .ret u=>∃ v σ' H',Inv X pins σ' H' s'∧RelV v u∧D.rt v H'
def PE (X:Cx) (e:Expr) (t:TE):Prop :=
  ∀ (pins:List (Addr × Obj)) (s:Shared) (σ:St) (H:Hp) (Q:VK),Inv X pins σ H s→t σ H Q→wpAny (model X.prog X.w) X.A (eval e X.env) (EP X pins σ Q) X.xe s
def PT (X:Cx) (e:Expr) (t:TT):Prop :=
  ∀ (pins:List (Addr × Obj)) (s:Shared) (σ:St) (H:Hp) (Q:Bool→Hp→Prop),Inv X pins σ H s→t σ H Q→wpAny (model X.prog X.w) X.A (isTrue e X.env (eval e X.env)) (TP X pins σ Q) X.xe s
def PW (X:Cx) (e:Expr) (t:TT):Prop :=
  ∀ (whole:Sem Value) (pins:List (Addr × Obj)) (s:Shared) (σ:St) (H:Hp) (Q:Bool→Hp→Prop),Inv X pins σ H s→t σ H Q→wpAny (model X.prog X.w) X.A (isTrue e X.env whole) (TP X pins σ Q) X.xe s
theorem PW.pt {X:Cx} {e:Expr} {t:TT} (h:PW X e t):PT X e t:=h _
def PA (X:Cx) (es:List Expr) (t:TA):Prop :=
  ∀ (pos:Pos) (pins:List (Addr × Obj)) (s:Shared) (σ:St) (H:Hp) (Q:List V→Hp→Prop),Inv X pins σ H s→t σ H Q→wpAny (model X.prog X.w) X.A (spliced (backTo pos (starEach es X.env))) (AP X pins σ Q) X.xe s
def PS (X:Cx) (st:Stmt) (t:TS):Prop :=
  ∀ (pins:List (Addr × Obj)) (s:Shared) (σ:St) (H:Hp) (D:Ends),Inv X pins σ H s→t D σ H→wpAny (model X.prog X.w) X.A (exec st X.env) (SP X pins D) X.xe s
def PSs (X:Cx) (st:List Stmt) (t:TS):Prop :=
  ∀ (pins:List (Addr × Obj)) (s:Shared) (σ:St) (H:Hp) (D:Ends),Inv X pins σ H s→t D σ H→wpAny (model X.prog X.w) X.A (execs st X.env) (SP X pins D) X.xe s
theorem thn {α:Type} {t:Sem α} {Q Q':α→Shared→Prop} {M:Model} {A:Around} {E:Value→Shared→Prop} {s:Shared} (h:wpAny M A t Q E s) (hQ:∀ a s,Q a s→Q' a s):wpAny M A t Q' E s:=wpAny_mono h hQ fun _ _ x=>x
end L2
namespace L2
open PySem PySem.Spec PyProof.Rows
section
variable {X:Cx}
def tVar (i:Nat):TE:=fun σ H Q=>∃ v,σ[i]?=some (some v)∧Q v H
def tC (v:V):TE:=fun _ H Q=>Q v H
theorem zpw {i:Nat} {x:Str} {pos:Pos} (hN:X.N[i]?=some x) (hv:Vis X.env.scope x) (hd:(x == ("__debug__" : Str))=false:=by decide) (hcd:(x == ("__classdict__" : Str))=false:=by decide):PE X (.Name x pos) (tVar i):=by
  intro pins s σ H Q I h
  obtain ⟨v,e,h⟩:=h
  obtain ⟨m,hn,hl⟩:=I.loc
  obtain ⟨u,r,l⟩:=hl i x v hN e hv
  have fin:EP X pins σ Q u s:=⟨v,H,I,r,h⟩
  rcases l with ⟨hk,hm⟩ | ⟨hk,c,hc,hcell⟩
  · exact wpAny_Name (wpAny_loadName_local I.ok.kind hk hn hm fin) hd
  · rcases hk with hk | hk
    · exact wpAny_Name (wpAny_loadName_cell I.ok.kind hk hc hcell fin) hd
    · exact wpAny_Name (wpAny_loadName_free I.ok.kind hk hc hcell fin hcd) hd
theorem zaf {i j pos}:PE X (.Constant (.int i) j pos) (tC (.int i)):=fun _ _ _ H _ I h=>wpAny_Constant_int ⟨.int i,H,I.tok _,⟨_,rfl⟩,h⟩
theorem zhx {b j pos}:PE X (.Constant (.bool b) j pos) (tC (.bl b)):=fun _ _ _ H _ I h=>Constant_bool ⟨.bl b,H,I,rfl,h⟩
theorem zdD {j pos}:PE X (.Constant .none j pos) (tC .non):=fun _ _ _ H _ I h=>Constant_none ⟨.non,H,I,rfl,h⟩
theorem zcL {x j pos}:PE X (.Constant (.str x) j pos) (tC (.str x)):=fun _ _ _ H _ I h=>Calls.Constant_str ⟨.str x,H,I.tok _,⟨_,rfl⟩,h⟩
def Gl (X:Cx) (x:Str):Prop:=X.env.kindOf x=some .globalImplicit
theorem zfZ {E:Value→Shared→Prop} {pins:List (Addr × Obj)} {s:Shared} {σ:St} {H:Hp} {x:Str} {u:Value} {pos:Pos} {Q:Value→Shared→Prop} (I:Inv X pins σ H s) (hg:Gl X x) (hm:X.mg x=some u) (h:Q u s)
    (hd:(x == ("__debug__" : Str))=false:=by decide):wpAny (model X.prog X.w) X.A (eval (.Name x pos) X.env) Q E s :=
  Calls.Name_function_global I.ok.kind hg (Calls.loadGlobal_global (by rw [I.ok.glob]; exact I.mod.glob.keeps I.bk) hm h) hd
theorem zgi {E:Value→Shared→Prop} {pins:List (Addr × Obj)} {s:Shared} {σ:St} {H:Hp} {x:Str} {u:Value} {pos:Pos} {Q:Value→Shared→Prop} (I:Inv X pins σ H s) (hg:Gl X x) (hm:X.mg x=none) (hv:bootBuiltins x=some u) (h:Q u s)
    (hn:x ≠ "__name__":=by decide) (hd:(x == ("__debug__" : Str))=false:=by decide):wpAny (model X.prog X.w) X.A (eval (.Name x pos) X.env) Q E s:=by
  obtain ⟨mb,h1,h2⟩:=I.mod.blt
  exact Calls.Name_function_global I.ok.kind hg (Calls.loadGlobal_builtin (by rw [I.ok.glob]; exact I.mod.glob.keeps I.bk) hm (by rw [I.ok.blt]; exact h1.keeps I.bk) ((h2 x hn).trans hv) h) hd
theorem zgT {x:Str} {v:V} {u:Value} {pos:Pos} (hg:Gl X x) (hm:X.mg x=some u) (r:RelV v u) (hd:(x == ("__debug__" : Str))=false:=by decide):PE X (.Name x pos) (tC v) :=
  fun _ _ _ H _ I h=>zfZ I hg hm ⟨v,H,I,r,h⟩ hd
theorem zmB {x:Str} {v:V} {u:Value} {pos:Pos} (hg:Gl X x) (hm:X.mg x=none) (hv:bootBuiltins x=some u) (r:RelV v u) (hn:x ≠ "__name__":=by decide) (hd:(x == ("__debug__" : Str))=false:=by decide):PE X (.Name x pos) (tC v) :=
  fun _ _ _ H _ I h=>zgi I hg hm hv ⟨v,H,I,r,h⟩ hn hd
variable {a b:Expr} {ta tb:TE} {pos:Pos}
def tB (t:TE):TT:=fun σ H Q=>t σ H fun x H1=>∃ c,x = .bl c∧Q c H1
theorem zdG {e:Expr} {t:TE} (h:PE X e t) (he:∀ whole,isTrue e X.env whole=(do let v ← whole; standAt e.pos; holding [v] (truthy v)):=by intro _; rfl):PT X e (tB t):=by
  intro pins s σ H Q I hw
  refine isTrue_plain (thn (h pins s σ H _ I hw) fun v s1 ⟨x,H1,I1,r1,q1⟩=>?_) (he _)
  obtain ⟨d,rfl,q⟩:=q1
  cases r1
  exact wpAny_truthy_bool ⟨H1,I1,q⟩
variable {tA tB':TT} {rest:List Expr}
def tAnd (t u:TT):TT:=fun σ H Q=>t σ H fun c H1=>if c=true then u σ H1 Q else Q false H1
def tOr (t u:TT):TT:=fun σ H Q=>t σ H fun c H1=>if c=true then Q true H1 else u σ H1 Q
def tNot (t:TT):TT:=fun σ H Q=>t σ H fun c H1=>Q (!c) H1
theorem ziz (ha:PT X a tA):PW X (.BoolOp .And [a] pos) tA:=by
  intro wh pins s σ H Q I h
  refine isTrue_and (thn (ha pins s σ H Q I h) fun c s1 e=>?_)
  cases c with
  | true=>exact isTrue_and_nil e
  | false=>exact e
theorem ze9 (ha:PT X a tA):PW X (.BoolOp .Or [a] pos) tA:=by
  intro wh pins s σ H Q I h
  refine isTrue_or (thn (ha pins s σ H Q I h) fun c s1 e=>?_)
  cases c with
  | false=>exact isTrue_or_nil e
  | true=>exact e
theorem zkT (ha:PT X a tA) (hb:PW X (.BoolOp .And (b :: rest) pos) tB'):PW X (.BoolOp .And (a :: b :: rest) pos) (tAnd tA tB'):=by
  intro wh pins s σ H Q I h
  refine isTrue_and (thn (ha pins s σ H _ I h) fun c s1 ⟨H1,I1,q1⟩=>?_)
  cases c with
  | true=>exact hb wh pins s1 σ H1 Q I1 q1
  | false=>exact ⟨H1,I1,q1⟩
theorem zgq (ha:PT X a tA) (hb:PW X (.BoolOp .Or (b :: rest) pos) tB'):PW X (.BoolOp .Or (a :: b :: rest) pos) (tOr tA tB'):=by
  intro wh pins s σ H Q I h
  refine isTrue_or (thn (ha pins s σ H _ I h) fun c s1 ⟨H1,I1,q1⟩=>?_)
  cases c with
  | true=>exact ⟨H1,I1,q1⟩
  | false=>exact hb wh pins s1 σ H1 Q I1 q1
theorem zfE (ha:PT X a tA):PT X (.UnaryOp .Not a pos) (tNot tA):=by
  intro pins s σ H Q I h
  exact isTrue_not (ha pins s σ H (fun c H1=>Q (!c) H1) I h)
def zpI (ta tb:TE):TE:=fun σ H Q=>ta σ H fun x H1=>∃ c,x = .bl c∧if c=true then tb σ H1 Q else Q (.bl false) H1
def zpn (ta:TE):TE:=fun σ H Q=>ta σ H fun x H1=>∃ c,x = .bl c∧Q (.bl (!c)) H1
theorem zkr {op} {t:TE} (h:PE X a t):PE X (.BoolOp op [a] pos) t:=fun pins s σ H Q I hw=>BoolOp_one (h pins s σ H Q I hw)
theorem zkD (ha:PE X a ta) (hb:PE X (.BoolOp .And (b :: rest) pos) tb):PE X (.BoolOp .And (a :: b :: rest) pos) (zpI ta tb):=by
  intro pins s σ H Q I h
  refine BoolOp_and (thn (ha pins s σ H _ I h) fun v s1 ⟨x,H1,I1,r1,q1⟩=>?_)
  obtain ⟨c,rfl,q1⟩:=q1
  cases r1
  refine wpAny_truthy_bool ?_
  cases c with
  | true=>exact hb pins s1 σ H1 Q I1 q1
  | false=>exact ⟨.bl false,H1,I1,rfl,q1⟩
theorem znZ (ha:PE X a ta):PE X (.UnaryOp .Not a pos) (zpn ta):=by
  intro pins s σ H Q I h
  refine UnaryOp_ (thn (ha pins s σ H _ I h) fun v s1 ⟨x,H1,I1,r1,q1⟩=>?_)
  obtain ⟨c,rfl,q1⟩:=q1
  cases r1
  exact not_of (wpAny_truthy_bool ⟨.bl (!c),H1,I1,rfl,q1⟩)
end
end L2
namespace L2
open PySem PySem.Spec PyProof.Rows
def SqL (K:PySem.W.Frag) (H:Hp) (a:Addr) (xs:List V):Prop :=
  Rd H a (.lst xs) ∨
    ∃ (o:Obj) (its:Array Value) (n:Nat),K.lookup a=some o∧o.cls = .type "list"∧o.dict=none∧o.data = .seq its n∧its.size ≤ sizeLine∧Vals xs its.toList
def SqT (K:PySem.W.Frag) (H:Hp) (a:Addr) (xs:List V):Prop :=
  Rd H a (.tup xs) ∨
    ∃ (o:Obj) (its:Array Value) (n:Nat),K.lookup a=some o∧o.cls = .type "tuple"∧o.data = .seq its n∧its.size ≤ sizeLine∧Vals xs its.toList
def absV:Value→Option V
  | .none=>some .non
  | .bool b=>some (.bl b)
  | .int i _=>some (.int i)
  | .str x _=>some (.str x)
  | .bytes b _=>some (.byt b)
  | .float b _=>some (.flt b)
  | .ref a=>some (.ref a)
  | .type n=>some (.ty n)
  | _=>none
theorem RelV.abs {x:V} {u:Value} (r:RelV x u):absV u=some x:=by
  cases x with
  | non=>cases r; rfl
  | bl _=>cases r; rfl
  | int _=>obtain ⟨t,rfl⟩:=r; rfl
  | str _=>obtain ⟨t,rfl⟩:=r; rfl
  | byt _=>obtain ⟨t,rfl⟩:=r; rfl
  | flt _=>obtain ⟨t,rfl⟩:=r; rfl
  | ref _=>cases r; rfl
  | ty _=>cases r; rfl
theorem RelV.inj {x y:V} {u:Value} (r:RelV x u) (q:RelV y u):x=y:=Option.some.inj (r.abs.symm.trans q.abs)
theorem Vals.inj:∀ {xs ys:List V} {us:List Value},Vals xs us→Vals ys us→xs=ys
  | _,_,_,.nil,.nil=>rfl
  | _,_,_,.cons r t,.cons r' t'=>by rw [r.inj r',Vals.inj t t']
section
variable {X:Cx} {pins:List (Addr × Obj)} {σ:St} {H:Hp} {s:Shared} {a:Addr} {xs ys:List V}
theorem Inv.list (I:Inv X pins σ H s) (h:SqL X.K H a xs):∃ its:List Value,Vals xs its∧PlainL s.heap a its.toArray∧xs.length ≤ sizeLine:=by
  rcases h with h | ⟨o,its,n,hk,hc,hd,hs,hz,r⟩
  · obtain ⟨z,its,n,r,e⟩:=h.ok I.hok
    exact ⟨its,r,⟨_,n,e,rfl,rfl,rfl⟩,z⟩
  · refine ⟨its.toList,r,⟨o,n,I.kIn a o hk,hc,hd,by simpa using hs⟩,?_⟩
    have e:=r.length
    simp only [Array.length_toList] at e
    omega
theorem Inv.tuple (I:Inv X pins σ H s) (h:SqT X.K H a xs):∃ its:List Value,Vals xs its∧IsTup s.heap a its.toArray∧xs.length ≤ sizeLine:=by
  rcases h with h | ⟨o,its,n,hk,hc,hs,hz,r⟩
  · obtain ⟨z,its,r,p⟩:=h.ok I.hok
    exact ⟨its,r,p,z⟩
  · refine ⟨its.toList,r,⟨o,I.kIn a o hk,hc,n,by simpa using hs⟩,?_⟩
    have e:=r.length
    simp only [Array.length_toList] at e
    omega
theorem Inv.list_inj (I:Inv X pins σ H s) (h:SqL X.K H a xs) (h':SqL X.K H a ys):xs=ys:=by
  obtain ⟨its,r,⟨o,n,e,_,_,d⟩,_⟩:=I.list h
  obtain ⟨its',r',⟨o',n',e',_,_,d'⟩,_⟩:=I.list h'
  rw [e] at e'; cases e'
  rw [d] at d'
  injection d' with d1 _
  have:its=its':=by simpa using congrArg Array.toList d1
  subst this
  exact r.inj r'
end
abbrev Cx.wish (X:Cx) (E:Value→Shared→Prop):Cx:={ X with xe:=E }
abbrev Cx.nox (X:Cx):Cx:=X.wish fun _ _=>False
theorem Cx.Ok.wish {X:Cx} (ok:X.Ok) (E:Value→Shared→Prop):(X.wish E).Ok :=
  ⟨ok.mod,ok.kind,ok.glob,ok.blt,ok.above,ok.inj,ok.has,ok.cab,ok.hd,ok.frames,ok.stk,ok.exf,ok.bs,ok.bsz,ok.noex,ok.exfs,ok.funs,ok.frf,ok.tb⟩
theorem Cx.Ok.unwish {X:Cx} {E:Value→Shared→Prop} (ok:(X.wish E).Ok):X.Ok :=
  ⟨ok.mod,ok.kind,ok.glob,ok.blt,ok.above,ok.inj,ok.has,ok.cab,ok.hd,ok.frames,ok.stk,ok.exf,ok.bs,ok.bsz,ok.noex,ok.exfs,ok.funs,ok.frf,ok.tb⟩
section
variable {X:Cx} {pins:List (Addr × Obj)} {σ:St} {H:Hp} {s:Shared} {E:Value→Shared→Prop}
theorem Inv.wish (I:Inv X pins σ H s) (E:Value→Shared→Prop):Inv (X.wish E) pins σ H s:=⟨I.ok.wish E,I.os,I.bare,I.base,I.loc,I.cell,I.free,I.freeC,I.pin,I.hok,I.len⟩
theorem Inv.unwish (I:Inv (X.wish E) pins σ H s):Inv X pins σ H s:=⟨I.ok.unwish,I.os,I.bare,I.base,I.loc,I.cell,I.free,I.freeC,I.pin,I.hok,I.len⟩
theorem SP.unwish {D:Ends} {f:Flow} {s':Shared} (h:SP (X.wish E) pins D f s'):SP X pins D f s':=by
  cases f with
  | next=>obtain ⟨σ',H',I,q⟩:=h; exact ⟨σ',H',I.unwish,q⟩
  | brk=>obtain ⟨σ',H',I,q⟩:=h; exact ⟨σ',H',I.unwish,q⟩
  | cont=>obtain ⟨σ',H',I,q⟩:=h; exact ⟨σ',H',I.unwish,q⟩
  | ret u=>obtain ⟨v,σ',H',I,r,q⟩:=h; exact ⟨v,σ',H',I.unwish,r,q⟩
theorem PSs.nox {st:List Stmt} {t:TS} (h:PSs X.nox st t):PSs X st t:=fun pins s σ H D I hw =>
  wpAny_mono (h pins s σ H D (I.wish _) hw) (fun _ _ q=>q.unwish) fun _ _ z=>False.elim z
end
section
variable {X:Cx} {st:Stmt} {rest:List Stmt} {t u:TS} {e:Expr} {te:TE} {pos:Pos}
def zpA:TS:=fun D σ H=>D.nx σ H
def tSeq (t u:TS):TS:=fun D σ H=>t { D with nx:=u D } σ H
theorem zaK:PSs X [] zpA:=fun _ _ σ H _ I h=>wpAny_execs_nil ⟨σ,H,I,h⟩
theorem zag (h1:PS X st t) (h2:PSs X rest u):PSs X (st :: rest) (tSeq t u):=by
  intro pins s σ H D I h
  refine wpAny_execs_cons (thn (h1 pins s σ H { D with nx:=u D } I h) fun f s1 q=>?_)
  cases f with
  | next =>
    obtain ⟨σ',H',I',q⟩:=q
    exact h2 pins s1 σ' H' D I' q
  | ret v=>exact q
  | brk=>exact q
  | cont=>exact q
theorem zan (h1:PS X st t):PSs X [st] t:=by
  intro pins s σ H D I h
  refine wpAny_execs_cons (thn (h1 pins s σ H D I h) fun f s1 q=>?_)
  cases f with
  | next=>exact wpAny_execs_nil q
  | ret v=>exact q
  | brk=>exact q
  | cont=>exact q
theorem Inv.quiet {pins:List (Addr × Obj)} {σ:St} {H:Hp} {s:Shared} (I:Inv X pins σ H s):interactive X.env=false:=by simp [interactive,I.ok.kind]
def znf (te:TE):TS:=fun D σ H=>te σ H fun _ H1=>D.nx σ H1
theorem zds (he:PE X e te) (hs:swapsWith e none pos.line X.env=pure false:=by rfl):PS X (.Expr e pos) (znf te):=by
  intro pins s σ H D I h
  exact wpAny_Expr_any (thn (he pins s σ H _ I h) fun v s1 ⟨x,H1,I1,r1,q1⟩=>⟨σ,H1,I1,q1⟩) I.quiet hs
def tRet (te:TE):TS:=fun D σ H=>te σ H D.rt
theorem zaB (he:PE X e te):PS X (.Return (some e) pos) (tRet te):=by
  intro pins s σ H D I h
  exact wpAny_Return_some (thn (he pins s σ H _ I h) fun v s1 ⟨x,H1,I1,r1,q1⟩=>⟨x,σ,H1,I1,r1,q1⟩)
def tIfS (c:TT) (t u:TS):TS:=fun D σ H=>c σ H fun b H1=>if b=true then t D σ H1 else u D σ H1
theorem zbl {c:Expr} {a b:List Stmt} {tc:TT} (hc:PT X c tc) (ha:PSs X a t) (hb:PSs X b u):PS X (.If c a b pos) (tIfS tc t u):=by
  intro pins s σ H D I h
  refine wpAny_If (thn (hc pins s σ H _ I h) fun d s1 ⟨H1,I1,q1⟩=>?_)
  cases d with
  | true=>exact ha pins s1 σ H1 D I1 q1
  | false=>exact hb pins s1 σ H1 D I1 q1
end
abbrev TG:=V→St→Hp→(St→Hp→Prop)→Prop
abbrev TGs:=List V→St→Hp→(St→Hp→Prop)→Prop
def PG (X:Cx) (target:Expr) (t:TG):Prop :=
  ∀ (pins:List (Addr × Obj)) (s:Shared) (σ:St) (H:Hp) (v:V) (u:Value) (Q:St→Hp→Prop),Inv X pins σ H s→RelV v u→t v σ H Q →
    wpAny (model X.prog X.w) X.A (assign target X.env u) (fun _ s'=>∃ σ' H',Inv X pins σ' H' s'∧Q σ' H') X.xe s
def PGs (X:Cx) (ts:List Expr) (t:TGs):Prop :=
  ∀ (pins:List (Addr × Obj)) (s:Shared) (σ:St) (H:Hp) (vs:List V) (us:List Value) (Q:St→Hp→Prop),Inv X pins σ H s→Vals vs us→t vs σ H Q →
    wpAny (model X.prog X.w) X.A (assignInOrder ((assignEach ts X.env).map (·.2)) us) (fun _ s'=>∃ σ' H',Inv X pins σ' H' s'∧Q σ' H') X.xe s
abbrev TSet:=V→V→V→Hp→(Hp→Prop)→Prop
def PSet (X:Cx) (t:TSet):Prop :=
  ∀ (pins:List (Addr × Obj)) (s:Shared) (σ:St) (H:Hp) (o i v:V) (ov iv u:Value) (Q:Hp→Prop),Inv X pins σ H s→RelV o ov→RelV i iv→RelV v u→t o i v H Q →
    wpAny (model X.prog X.w) X.A (setItem ov iv u) (fun _ s'=>∃ H',Inv X pins σ H' s'∧Q H') X.xe s
abbrev TIp:=V→V→Hp→VK→Prop
def PIp (X:Cx) (op:Operator) (t:TIp):Prop :=
  ∀ (pins:List (Addr × Obj)) (s:Shared) (σ:St) (H:Hp) (x y:V) (v u:Value) (Q:VK),Inv X pins σ H s→RelV x v→RelV y u→t x y H Q →
    wpAny (model X.prog X.w) X.A (inplaceOp op v u) (EP X pins σ Q) X.xe s
section
variable {X:Cx} {pos:Pos}
def ziU (i:Nat):TG:=fun v σ H Q=>Q (σ.set i (some v)) H
theorem zaR {i:Nat} {x:Str} (hN:X.N.Nodup) (hi:X.N[i]?=some x) (hx:Loc X.env.scope x) (hf:X.fn x=true∨X.env.scope.names.lookup x=some .local:=by first | exact .inl rfl | exact .inr rfl | assumption):PG X (.Name x pos) (ziU i):=by
  intro pins s σ H v u Q I r h
  exact wpAny_assign_Name (zdL I hN hi hx r (fun s' I'=>⟨_,H,I',h⟩) hf)
def gNil:TGs:=fun vs σ H Q=>vs = []∧Q σ H
def zpC (t:TG) (u:TGs):TGs:=fun vs σ H Q=>∃ v r,vs=v :: r∧t v σ H fun σ' H'=>u r σ' H' Q
theorem zfj:PGs X [] gNil:=by
  intro pins s σ H vs us Q I r h
  obtain ⟨e,h⟩:=h
  subst e
  cases r
  exact assignInOrder_nil ⟨σ,H,I,h⟩
theorem zb6 {e:Expr} {es:List Expr} {t:TG} {u:TGs} (h1:PG X e t) (h2:PGs X es u)
    (hs:(assignEach (e :: es) X.env).map (·.2)=assign e X.env :: (assignEach es X.env).map (·.2):=by rfl):PGs X (e :: es) (zpC t u):=by
  intro pins s σ H vs us Q I r h
  obtain ⟨v,vr,e1,h⟩:=h
  subst e1
  cases r with
  | cons r rr =>
    rw [hs]
    refine assignInOrder_cons (thn (h1 pins s σ H _ _ _ I r h) fun _ s1 ⟨σ1,H1,I1,q1⟩=>?_)
    exact h2 pins s1 σ1 H1 _ _ Q I1 rr q1
def gTup (K:PySem.W.Frag) (n:Nat) (t:TGs):TG:=fun v σ H Q=>∃ a xs,v = .ref a∧SqT K H a xs∧xs.length=n∧t xs σ H Q
theorem zgZ {es:List Expr} {k:Nat} {t:TGs} {n:Nat} (hc:X.calm=true) (h:PGs X es t)
    (hn:(assignEach es X.env).length=n:=by rfl) (hst:(assignEach es X.env).findIdx? (·.1)=none:=by rfl):PG X (.Tuple es k pos) (gTup X.K n t):=by
  intro pins s σ H v u Q I r hw
  obtain ⟨a,xs,e1,hq,hl,hw⟩:=hw
  subst e1
  cases r
  obtain ⟨its,rv,ht,hz⟩:=I.tuple hq
  refine assign_Tuple_tuple (I.ok.hd hc) ht (by simp [hn,← hl,rv.length]) hst fun h' hx=>?_
  have I1:Inv X pins σ H { s with heap:=h' }:=I.kept (t':=s.toks) fun b o e=>hx b o (Nat.ne_of_lt (Heap.lt_size e)) e
  exact h pins _ σ H xs _ Q I1 (by simpa using rv) hw
def gSub (to ti:TE) (t:TSet):TG:=fun v σ H Q=>to σ H fun o H1=>ti σ H1 fun i H2=>t o i v H2 fun H3=>Q σ H3
theorem zkq {o i:Expr} {to ti:TE} {t:TSet} (ho:PE X o to) (hi:PE X i ti) (hs:PSet X t)
    (ha:∀ v,assign (.Subscript o i pos) X.env v=(do
      let ov ← holding [v] (eval o X.env)
      let iv ← holding [v,ov] (eval i X.env)
      standAt pos
      holding [v,ov,iv] (setItem ov iv v)
      release [v,ov,iv] []):=by intro _; rfl):PG X (.Subscript o i pos) (gSub to ti t):=by
  intro pins s σ H v u Q I r h
  rw [ha]
  refine wpAny_bind (wpAny_holding (thn (ho pins s σ H _ I h) fun ov s1 ⟨x,H1,I1,r1,q1⟩=>?_))
  refine wpAny_bind (wpAny_holding (thn (hi pins s1 σ H1 _ I1 q1) fun iv s2 ⟨y,H2,I2,r2,q2⟩=>?_))
  refine wpAny_bind (wpAny_standAt (wpAny_bind (wpAny_holding (thn (hs pins s2 σ H2 x y v ov iv u _ I2 r1 r2 r q2) fun _ s3 ⟨H3,I3,q3⟩=>?_))))
  exact wpAny_release ⟨σ,H3,I3,q3⟩
def tAsg (te:TE) (g:TG):TS:=fun D σ H=>te σ H fun x H1=>g x σ H1 D.nx
theorem zjc {tg e:Expr} {te:TE} {g:TG} (he:PE X e te) (hg:PG X tg g) (hs:swapsWithSole [tg] e pos.line X.env=pure false:=by rfl) (hw:swappedStores [tg] e X.env=pure none:=by rfl)
    (h1:(assignEach [tg] X.env).map (·.2) = [assign tg X.env]:=by rfl):PS X (.Assign [tg] e pos) (tAsg te g):=by
  intro pins s σ H D I h
  refine wpAny_Assign_stores (thn (he pins s σ H _ I h) fun v s1 ⟨x,H1,I1,r1,q1⟩=>?_) hs hw
  rw [h1]
  exact thn (hg pins s1 σ H1 x v _ I1 r1 q1) fun _ s2 q=>q
theorem zaF {i:Nat} {x:Str} {e:Expr} {te:TE} {pos':Pos} (hN:X.N.Nodup) (hi:X.N[i]?=some x) (hx:Loc X.env.scope x) (he:PE X e te) (hs:swapsWith e (some (.Name x pos')) pos.line X.env=pure false:=by rfl) (hf:X.fn x=true∨X.env.scope.names.lookup x=some .local:=by first | exact .inl rfl | exact .inr rfl | assumption) :
    PS X (.Assign [.Name x pos'] e pos) (tAsg te (ziU i)):=by
  intro pins s σ H D I h
  refine wpAny_Assign_Name (thn (he pins s σ H _ I h) fun v s1 ⟨y,H1,I1,r1,q1⟩=>?_) hs
  exact zdL I1 hN hi hx r1 (fun s2 I2=>⟨_,H1,I2,q1⟩) hf
def tPar (i j:Nat) (ta:TA):TS:=fun D σ H=>ta σ H fun vs H1=>∃ v w,vs = [v,w]∧D.nx ((σ.set i (some v)).set j (some w)) H1
theorem zlN {i j:Nat} {x y:Str} {a b:Expr} {ta:TA} {px py pt:Pos} {kt k2 pt2} (hc:X.calm=true) (hN:X.N.Nodup) (hi:X.N[i]?=some x) (hj:X.N[j]?=some y) (hij:i ≠ j)
    (hx:X.env.scope.names.lookup x=some .local) (hy:X.env.scope.names.lookup y=some .local) (ha:PA X [a,b] ta)
    (hw:swappedStores [.Tuple [.Name x px,.Name y py] kt pt] (.Tuple [a,b] k2 pt2) X.env=pure (some [x,y]))
    (hs:swapsWithSole [.Tuple [.Name x px,.Name y py] kt pt] (.Tuple [a,b] k2 pt2) pos.line X.env=pure false:=by rfl) :
    PS X (.Assign [.Tuple [.Name x px,.Name y py] kt pt] (.Tuple [a,b] k2 pt2) pos) (tPar i j ta):=by
  intro pins s σ H D I h
  rw [exec_Assign_arm]
  refine wpAny_bind (wpAny_standAt ?_)
  rw [hs]
  refine wpAny_bind (wpAny_pure ?_)
  rw [if_neg (by decide)]
  refine wpAny_bind (Tuple_ (thn (ha _ pins s σ H _ I h) fun us s1 ⟨vs,H1,I1,r1,q1⟩=>?_))
  obtain ⟨v,w,e1,q1⟩:=q1
  subst e1
  obtain ⟨u1,u2,rfl,rv,rw'⟩:∃ u1 u2,us = [u1,u2]∧RelV v u1∧RelV w u2:=by
    cases r1 with
    | cons p q =>
      cases q with
      | cons p' q' =>
        cases q'
        exact ⟨_,_,rfl,p,p'⟩
  refine wpAny_newObj_type ?_ (by show 2 ≤ sizeLine; decide)
  have I2:Inv X pins σ H1 { s1 with heap:=s1.heap.push { cls:=.type "tuple",data:=.seq [u1,u2].toArray } }:=I1.kept (t':=s1.toks) fun b o e=>Heap.get?_push_of_some _ e
  rw [hw]
  refine wpAny_bind (wpAny_pure ?_)
  show wpAny (model X.prog X.w) X.A (do rule "assign.swapped-stores"; let items ← unpackItems (.ref s1.heap.objs.size) 2 none; assignInOrder [fun v=>bindName X.env y v,fun v=>bindName X.env x v] items.reverse; pure Flow.next) _ _ _
  refine wpAny_bind (wpAny_rule (wpAny_bind (unpackItems_tuple (items:=#[u1,u2]) (I.ok.hd hc) (IsTup.new s1.heap _) fun h' hx'=>?_)))
  have I3:=I2.kept (h':=h') (t':=s1.toks) fun b o e=>hx' b o (Nat.ne_of_lt (Heap.lt_size e)) e
  show wpAny _ _ (assignInOrder [fun v=>bindName X.env y v,fun v=>bindName X.env x v] [u2,u1] >>= fun _=>pure Flow.next) _ _ _
  refine wpAny_bind (assignInOrder_cons (wpAny_bindName (zdL I3 hN hj (.inl hy) rw' (fun s2 I4=>?_) (.inr hy))))
  refine assignInOrder_cons (wpAny_bindName (zdL I4 hN hi (.inl hx) rv (fun s3 I5=>assignInOrder_nil (wpAny_pure ?_)) (.inr hx)))
  rw [List.set_comm _ _ (Ne.symm hij)] at I5
  exact ⟨_,H1,I5,q1⟩
def tAug (i:Nat) (te:TE) (ti:TIp):TS:=fun D σ H=>∃ x,σ[i]?=some (some x)∧te σ H fun y H1=>ti x y H1 fun z H2=>D.nx (σ.set i (some z)) H2
theorem znY {i:Nat} {x:Str} {e:Expr} {te:TE} {op:Operator} {ti:TIp} {pos':Pos} (hN:X.N.Nodup) (hi:X.N[i]?=some x) (hx:Loc X.env.scope x) (he:PE X e te) (ho:PIp X op ti) (hf:X.fn x=true∨X.env.scope.names.lookup x=some .local:=by first | exact .inl rfl | exact .inr rfl | assumption) :
    PS X (.AugAssign (.Name x pos') op e pos) (tAug i te ti):=by
  intro pins s σ H D I h
  obtain ⟨v,e1,h⟩:=h
  obtain ⟨m,hn,hl⟩:=I.loc
  have vis:Vis X.env.scope x:=by rcases hx with k | k; exact .inl k; exact .inr (.inl k)
  obtain ⟨u,r,l⟩:=hl i x v hi e1 vis
  refine wpAny_AugAssign_Name ?_
  have go:wpAny (model X.prog X.w) X.A (eval e X.env) (fun w s₂=>wpAny (model X.prog X.w) X.A (inplaceOp op u w) (fun r s₃=>wpAny (model X.prog X.w) X.A (storeName X.env x r) (fun _=>SP X pins D .next) X.xe s₃) X.xe s₂) X.xe s:=by
    refine thn (he pins s σ H _ I h) fun w s1 ⟨y,H1,I1,r1,q1⟩=>?_
    refine thn (ho pins s1 σ H1 v y u w _ I1 r r1 q1) fun z s2 ⟨zv,H2,I2,r2,q2⟩=>?_
    exact zdL I2 hN hi hx r2 (fun s3 I3=>⟨_,H2,I3,q2⟩) hf
  rcases l with ⟨hk,hm⟩ | ⟨hk,c,hc,hcell⟩
  · exact wpAny_loadName_local I.ok.kind hk hn hm go
  · rcases hk with hk | hk
    · exact wpAny_loadName_cell I.ok.kind hk hc hcell go
    · rcases hx with k | k
      · have:X.env.scope.names.lookup x=some .free:=hk
        rw [k] at this; cases this
      · have:X.env.scope.names.lookup x=some .free:=hk
        rw [k] at this; cases this
def ipI (f:Int→Int→Int):TIp:=fun x y H Q=>∃ i j,x = .int i∧y = .int j∧Q (.int (f i j)) H
theorem zoa:PIp X .Sub (ipI fun i j=>i - j):=by
  intro pins s σ H x y v u Q I r1 r2 h
  obtain ⟨i,j,e1,e2,q⟩:=h
  subst e1; subst e2
  obtain ⟨t,rfl⟩:=r1
  obtain ⟨t',rfl⟩:=r2
  exact isub_int ⟨.int _,H,I.tok _,⟨_,rfl⟩,q⟩
end
section
variable {X:Cx} {pos:Pos}
def zn0 (c:TT) (tb:TS):TS:=fun D σ H=>∃ W:Nat→St→Hp→Prop,(∃ m,W m σ H)∧∀ m σ H,W m σ H →
  c σ H fun b H1=>if b=true then ∃ N:St→Hp→Prop,(∀ σ' H',N σ' H'→∃ m',m' < m∧W m' σ' H')∧tb { D with nx:=N,ct:=N,bk:=D.nx } σ H1 else D.nx σ H1
theorem zgK {c:Expr} {body:List Stmt} {tc:TT} {tb:TS} (hp:PassesOwn (model X.prog X.w) X.A X.env X.xe) (hc:PT X c tc) (hb:PSs X body tb):PS X (.While c body [] pos) (zn0 tc tb):=by
  intro pins s σ H D I h
  obtain ⟨W,⟨m0,w0⟩,turn⟩:=h
  refine wpAny_While (codeAny_whileLoop (fun n s'=>∃ σ' H',Inv X pins σ' H' s'∧W n σ' H') ?_ m0 ⟨σ,H,I,w0⟩)
  rintro n s1 ⟨σ1,H1,I1,w1⟩
  refine wpAny_passesOwn hp (thn (hc pins s1 σ1 H1 _ I1 (turn n σ1 H1 w1)) fun b s2 ⟨H2,I2,q2⟩=>?_)
  cases b with
  | true =>
    obtain ⟨N,hN,q2⟩:=q2
    rw [if_pos rfl]
    refine wpAny_passesOwn hp (thn (hb pins s2 σ1 H2 _ I2 q2) fun f s3 q3=>?_)
    cases f with
    | next =>
      obtain ⟨σ3,H3,I3,n3⟩:=q3
      obtain ⟨m',hm,w3⟩:=hN σ3 H3 n3
      exact ⟨m',hm,σ3,H3,I3,w3⟩
    | cont =>
      obtain ⟨σ3,H3,I3,n3⟩:=q3
      obtain ⟨m',hm,w3⟩:=hN σ3 H3 n3
      exact ⟨m',hm,σ3,H3,I3,w3⟩
    | brk=>exact q3
    | ret v=>exact q3
  | false =>
    rw [if_neg Bool.false_ne_true]
    exact wpAny_execs_nil ⟨σ1,H2,I2,q2⟩
end
structure It where
  go:Nat→Hp→Prop
  yld:Nat→Hp→V→Hp→Prop
  stop:Nat→Hp→Prop
def FpOk (X:Cx) (pins:List (Addr × Obj)) (H:Hp) (b:Addr):Prop :=
  H b=none∧b ≠ X.env.locals∧b ∉ X.fs∧(b ∈ X.ex∨X.s₀.heap.objs.size ≤ b)∧(∀ x c,X.env.cells.lookup x=some c→c ≠ b)∧∀ p ∈ X.pn ++ pins,p.1 ≠ b
theorem Inv.fpOk {X:Cx} {pins:List (Addr × Obj)} {σ:St} {H H':Hp} {s:Shared} {b:Addr} (I:Inv X pins σ H s) (hb:s.heap.objs.size ≤ b) (hn:H' b=none):FpOk X pins H' b:=by
  refine ⟨hn,Nat.ne_of_gt (Nat.lt_of_lt_of_le I.lt hb),I.nofs hb,.inr (Nat.le_trans I.sz hb),fun x c e z=>?_,fun p hp z=>?_⟩
  · obtain ⟨v,q⟩:=I.cell x c e
    exact absurd (Nat.lt_of_lt_of_le q.lt (by rw [z]; exact hb)) (Nat.lt_irrefl _)
  · exact absurd (Nat.lt_of_lt_of_le (Heap.lt_size (I.pin p hp).1) (by rw [z]; exact hb)) (Nat.lt_irrefl _)
structure Turn (P:Program) (w:World) (K:PySem.W.Frag) (tg:Expr) (J:It) (fp:List Addr) (it:Addr) (tn:Nat→Heap→Prop):Prop where
  mem:it ∈ fp
  obj:∀ i h,tn i h→∀ b ∈ fp,∃ o,h.get? b=some o∧∀ v,o.data ≠ .cell v
  keep:∀ i h h',tn i h→(∀ b ∈ fp,∀ o,h.get? b=some o→h'.get? b=some o)→tn i h'
  item:∀ (X:Cx),X.prog=P→X.w=w→X.K=K→X.calm=true→∀ (i:Nat) (pins:List (Addr × Obj)) (s:Shared) (σ:St) (H:Hp) (E:Value→Shared→Prop),Inv X pins σ H s→(∀ b ∈ fp,FpOk X pins H b)→tn i s.heap→J.go i H →
    wpAny (model P w) X.A (pyNext (.ref it)) (fun r s1=>∃ u,r=some u ∧
      wpAny (model P w) X.A (letOwnedTupleGo tg (.ref it) u) (fun _ s2=>∃ x H',Inv X pins σ H' s2∧RelV x u∧J.yld i H x H'∧tn (i + 1) s2.heap∧∀ b ∈ fp,H' b=none) E s1) E s
  done:∀ (X:Cx),X.prog=P→X.w=w→X.K=K→X.calm=true→∀ (i:Nat) (pins:List (Addr × Obj)) (s:Shared) (σ:St) (H:Hp) (E:Value→Shared→Prop),Inv X pins σ H s→(∀ b ∈ fp,FpOk X pins H b)→tn i s.heap→J.stop i H →
    wpAny (model P w) X.A (pyNext (.ref it)) (fun r s1=>r=none∧Inv X pins σ H s1) E s
  self:∀ (A:Around) (i:Nat) (s:Shared) (Q:Value→Shared→Prop) (E:Value→Shared→Prop),tn i s.heap→Q (.ref it) s→wpAny (model P w) A (pyIter (.ref it)) Q E s
abbrev TI:=St→Hp→(It→Hp→Prop)→Prop
def PIE (X:Cx) (pins:List (Addr × Obj)) (σ:St) (tg:Expr) (R:It→Hp→Prop) (itv:Value) (s2:Shared):Prop :=
  ∃ (it:Addr) (fp:List Addr) (tn:Nat→Heap→Prop) (J:It) (H':Hp),itv = .ref it∧Inv X pins σ H' s2∧Turn X.prog X.w X.K tg J fp it tn∧tn 0 s2.heap∧(∀ b ∈ fp,FpOk X pins H' b)∧R J H'
def PI (X:Cx) (tg iter:Expr) (wi:TI):Prop :=
  ∀ (pins:List (Addr × Obj)) (s:Shared) (σ:St) (H:Hp) (R:It→Hp→Prop),Inv X pins σ H s→wi σ H R →
    wpAny (model X.prog X.w) X.A (eval iter X.env) (fun v s1=>wpAny (model X.prog X.w) X.A (pyIter v) (PIE X pins σ tg R) X.xe s1) X.xe s
theorem zpc {M:Model} {A:Around} {E:Value→Shared→Prop} {s:Shared} {tg:Expr} {it:Addr} {u:Value} {o:Obj} {n:String} {vs:Array Value} {Q:Unit→Shared→Prop} (ho:s.heap.get? it=some o) (hc:o.cls = .type n) (hd:o.data = .fields vs)
    (hn : ["enumerate","zip","dict_itemiterator","dict_reverseitemiterator","odict_iterator","itertools.zip_longest","itertools.pairwise"].contains n=false) (hQ:Q () s):wpAny M A (letOwnedTupleGo tg (.ref it) u) Q E s:=by
  unfold letOwnedTupleGo
  cases tg <;> first
    | exact wpAny_pure hQ
    | (cases u <;> first
        | exact wpAny_pure hQ
        | (refine wpAny_bind (wpAny_load ho ?_)
           rw [hc,hd]
           show wpAny M A (if (["enumerate","zip","dict_itemiterator","dict_reverseitemiterator","odict_iterator","itertools.zip_longest","itertools.pairwise"].contains n && vs[0]? == some (rawInt _))=true then _ else _) Q E s
           rw [if_neg (by intro h; rw [hn,Bool.false_and] at h; cases h)]
           exact wpAny_pure hQ))
def Itl (K:PySem.W.Frag) (a:Addr):It :=
  ⟨fun i H=>∃ xs x,SqL K H a xs∧xs[i]?=some x,fun i H x H'=>H'=H∧∀ xs,SqL K H a xs→xs[i]?=some x,fun i H=>∃ xs,SqL K H a xs∧xs.length ≤ i⟩
def Itr (lo:Int) (n:Nat):It:=⟨fun i _=>i < n,fun i H x H'=>H'=H∧x = .int (lo + i),fun i _=>n ≤ i⟩
theorem zmk {P:Program} {w:World} {K:PySem.W.Frag} {tg:Expr} (a it:Addr):Turn P w K tg (Itl K a) [it] it (fun i h=>h.IsListIter it a i) where
  mem:=by simp
  obj:=fun i h st b hb=>by
    have e:b=it:=by simpa using hb
    subst e
    obtain ⟨o,e,c,d⟩:=st
    exact ⟨o,e,fun v z=>by rw [d] at z; cases z⟩
  keep:=fun i h h' st k=>st.at fun o e=>k it (by simp) o e
  item:=by
    intro X hP hw hK hc i pins s σ H E I hf st hg
    subst hP hw hK
    obtain ⟨xs,x,hq,hx⟩:=hg
    obtain ⟨its,rv,p,hz⟩:=I.list hq
    obtain ⟨u,hu,ru⟩:=rv.get hx
    obtain ⟨f0,f1,f2,f3,f4,f5⟩:=hf it (by simp)
    refine wpAny_pyNext_list_item st p.isList (x:=u) (by simpa using hu) fun h' st' sb=>?_
    have I1:Inv X pins σ H { s with heap:=h' }:=I.turned (t':=s.toks) (fun b o hb e=>(sb.2 b hb).trans e) f0 f1 f3 f4 f5
    obtain ⟨o,e,c,d⟩:=id st'
    exact ⟨u,rfl,zpc (s:={ s with heap:=h' }) e c d (by decide) ⟨x,H,I1,ru,⟨rfl,fun ys hy=>by rw [I.list_inj hy hq]; exact hx⟩,st',fun b hb=>(hf b hb).1⟩⟩
  done:=by
    intro X hP hw hK hc i pins s σ H E I hf st hg
    subst hP hw hK
    obtain ⟨xs,hq,hx⟩:=hg
    obtain ⟨its,rv,p,hz⟩:=I.list hq
    obtain ⟨f0,f1,f2,f3,f4,f5⟩:=hf it (by simp)
    have hl:=rv.length
    exact wpAny_pyNext_list_end (I.ok.hd hc) st p.isList (by simp; omega) fun h' eb=>⟨rfl,I.turned (t':=s.toks) (fun b o hb e=>eb b o hb e) f0 f1 f3 f4 f5⟩
  self:=fun _ _ _ _ _ st h=>wpAny_pyIter_listiter st h
theorem zk8 {P:Program} {w:World} {K:PySem.W.Frag} {tg:Expr} (it:Addr) (lo:Int) (n:Nat):Turn P w K tg (Itr lo n) [it] it (fun i h=>IsRangeIter h it (lo + (i:Nat) * 1) ((n:Int) - (i:Nat)) 1) where
  mem:=by simp
  obj:=fun i h st b hb=>by
    have e:b=it:=by simpa using hb
    subst e
    exact ⟨_,st,fun v z=>by
      have z':Data.fields _=Data.cell v:=z
      cases z'⟩
  keep:=fun i h h' st k=>k it (by simp) _ st
  item:=by
    intro X hP hw hK hc i pins s σ H E I hf st hg
    subst hP hw hK
    obtain ⟨f0,f1,f2,f3,f4,f5⟩:=hf it (by simp)
    have W:=Walks.range (prog:=X.prog) (w:=X.w) (I.ok.hd hc) it lo 1 n
    refine W.item i s _ _ hg st fun v h' tk hv st' kk=>?_
    obtain ⟨t,rfl⟩:=hv
    have I1:Inv X pins σ H { s with heap:=h',toks:=tk }:=I.turned (fun b o hb e=>kk b o (by simpa using hb) e) f0 f1 f3 f4 f5
    refine ⟨_,rfl,zpc (s:={ s with heap:=h',toks:=tk }) (n:="range_iterator") st' rfl rfl (by decide) ⟨.int (lo + i),H,I1,⟨t,?_⟩,⟨rfl,rfl⟩,st',fun b hb=>(hf b hb).1⟩⟩
    rw [Int.mul_one]
  done:=by
    intro X hP hw hK hc i pins s σ H E I hf st hg
    subst hP hw hK
    obtain ⟨f0,f1,f2,f3,f4,f5⟩:=hf it (by simp)
    exact wpAny_pyNext_range_end (I.ok.hd hc) st (by have:n ≤ i:=hg; omega) fun h' eb=>⟨rfl,I.turned (t':=s.toks) (fun b o hb e=>eb b o hb e) f0 f1 f3 f4 f5⟩
  self:=fun _ _ _ _ _ st h=>wpAny_pyIter_rangeiter st h
end L2
namespace L2
open PySem PySem.Spec PyProof.Rows
section
variable {X:Cx} {tg:Expr}
def zoe (K:PySem.W.Frag) (tl:TE):TI:=fun σ H R=>tl σ H fun x H1=>∃ a,x = .ref a∧(∃ xs,SqL K H1 a xs)∧R (Itl K a) H1
theorem zbB {l:Expr} {tl:TE} (hl:PE X l tl):PI X tg l (zoe X.K tl):=by
  intro pins s σ H R I h
  refine thn (hl pins s σ H _ I h) fun v s1 ⟨x,H1,I1,r1,q1⟩=>?_
  obtain ⟨a,e,⟨xs,hq⟩,q⟩:=q1
  subst e
  cases r1
  obtain ⟨its,rv,p,hz⟩:=I1.list hq
  refine wpAny_pyIter_list p.isList ?_
  refine ⟨s1.heap.objs.size,[s1.heap.objs.size],_,_,H1,rfl,I1.kept (t':=s1.toks) fun b o e=>Heap.get?_push_of_some _ e,zmk a _,⟨_,Heap.get?_push_size _ rfl,rfl,rfl⟩,fun b hb=>?_,q⟩
  have e:b=s1.heap.objs.size:=by simpa using hb
  subst e
  exact I1.fpOk (Nat.le_refl _) (I1.hok.fresh (Nat.le_refl _))
theorem zkG {pins:List (Addr × Obj)} {σ:St} {H:Hp} {s:Shared} {R:It→Hp→Prop} {E:Value→Shared→Prop} {lo hi:Int} {t u v:Tok} {tk:Nat} (I:Inv X pins σ H s) (h1 : -(2 ^ 62) ≤ lo) (h2:lo < 2 ^ 62) (h3 : -(2 ^ 62) ≤ hi) (h4:hi < 2 ^ 62)
    (q:R (Itr lo (hi - lo).toNat) H):wpAny (model X.prog X.w) X.A (pyIter (.ref s.heap.objs.size)) (PIE X pins σ tg R) E { s with heap:=s.heap.push { cls:=.type "range",data:=.fields #[.int lo t,.int hi u,.int 1 v] },toks:=tk }:=by
  refine wpAny_pyIter_range (IsRange.new ..) (small_one h1 h2 h3 h4) ?_
  have I1:Inv X pins σ H { s with heap:=s.heap.push { cls:=.type "range",data:=.fields #[.int lo t,.int hi u,.int 1 v] },toks:=tk }:=I.kept fun b o e=>Heap.get?_push_of_some _ e
  refine ⟨(s.heap.push { cls:=.type "range",data:=.fields #[.int lo t,.int hi u,.int 1 v] }).objs.size,[(s.heap.push { cls:=.type "range",data:=.fields #[.int lo t,.int hi u,.int 1 v] }).objs.size],_,_,H,rfl,
    I1.kept (t':=tk) fun b o e=>Heap.get?_push_of_some _ e,zk8 _ lo (hi - lo).toNat,?_,fun b hb=>?_,q⟩
  · have e1:lo + ((0:Nat):Int) * 1=lo:=by simp
    have e2:(((hi - lo).toNat:Nat):Int) - ((0:Nat):Int)=Builtin.Range.rangeSize lo hi 1:=by rw [rangeSize_one]; split <;> omega
    show IsRangeIter _ _ (lo + ((0:Nat):Int) * 1) ((((hi - lo).toNat:Nat):Int) - ((0:Nat):Int)) 1
    rw [e1,e2]
    exact Heap.get?_push_size _ rfl
  · have e:b=(s.heap.push { cls:=.type "range",data:=.fields #[.int lo t,.int hi u,.int 1 v] }).objs.size:=by simpa using hb
    subst e
    exact I1.fpOk (Nat.le_refl _) (I1.hok.fresh (Nat.le_refl _))
def zpr (ta:TA):TI:=fun σ H R=>ta σ H fun vs H1=>∃ j:Int,vs = [.int j]∧-(2 ^ 62) ≤ j∧j < 2 ^ 62∧R (Itr 0 j.toNat) H1
def zpk (ta:TA):TI:=fun σ H R=>ta σ H fun vs H1=>∃ i j:Int,vs = [.int i,.int j]∧(-(2 ^ 62) ≤ i∧i < 2 ^ 62∧-(2 ^ 62) ≤ j∧j < 2 ^ 62)∧R (Itr i (j - i).toNat) H1
theorem zb0 {a:Expr} {ta:TA} {p pos:Pos} (hg:Gl X "range") (hm:X.mg "range"=none) (ha:PA X [a] ta) (hs:starEach [a] X.env = [(false,eval a X.env)]:=by rfl):PI X tg (.Call (.Name "range" p) [a] [] pos) (zpr ta):=by
  intro pins s σ H R I h
  refine Call_ (zgi I hg hm boot_range (PyProof.Rows.callWith_type1 (thn (ha pos pins s σ H _ I h) fun us s1 ⟨vs,H1,I1,r1,q1⟩=>?_) hs rfl))
  obtain ⟨j,e,q1,q2,q⟩:=q1
  subst e
  cases r1 with
  | cons r rr =>
    cases rr
    obtain ⟨t,rfl⟩:=r
    exact call_range_1 (zkG I1 (by omega) (by omega) q1 q2 (by simpa using q))
theorem zlD {a b:Expr} {ta:TA} {p pos:Pos} (hg:Gl X "range") (hm:X.mg "range"=none) (ha:PA X [a,b] ta) (hs:starEach [a,b] X.env = [(false,eval a X.env),(false,eval b X.env)]:=by rfl) (hs2:starEach [b] X.env = [(false,eval b X.env)]:=by rfl) :
    PI X tg (.Call (.Name "range" p) [a,b] [] pos) (zpk ta):=by
  intro pins s σ H R I h
  refine Call_ (zgi I hg hm boot_range (PyProof.Rows.callWith_type1 (thn (ha pos pins s σ H _ I h) fun us s1 ⟨vs,H1,I1,r1,q1⟩=>?_) (by rw [hs,hs2]) (by rw [hs2]; rfl)))
  obtain ⟨i,j,e,⟨q1,q2,q3,q4⟩,q⟩:=q1
  subst e
  cases r1 with
  | cons r rr =>
    cases rr with
    | cons r' rr =>
      cases rr
      obtain ⟨t,rfl⟩:=r
      obtain ⟨t',rfl⟩:=r'
      exact call_range_2 (zkG I1 q1 q2 q3 q4 q)
def tFor (wi:TI) (g:TG) (tb:TS):TS:=fun D σ H=>wi σ H fun J H1=>∃ W:Nat→Nat→St→Hp→Prop,(∃ m,W 0 m σ H1)∧∀ i m σ H,W i m σ H →
  (J.stop i H∧D.nx σ H)∨(J.go i H∧∃ N:St→Hp→Prop,(∀ σ' H',N σ' H'→∃ m',m' < m∧W (i + 1) m' σ' H')∧∀ x H',J.yld i H x H'→g x σ H' fun σ2 H2=>tb { D with nx:=N,ct:=N,bk:=D.nx } σ2 H2)
def zhV (fp:List Addr) (h:Heap):List (Addr × Obj):=fp.filterMap fun b=>(h.get? b).map fun o=>(b,o)
theorem zdZ {fp:List Addr} {h:Heap} {b:Addr} {o:Obj} (hb:b ∈ fp) (e:h.get? b=some o):(b,o) ∈ zhV fp h:=List.mem_filterMap.mpr ⟨b,hb,by rw [e]; rfl⟩
theorem zlL {fp:List Addr} {h:Heap} {p:Addr × Obj} (hp:p ∈ zhV fp h):p.1 ∈ fp∧h.get? p.1=some p.2:=by
  obtain ⟨b,hb,e⟩:=List.mem_filterMap.mp hp
  cases q:h.get? b with
  | none=>rw [q] at e; cases e
  | some o =>
    rw [q] at e
    have e':(b,o)=p:=Option.some.inj e
    subst e'
    exact ⟨hb,q⟩
theorem Inv.pinned {pins:List (Addr × Obj)} {σ:St} {H:Hp} {s:Shared} {fp:List Addr} (I:Inv X pins σ H s) (hf:∀ b ∈ fp,FpOk X pins H b) (ho:∀ b ∈ fp,∃ o,s.heap.get? b=some o∧∀ v,o.data ≠ .cell v):Inv X (pins ++ zhV fp s.heap) σ H s :=
  I.pins_of fun p hp=>(List.mem_append.mp hp).elim (fun z=>I.pin p (List.mem_append_right _ z)) fun z=>by
    obtain ⟨hb,e⟩:=zlL z
    obtain ⟨f0,f1,f2,_⟩:=hf p.1 hb
    obtain ⟨o,e',d⟩:=ho p.1 hb
    rw [e] at e'; cases e'
    exact ⟨e,f0,f1,f2,d⟩
theorem Inv.unpinned {pins pl:List (Addr × Obj)} {σ:St} {H:Hp} {s:Shared} (I:Inv X (pins ++ pl) σ H s):Inv X pins σ H s:=I.pins_of fun p hp=>I.pin p (List.mem_append_right _ (List.mem_append_left _ hp))
theorem zcM {iter:Expr} {body:List Stmt} {wi:TI} {g:TG} {tb:TS} {pos:Pos} (hp:PassesOwn (model X.prog X.w) X.A X.env X.xe) (hc:X.calm=true) (hi:PI X tg iter wi) (hg:PG X tg g) (hb:PSs X body tb)
    (hs:∀ x,foldedSetIterable iter X.env x=pure x:=by intro _; rfl):PS X (.For tg iter body [] pos) (tFor wi g tb):=by
  intro pins s σ H D I h
  refine wpAny_For (thn (hi pins s σ H _ I h) fun v s1 h1=>thn h1 fun itv s2 h2=>?_) hs
  obtain ⟨it,fp,tn,J,H2,e,I2,T,st2,f2,W,⟨m0,w0⟩,turn⟩:=h2
  subst e
  -- what stays true of the iterator's objects through the loop
  have stat:∀ {H':Hp},(∀ b ∈ fp,H' b=none)→∀ b ∈ fp,FpOk X pins H' b:=fun hn b hb=>⟨hn b hb,(f2 b hb).2⟩
  refine codeAny_forLoop_any (fun n s'=>∃ i σ' H',Inv X pins σ' H' s'∧tn i s'.heap∧(∀ b ∈ fp,H' b=none)∧W i n σ' H') ?_ m0 ⟨0,σ,H2,I2,st2,fun b hb=>(f2 b hb).1,w0⟩
  rintro n s3 ⟨i,σ3,H3,I3,st3,fr3,w3⟩
  rcases turn i n σ3 H3 w3 with ⟨stop,qn⟩ | ⟨go,N,hN,step⟩
  · refine wpAny_passesOwn hp (thn (T.done X rfl rfl rfl hc i pins s3 σ3 H3 X.xe I3 (stat fr3) st3 stop) fun r s4 ⟨hr,I4⟩=>?_)
    subst hr
    exact wpAny_execs_nil ⟨σ3,H3,I4,qn⟩
  · refine wpAny_passesOwn hp (thn (T.item X rfl rfl rfl hc i pins s3 σ3 H3 X.xe I3 (stat fr3) st3 go) fun r s4 ⟨u,hr,h4⟩=>?_)
    subst hr
    refine wpAny_passesOwn hp (thn h4 fun _ s5 ⟨x,H5,I5,r5,y5,st5,fr5⟩=>?_)
    have I5':=I5.pinned (stat fr5) (T.obj _ _ st5)
    refine wpAny_passesOwn hp (thn (hg _ s5 σ3 H5 x u _ I5' r5 (step x H5 y5)) fun _ s6 ⟨σ6,H6,I6,q6⟩=>?_)
    refine wpAny_passesOwn hp (thn (hb _ s6 σ6 H6 _ I6 q6) fun f s7 q7=>?_)
    have again:∀ {σ7:St} {H7:Hp},Inv X (pins ++ zhV fp s5.heap) σ7 H7 s7→N σ7 H7→∃ m,m < n∧∃ i σ' H',Inv X pins σ' H' s7∧tn i s7.heap∧(∀ b ∈ fp,H' b=none)∧W i m σ' H':=fun {σ7 H7} I7 n7=>by
      obtain ⟨m',hm,w7⟩:=hN σ7 H7 n7
      refine ⟨m',hm,i + 1,σ7,H7,I7.unpinned,T.keep _ _ _ st5 fun b hb o e=>(I7.pin (b,o) (List.mem_append_right _ (List.mem_append_right _ (zdZ hb e)))).1,fun b hb=>?_,w7⟩
      obtain ⟨o,e,d⟩:=T.obj _ _ st5 b hb
      exact (I7.pin (b,o) (List.mem_append_right _ (List.mem_append_right _ (zdZ hb e)))).2.1
    cases f with
    | next=>obtain ⟨σ7,H7,I7,n7⟩:=q7; exact again I7 n7
    | cont=>obtain ⟨σ7,H7,I7,n7⟩:=q7; exact again I7 n7
    | brk=>obtain ⟨σ7,H7,I7,q7⟩:=q7; exact ⟨σ7,H7,I7.unpinned,q7⟩
    | ret v=>obtain ⟨x7,σ7,H7,I7,r7,q7⟩:=q7; exact ⟨x7,σ7,H7,I7.unpinned,r7,q7⟩
end
end L2
namespace L2
open PySem PySem.Spec PyProof.Rows
abbrev R2:=V→V→Hp→VK→Prop
def OpR (X:Cx) (f:Value→Value→Sem Value) (r:R2):Prop :=
  ∀ (pins:List (Addr × Obj)) (s:Shared) (σ:St) (H:Hp) (x y:V) (v u:Value) (Q:VK),Inv X pins σ H s→RelV x v→RelV y u→r x y H Q →
    wpAny (model X.prog X.w) X.A (f v u) (EP X pins σ Q) X.xe s
def UnR (X:Cx) (f:Value→Sem Value) (r:V→Hp→VK→Prop):Prop :=
  ∀ (pins:List (Addr × Obj)) (s:Shared) (σ:St) (H:Hp) (x:V) (v:Value) (Q:VK),Inv X pins σ H s→RelV x v→r x H Q →
    wpAny (model X.prog X.w) X.A (f v) (EP X pins σ Q) X.xe s
def ze0 (X:Cx) (f:Value) (r:List V→Hp→VK→Prop):Prop :=
  ∀ (pins:List (Addr × Obj)) (s:Shared) (σ:St) (H:Hp) (xs:List V) (us:List Value) (Q:VK),Inv X pins σ H s→Vals xs us→r xs H Q →
    wpAny (model X.prog X.w) X.A (call f us) (EP X pins σ Q) X.xe s
def tOp (r:R2) (ta tb:TE):TE:=fun σ H Q=>ta σ H fun x H1=>tb σ H1 fun y H2=>r x y H2 Q
def tUn (r:V→Hp→VK→Prop) (ta:TE):TE:=fun σ H Q=>ta σ H fun x H1=>r x H1 Q
def rI (C:Int→Int→Prop) (g:Int→Int→V):R2:=fun x y H Q=>∃ i j,x = .int i∧y = .int j∧C i j∧Q (g i j) H
def rI0 (g:Int→Int→V):R2:=fun x y H Q=>∃ i j,x = .int i∧y = .int j∧Q (g i j) H
def rU (g:Int→V):V→Hp→VK→Prop:=fun x H Q=>∃ i,x = .int i∧Q (g i) H
section
variable {X:Cx} {a b c:Expr} {ta tb tc:TE} {pos:Pos}
theorem binT (ha:PE X a ta) (hb:PE X b tb) {pins:List (Addr × Obj)} {s:Shared} {σ:St} {H:Hp} {R:V→V→Hp→Prop} (I:Inv X pins σ H s)
    (h:ta σ H fun x H1=>tb σ H1 fun y H2=>R x y H2) {Q:Value→Shared→Prop} {f:Value→Value→Sem Value}
    (hf:∀ v u s2 x y H2,Inv X pins σ H2 s2→RelV x v→RelV y u→R x y H2→wpAny (model X.prog X.w) X.A (f v u) Q X.xe s2) :
    wpAny (model X.prog X.w) X.A (eval a X.env) (fun v s₁=>wpAny (model X.prog X.w) X.A (eval b X.env) (fun u s₂=>wpAny (model X.prog X.w) X.A (f v u) Q X.xe s₂) X.xe s₁) X.xe s:=by
  refine thn (ha pins s σ H _ I h) fun v s1 ⟨x,H1,I1,r1,q1⟩=>?_
  refine thn (hb pins s1 σ H1 _ I1 q1) fun u s2 ⟨y,H2,I2,r2,q2⟩=>?_
  exact hf v u s2 x y H2 I2 r1 r2 q2
theorem zav {op:Operator} {r:R2} (ho:OpR X (binaryOp op) r) (ha:PE X a ta) (hb:PE X b tb):PE X (.BinOp a op b pos) (tOp r ta tb):=by
  intro pins s σ H Q I h
  exact wpAny_BinOp (binT ha hb I h fun v u s2 x y H2 I2 rx ry q=>ho pins s2 σ H2 x y v u Q I2 rx ry q)
theorem zpp {op:UnaryOp} {r:V→Hp→VK→Prop} (ho:UnR X (unaryOp op) r) (ha:PE X a ta):PE X (.UnaryOp op a pos) (tUn r ta):=by
  intro pins s σ H Q I h
  exact UnaryOp_ (thn (ha pins s σ H _ I h) fun v s1 ⟨x,H1,I1,r1,q1⟩=>ho pins s1 σ H1 x v Q I1 r1 q1)
theorem opI {f:Value→Value→Sem Value} {C:Int→Int→Prop} {g:Int→Int→Int}
    (rule:∀ (i j:Int) (t u:Tok) (s:Shared) (Q:Value→Shared→Prop) (E:Value→Shared→Prop),C i j→Q (.int (g i j) s.toks) { s with toks:=s.toks + 1 }→wpAny (model X.prog X.w) X.A (f (.int i t) (.int j u)) Q E s) :
    OpR X f (rI C fun i j=>.int (g i j)):=by
  intro pins s σ H x y v u Q I rx ry h
  obtain ⟨i,j,rfl,rfl,hc,q⟩:=h
  obtain ⟨t,rfl⟩:=rx
  obtain ⟨t',rfl⟩:=ry
  exact rule i j t t' s _ _ hc ⟨.int (g i j),H,I.tok _,⟨_,rfl⟩,q⟩
theorem opI0 {f:Value→Value→Sem Value} {g:Int→Int→Int}
    (rule:∀ (i j:Int) (t u:Tok) (s:Shared) (Q:Value→Shared→Prop) (E:Value→Shared→Prop),Q (.int (g i j) s.toks) { s with toks:=s.toks + 1 }→wpAny (model X.prog X.w) X.A (f (.int i t) (.int j u)) Q E s) :
    OpR X f (rI0 fun i j=>.int (g i j)):=by
  intro pins s σ H x y v u Q I rx ry h
  obtain ⟨i,j,rfl,rfl,q⟩:=h
  obtain ⟨t,rfl⟩:=rx
  obtain ⟨t',rfl⟩:=ry
  exact rule i j t t' s _ _ ⟨.int (g i j),H,I.tok _,⟨_,rfl⟩,q⟩
theorem opB0 {f:Value→Value→Sem Value} {g:Int→Int→Bool}
    (rule:∀ (i j:Int) (t u:Tok) (s:Shared) (Q:Value→Shared→Prop) (E:Value→Shared→Prop),Q (.bool (g i j)) s→wpAny (model X.prog X.w) X.A (f (.int i t) (.int j u)) Q E s) :
    OpR X f (rI0 fun i j=>.bl (g i j)):=by
  intro pins s σ H x y v u Q I rx ry h
  obtain ⟨i,j,rfl,rfl,q⟩:=h
  obtain ⟨t,rfl⟩:=rx
  obtain ⟨t',rfl⟩:=ry
  exact rule i j t t' s _ _ ⟨.bl (g i j),H,I,rfl,q⟩
def CPow (i j:Int):Prop:=0 ≤ j∧j ≤ 1000000∧i.natAbs < 2 ^ 64
theorem zbp:OpR X (binaryOp .Add) (rI0 fun i j=>.int (i + j)):=opI0 fun _ _ _ _ _ _ _ q=>add_int q
theorem zgR:OpR X (binaryOp .Sub) (rI0 fun i j=>.int (i - j)):=opI0 fun _ _ _ _ _ _ _ q=>sub_int q
theorem zba:OpR X (binaryOp .Mod) (rI (fun _ j=>0 < j) fun i j=>.int (i % j)):=opI fun i j _ _ _ _ _ hc q=>by
  have h1:(0:Int) < j:=hc
  exact mod_int' (by omega) (by rw [Int.fmod_eq_emod_of_nonneg i (by omega)]; exact q)
theorem zf4:OpR X (binaryOp .Pow) (rI CPow fun i j=>.int (i ^ j.toNat)):=opI fun _ _ _ _ _ _ _ hc q=>pow_int_small hc.1 hc.2.1 hc.2.2 q
theorem unI {f:Value→Sem Value} {g:Int→Int}
    (rule:∀ (i:Int) (t:Tok) (s:Shared) (Q:Value→Shared→Prop) (E:Value→Shared→Prop),Q (.int (g i) s.toks) { s with toks:=s.toks + 1 }→wpAny (model X.prog X.w) X.A (f (.int i t)) Q E s) :
    UnR X f (rU fun i=>.int (g i)):=by
  intro pins s σ H x v Q I rx h
  obtain ⟨i,rfl,q⟩:=h
  obtain ⟨t,rfl⟩:=rx
  exact rule i t s _ _ ⟨.int (g i),H,I.tok _,⟨_,rfl⟩,q⟩
theorem znR:UnR X (unaryOp .USub) (rU fun i=>.int (-i)):=unI fun _ _ _ _ _ q=>neg_int q
end
def scal:V→V→Bool
  | .non,.non=>true | .non,.int _=>true | .int _,.non=>true | .non,.bl _=>true | .bl _,.non=>true | .non,.str _=>true | .str _,.non=>true
  | .int _,.int _=>true | .bl _,.bl _=>true | .str _,.str _=>true | .byt _,.byt _=>true
  | .int _,.str _=>true | .str _,.int _=>true | .bl _,.str _=>true | .str _,.bl _=>true
  | _,_=>false
def rEq:R2:=fun x y H Q=>scal x y=true∧Q (.bl (decide (x=y))) H
def rNe:R2:=fun x y H Q=>scal x y=true∧Q (.bl (!decide (x=y))) H
theorem zmy {i j:Int}:decide (V.int i=V.int j)=(i == j):=by
  rw [Bool.eq_iff_iff]
  simp
theorem znP {i j:Bool}:decide (V.bl i=V.bl j)=(i == j):=by
  rw [Bool.eq_iff_iff]
  simp
theorem zlz {i j:Str}:decide (V.str i=V.str j)=(i == j):=by
  rw [Bool.eq_iff_iff]
  simp
theorem zlO {i j:Array UInt8}:decide (V.byt i=V.byt j)=(i.toList == j.toList):=by
  rw [Bool.eq_iff_iff]
  cases i
  cases j
  simp
section
variable {X:Cx} {a b c:Expr} {ta tb tc:TE} {pos:Pos}
theorem zbz {pins:List (Addr × Obj)} {σ:St} {H:Hp} {s:Shared} {Q:VK} {k k':Bool} (I:Inv X pins σ H s) (q:Q (.bl k) H) (e:k=k'):EP X pins σ Q (.bool k') s:=by
  subst e
  exact ⟨.bl k,H,I,rfl,q⟩
theorem zdS:OpR X (compareOp .Eq) rEq:=by
  intro pins s σ H x y v u Q I rx ry h
  obtain ⟨hs,q⟩:=h
  cases x with
  | non =>
    cases rx
    cases y with
    | non=>cases ry; exact PySem.EqNone.eq_none_none (zbz I q (by simp))
    | bl j=>cases ry; exact PySem.EqNone.eq_none_bool (zbz I q (by simp))
    | int j=>obtain ⟨t',rfl⟩:=ry; exact PySem.EqNone.eq_none_int (zbz I q (by simp))
    | str j=>obtain ⟨t',rfl⟩:=ry; exact PySem.EqNone.eq_none_str (zbz I q (by simp))
    | _=>exact absurd (show false=true from hs) Bool.false_ne_true
  | bl i =>
    cases rx
    cases y with
    | non=>cases ry; exact PySem.EqNone.eq_bool_none (zbz I q (by simp))
    | bl j=>cases ry; exact eq_bool (zbz I q znP)
    | str j=>obtain ⟨t',rfl⟩:=ry; exact PySem.EqMixed.eq_bool_str (zbz I q (by simp))
    | _=>exact absurd (show false=true from hs) Bool.false_ne_true
  | int i =>
    obtain ⟨t,rfl⟩:=rx
    cases y with
    | non=>cases ry; exact PySem.EqNone.eq_int_none (zbz I q (by simp))
    | int j=>obtain ⟨t',rfl⟩:=ry; exact eq_int (zbz I q zmy)
    | str j=>obtain ⟨t',rfl⟩:=ry; exact PySem.EqMixed.eq_int_str (zbz I q (by simp))
    | _=>exact absurd (show false=true from hs) Bool.false_ne_true
  | str i =>
    obtain ⟨t,rfl⟩:=rx
    cases y with
    | non=>cases ry; exact PySem.EqNone.eq_str_none (zbz I q (by simp))
    | bl j=>cases ry; exact PySem.EqMixed.eq_str_bool (zbz I q (by simp))
    | int j=>obtain ⟨t',rfl⟩:=ry; exact PySem.EqMixed.eq_str_int (zbz I q (by simp))
    | str j=>obtain ⟨t',rfl⟩:=ry; exact eq_str (zbz I q zlz)
    | _=>exact absurd (show false=true from hs) Bool.false_ne_true
  | byt i =>
    obtain ⟨t,rfl⟩:=rx
    cases y with
    | byt j=>obtain ⟨t',rfl⟩:=ry; exact PySem.W.eq_bytes (zbz I q zlO)
    | _=>exact absurd (show false=true from hs) Bool.false_ne_true
  | _=>cases y <;> exact absurd (show false=true from hs) Bool.false_ne_true
theorem ziR:OpR X (compareOp .NotEq) rNe:=by
  intro pins s σ H x y v u Q I rx ry h
  obtain ⟨hs,q⟩:=h
  cases x with
  | non =>
    cases rx
    cases y with
    | non=>cases ry; exact PySem.EqNone.ne_none_none (zbz I q (by simp))
    | bl j=>cases ry; exact PySem.EqNone.ne_none_bool (zbz I q (by simp))
    | int j=>obtain ⟨t',rfl⟩:=ry; exact PySem.EqNone.ne_none_int (zbz I q (by simp))
    | str j=>obtain ⟨t',rfl⟩:=ry; exact PySem.EqNone.ne_none_str (zbz I q (by simp))
    | _=>exact absurd (show false=true from hs) Bool.false_ne_true
  | bl i =>
    cases rx
    cases y with
    | non=>cases ry; exact PySem.EqNone.ne_bool_none (zbz I q (by simp))
    | bl j=>cases ry; exact ne_bool (zbz I q (congrArg not znP))
    | str j=>obtain ⟨t',rfl⟩:=ry; exact PySem.EqMixed.ne_bool_str (zbz I q (by simp))
    | _=>exact absurd (show false=true from hs) Bool.false_ne_true
  | int i =>
    obtain ⟨t,rfl⟩:=rx
    cases y with
    | non=>cases ry; exact PySem.EqNone.ne_int_none (zbz I q (by simp))
    | int j=>obtain ⟨t',rfl⟩:=ry; exact ne_int (zbz I q (congrArg not zmy))
    | str j=>obtain ⟨t',rfl⟩:=ry; exact PySem.EqMixed.ne_int_str (zbz I q (by simp))
    | _=>exact absurd (show false=true from hs) Bool.false_ne_true
  | str i =>
    obtain ⟨t,rfl⟩:=rx
    cases y with
    | non=>cases ry; exact PySem.EqNone.ne_str_none (zbz I q (by simp))
    | bl j=>cases ry; exact PySem.EqMixed.ne_str_bool (zbz I q (by simp))
    | int j=>obtain ⟨t',rfl⟩:=ry; exact PySem.EqMixed.ne_str_int (zbz I q (by simp))
    | str j=>obtain ⟨t',rfl⟩:=ry; exact ne_str (zbz I q (congrArg not zlz))
    | _=>exact absurd (show false=true from hs) Bool.false_ne_true
  | byt i =>
    obtain ⟨t,rfl⟩:=rx
    cases y with
    | byt j=>obtain ⟨t',rfl⟩:=ry; exact PySem.W.ne_bytes (zbz I q (congrArg not zlO))
    | _=>exact absurd (show false=true from hs) Bool.false_ne_true
  | _=>cases y <;> exact absurd (show false=true from hs) Bool.false_ne_true
theorem zha:OpR X (compareOp .Lt) (rI0 fun i j=>.bl (decide (i < j))):=opB0 fun _ _ _ _ _ _ _ q=>lt_int q
theorem zmE:OpR X (compareOp .LtE) (rI0 fun i j=>.bl (decide (i ≤ j))):=opB0 fun _ _ _ _ _ _ _ q=>le_int q
theorem zgy:OpR X (compareOp .Gt) (rI0 fun i j=>.bl (decide (j < i))):=opB0 fun _ _ _ _ _ _ _ q=>gt_int q
theorem zpX:OpR X (compareOp .GtE) (rI0 fun i j=>.bl (decide (j ≤ i))):=opB0 fun _ _ _ _ _ _ _ q=>ge_int q
theorem zjC:OpR X (compareOp .Is) (fun x y H Q=>y = .non∧Q (.bl (decide (x = .non))) H):=by
  intro pins s σ H x y v u Q I rx ry h
  obtain ⟨rfl,q⟩:=h
  cases ry
  refine is_none_gen (zbz I q ?_)
  cases x <;> first
    | (cases rx; rfl)
    | (obtain ⟨t,rfl⟩:=rx; rfl)
theorem zaQ (b:Expr) {op:CmpOp} (h:op ≠ .In:=by decide) (h2:op ≠ .NotIn:=by decide):behindInMarks op b=false:=by
  have e1:(op == CmpOp.In)=false:=by cases op <;> first | rfl | exact absurd rfl h
  have e2:(op == CmpOp.NotIn)=false:=by cases op <;> first | rfl | exact absurd rfl h2
  cases b <;> simp [behindInMarks,e1,e2]
theorem ziE {op:CmpOp} {r:R2} (ho:OpR X (compareOp op) r) (ha:PE X a ta) (hb:PE X b tb) (hm:behindInMarks op b=false):PE X (.Compare a [op] [b] pos) (tOp r ta tb):=by
  intro pins s σ H Q I h
  exact wpAny_Compare1 (binT ha hb I h fun v u s2 x y H2 I2 rx ry q=>ho pins s2 σ H2 x y v u Q I2 rx ry q) hm
def zo0 (t:TE):TT:=fun σ H Q=>t σ H fun x H'=>∃ k,x = .bl k∧Q k H'
theorem zaA {op:CmpOp} {r:R2} (ho:OpR X (compareOp op) r) (ha:PE X a ta) (hb:PE X b tb) (hm:behindInMarks op b=false):PT X (.Compare a [op] [b] pos) (zo0 (tOp r ta tb)):=by
  intro pins s σ H Q I h
  refine wpAny_isTrue_Compare1 (thn (ha pins s σ H _ I h) fun v s1 ⟨x,H1,I1,r1,q1⟩=>thn (hb pins s1 σ H1 _ I1 q1) fun u s2 ⟨y,H2,I2,r2,q2⟩ =>
    thn (ho pins s2 σ H2 x y v u _ I2 r1 r2 q2) fun c s3 ⟨z,H3,I3,r3,k,e,q3⟩=>?_) hm
  subst e
  cases r3
  exact wpAny_truthy_bool ⟨H3,I3,q3⟩
def zn9 (r r':R2) (ta tb tc:TE):TE:=fun σ H Q=>ta σ H fun x H1=>tb σ H1 fun y H2=>r x y H2 fun z H3=>∃ k,z = .bl k ∧
  (if k=true then tc σ H3 fun w' H4=>r' y w' H4 Q else Q (.bl false) H3)
theorem zno {op op':CmpOp} {r r':R2} (ho:OpR X (compareOp op) r) (ho':OpR X (compareOp op') r') (ha:PE X a ta) (hb:PE X b tb) (hc:PE X c tc)
    (hm:lastMarks [op,op'] [b,c]=false:=by with_unfolding_all rfl):PE X (.Compare a [op,op'] [b,c] pos) (zn9 r r' ta tb tc):=by
  intro pins s σ H Q I h
  refine Compare_chain (thn (ha pins s σ H _ I h) fun v s1 ⟨x,H1,I1,r1,q1⟩=>chain_link (thn (hb pins s1 σ H1 _ I1 q1) fun u s2 ⟨y,H2,I2,r2,q2⟩ =>
    thn (ho pins s2 σ H2 x y v u _ I2 r1 r2 q2) fun d s3 ⟨z,H3,I3,r3,k,e,q3⟩=>?_)) hm
  subst e
  cases r3
  refine wpAny_truthy_bool ?_
  cases k with
  | false=>exact ite_ff ⟨.bl false,H3,I3,rfl,q3⟩
  | true=>exact ite_tt (chain_last (thn (hc pins s3 σ H3 _ I3 q3) fun w' s4 ⟨z',H4,I4,r4,q4⟩=>ho' pins s4 σ H4 y z' u w' Q I4 r2 r4 q4))
theorem zjq:(sizeLine:Nat) < 2 ^ 63:=by rw [sizeLine_eq]; decide
theorem zhh {x:V} {us:List Value} (r:Vals [x] us):∃ u,us = [u]∧RelV x u:=by
  cases r with
  | cons r1 r2=>cases r2; exact ⟨_,rfl,r1⟩
theorem zng {x y:V} {us:List Value} (r:Vals [x,y] us):∃ u w',us = [u,w']∧RelV x u∧RelV y w':=by
  cases r with
  | cons r1 r2 =>
    cases r2 with
    | cons r3 r4=>cases r4; exact ⟨_,_,rfl,r1,r3⟩
theorem zfv:ze0 X (.builtin "abs") (fun xs H Q=>∃ i,xs = [.int i]∧Q (.int (if i < 0 then -i else i)) H):=by
  intro pins s σ H xs us Q I r h
  obtain ⟨i,rfl,q⟩:=h
  obtain ⟨u,rfl,t,rfl⟩:=zhh r
  exact call_abs_int fun u tk=>⟨.int (if i < 0 then -i else i),H,I.tok _,⟨_,rfl⟩,q⟩
theorem ziV (hc:X.calm=true):ze0 X (.builtin "max") (fun xs H Q=>∃ i j,xs = [.int i,.int j]∧Q (.int (if j > i then j else i)) H):=by
  intro pins s σ H xs us Q I r h
  obtain ⟨i,j,rfl,q⟩:=h
  obtain ⟨u,w',rfl,⟨t,rfl⟩,⟨t',rfl⟩⟩:=zng r
  refine max_two_ints (I.ok.hd hc) fun h' tk k=>⟨_,H,I.kept k,?_,q⟩
  by_cases hj:j > i
  · rw [if_pos hj,if_pos hj]; exact ⟨_,rfl⟩
  · rw [if_neg hj,if_neg hj]; exact ⟨_,rfl⟩
theorem zhi (hc:X.calm=true):ze0 X (.builtin "min") (fun xs H Q=>∃ i j,xs = [.int i,.int j]∧Q (.int (if j < i then j else i)) H):=by
  intro pins s σ H xs us Q I r h
  obtain ⟨i,j,rfl,q⟩:=h
  obtain ⟨u,w',rfl,⟨t,rfl⟩,⟨t',rfl⟩⟩:=zng r
  refine min_two_ints (I.ok.hd hc) fun h' tk k=>⟨_,H,I.kept k,?_,q⟩
  by_cases hj:j < i
  · rw [if_pos hj,if_pos hj]; exact ⟨_,rfl⟩
  · rw [if_neg hj,if_neg hj]; exact ⟨_,rfl⟩
end
end L2
namespace L2
open PySem PySem.Spec PyProof.Rows
structure ObjM (h:Heap) (x dx C:Addr) (mA:Str→Option Value):Prop where
  obj:h.get? x=some (PySem.W.instObj C dx)
  ns:h.Ns1 dx mA
  ne:dx ≠ x
theorem zmP {h:Heap} {dx:Addr} {mA:Str→Option Value} (n:h.Ns1 dx mA):∃ od,h.get? dx=some od∧∀ name,PySem.W.lookIn name od=some (mA name):=by
  obtain ⟨o,es,ep,ho,hd,hk,_,hm⟩:=n
  refine ⟨o,ho,fun name=>?_⟩
  have e:=hm name
  unfold nsFind findBy at e
  rw [← Array.find?_toList] at e
  unfold PySem.W.lookIn
  rw [hd]
  dsimp only
  split
  · rename_i y q
    rw [q] at e
    exact congrArg some e
  · rename_i q
    rw [q] at e
    have a:es.toList.any (·.refKey)=false:=by
      rw [List.any_eq_false]
      intro y hy
      obtain ⟨z,t,hkey⟩:=hk y (Array.mem_toList_iff.mp hy)
      simp [DictEntry.refKey,hkey]
    have a':¬ es.toList.any (·.refKey)=true:=by rw [a]; exact Bool.false_ne_true
    rw [if_neg a']
    exact congrArg some e
theorem ObjM.look {h:Heap} {x dx C:Addr} {mA:Str→Option Value} (I:ObjM h x dx C mA):∃ od,PySem.W.InstAt h x (PySem.W.instObj C dx) C (some od)∧∀ name,PySem.W.lookIn name od=some (mA name) :=
  let ⟨od,ho,hl⟩:=zmP I.ns
  ⟨od,⟨I.obj,rfl,rfl,ho⟩,hl⟩
section
variable {prog:Program} {w:World} {A:Around} {E:Value→Shared→Prop} {s:Shared} {K:PySem.W.Frag} {x dx C f:Addr} {mA:Str→Option Value} {name:Str} {v:Value}
end
section
variable {P:Program} {w:World} {H H':Hp} {h h':Heap} {a C dx:Addr} {fs fs':List (Str × V)}
theorem zom (hok:HOk P w H h) (e:H a=some (.ins C dx fs)):∃ mA,ObjM h a dx C mA∧(∀ f,RelO (fs.lookup f) (mA f))∧PySem.Within mA (fs.map (·.1))∧fs.length ≤ 1000∧H dx=some (.own a):=by
  obtain ⟨d,z,ne,ob,mA,n,r,q⟩:=(show ObjOk P w H h a (.ins C dx fs) from hok a _ e)
  exact ⟨mA,⟨ob,n,ne⟩,r,q,z,d⟩
end
structure Cls (K:PySem.W.Frag) (C:Addr):Prop where
  pg:PySem.W.plainGet K C Str.empty=true
  hd:PySem.W.hasDictIn K C=true
  po:PySem.W.plainOver K C=true
  sa:PySem.W.findIn K (.ref C) "__setattr__"=some (some (.builtin "object.__setattr__"))
theorem Cls.get {K:PySem.W.Frag} {C:Addr} (c:Cls K C) (f:Str):PySem.W.plainGet K C f=true:=c.pg
section
variable {X:Cx} {pins:List (Addr × Obj)} {σ:St} {H:Hp} {s:Shared} {a C dx:Addr} {fs:List (Str × V)} {f:Str} {v:V} {A:Around} {E:Value→Shared→Prop}
end
section
variable {X:Cx} {o e value:Expr} {f:Str} {pos pos' tpos:Pos} {ta tv:TE}
end
section
variable {X:Cx} {pins:List (Addr × Obj)} {σ:St} {H:Hp} {s:Shared} {A:Around} {E:Value→Shared→Prop} {Q:Value→Shared→Prop} {c:Value} {b:Bool}
inductive TyOf (K:PySem.W.Frag) (H:Hp):V→Value→Prop where
  | non:TyOf K H .non (.type "NoneType")
  | bl (x:Bool):TyOf K H (.bl x) (.type "bool")
  | int (i:Int):TyOf K H (.int i) (.type "int")
  | str (x:Str):TyOf K H (.str x) (.type "str")
  | flt (x:UInt64):TyOf K H (.flt x) (.type "float")
  | lst {a:Addr} {xs:List V} (e:H a=some (.lst xs)):TyOf K H (.ref a) (.type "list")
  | frz {a:Addr} {o:Obj} {xs:List V} (e:H a=some (.frz o (.lst xs))):TyOf K H (.ref a) (.type "list")
  | tup {a:Addr} {xs:List V} (e:H a=some (.tup xs)):TyOf K H (.ref a) (.type "tuple")
  | dK {a:Addr} {kvs:List (Key × V)} (e:H a=some (.dK kvs)):TyOf K H (.ref a) (.type "dict")
  | dT {a:Addr} {kvs:List (List Key × V)} (e:H a=some (.dT kvs)):TyOf K H (.ref a) (.type "dict")
  | ins {a C dx:Addr} {fs:List (Str × V)} (e:H a=some (.ins C dx fs)) (cl:Cls K C) (ha:PySem.W.findIn K (.ref C) "__class__"=some (some (.builtin "object.__class__")))
      (hn:PySem.W.specialIn K (.builtin "object.__class__") "__get__"=some (some (.builtin "getset_descriptor.__get__"))) (htk:PySem.W.takesIn K (.builtin "object.__class__")=some true)
      (hm:PySem.W.mroIn K C (.type "object")=some true):TyOf K H (.ref a) (.ref C)
theorem zmD {x:V} {u t:Value} (I:Inv X pins σ H s) (rx:RelV x u) (ty:TyOf X.K H x t) (e:PySem.W.kitOne X.K t c=some b) (h:∀ tk,Q (.bool b) { s with toks:=tk }) :
    wpAny (model X.prog X.w) A (call (.builtin "isinstance") [u,c]) Q E s:=by
  cases ty with
  | non=>cases (show u=Value.none from rx); exact PySem.W.kia_one PySem.W.kitx_none I.kIn True.intro e (fun z=>nomatch z) h
  | bl y=>cases (show u=Value.bool y from rx); exact PySem.W.kia_one PySem.W.kitx_bool I.kIn True.intro e (fun z=>nomatch z) h
  | int i=>obtain ⟨t,q⟩:=(show ∃ t,u=Value.int i t from rx); cases q; exact PySem.W.kia_one PySem.W.kitx_int I.kIn True.intro e (fun z=>nomatch z) h
  | str y=>obtain ⟨t,q⟩:=(show ∃ t,u=Value.str y t from rx); cases q; exact PySem.W.kia_one PySem.W.kitx_str I.kIn True.intro e (fun z=>nomatch z) h
  | flt y=>obtain ⟨t,q⟩:=(show ∃ t,u=Value.float y t from rx); cases q; exact PySem.W.kia_one PySem.W.kitx_float I.kIn True.intro e (fun z=>nomatch z) h
  | @lst a xs ea =>
    cases (show u=Value.ref a from rx)
    obtain ⟨_,_,n,_,h1⟩:=(show ObjOk X.prog X.w H s.heap a (.lst xs) from I.hok a _ ea)
    exact PySem.W.kia_one PySem.W.kitx_list I.kIn ⟨_,h1,rfl⟩ e (fun z=>nomatch z) h
  | @frz a ob xs ea =>
    cases (show u=Value.ref a from rx)
    obtain ⟨_,_,_,n,_,h1⟩:=(show ObjOk X.prog X.w H s.heap a (.frz ob (.lst xs)) from I.hok a _ ea)
    exact PySem.W.kia_one PySem.W.kitx_list I.kIn ⟨_,h1,rfl⟩ e (fun z=>nomatch z) h
  | @tup a xs ea =>
    cases (show u=Value.ref a from rx)
    obtain ⟨_,_,_,p⟩:=(show ObjOk X.prog X.w H s.heap a (.tup xs) from I.hok a _ ea)
    obtain ⟨o,h1,h2,_⟩:=p
    exact PySem.W.kia_one PySem.W.kitx_tuple I.kIn ⟨o,h1,h2⟩ e (fun z=>nomatch z) h
  | @dK a kvs ea =>
    cases (show u=Value.ref a from rx)
    obtain ⟨_,_,vs,_,p⟩:=(show ObjOk X.prog X.w H s.heap a (.dK kvs) from I.hok a _ ea)
    obtain ⟨o,es,ep,h1,h2,_⟩:=p
    exact PySem.W.kia_one PySem.W.kitx_dict I.kIn ⟨o,h1,h2.1⟩ e (fun z=>nomatch z) h
  | @dT a kvs ea =>
    cases (show u=Value.ref a from rx)
    obtain ⟨_,_,xs,_,o,es,ep,h1,h2,_⟩:=(show ObjOk X.prog X.w H s.heap a (.dT kvs) from I.hok a _ ea)
    exact PySem.W.kia_one PySem.W.kitx_dict I.kIn ⟨o,h1,h2.1⟩ e (fun z=>nomatch z) h
  | @ins a C dx fs ea cl ha hn htk hm =>
    cases (show u=Value.ref a from rx)
    obtain ⟨mA,O,_⟩:=zom I.hok ea
    obtain ⟨od,J,_⟩:=O.look
    exact PySem.W.kia_one (PySem.W.kitx_own (cl.get _) cl.hd ha hn htk hm) I.kIn J e (fun z=>nomatch z) h
end
end L2
namespace L2
open PySem PySem.Spec PyProof.Rows
structure Room (k:Nat) (A:Around):Prop where
  hd:A.handled=none
  dp:A.depth + 3 * k + 5 < recursionLimit
  un:A.units + 16 * k + 200 < cLine
theorem Room.mono {j k:Nat} {A:Around} (r:Room k A) (h:j ≤ k):Room j A:=⟨r.hd,by have:=r.dp; omega,by have:=r.un; omega⟩
theorem Room.deeper {k:Nat} {A:Around} (r:Room (k + 1) A) (env:Env):Room k (A.deeper env) :=
  ⟨r.hd,by have:=r.dp; show A.depth + 1 + 3 * k + 5 < _; omega,by have:=r.un; show A.units + 3 + 16 * k + 200 < _; omega⟩
theorem Room.depth {k:Nat} {A:Around} (r:Room k A):A.depth < recursionLimit:=by have:=r.dp; omega
theorem Room.units {k:Nat} {A:Around} (r:Room k A):A.units + 64 < cLine:=by have:=r.un; omega
def tNil:TA:=fun _ H Q=>Q [] H
def zfH (ta:TE) (tr:TA):TA:=fun σ H Q=>ta σ H fun x H1=>tr σ H1 fun xs H2=>Q (x :: xs) H2
section
variable {X:Cx} {e:Expr} {es:List Expr} {te:TE} {t:TA} {pos:Pos}
theorem zah:PA X [] tNil:=fun _ _ _ _ H Q I h=>Calls.spliced_nil ⟨[],H,I,.nil,h⟩
theorem zab (ha:PE X e te) (hr:PA X es t) (hs:starEach (e :: es) X.env=(false,eval e X.env) :: starEach es X.env:=by rfl):PA X (e :: es) (zfH te t):=by
  intro pos pins s σ H Q I h
  rw [hs]
  show wpAny _ _ (spliced ((false,eval e X.env) :: backTo pos (starEach es X.env))) _ _ s
  refine Calls.spliced_cons (thn (ha pins s σ H _ I h) fun u s1 ⟨x,H1,I1,r1,q1⟩=>?_)
  exact thn (hr pos pins s1 σ H1 _ I1 q1) fun us s2 ⟨xs,H2,I2,r2,q2⟩=>⟨x :: xs,H2,I2,.cons r1 r2,q2⟩
def tTup (t:TA):TE:=fun σ H Q=>t σ H fun xs H1=>xs.length ≤ sizeLine∧∀ p,H1 p=none→Q (.ref p) (upd H1 p (.tup xs))
def tLst (t:TA):TE:=fun σ H Q=>t σ H fun xs H1=>xs.length ≤ sizeLine∧∀ p,H1 p=none→Q (.ref p) (upd H1 p (.lst xs))
theorem zcF {x1} (h:PA X es t):PE X (.Tuple es x1 pos) (tTup t):=by
  intro pins s σ H Q I hq
  refine wpAny_Tuple_spliced (thn (h pos pins s σ H _ I hq) fun us s1 ⟨xs,H1,I1,r,z,q⟩=>⟨by rw [← r.length]; exact z,?_⟩)
  have hf:H1 s1.heap.objs.size=none:=I1.hok.fresh (Nat.le_refl _)
  refine ⟨.ref s1.heap.objs.size,upd H1 s1.heap.objs.size (.tup xs),I1.laid (t':=s1.toks) (fun b u e=>Heap.get?_push_of_some _ e) (Nat.le_refl _) ?_,rfl,q _ hf⟩
  exact ⟨z,us,r,⟨_,Heap.get?_push_size _ rfl,rfl,_,rfl⟩⟩
theorem zcn (h:PA X es t):PE X (.List es pos) (tLst t):=by
  intro pins s σ H Q I hq
  refine wpAny_List_spliced (thn (h pos pins s σ H _ I hq) fun us s1 ⟨xs,H1,I1,r,z,q⟩=>⟨by rw [← r.length]; exact z,?_⟩)
  have hf:H1 s1.heap.objs.size=none:=I1.hok.fresh (Nat.le_refl _)
  refine ⟨.ref s1.heap.objs.size,upd H1 s1.heap.objs.size (.lst xs),I1.laid (t':=s1.toks) (fun b u e=>Heap.get?_push_of_some _ e) (Nat.le_refl _) ?_,rfl,q _ hf⟩
  exact ⟨z,us,0,r,Heap.get?_push_size _ rfl⟩
end
abbrev Sp:=List V→Hp→VK→XK→Prop
abbrev CXT:=List Env→Hp→Shared→XK→Value→Shared→Prop
structure Env0 (P:Program) (w:World) (K:PySem.W.Frag) (mg:Str→Option Value) (base:Heap) (A:Around) (outer:List Env) (s:Shared) (H:Hp):Prop where
  frames:A.frames=some outer
  mod:Mod K mg base
  bs:∀ b o,base.get? b=some o→s.heap.get? b=some o∧H b=none
  bsz:base.objs.size ≤ s.heap.objs.size
  funs:s.heap.FunFrames base outer
  frf:∀ b ∈ frs outer,H b=none
  hok:HOk P w H s.heap
  bare:AllBare s.gens
  tb:TbAt K H
def CE (outer:List Env) (P:Program) (w:World) (H:Hp) (s:Shared) (Q:VK) (u:Value) (s':Shared):Prop :=
  ∃ v H',s'.os=s.os∧AllBare s'.gens∧Un (frs outer) [] H H' s.heap s'.heap∧HOk P w H' s'.heap∧RelV v u∧Q v H'
def CR (CX:CXT) (outer:List Env) (P:Program) (w:World) (H:Hp) (s:Shared) (Q:VK) (E:XK) (r:Result) (s':Shared):Prop :=
  match r with
  | .ok (.ret u)=>CE outer P w H s Q u s'
  | .ok _=>False
  | .error e=>CX outer H s E e s'
structure FnOk (P:Program) (w:World) (K:PySem.W.Frag) (mg:Str→Option Value) (base:Heap) (CX:CXT) (k:Nat) (f:Addr) (fd:FuncData) (ps:List Str) (sp:Sp):Prop where
  len:∀ vs H Q E,sp vs H Q E→vs.length=ps.length
  run:∀ (A:Around) (outer:List Env) (s:Shared) (H:Hp) (args:Args) (us:List Value) (vs:List V) (Q:VK) (E:XK),Room k A→Env0 P w K mg base A outer s H→BindsTo s fd args (ps.zip us)→Vals vs us→sp vs H Q E →
    codeAny (model P w) A (.call (.ref f) args) (CR CX outer P w H s Q E) s
section
variable {X:Cx} {pins:List (Addr × Obj)} {σ:St} {H:Hp} {s s':Shared}
theorem Inv.env0 (I:Inv X pins σ H s):Env0 X.prog X.w X.K X.mg X.base X.A X.stack s H :=
  ⟨I.ok.frames,I.ok.mod,I.bs,Nat.le_trans I.ok.bsz I.sz,I.stack,I.stkFree,I.hok,I.bare,I.ok.tb.grown I.base.tbls⟩
theorem Inv.after {Q:VK} {u:Value} (I:Inv X pins σ H s) (h:CE X.stack X.prog X.w H s Q u s'):EP X pins σ Q u s':=by
  obtain ⟨v,H',os,bare,un,hok,r,q⟩:=h
  obtain ⟨hh,g,d,t,os'⟩:=s'
  obtain rfl:os'=s.os:=os
  exact ⟨v,H',I.call (h':=hh) (g':=g) (d':=d) (t':=t) (ch:=[]) un hok bare (fun b z=>absurd z (by simp)),r,q⟩
end
def zlW (sp:Sp) (dvs:List V) (E:XK) (t:TA):TE:=fun σ H Q=>t σ H fun vs H1=>sp (vs ++ dvs) H1 Q E
def Binds (K:PySem.W.Frag) (fd:FuncData) (ps:List Str) (ds:List Value):Prop :=
  ∀ (s:Shared) (us:List Value),K.In s.heap→(us ++ ds).length=ps.length→BindsTo s fd ⟨us,[]⟩ (ps.zip (us ++ ds))
theorem Binds.all {K:PySem.W.Frag} {fd:FuncData} {ps:List Str} (h:∀ us:List Value,us.length=ps.length→bindArgs fd ⟨us,[]⟩=pure (ps.zip us)):Binds K fd ps []:=fun s us _ hl=>by
  rw [List.append_nil] at hl ⊢
  exact .of_eq (h us hl)
def zi7 (CX:CXT) (X:Cx) (E:XK):Prop:=∀ (pins:List (Addr × Obj)) (σ:St) (H:Hp) (s:Shared) (e:Value) (s':Shared),Inv X pins σ H s→CX X.stack H s E e s'→X.xe e s'
section
variable {X:Cx} {CX:CXT} {k:Nat} {f C:Addr} {fd:FuncData} {ps:List Str} {sp:Sp} {dvs:List V} {ds:List Value} {E:XK} {x m:Str} {p pos apos:Pos} {e o:Expr} {es:List Expr} {ta:TE} {t:TA}
theorem zpy {pins:List (Addr × Obj)} {σ:St} {H:Hp} {s:Shared} {Q:VK} {us:List Value} {vs:List V} (F:FnOk X.prog X.w X.K X.mg X.base CX k f fd ps sp) (hr:Room k X.A) (hb:Binds X.K fd ps ds) (hd:Vals dvs ds) (hx:zi7 CX X E)
    (I:Inv X pins σ H s) (r:Vals vs us) (h:sp (vs ++ dvs) H Q E):wpAny (model X.prog X.w) X.A (call (.ref f) us) (EP X pins σ Q) X.xe s:=by
  have r2:Vals (vs ++ dvs) (us ++ ds):=r.append hd
  have hl:(us ++ ds).length=ps.length:=by rw [← r2.length]; exact F.len _ _ _ _ h
  refine wpAny_call (codeAny_mono (F.run X.A X.stack s H ⟨us,[]⟩ (us ++ ds) (vs ++ dvs) Q E hr I.env0 (hb s us I.kIn hl) r2 h) fun r s' hq=>?_)
  cases r with
  | error e=>exact hx pins σ H s e s' I hq
  | ok fl =>
    cases fl with
    | ret u=>exact I.after hq
    | next=>exact False.elim hq
    | brk=>exact False.elim hq
    | cont=>exact False.elim hq
theorem zoM (F:FnOk X.prog X.w X.K X.mg X.base CX k f fd ps sp) (hr:Room k X.A) (hg:Gl X x) (hm:X.mg x=some (.ref f)) (hk:PySem.W.keepIn X.K (.ref f)=true) (hb:Binds X.K fd ps ds) (hd:Vals dvs ds) (hx:zi7 CX X E)
    (ha:PA X (e :: es) t) (hdb:(x == ("__debug__" : Str))=false:=by decide) (he:starEach (e :: es) X.env=(false,eval e X.env) :: starEach es X.env:=by rfl) (hpl:(backTo pos (starEach es X.env)).any (·.1)=false:=by rfl) :
    PE X (.Call (.Name x p) (e :: es) [] pos) (zlW sp dvs E t):=by
  intro pins s σ H Q I h
  refine wpAny_Call_Name_kw (zfZ I hg hm ?_ hdb)
  refine PySem.W.callWith_K (h₀:=X.base) I.ok.mod.kin hk (thn (ha pos pins s σ H _ I h) fun us s1 ⟨vs,H1,I1,r,q⟩=>⟨I1.kIn,?_⟩) he hpl
  exact zpy F hr hb hd hx I1 r q
end
section
variable {X:Cx} {CX:CXT} {k:Nat} {f C:Addr} {fd:FuncData} {ps ks:List Str} {sp:Sp} {E:XK} {x m:Str} {p pos apos kpos:Pos} {e o:Expr} {es:List Expr} {kws:List Keyword} {te ta:TE} {t tk:TA} {nm:Option Str}
variable {g:List Value→List Value→List Value} {gV:List V→List V→List V}
end
structure FnScope (N P:List Str) (sc:Scope):Prop where
  kind:sc.kind = .function
  co:sc.isCoroutine=false
  gen:sc.isGenerator=false
  nd:N.Nodup
  pre:N.take P.length=P
  par:∀ x ∈ P,sc.names.lookup x=some .local∨sc.names.lookup x=some .cell
  nofree:∀ y ∈ sc.names,y.2 ≠ .free
theorem zi9 {kindOf:Str→Option NameKind} {x:Str}:∀ {binds:List (Str × Value)} {m:Str→Option Value},(∀ v,(x,v) ∉ binds)→bindL kindOf binds m x=m x
  | [],_,_=>rfl
  | (n,v) :: r,m,h=>by
    unfold bindL
    rw [zi9 fun w hw=>h w (List.mem_cons_of_mem _ hw)]
    split
    · have:x ≠ n:=by rintro rfl; exact h v List.mem_cons_self
      simp [this]
    · rfl
theorem zjw {kindOf:Str→Option NameKind} {x:Str}:∀ {binds:List (Str × Value)} {m:Str→Option Value},(∀ v,(x,v) ∉ binds)→bindC kindOf binds m x=m x
  | [],_,_=>rfl
  | (n,v) :: r,m,h=>by
    unfold bindC
    rw [zjw fun w hw=>h w (List.mem_cons_of_mem _ hw)]
    split
    · rfl
    · have:x ≠ n:=by rintro rfl; exact h v List.mem_cons_self
      simp [this]
theorem zjx {kindOf:Str→Option NameKind} {x:Str} {v:Value}:∀ {P:List Str} {vs:List Value} {i:Nat} {m:Str→Option Value},P.Nodup→P[i]?=some x→vs[i]?=some v→kindOf x=some .local →
    bindL kindOf (P.zip vs) m x=some v
  | [],_,_,_,_,h,_,_=>by simp at h
  | _ :: _,[],_,_,_,_,h,_=>by simp at h
  | p :: P,w :: vs,0,m,nd,h1,h2,hk=>by
    simp at h1 h2; subst h1; subst h2
    show bindL kindOf ((p,w) :: P.zip vs) m p=_
    unfold bindL
    rw [zi9 fun v hv=>(List.nodup_cons.mp nd).1 (List.of_mem_zip hv).1,if_pos hk]
    simp
  | p :: P,w :: vs,i + 1,m,nd,h1,h2,hk=>by
    show bindL kindOf ((p,w) :: P.zip vs) m x=_
    unfold bindL
    exact zjx (i:=i) (List.nodup_cons.mp nd).2 (by simpa using h1) (by simpa using h2) hk
theorem zjk {kindOf:Str→Option NameKind} {x:Str} {v:Value}:∀ {P:List Str} {vs:List Value} {i:Nat} {m:Str→Option Value},P.Nodup→P[i]?=some x→vs[i]?=some v→kindOf x ≠ some .local →
    bindC kindOf (P.zip vs) m x=some v
  | [],_,_,_,_,h,_,_=>by simp at h
  | _ :: _,[],_,_,_,_,h,_=>by simp at h
  | p :: P,w :: vs,0,m,nd,h1,h2,hk=>by
    simp at h1 h2; subst h1; subst h2
    show bindC kindOf ((p,w) :: P.zip vs) m p=_
    unfold bindC
    rw [zjw fun v hv=>(List.nodup_cons.mp nd).1 (List.of_mem_zip hv).1,if_neg hk]
    simp
  | p :: P,w :: vs,i + 1,m,nd,h1,h2,hk=>by
    show bindC kindOf ((p,w) :: P.zip vs) m x=_
    unfold bindC
    exact zjk (i:=i) (List.nodup_cons.mp nd).2 (by simpa using h1) (by simpa using h2) hk
def start (N:List Str) (vs:List V):St:=vs.map some ++ List.replicate (N.length - vs.length) none
def cxOf (CX:CXT) (P:Program) (w:World) (K:PySem.W.Frag) (mg:Str→Option Value) (base:Heap) (N:List Str) (qual:Str) (scope:Scope) (f:Addr) (cd:Value) (A:Around) (outer:List Env) (s:Shared) (H:Hp) (E:XK):Cx where
  prog:=P
  w:=w
  K:=K
  mg:=mg
  base:=base
  A:=A.deeper (envOfC qual scope s.heap.objs.size f cd)
  N:=N
  s₀:=s
  H₀:=H
  env:=envOfC qual scope s.heap.objs.size f cd
  outer:=outer
  stack:=envOfC qual scope s.heap.objs.size f cd :: outer
  ex:=[]
  calm:=true
  fn:=fun _=>true
  pn:=[]
  xe:=fun e s'=>wpAny (model P w) (A.deeper (envOfC qual scope s.heap.objs.size f cd)) (leaving (envOfC qual scope s.heap.objs.size f cd) e) (fun _ s''=>CX outer H s E e s'') (fun e' s''=>CX outer H s E e' s'') s'
theorem zky {sc:Scope} {n:Nat} {x:Str} (h:sc.names.lookup x=some .cell):∃ c,(cellsFrom n sc.names []).lookup x=some c:=by
  have q:=PySem.W.cellsFrom_some sc.names n [] (.inl h)
  exact Option.isSome_iff_exists.mp q
theorem zl9 {CX:CXT} {P:Program} {w:World} {K:PySem.W.Frag} {mg:Str→Option Value} {base:Heap} {N ps:List Str} {qual:Str} {scope:Scope} {f:Addr} {cd:Value} {A:Around} {outer:List Env} {s s1:Shared} {H:Hp} {E:XK} {us:List Value} {vs:List V}
    (S:FnScope N ps scope) (hd:A.handled=none) (e0:Env0 P w K mg base A outer s H) (hl:vs.length=ps.length) (r:Vals vs us)
    (x:InCallC s s.heap.objs.size (bindL (envOfC qual scope s.heap.objs.size f cd).kindOf (ps.zip us) fun _=>none) (cellsFrom (s.heap.objs.size + 1) scope.names []) (bindC (envOfC qual scope s.heap.objs.size f cd).kindOf (ps.zip us) fun _=>none) s1) :
    Inv (cxOf CX P w K mg base N qual scope f cd A outer s H E) [] (start N vs) H s1:=by
  have hpl:ps.length ≤ N.length:=by have:=congrArg List.length S.pre; rw [List.length_take] at this; omega
  obtain ⟨h1,tk,rfl,hk⟩:=x.done
  have noA:∀ b:Addr,b ∉ (cxOf CX P w K mg base N qual scope f cd A outer s H E).ex:=fun b z=>absurd (show b ∈ ([]:List Addr) from z) (by simp)
  refine ⟨⟨e0.mod,S.kind,rfl,rfl,Nat.le_refl _,fun y z c h1 h2=>?_,fun y hy=>?_,fun y c _ h=>?_,fun _=>hd,Around.frames_deeper e0.frames,.inr ⟨rfl,rfl⟩,fun b z=>absurd z (noA b),e0.bs,e0.bsz,fun b _ _=>noA b,fun b z=>absurd z (noA b),e0.funs,e0.frf,e0.tb⟩,
    rfl,e0.bare,Un.kept hk,⟨_,x.toInCall.ns,fun i y v h1 h2 h3=>?_⟩,fun y c h=>⟨_,x.cell y c h⟩,e0.hok.fresh (Nat.le_refl _),fun y c h=>?_,fun p hp=>absurd (show p ∈ ([]:List (Addr × Obj)) from hp) (by simp),e0.hok.kept hk,?_⟩
  · exact name_of_addr x.apart (PySem.mem_of_lookup h1) (PySem.mem_of_lookup h2)
  · have hy:scope.names.lookup y=some .cell∨scope.names.lookup y=some .free:=hy
    rcases hy with hy | hy
    · exact zky hy
    · exact absurd rfl (S.nofree _ (PySem.mem_of_lookup hy))
  · exact Nat.le_of_lt (x.above y c (PySem.mem_of_lookup h))
  · have hi:i < vs.length:=by
      unfold start at h2
      by_cases hi:i < vs.length
      · exact hi
      · rw [List.getElem?_append_right (by simpa using hi)] at h2
        rw [List.getElem?_replicate] at h2
        split at h2 <;> cases h2
    have ha:vs[i]?=some v:=by
      unfold start at h2
      rw [List.getElem?_append_left (by simpa using hi),List.getElem?_map] at h2
      cases e:vs[i]? with
      | none=>rw [e] at h2; cases h2
      | some a=>rw [e] at h2; cases h2; rfl
    obtain ⟨u,hu,rv⟩:=r.get ha
    have hp:ps[i]?=some y:=by
      rw [← S.pre,List.getElem?_take_of_lt (by omega)]; exact h1
    have ndP:ps.Nodup:=by rw [← S.pre]; exact S.nd.sublist (List.take_sublist _ _)
    refine ⟨u,rv,?_⟩
    rcases S.par y (List.mem_of_getElem? hp) with k | k
    · exact .inl ⟨k,zjx ndP hp hu k⟩
    · obtain ⟨c,e⟩:=zky (n:=s.heap.objs.size + 1) k
      refine .inr ⟨.inl k,c,e,?_⟩
      have q:=x.cell y c e
      rw [zjk ndP hp hu (by show scope.names.lookup y ≠ _; rw [k]; decide)] at q
      exact q
  · exact e0.hok.fresh (Nat.le_of_lt (x.above y c (PySem.mem_of_lookup h)))
  · unfold start
    show _=N.length
    rw [List.length_append,List.length_map,List.length_replicate]
    omega
theorem zpu {CX:CXT} {P:Program} {w:World} {K:PySem.W.Frag} {mg:Str→Option Value} {base:Heap} {k:Nat} {f:Addr} {name qual:Str} {params:Arguments} {body:List Stmt} {scope:Scope} {dV kV doc pm cdv ct oc:Value} {an od:Option Addr}
    {osl:Array (Option Value)} {N ps:List Str} {sp:Sp} (lk:K.lookup f=some ⟨oc,od,.func (PySem.W.fnOf name qual params body scope dV kV doc pm an cdv ct),osl⟩) (hcd:PySem.W.codeIn K cdv qual=true) (S:FnScope N ps scope)
    (len:∀ vs H Q E,sp vs H Q E→vs.length=ps.length)
    (hbody:∀ (A:Around) (outer:List Env) (s:Shared) (H:Hp) (vs:List V) (Q:VK) (E:XK),Room k (A.deeper (envOfC qual scope s.heap.objs.size f cdv))→sp vs H Q E →
      ∃ t,PSs (cxOf CX P w K mg base N qual scope f cdv A outer s H E) body t∧t { nx:=fun _ H'=>Q .non H',rt:=Q } (start N vs) H) :
    FnOk P w K mg base CX (k + 1) f (PySem.W.fnOf name qual params body scope dV kV doc pm an cdv ct) ps sp:=by
  refine ⟨len,fun A outer s H args us vs Q E hr e0 hb r hsp=>?_⟩
  have hl:=len _ _ _ _ hsp
  have KX:K.In s.heap:=e0.mod.kin.keeps fun b o e=>(e0.bs b o e).1
  have lim:s.heap.NoLimit:=e0.mod.nolimit.keeps fun b o e=>(e0.bs b o e).1
  have hkind:∀ y ∈ ps.zip us,scope.names.lookup y.1=some .local∨(scope.names.lookup y.1=some .cell∧((cellsFrom (s.heap.objs.size + 1) scope.names []).lookup y.1).isSome=true):=fun ⟨n,v⟩ hy=>by
    rcases S.par n (List.of_mem_zip hy).1 with q | q
    · exact .inl q
    · exact .inr ⟨q,PySem.W.cellsFrom_some _ _ _ (.inl q)⟩
  refine codeAny_call_function hr.depth (KX _ _ lk) rfl S.co S.gen rfl (PySem.W.codeRec_of KX hcd) (hb _ _ _ _ ?_)
  refine wpAny_newFunctionEnv_cells S.kind hkind fun env he s1 x=>?_
  subst he
  refine ⟨lim.keeps x.toInCall.keep,codeAny_func ?_⟩
  obtain ⟨t,ht,hq⟩:=hbody A outer s H vs Q E (hr.deeper _) hsp
  have I:Inv (cxOf CX P w K mg base N qual scope f cdv A outer s H E) [] (start N vs) H s1:=zl9 S hr.hd e0 hl r x
  refine wpAny_mono (ht [] s1 (start N vs) H _ I hq) (fun fl s' hs=>?_) fun e s' hs=>hs
  have fin:∀ {σ':St} {H':Hp} {v:V} {u:Value},Inv (cxOf CX P w K mg base N qual scope f cdv A outer s H E) [] σ' H' s'→RelV v u→Q v H'→CE outer P w H s Q u s' :=
    fun {σ' H' v u} J rv q=>⟨v,H',J.os,J.bare,J.base,J.hok,rv,q⟩
  cases fl with
  | ret u =>
    obtain ⟨v,σ',H',J,rv,q⟩:=hs
    exact fin J rv q
  | next =>
    obtain ⟨σ',H',J,q⟩:=hs
    exact fin (v:=V.non) (u:=Value.none) J rfl q
  | brk =>
    obtain ⟨_,_,_,q⟩:=hs
    exact False.elim q
  | cont =>
    obtain ⟨_,_,_,q⟩:=hs
    exact False.elim q
end L2
namespace L2
open PySem PySem.Spec PyProof.Rows
section
variable {X:Cx} {x:Str} {p pos:Pos} {e:Expr} {es:List Expr} {t:TA} {id T:String} {r:List V→Hp→VK→Prop}
def tCB (r:List V→Hp→VK→Prop) (t:TA):TE:=fun σ H Q=>t σ H fun vs H1=>r vs H1 Q
theorem zaw (hc:ze0 X (.builtin id) r) (hg:Gl X x) (hm:X.mg x=none) (hv:bootBuiltins x=some (.builtin id)) (ha:PA X (e :: es) t) (hn:x ≠ "__name__":=by decide) (hdb:(x == ("__debug__" : Str))=false:=by decide)
    (he:starEach (e :: es) X.env=(false,eval e X.env) :: starEach es X.env:=by rfl) (hpl:(backTo pos (starEach es X.env)).any (·.1)=false:=by rfl):PE X (.Call (.Name x p) (e :: es) [] pos) (tCB r t):=by
  intro pins s σ H Q I h
  refine wpAny_Call_Name_kw (zgi I hg hm hv ?_ hn hdb)
  exact PyProof.Rows.callWith_builtin1 (thn (ha pos pins s σ H _ I h) fun us s1 ⟨vs,H1,I1,r1,q1⟩=>hc pins s1 σ H1 vs us Q I1 r1 q1) he hpl
theorem zdH (hc:ze0 X (.type T) r) (hg:Gl X x) (hm:X.mg x=none) (hv:bootBuiltins x=some (.type T)) (ha:PA X (e :: es) t) (hn:x ≠ "__name__":=by decide) (hdb:(x == ("__debug__" : Str))=false:=by decide)
    (he:starEach (e :: es) X.env=(false,eval e X.env) :: starEach es X.env:=by rfl) (hpl:(backTo pos (starEach es X.env)).any (·.1)=false:=by rfl):PE X (.Call (.Name x p) (e :: es) [] pos) (tCB r t):=by
  intro pins s σ H Q I h
  refine wpAny_Call_Name_kw (zgi I hg hm hv ?_ hn hdb)
  exact PyProof.Rows.callWith_type1 (thn (ha pos pins s σ H _ I h) fun us s1 ⟨vs,H1,I1,r1,q1⟩=>hc pins s1 σ H1 vs us Q I1 r1 q1) he hpl
end
end L2
namespace HT
open PySem PyProof.Rows
section
open PySem.SeqAt
open PySem.AutoSeq1 (wpAny_loadPart')
open PySem.MeetsSeq PySem.MeetsSeq2 PySem.MeetsSeq3
end
section
variable {prog:Program} {w:World} {A:Around} {E:Value→Shared→Prop} {s:Shared}
def sIx (n d:Nat):Option Int→Nat
  | none=>d
  | some v=>if v < 0 then (v + (n:Int)).toNat else min v.toNat n
end
end HT
namespace L2
open PySem PySem.Spec PyProof.Rows
abbrev TO:=St→Hp→(Option Int→Hp→Prop)→Prop
def PO (X:Cx) (e:Option Expr) (t:TO):Prop :=
  ∀ (pins:List (Addr × Obj)) (s:Shared) (σ:St) (H:Hp) (Q:Option Int→Hp→Prop),Inv X pins σ H s→t σ H Q →
    wpAny (model X.prog X.w) X.A (evalPart e X.env) (fun u s'=>∃ o H',Inv X pins σ H' s'∧IsPart u o∧Q o H') X.xe s
def zlQ:TO:=fun _ H Q=>Q none H
def zo3 (t:TE):TO:=fun σ H Q=>t σ H fun x H1=>∃ i,x = .int i∧Q (some i) H1
section
variable {X:Cx} {e:Expr} {te:TE} {lo hi:Option Expr} {tl th:TO} {pos p2:Pos}
theorem zdV:PO X none zlQ:=by
  intro pins s σ H Q I h
  rw [evalPart_none]
  exact wpAny_pure ⟨none,H,I,.none,h⟩
theorem zdb (h:PE X e te):PO X (some e) (zo3 te):=by
  intro pins s σ H Q I hw
  rw [evalPart_some]
  refine thn (h pins s σ H _ I hw) fun u s1 ⟨x,H1,I1,r1,q1⟩=>?_
  obtain ⟨i,rfl,q⟩:=q1
  obtain ⟨t,rfl⟩:=r1
  exact ⟨some i,H1,I1,.int i t,q⟩
def SlR (X:Cx) (r:V→Option Int→Option Int→Hp→VK→Prop):Prop :=
  ∀ (pins:List (Addr × Obj)) (s:Shared) (σ:St) (H:Hp) (x:V) (v vl vu:Value) (lo hi:Option Int) (sl:Addr) (Q:VK),Inv X pins σ H s→RelV x v→s.heap.IsSliceOf sl vl vu .none→IsPart vl lo→IsPart vu hi→r x lo hi H Q →
    ∃ T id,typeLookup (.type T) "__getitem__"=pure (some (.builtin id))∧s.TypeIs v T∧wpAny (model X.prog X.w) X.A (getItem v (.ref sl)) (EP X pins σ Q) X.xe s
def tSl (r:V→Option Int→Option Int→Hp→VK→Prop) (te:TE) (tl th:TO):TE:=fun σ H Q=>te σ H fun x H1=>tl σ H1 fun l H2=>th σ H2 fun u H3=>r x l u H3 Q
theorem zcB {r:V→Option Int→Option Int→Hp→VK→Prop} (hr:SlR X r) (he:PE X e te) (hl:PO X lo tl) (hu:PO X hi th):PE X (.Subscript e (.Slice lo hi none p2) pos) (tSl r te tl th):=by
  intro pins s σ H Q I h
  refine Subscript_ (thn (he pins s σ H _ I h) fun v s1 ⟨x,H1,I1,r1,q1⟩=>?_)
  refine wpAny_Slice (thn (hl pins s1 σ H1 _ I1 q1) fun vl s2 ⟨l,H2,I2,pl,q2⟩=>thn (hu pins s2 σ H2 _ I2 q2) fun vu s3 ⟨u,H3,I3,pu,q3⟩=>?_)
  rw [evalPart_none]
  refine wpAny_pure ?_
  have I4:Inv X pins σ H3 { s3 with heap:=s3.heap.push { cls:=.type "slice",data:=.fields #[vl,vu,.none] } }:=I3.kept (t':=s3.toks) fun b ob q=>Heap.get?_push_of_some _ q
  obtain ⟨T,id,hT,ht,hg⟩:=hr pins { s3 with heap:=s3.heap.push { cls:=.type "slice",data:=.fields #[vl,vu,.none] } } σ H3 x v vl vu l u s3.heap.objs.size Q I4 r1 (Heap.IsSliceOf.new ..) pl pu q3
  show wpAny (model X.prog X.w) X.A (subscriptTail e (.Slice lo hi none p2) v (.ref s3.heap.objs.size)) (EP X pins σ Q) X.xe { s3 with heap:=s3.heap.push { cls:=.type "slice",data:=.fields #[vl,vu,.none] } }
  exact tail_any (ops:=[.ref s3.heap.objs.size,v]) ht hT hg (by with_unfolding_all rfl)
def cutV (xs:List V) (lo hi:Option Int):List V:=(xs.drop (HT.sIx xs.length 0 lo)).take (HT.sIx xs.length xs.length hi - HT.sIx xs.length 0 lo)
theorem zjW (xs:List V) (lo hi:Option Int):(cutV xs lo hi).length ≤ xs.length:=by
  unfold cutV
  rw [List.length_take,List.length_drop]
  omega
end
end L2
namespace L2
open PySem PySem.Spec PyProof.Rows
def ixN (n:Nat) (i:Int):Option Nat:=if 0 ≤ i then (if i < n then some i.toNat else none) else if -(n:Int) ≤ i then some (i + n).toNat else none
def atI {α:Type} (xs:List α) (i:Int):Option α:=(ixN xs.length i).bind fun j=>xs[j]?
theorem zmX {n:Nat} {i:Int} {j:Nat} (h:ixN n i=some j):seqIndex? i n=some j∧j < n∧-(n:Int) ≤ i∧i < n:=by
  unfold ixN at h
  by_cases h0:0 ≤ i
  · rw [if_pos h0] at h
    by_cases h1:i < n
    · rw [if_pos h1] at h
      have e:i.toNat=j:=Option.some.inj h
      exact ⟨by rw [seqIndex_of h0 h1,e],by omega,by omega,h1⟩
    · rw [if_neg h1] at h; cases h
  · rw [if_neg h0] at h
    by_cases h1 : -(n:Int) ≤ i
    · rw [if_pos h1] at h
      have e:(i + n).toNat=j:=Option.some.inj h
      exact ⟨by rw [seqIndex_neg (by omega) h1,e],by omega,h1,by omega⟩
    · rw [if_neg h1] at h; cases h
theorem zmv {α:Type} {xs:List α} {i:Int} {v:α} (h:atI xs i=some v):∃ j,seqIndex? i xs.length=some j∧xs[j]?=some v∧j < xs.length∧-(xs.length:Int) ≤ i∧i < xs.length:=by
  unfold atI at h
  cases e:ixN xs.length i with
  | none=>rw [e] at h; cases h
  | some j =>
    rw [e] at h
    obtain ⟨h1,h2,h3,h4⟩:=zmX e
    exact ⟨j,h1,h,h2,h3,h4⟩
theorem atI_nat {α:Type} {xs:List α} {j:Nat} {v:α} (h:xs[j]?=some v):atI xs (j:Int)=some v:=by
  have hj:j < xs.length:=(List.getElem?_eq_some_iff.mp h).1
  have e:ixN xs.length (j:Int)=some j:=by
    unfold ixN
    rw [if_pos (by omega),if_pos (by omega)]; simp
  unfold atI; rw [e]; exact h
def zoH (b:Expr):Prop:=∀ o i,subscripted b false o i=operate [o,i] (getItem o i)
def IxR (X:Cx) (r:R2):Prop :=
  ∀ (value slice:Expr) (pins:List (Addr × Obj)) (s:Shared) (σ:St) (H:Hp) (x y:V) (v u:Value) (Q:VK),Inv X pins σ H s→RelV x v→RelV y u→r x y H Q →
    subscripted slice false v u=operate [v,u] (getItem v u)→wpAny (model X.prog X.w) X.A (subscriptTail value slice v u) (EP X pins σ Q) X.xe s
def MtR (X:Cx) (id:String) (r:V→List V→Hp→VK→Prop):Prop :=
  ∀ (pins:List (Addr × Obj)) (s:Shared) (σ:St) (H:Hp) (x:V) (xs:List V) (v:Value) (us:List Value) (Q:VK),Inv X pins σ H s→RelV x v→Vals xs us→r x xs H Q →
    wpAny (model X.prog X.w) X.A (call (.builtin id) (v :: us)) (EP X pins σ Q) X.xe s
section
variable {X:Cx} {a b:Expr} {ta tb:TE} {pos:Pos}
theorem zaI {r:R2} (hr:IxR X r) (ha:PE X a ta) (hb:PE X b tb) (hs:zoH b):PE X (.Subscript a b pos) (tOp r ta tb):=by
  intro pins s σ H Q I h
  exact Subscript_ (binT ha hb I h fun v u s2 x y H2 I2 rx ry q=>hr a b pins s2 σ H2 x y v u Q I2 rx ry q (hs _ _))
def rIxL (K:PySem.W.Frag):R2:=fun x y H Q=>∃ p xs i v,x = .ref p∧y = .int i∧SqL K H p xs∧atI xs i=some v∧Q v H
def rIxT (K:PySem.W.Frag):R2:=fun x y H Q=>∃ p xs i v,x = .ref p∧y = .int i∧SqT K H p xs∧atI xs i=some v∧Q v H
theorem zaO:IxR X (rIxL X.K):=by
  intro value slice pins s σ H x y v u Q I rx ry h hs
  obtain ⟨p,xs,i,z,rfl,rfl,hq,he,q⟩:=h
  cases rx
  obtain ⟨t,rfl⟩:=ry
  obtain ⟨its,r,pl,hz⟩:=I.list hq
  obtain ⟨j,h1,h2,h3,h4,h5⟩:=zmv he
  obtain ⟨w,ew,rw'⟩:=r.get h2
  have hl:=r.length
  have hn:=zjq
  have fin:EP X pins σ Q w s:=⟨z,H,I,rw',q⟩
  by_cases h0:0 ≤ i
  · have hj:i.toNat=j:=by
      rw [seqIndex_of h0 h5] at h1
      exact Option.some.inj h1
    exact item_listR pl.isList h0 (by omega) (by rw [hj]; simpa using ew) fin hs
  · have hj:(i + (its.toArray.size:Int)).toNat=j:=by
      rw [seqIndex_neg (by omega) h4] at h1
      rw [List.size_toArray,← hl]
      exact Option.some.inj h1
    exact subscriptTail_builtinR (x:=w) pl.isList.typeIs slot_list_getitem.lookup
      (wpAny_getItem_list_neg (Q:=fun r s'=>r=w∧EP X pins σ Q r s') pl.isList (by omega) (by rw [List.size_toArray] <;> omega) (by omega) (by rw [hj]; simpa using ew) ⟨rfl,fin⟩) hs
theorem zaT:IxR X (rIxT X.K):=by
  intro value slice pins s σ H x y v u Q I rx ry h hs
  obtain ⟨p,xs,i,z,rfl,rfl,hq,he,q⟩:=h
  cases rx
  obtain ⟨t,rfl⟩:=ry
  obtain ⟨its,r,pl,hz⟩:=I.tuple hq
  obtain ⟨j,h1,h2,h3,h4,h5⟩:=zmv he
  obtain ⟨w,ew,rw'⟩:=r.get h2
  have hl:=r.length
  have hn:=zjq
  have fin:EP X pins σ Q w s:=⟨z,H,I,rw',q⟩
  exact subscriptTail_builtinR (x:=w) pl.typeIs slot_tuple_getitem.lookup
    (getItem_tuple (j:=j) (Q:=fun r s'=>r=w∧EP X pins σ Q r s') pl (by omega) (by omega) (by rw [List.size_toArray,← hl]; exact h1) (by simpa using ew) ⟨rfl,fin⟩) hs
theorem zld (its:List Value) (n j:Nat) (u:Value):Obj.mapSeq (·.setIfInBounds j u) { cls:=.type "list",data:=.seq its.toArray n } = { cls:=.type "list",data:=.seq (its.set j u).toArray n }:=by
  simp [Obj.mapSeq]
theorem Inv.lst {pins:List (Addr × Obj)} {σ:St} {H:Hp} {s:Shared} {p:Addr} {xs:List V} (I:Inv X pins σ H s) (h:H p=some (.lst xs)) :
    ∃ (its:List Value) (n:Nat),Vals xs its∧s.heap.get? p=some { cls:=.type "list",data:=.seq its.toArray n }∧xs.length ≤ sizeLine:=by
  obtain ⟨z,its,n,r,e⟩:=I.hok p _ h
  exact ⟨its,n,r,e,z⟩
theorem Inv.lstUpd {pins:List (Addr × Obj)} {σ:St} {H:Hp} {s:Shared} {p:Addr} {xs ys:List V} {its its':List Value} {n n':Nat} {f:Obj→Obj} (I:Inv X pins σ H s) (h:H p=some (.lst xs))
    (ho:s.heap.get? p=some { cls:=.type "list",data:=.seq its.toArray n }) (hf:f { cls:=.type "list",data:=.seq its.toArray n } = { cls:=.type "list",data:=.seq its'.toArray n' }) (r:Vals ys its') (hz:ys.length ≤ sizeLine) (t:Nat) :
    Inv X pins σ (upd H p (.lst ys)) { s with heap:=s.heap.update p f,toks:=t }:=by
  have e:(s.heap.update p f).get? p=some { cls:=.type "list",data:=.seq its'.toArray n' }:=by
    rw [Heap.get?_update_self f ho (by rw [hf] <;> rfl),hf]
  refine I.write (x:=p) (e:=p) (by rw [h]; trivial) (.inl rfl) (fun b u hb q=>(Heap.get?_update_other _ _ (Ne.symm hb)).trans q) ⟨_,e⟩ ?_
  exact ⟨hz,its',n',r,e⟩
def zpB:V→V→V→Hp→(Hp→Prop)→Prop:=fun o i v H Q=>∃ p xs k j,o = .ref p∧i = .int k∧H p=some (.lst xs)∧ixN xs.length k=some j∧Q (upd H p (.lst (xs.set j v)))
theorem zgG:PSet X zpB:=by
  intro pins s σ H o i v ov iv u Q I ro ri rv h
  obtain ⟨p,xs,k,j,rfl,rfl,hp,hj,q⟩:=h
  cases ro
  obtain ⟨t,rfl⟩:=ri
  obtain ⟨its,n,r,ho,hz⟩:=I.lst hp
  obtain ⟨h1,h2,h3,h4⟩:=zmX hj
  have hl:=r.length
  have hn:=zjq
  have I':Inv X pins σ (upd H p (.lst (xs.set j v))) { s with heap:=s.heap.update p (Obj.mapSeq (·.setIfInBounds j u)) } :=
    I.lstUpd hp ho (zld its n j u) (r.set rv j) (by rw [List.length_set]; exact hz) s.toks
  by_cases h0:0 ≤ k
  · have hk:k.toNat=j:=by
      rw [seqIndex_of h0 h4] at h1
      exact Option.some.inj h1
    exact PySem.W.ki_setAt ho h0 (by omega) (by rw [List.size_toArray,← hl]; exact h4) (by rw [hk]; exact ⟨_,I',q⟩)
  · have hk:(k + (its.toArray.size:Int)).toNat=j:=by
      rw [seqIndex_neg (by omega) h3] at h1
      rw [List.size_toArray,← hl]
      exact Option.some.inj h1
    exact PySem.W.ki_setBack ho (by omega) (by rw [List.size_toArray,← hl]; exact h3) (by omega) (by rw [hk]; exact ⟨_,I',q⟩)
theorem zju (lo hi:Option Int) (n:Nat):(sliceBounds lo hi none n).1=((HT.sIx n 0 lo:Nat):Int)∧(sliceBounds lo hi none n).2.1=((HT.sIx n n hi:Nat):Int)∧(sliceBounds lo hi none n).2.2=1:=by
  refine ⟨?_,?_,rfl⟩
  · cases lo with
    | none=>simp [sliceBounds,HT.sIx]
    | some i =>
      simp only [sliceBounds,HT.sIx,Option.getD_none,show (1:Int) > 0 by decide,if_true]
      by_cases h:i < 0
      · simp only [h,if_true] <;> omega
      · simp only [h,if_false] <;> omega
  · cases hi with
    | none=>simp [sliceBounds,HT.sIx]
    | some i =>
      simp only [sliceBounds,HT.sIx,Option.getD_none,show (1:Int) > 0 by decide,if_true]
      by_cases h:i < 0
      · simp only [h,if_true] <;> omega
      · simp only [h,if_false] <;> omega
theorem zig (its:List Value) (lo hi:Option Int):slicePick its.toArray lo hi none=((its.drop (HT.sIx its.length 0 lo)).take (HT.sIx its.length its.length hi - HT.sIx its.length 0 lo)).toArray:=by
  obtain ⟨h1,h2,h3⟩:=zju lo hi its.toArray.size
  unfold slicePick
  rw [h1,h2,h3]
  simp only [sliceRange_one,pick_run,List.size_toArray] <;> rfl
def rSlL (K:PySem.W.Frag):V→Option Int→Option Int→Hp→VK→Prop:=fun x lo hi H Q=>∃ a xs,x = .ref a∧SqL K H a xs∧∀ p,H p=none→Q (.ref p) (upd H p (.lst (cutV xs lo hi)))
theorem zdp:SlR X (rSlL X.K):=by
  intro pins s σ H x v vl vu lo hi sl Q I rx hs pl pu h
  obtain ⟨a,xs,rfl,hx,q⟩:=h
  cases rx
  obtain ⟨its,r,ht,hz⟩:=I.list hx
  have hlen:=r.length
  refine ⟨"list",_,slot_list_getitem.lookup,ht.isList.typeIs,?_⟩
  refine wpAny_getItem_list_slice ht.isList hs pl pu .none (by simp) ?_ (by rw [List.size_toArray] <;> omega)
  rw [zig,← hlen]
  refine ⟨.ref s.heap.objs.size,_,I.laid (t':=s.toks) (o:=.lst (cutV xs lo hi)) (fun b ob q=>Heap.get?_push_of_some _ q) (Nat.le_refl _) ?_,rfl,q _ (I.hok.fresh (Nat.le_refl _))⟩
  exact ⟨Nat.le_trans (zjW xs lo hi) hz,_,0,(r.drop (HT.sIx xs.length 0 lo)).take (HT.sIx xs.length xs.length hi - HT.sIx xs.length 0 lo),Heap.get?_push_size _ rfl⟩
def zin:V→Bool
  | .non=>true
  | .bl _=>true
  | .int _=>true
  | .str _=>true
  | _=>false
def eqV:V→V→Bool
  | .non,.non=>true
  | .bl a,.bl b=>a == b
  | .bl a,.int b=>(if a then 1 else 0) == b
  | .int a,.bl b=>a == (if b then 1 else 0)
  | .int a,.int b=>a == b
  | .str a,.str b=>a == b
  | _,_=>false
theorem zo2 {A:Around} {s:Shared} {y x:V} {u v:Value} (ry:RelV y u) (rx:RelV x v) (fy:zin y=true) (fx:zin x=true):SeqAt.EqAt A s u v (eqV y x):=by
  cases y with
  | non =>
    cases ry
    cases x with
    | non=>cases rx; exact SeqAt.EqAt.same _
    | bl b=>cases rx; exact SeqAt.EqAt.none_bool b
    | int b=>obtain ⟨t,rfl⟩:=rx; exact SeqAt.EqAt.none_int b t
    | str b=>obtain ⟨t,rfl⟩:=rx; exact SeqAt.EqAt.none_str b t
    | _=>exact absurd (show false=true from fx) Bool.false_ne_true
  | bl a =>
    cases ry
    cases x with
    | non=>cases rx; exact SeqAt.EqAt.bool_none a
    | bl b=>cases rx; exact SeqAt.EqAt.bool_bool a b
    | int b=>obtain ⟨t,rfl⟩:=rx; exact SeqAt.EqAt.bool_int a b t
    | str b=>obtain ⟨t,rfl⟩:=rx; exact SeqAt.EqAt.bool_str a b t
    | _=>exact absurd (show false=true from fx) Bool.false_ne_true
  | int a =>
    obtain ⟨t',rfl⟩:=ry
    cases x with
    | non=>cases rx; exact SeqAt.EqAt.int_none a t'
    | bl b=>cases rx; exact SeqAt.EqAt.int_bool a t' b
    | int b=>obtain ⟨t,rfl⟩:=rx; exact SeqAt.EqAt.int_int a t' b t
    | str b=>obtain ⟨t,rfl⟩:=rx; exact SeqAt.EqAt.int_str a t' b t
    | _=>exact absurd (show false=true from fx) Bool.false_ne_true
  | str a =>
    obtain ⟨t',rfl⟩:=ry
    cases x with
    | non=>cases rx; exact SeqAt.EqAt.str_none a t'
    | bl b=>cases rx; exact SeqAt.EqAt.str_bool a t' b
    | int b=>obtain ⟨t,rfl⟩:=rx; exact SeqAt.EqAt.str_int a t' b t
    | str b=>obtain ⟨t,rfl⟩:=rx; exact SeqAt.EqAt.str_str a t' b t
    | _=>exact absurd (show false=true from fx) Bool.false_ne_true
  | _=>exact absurd (show false=true from fy) Bool.false_ne_true
def eqU (x:V) (u:Value):Bool:=match u with
  | .none=>eqV .non x
  | .bool b=>eqV (.bl b) x
  | .int i _=>eqV (.int i) x
  | .str z _=>eqV (.str z) x
  | _=>false
theorem zn8 {x y:V} {u:Value} (r:RelV y u) (f:zin y=true):eqU x u=eqV y x:=by
  cases y with
  | non=>cases r; rfl
  | bl b=>cases r; rfl
  | int i=>obtain ⟨t,rfl⟩:=r; rfl
  | str z=>obtain ⟨t,rfl⟩:=r; rfl
  | _=>exact absurd (show false=true from f) Bool.false_ne_true
theorem zhb {x:V}:∀ {xs:List V} {us:List Value},Vals xs us→xs.all zin=true→us.any (eqU x)=xs.any fun y=>eqV y x
  | _,_,.nil,_=>rfl
  | y :: xs,u :: us,.cons r t,f=>by
    rw [List.all_cons,Bool.and_eq_true] at f
    rw [List.any_cons,List.any_cons,zn8 r f.1,zhb t f.2]
theorem zfF {A:Around} {s:Shared} {x:V} {v:Value} (rx:RelV x v) (fx:zin x=true):∀ {xs:List V} {us:List Value},Vals xs us→xs.all zin=true→∀ u ∈ us,SeqAt.EqAt A s u v (eqU x u)
  | _,_,.nil,_=>fun u hu=>by cases hu
  | y :: xs,u :: us,.cons r t,f=>fun u' hu=>by
    rw [List.all_cons,Bool.and_eq_true] at f
    rcases List.mem_cons.mp hu with rfl | hu
    · rw [zn8 r f.1]; exact zo2 r rx f.1 fx
    · exact zfF rx fx t f.2 u' hu
def inV (x:V) (xs:List V):Bool:=xs.any fun y=>eqV y x
def rIn (K:PySem.W.Frag) (neg:Bool):R2:=fun x y H Q=>∃ p xs,y = .ref p∧(SqL K H p xs∨SqT K H p xs)∧zin x=true∧xs.all zin=true∧Q (.bl (if neg then !inV x xs else inV x xs)) H
theorem zlR:OpR X (compareOp .In) (rIn X.K false):=by
  intro pins s σ H x y v u Q I rx ry h
  obtain ⟨p,xs,rfl,hq,fx,fs,q⟩:=h
  cases ry
  rcases hq with hq | hq
  · obtain ⟨its,r,pl,hz⟩:=I.list hq
    refine SeqAt.in_listAt (eqU x) pl.isList (fun w hw=>zfF rx fx r fs w (by simpa using hw)) ⟨.bl _,H,I,rfl,?_⟩
    rw [show its.toArray.any (eqU x)=its.any (eqU x) by simp,zhb r fs]
    exact q
  · obtain ⟨its,r,pl,hz⟩:=I.tuple hq
    refine SeqAt.in_tupleAt (eqU x) pl (fun w hw=>zfF rx fx r fs w (by simpa using hw)) ⟨.bl _,H,I,rfl,?_⟩
    rw [show its.toArray.any (eqU x)=its.any (eqU x) by simp,zhb r fs]
    exact q
theorem ziX:OpR X (compareOp .NotIn) (rIn X.K true):=by
  intro pins s σ H x y v u Q I rx ry h
  obtain ⟨p,xs,rfl,hq,fx,fs,q⟩:=h
  cases ry
  rcases hq with hq | hq
  · obtain ⟨its,r,pl,hz⟩:=I.list hq
    refine SeqAt.notIn_listAt (eqU x) pl.isList (fun w hw=>zfF rx fx r fs w (by simpa using hw)) ⟨.bl _,H,I,rfl,?_⟩
    rw [show its.toArray.any (eqU x)=its.any (eqU x) by simp,zhb r fs]
    exact q
  · obtain ⟨its,r,pl,hz⟩:=I.tuple hq
    refine SeqAt.notIn_tupleAt (eqU x) pl (fun w hw=>zfF rx fx r fs w (by simpa using hw)) ⟨.bl _,H,I,rfl,?_⟩
    rw [show its.toArray.any (eqU x)=its.any (eqU x) by simp,zhb r fs]
    exact q
theorem zaE:ze0 X (.builtin "len") (fun xs H Q=>∃ p ys,xs = [.ref p]∧(SqL X.K H p ys∨SqT X.K H p ys)∧Q (.int ys.length) H):=by
  intro pins s σ H xs us Q I r h
  obtain ⟨p,ys,rfl,hq,q⟩:=h
  obtain ⟨u,rfl,rx⟩:=zhh r
  cases rx
  have hn:=zjq
  rcases hq with hq | hq
  · obtain ⟨its,r',pl,hz⟩:=I.list hq
    have hlen:=r'.length
    exact Calls.call_len_list pl.isList (by simp only [List.size_toArray] <;> omega) ⟨.int ys.length,H,I.tok _,⟨s.toks + 1,by rw [List.size_toArray,hlen]⟩,q⟩
  · obtain ⟨its,r',pl,hz⟩:=I.tuple hq
    have hlen:=r'.length
    exact len_tuple pl (by simp only [List.size_toArray] <;> omega) ⟨.int ys.length,H,I.tok _,⟨s.toks + 1,by rw [List.size_toArray,hlen]⟩,q⟩
theorem zcz:ze0 X (.type "list") (fun xs H Q=>∃ p ys,xs = [.ref p]∧(SqL X.K H p ys∨SqT X.K H p ys)∧∀ l,H l=none→Q (.ref l) (upd H l (.lst ys))):=by
  intro pins s σ H xs us Q I r h
  obtain ⟨p,ys,rfl,hq,q⟩:=h
  obtain ⟨u,rfl,rx⟩:=zhh r
  cases rx
  have fin:∀ (its:List Value),Vals ys its→ys.length ≤ sizeLine→∀ (h':Heap) (c':Nat),(∀ b o',s.heap.get? b=some o'→h'.get? b=some o') →
      h'.get? s.heap.objs.size=some { cls:=.type "list",dict:=none,data:=.seq its.toArray c',slots:=#[] }→EP X pins σ Q (.ref s.heap.objs.size) { s with heap:=h' }:=fun its r' hz h' c' kp e =>
    ⟨.ref s.heap.objs.size,_,I.laid (t':=s.toks) kp (Nat.le_refl _) (show ObjOk X.prog X.w _ h' _ (.lst ys) from ⟨hz,its,c',r',e⟩),rfl,q _ (I.hok.fresh (Nat.le_refl _))⟩
  rcases hq with hq | hq
  · obtain ⟨its,r',pl,hz⟩:=I.list hq
    have hlen:=r'.length
    obtain ⟨o,ho,hc,n,hd⟩:=pl.isList
    exact call_list_seq p (.inl rfl) ho hc hd (fun h' c' kp e=>fin its r' hz h' c' kp e) (by simp only [List.size_toArray] <;> omega)
  · obtain ⟨its,r',pl,hz⟩:=I.tuple hq
    have hlen:=r'.length
    obtain ⟨o,ho,hc,n,hd⟩:=pl
    exact call_list_seq p (.inr rfl) ho hc hd (fun h' c' kp e=>fin its r' hz h' c' kp e) (by simp only [List.size_toArray] <;> omega)
def tyV (K:PySem.W.Frag) (T:String) (x:V) (H:Hp):Prop:=match x with
  | .str _=>T = "str"
  | .int _=>T = "int"
  | .ref p=>(T = "list"∧∃ xs,SqL K H p xs)∨(T = "tuple"∧∃ o,K.lookup p=some o∧o.cls = .type "tuple"∧o.dict=none) ∨
      (T = "dict"∧((∃ kvs,H p=some (.dK kvs))∨∃ kvs,H p=some (.dT kvs)))∨(T = "set"∧∃ S n,H p=some (.set S n))
  | _=>False
theorem zpa {pins:List (Addr × Obj)} {σ:St} {H:Hp} {s:Shared} {T:String} {x:V} {v:Value} (I:Inv X pins σ H s) (r:RelV x v) (ty:tyV X.K T x H) :
    s.TypeIs v T∧∀ a,v = .ref a→∃ ob,s.heap.get? a=some ob∧ob.dict=none:=by
  cases x with
  | str z =>
    obtain ⟨t,rfl⟩:=r
    cases (show T = "str" from ty)
    exact ⟨typeIs_str s z t,fun _ e=>nomatch e⟩
  | int i =>
    obtain ⟨t,rfl⟩:=r
    cases (show T = "int" from ty)
    exact ⟨typeIs_int s i t,fun _ e=>nomatch e⟩
  | ref p =>
    cases r
    rcases ty with ⟨rfl,xs,hq⟩ | ⟨rfl,o,hk,hc,hd⟩ | ⟨rfl,hk⟩ | ⟨rfl,S,n,hk⟩
    · obtain ⟨its,_,pl,_⟩:=I.list hq
      refine ⟨pl.isList.typeIs,fun a e=>?_⟩
      cases e
      obtain ⟨o,n,e,c,hd,_⟩:=pl
      exact ⟨o,e,hd⟩
    · refine ⟨⟨o,I.kIn p o hk,hc⟩,fun a e=>?_⟩
      cases e
      exact ⟨o,I.kIn _ o hk,hd⟩
    · have z:∃ o,s.heap.get? p=some o∧o.ExactDict:=by
        rcases hk with ⟨kvs,hk⟩ | ⟨kvs,hk⟩
        · obtain ⟨_,_,_,_,o,_,_,e,ex,_⟩:=I.hok p _ hk
          exact ⟨o,e,ex⟩
        · obtain ⟨_,_,_,_,o,_,_,e,ex,_⟩:=I.hok p _ hk
          exact ⟨o,e,ex⟩
      obtain ⟨o,e,ex⟩:=z
      refine ⟨⟨o,e,ex.1⟩,fun a e2=>?_⟩
      cases e2
      exact ⟨o,e,ex.2.1⟩
    · obtain ⟨o,_,_,_,e,ex,_⟩:=I.hok p _ hk
      refine ⟨⟨o,e,ex.1⟩,fun a e2=>?_⟩
      cases e2
      exact ⟨o,e,ex.2.1⟩
  | _=>exact False.elim ty
def tBM (K:PySem.W.Frag) (T:String) (r:V→List V→Hp→VK→Prop) (to:TE) (t:TA):TE:=fun σ H Q=>to σ H fun x H1=>tyV K T x H1∧t σ H1 fun xs H2=>r x xs H2 Q
variable {o e:Expr} {es:List Expr} {to:TE} {t:TA} {name:Str} {apos cpos:Pos} {T id:String} {r:V→List V→Hp→VK→Prop}
theorem zlw (pa:PlainAttrs T) (slot:Slot T name id) (hty:typeOf (.builtin id)=pure (.type "method_descriptor")) (hm:MtR X id r) (ho:PE X o to) (ha:PA X (e :: es) t)
    (hbase:attributeBase o name X.env (eval o X.env)=eval o X.env:=by rfl)
    (hfew:((backTo cpos (starEach (e :: es) X.env)).all (fun x=>!x.1) && (backToKw cpos (keywordEach [] X.env)).all (fun x=>x.1.isSome)
      && decide ((e :: es).length + ([]:List Keyword).length + (if ([]:List Keyword).isEmpty then 0 else 1) < 30))=true:=by rfl)
    (hline:(apos.endLine == cpos.line)=true:=by rfl) (hs:starEach (e :: es) X.env=(false,eval e X.env) :: starEach es X.env:=by rfl) (hplain:(backTo cpos (starEach es X.env)).any (·.1)=false:=by rfl) :
    PE X (.Call (.Attribute o name apos) (e :: es) [] cpos) (tBM X.K T r to t):=by
  intro pins s σ H Q I h
  refine wpAny_Call_method_late hbase hfew hline rfl (thn (ho pins s σ H _ I h) fun v s1 ⟨x,H1,I1,r1,ty,q1⟩=>?_)
  obtain ⟨h1,h2⟩:=zpa I1 r1 ty
  refine ⟨T,id,pa,slot,hty,h1,h2,?_⟩
  have hA:=ha cpos pins s1 σ H1 _ I1 q1
  rw [hs] at hA ⊢
  refine Calls.callWith_builtin (by show (false || (backTo cpos (starEach es X.env)).any (·.1))=false; rw [hplain] <;> rfl) (Calls.evalArgs_plain ?_)
  exact thn hA fun us s2 ⟨vs,H2,I2,r2,q2⟩=>hm pins s2 σ H2 x vs v us Q I2 r1 r2 q2
end
end L2
namespace L2
open PySem PySem.Spec PyProof.Rows
def MtM (X:Cx) (id:String) (r:V→List V→Hp→VK→Prop):Prop :=
  ∀ (pins:List (Addr × Obj)) (s:Shared) (σ:St) (H:Hp) (x:V) (xs:List V) (v:Value) (us:List Value) (Q:VK),Inv X pins σ H s→RelV x v→Vals xs us→r x xs H Q →
    wpAny (model X.prog X.w) X.A (call (.builtin id) (v :: us)) (EP X pins σ Q) X.xe s
theorem Vals.one:∀ {x:V} {us:List Value},Vals [x] us→∃ u,us = [u]∧RelV x u
  | _,_,.cons r .nil=>⟨_,rfl,r⟩
theorem Vals.reverse {xs:List V} {us:List Value} (h:Vals xs us):Vals xs.reverse us.reverse:=by
  induction h with
  | nil=>exact .nil
  | cons r t ih=>rw [List.reverse_cons,List.reverse_cons]; exact Vals.append ih (.cons r .nil)
section
variable {X:Cx} {pins:List (Addr × Obj)} {σ:St} {H:Hp} {s:Shared} {l b:Addr} {xs ys zs:List V}
theorem Inv.lset {its its':List Value} {n:Nat} {f:Array Value→Array Value} {t':Nat} (I:Inv X pins σ H s) (hH:H l=some (.lst xs))
    (e:s.heap.get? l=some { cls:=.type "list",data:=.seq its.toArray n }) (hf:f its.toArray=its'.toArray) (hv:Vals ys its') (hz:ys.length ≤ sizeLine) :
    Inv X pins σ (upd H l (.lst ys)) { s with heap:=s.heap.update l (Obj.mapSeq f),toks:=t' }:=by
  have q:=PySem.IsL.update e f
  rw [hf] at q
  refine I.write (x:=l) (e:=l) (by rw [hH]; exact trivial) (.inl rfl) (fun b' u hb hu=>(Heap.get?_update_other s.heap (Obj.mapSeq f) (Ne.symm hb)).trans hu) ⟨_,q⟩ ?_
  exact ⟨hz,its',_,hv,q⟩
theorem Inv.lnew {its:List Value} {t':Nat} (I:Inv X pins σ H s) (hv:Vals ys its) (hz:ys.length ≤ sizeLine) :
    Inv X pins σ (upd H s.heap.objs.size (.lst ys)) { s with heap:=s.heap.push { cls:=.type "list",data:=.seq its.toArray },toks:=t' } :=
  I.laid (fun _ _ q=>Heap.get?_push_of_some _ q) (Nat.le_refl _) ⟨hz,its,0,hv,Heap.get?_push_size _ rfl⟩
theorem Inv.fresh (I:Inv X pins σ H s):H s.heap.objs.size=none:=I.hok.fresh (Nat.le_refl _)
theorem Inv.lstM (I:Inv X pins σ H s) (hH:H l=some (.lst xs)):xs.length ≤ sizeLine∧∃ (its:List Value) (n:Nat),Vals xs its∧xs.length=its.length∧s.heap.get? l=some { cls:=.type "list",data:=.seq its.toArray n }:=by
  obtain ⟨z,its,n,r,e⟩:=I.hok l _ hH
  exact ⟨z,its,n,r,r.length,e⟩
end
section
variable {X:Cx}
def zms:V→List V→Hp→VK→Prop:=fun x vs H Q=>∃ l xs y,x = .ref l∧vs = [y]∧H l=some (.lst xs)∧xs.length < sizeLine∧Q .non (upd H l (.lst (xs ++ [y])))
theorem zd0:MtM X "list.append" zms:=by
  intro pins s σ H x vs v us Q I rx rv h
  obtain ⟨l,xs,y,rfl,rfl,hH,hz,q⟩:=h
  cases rx
  obtain ⟨u,rfl,ru⟩:=rv.one
  obtain ⟨z,its,n,r,hl,e⟩:=I.lstM hH
  refine call_meets F.slot_list_append ⟨_,e,rfl⟩ F.entry_list_append (F.args_list_append_2 _ _) (PySem.list_append l its.toArray n u (by rw [List.size_toArray]; omega)) ⟨e,?_⟩
  refine ⟨.non,_,I.lset (its':=its ++ [u]) hH e (by simp) (r.append (.cons ru .nil)) ?_,rfl,q⟩
  rw [List.length_append,List.length_singleton]
  omega
end
section
variable {prog:Program} {w:World} {A:Around} {E:Value→Shared→Prop} {s:Shared}
end
section
variable {X:Cx}
end
end L2
namespace L2
open PySem PySem.Spec PyProof.Rows
section
variable {κ:Type} [DecidableEq κ]
end
section
variable {P:Program} {w:World} {H:Hp} {h:Heap} {a:Addr}
end
section
variable {X:Cx} {pins:List (Addr × Obj)} {σ:St} {H:Hp} {s:Shared} {a:Addr} {y v:V} {u r:Value} {o:Option V} {A:Around} {E:Value→Shared→Prop}
end
section
variable {X:Cx} {pins:List (Addr × Obj)} {σ:St} {H:Hp} {s:Shared} {a:Addr} {kvs:List (Key × V)} {k:Key} {u:Value} {A:Around} {E:Value→Shared→Prop}
end
section
variable {X:Cx} {o i e value:Expr} {pos pos' tpos:Pos} {td ty tv:TE}
end
section
variable {X:Cx} {pos:Pos}
end
section
variable {X:Cx} {pins:List (Addr × Obj)} {σ:St} {H:Hp} {s:Shared} {a:Addr} {y d:V} {u r:Value} {o:Option V} {A:Around} {E:Value→Shared→Prop}
end
section
variable {X:Cx} {o e f:Expr} {apos cpos:Pos} {td ty tx:TE}
end
section
variable {X:Cx} {pins:List (Addr × Obj)} {σ:St} {H:Hp} {s:Shared} {a:Addr} {kvs:List (Key × V)} {A:Around} {E:Value→Shared→Prop}
end
section
variable {X:Cx} {pins:List (Addr × Obj)} {σ:St} {H:Hp} {s:Shared} {a:Addr} {y:V} {u:Value} {A:Around} {E:Value→Shared→Prop}
end
end L2
namespace Att
open PySem PySem.W PySem.Calls PyProof.Rows
theorem zgS {P:Params} {h:Heap}:∀ (ns:List Int) (vs:List Value),WellAll P h vs (ns.map WData.int)→IntsAre vs ns:=by
  intro ns
  induction ns with
  | nil =>
    intro vs w
    rw [List.map_nil] at w
    cases w
    exact .nil
  | cons n ns ih =>
    intro vs w
    rw [List.map_cons] at w
    cases w with
    | cons a b =>
      cases a
      exact .cons _ _ (ih _ b)
theorem zmc {l:OpenLaw} {n:Nat} (hn:l.most=some n) {P:Params} {h:Heap} {args:List WData} {vals:List Value}
    (hpre:l.row.toRowW.claim.pre args=true) (hwl:WellAll P h vals args) :
    ∃ a vs ns,vals = [Value.ref a]∧args = [WData.list (ns.map WData.int)]∧h.get? a=some { cls:=.type "list",data:=.seq vs.toArray }∧IntsAre vs ns∧ns.length ≤ n:=by
  have hsh:WShape.hasAll [] args [.list .int]=true:=(pre_splitW hpre).1
  have hc:l.pre.holds [] { args:=args }=true:=(pre_splitW hpre).2
  obtain ⟨d,r,rfl,h1,h2⟩:=hasAllW_cons hsh
  obtain rfl:=hasAllW_nil h2
  obtain ⟨xs,rfl,h3⟩:=hasW_list h1
  obtain ⟨ns,rfl⟩:=items_int h3
  have hlen:ns.length ≤ n:=by
    unfold OpenLaw.pre at hc
    have h4:(WTm.not (.lt (.lit (.int (n:Int))) (.len (.arg 0)))).holds [] { args:=[.list (ns.map .int)] }=true:=by
      have h4:=(holds_andW hc).1
      rw [hn] at h4
      exact h4
    have h5:=condW_of h4 (w_not (w_lt w_lit (w_len_list (w_arg rfl))))
    rw [List.length_map] at h5
    refine Nat.le_of_not_lt fun q=>?_
    have q':(n:Int) < ((ns.length:Nat):Int):=by omega
    first
      | (rw [decide_eq_true q'] at h5; exact absurd h5 (by decide))
      | (simp at h5; omega)
  cases hwl with
  | cons w1 w2 =>
    cases w2
    cases w1 with
    | list ho hall=>exact ⟨_,_,ns,rfl,rfl,ho,zgS ns _ hall,hlen⟩
theorem zmf (l:OpenLaw) (args:List WData):l.row.toRowW.claim.post args (.bool true) args=true :=
  postW_of (r:=l.row.toRowW) (X:=(true == true))
    (show WShape.has [] (.bool true) .bool=true by first | rfl | decide | simp [WShape.has,WShape.arms,WShape.armsAll])
    (show (WTm.eq .res (.lit (.bool true))).value [] { args:=args,res:=some (.bool true),after:=args }=some (.bool (true == true)) from w_eq_bool (w_res rfl) w_lit) rfl
theorem attach_call {l:OpenLaw} {n:Nat} {q:Program} {loose:List Str} {XP:(Str→Option Value)→Heap→Prop} {YP:World→Heap→Prop} {d:DefRec}
    (hn:l.most=some n) (hdf:d.params.defaults = [])
    (call:∀ (w:World) (s₀ s₁:Shared) (mg mb:Str→Option Value) (fa:Addr) (o:Obj) (pm cd doc:Value) (a:Addr) (vs:List Value) (ns:List Int),
      Ground q loose [] XP w s₀ mg mb s₁.heap→YP w s₁.heap →
      s₁.heap.get? fa=some o→o.data = .func (docDef d.name d.params d.body d.scope pm cd doc)→s₁.heap.CodeRec cd d.name→mg d.name=some (.ref fa) →
      s₁.heap.get? a=some { cls:=.type "list",data:=.seq vs.toArray }→IntsAre vs ns→ns.length ≤ n→s₁.gens = #[] →
      codeAny (model l.prog w) callerA (.call (.ref fa) ⟨[.ref a],[]⟩) (fun r s'=>r = .ok (.ret (.bool true))∧OldK s₁.heap s'.heap∧s'.os=s₁.os∧AllBare s'.gens) s₁) :
    WalkO q loose XP YP l.row.toRowW d [] (fun f vs=>PySem.call f vs):=by
  intro w s₀ s₁ mg mb G Y fa o pm cd doc dV kV ho hd hcd hD hmg hg args vals as hpre hlay hrd hwl hlo
  obtain rfl:dV = .none:=Dflts.none hD hdf
  obtain rfl:kV = .none:=Dflts.noKw hD
  obtain ⟨a,vs,ns,rfl,rfl,hobj,hints,hlen⟩:=zmc hn hpre hwl
  refine enter_call (codeAny_mono (call w s₀ s₁ mg mb fa o pm cd doc a vs ns G Y ho (fd_plain hd) hcd hmg hobj hints hlen hg) fun r s' hq=>?_)
  obtain ⟨rfl,h2,h3,h4⟩:=hq
  exact ⟨.inl ⟨.bool true,.bool true,[],rfl,fun _=>rfl,.bool true,zmf l _,fun _=>⟨List.Pairwise.nil,fun _ hm=>(nomatch hm)⟩⟩,h2,h3,h4⟩
section
variable {prog:Program} {w:World} {A:Around} {E:Value→Shared→Prop} {s:Shared} {K:Frag}
end
end Att
namespace L2
open PySem PySem.Spec PyProof.Rows
theorem zi3:∀ {vs:List Value} {ns:List Int},IntsAre vs ns→Vals (ns.map V.int) vs
  | _,_,.nil=>.nil
  | _,_,.cons n t h=>.cons ⟨t,rfl⟩ (zi3 h)
def Only (H:Hp):Prop:=∀ b,H b=none∨∃ o xs,H b=some (.frz o (.lst xs))
theorem znE {P:Program} {w:World} {K:PySem.W.Frag} {mg mb:Str→Option Value} {CX:CXT} {k:Nat} {fa a:Addr} {fd:FuncData} {x:Str} {sp:Sp} {s₁:Shared} {vs:List Value} {ns:List Int}
    (KX:K.In s₁.heap) (hT0:zlK K=none) (hns:s₁.heap.Ns mainGlobals mg) (hb:s₁.heap.Ns builtinsNs mb) (hbb:∀ x:Str,x ≠ "__name__"→mb x=bootBuiltins x) (hlim:s₁.heap.NoLimit) (hg:s₁.gens = #[])
    (ha:s₁.heap.get? a=some { cls:=.type "list",data:=.seq vs.toArray }) (hi:IntsAre vs ns) (hl:ns.length ≤ sizeLine) (hr:Room k callerA)
    (F:∀ base:Heap,K.In base→base.Ns mainGlobals mg→FnOk P w K mg base CX k fa fd [x] sp) (hbind:∀ (s:Shared) (u:Value),BindsTo s fd ⟨[u],[]⟩ [(x,u)])
    (hsp:∀ H:Hp,Only H→SqL K H a (ns.map V.int)→sp [.ref a] H (fun v _=>v = .bl true) fun _ _ _=>False)
    (hCX:∀ H e s',CX [] H s₁ (fun _ _ _=>False) e s'→False) :
    codeAny (model P w) callerA (.call (.ref fa) ⟨[.ref a],[]⟩) (fun r s'=>r = .ok (.ret (.bool true))∧OldK s₁.heap s'.heap∧s'.os=s₁.os∧AllBare s'.gens) s₁:=by
  have rv:=zi3 hi
  have lenV:=hi.length
  -- from an abstract heap in which nothing but the script may be tracked
  have core:∀ H:Hp,Only H→SqL K H a (ns.map V.int)→HOk P w H s₁.heap→(∀ b,H b ≠ none→b=a)→(H a ≠ none→K.lookup a=none) →
      codeAny (model P w) callerA (.call (.ref fa) ⟨[.ref a],[]⟩) (fun r s'=>r = .ok (.ret (.bool true))∧OldK s₁.heap s'.heap∧s'.os=s₁.os∧AllBare s'.gens) s₁:=by
    intro H hO hS hok hA hK
    have base_of:∀ {b:Addr} {o:Obj},s₁.heap.get? b=some o→H b=none→(hidT s₁.heap H).get? b=some o:=fun e n=>zna e n
    have noA:∀ {b:Addr} {o:Obj} {es:Array DictEntry} {ep:Nat},s₁.heap.get? b=some o→o.data = .dict es ep→H b=none:=fun {b o es ep} e d=>by
      cases q:H b with
      | none=>rfl
      | some u =>
        have e':b=a:=hA b (by rw [q]; simp)
        subst e'
        rw [ha] at e; cases e
        have d':Data.seq vs.toArray _=Data.dict es ep:=d
        cases d'
    have nsK:∀ {b:Addr} {m:Str→Option Value},s₁.heap.Ns b m→(hidT s₁.heap H).Ns b m:=fun {b m} ⟨o,es,ep,e,d,r⟩=>⟨o,es,ep,base_of e (noA e d),d,r⟩
    have hKb:K.In (hidT s₁.heap H):=fun b o e=>base_of (KX b o e) (by
      cases q:H b with
      | none=>rfl
      | some u =>
        have e':b=a:=hA b (by rw [q]; simp)
        subst e'
        rw [hK (by rw [q]; simp)] at e; cases e)
    have hM:Mod K mg (hidT s₁.heap H):=⟨hKb,nsK hns,⟨mb,nsK hb,hbb⟩,let ⟨mc,h1,h2⟩:=hlim; ⟨mc,nsK h1,h2⟩⟩
    have e0:Env0 P w K mg (hidT s₁.heap H) callerA [] s₁ H:=⟨rfl,hM,fun b o e=>zoC e,Nat.le_of_eq (zm2 _ _),trivial,fun b hb=>absurd (show b ∈ ([]:List Addr) from hb) (by simp),hok,.of_eq hg,.none hT0⟩
    refine codeAny_mono ((F _ hKb (nsK hns)).run callerA [] s₁ H ⟨[.ref a],[]⟩ [.ref a] [.ref a] _ _ hr e0 (hbind s₁ (.ref a)) (.cons rfl .nil) (hsp H hO hS)) fun r s' h=>?_
    cases r with
    | error e=>exact (hCX H e s' h).elim
    | ok fl =>
      cases fl with
      | next=>exact False.elim h
      | brk=>exact False.elim h
      | cont=>exact False.elim h
      | ret u =>
        obtain ⟨v,H',os,bare,un,hok',r',q⟩:=h
        have q':v = .bl true:=q
        subst q'
        obtain rfl:u=Value.bool true:=r'
        refine ⟨rfl,OldK.of_keep fun b o e=>?_,os,bare⟩
        cases q:H b with
        | none=>exact un.keep b o e q (by intro z; exact absurd (show b ∈ ([]:List Addr) from z) (by simp)) (by simp)
        | some u =>
          rcases hO b with z | ⟨ob,xs,z⟩
          · rw [q] at z; cases z
          · have z2:=un.frzs b ob _ z
            obtain ⟨e1,_⟩:=hok b _ z
            obtain ⟨e2,_⟩:=hok' b _ z2
            rw [e] at e1; cases e1
            exact e2
  cases hk:K.lookup a with
  | some o =>
    -- the script is one of the module's own objects
    have e:=KX a o hk
    rw [ha] at e
    cases e
    refine core (fun _=>none) (fun _=>.inl rfl) (.inr ⟨_,vs.toArray,_,hk,rfl,rfl,rfl,by rw [List.size_toArray,lenV]; exact hl,by simpa using rv⟩) (fun b u z=>by have z':(none:Option HO)=some u:=z; cases z') (fun b z=>absurd rfl z) fun z=>absurd rfl z
  | none =>
    refine core (fun b=>if b=a then some (.frz { cls:=.type "list",data:=.seq vs.toArray } (.lst (ns.map V.int))) else none) (fun b=>?_) (.inl (.inr ⟨{ cls:=.type "list",data:=.seq vs.toArray },if_pos rfl⟩)) (fun b u z=>?_) (fun b z=>?_) fun _=>hk
    · by_cases hb:b=a
      · exact .inr ⟨_,_,if_pos hb⟩
      · exact .inl (if_neg hb)
    · by_cases hb:b=a
      · have z':=(if_pos hb).symm.trans z
        cases z'
        subst hb
        exact ⟨ha,by rw [List.length_map]; exact hl,vs,_,rv,ha⟩
      · have z':=(if_neg hb).symm.trans z
        cases z'
    · by_cases hb:b=a
      · exact hb
      · exact absurd (if_neg hb) z
end L2
namespace L2
open PySem PySem.Spec PyProof.Rows
theorem walk_of {l:PySem.W.OpenLaw} {n k:Nat} {q:Program} {loose:List Str} {XP:(Str→Option Value)→Heap→Prop} {YP:World→Heap→Prop} {d:DefRec} {K:Params→PySem.W.Frag} {CX:World→CXT} {sp:World→Sp} {x:Str}
    (hn:l.most=some n) (hn2:n ≤ sizeLine) (hdf:d.params.defaults = []) (hr:Room k callerA)
    (hY:∀ (w:World) (h:Heap),YP w h→(K w.params).In h) (hT0:∀ w:World,zlK (K w.params)=none)
    (F:∀ (w:World) (mg:Str→Option Value) (fa:Addr) (h:Heap),(K w.params).In h→h.Ns mainGlobals mg→mg d.name=some (.ref fa) →
      ∃ fd:FuncData,(∀ (s:Shared) (u:Value),BindsTo s fd ⟨[u],[]⟩ [(x,u)]) ∧
        ∀ base:Heap,(K w.params).In base→base.Ns mainGlobals mg→FnOk l.prog w (K w.params) mg base (CX w) k fa fd [x] (sp w))
    (hsp:∀ (w:World) (H:Hp) (a:Addr) (ns:List Int),ns.length ≤ n→Only H→SqL (K w.params) H a (ns.map V.int)→sp w [.ref a] H (fun v _=>v = .bl true) fun _ _ _=>False)
    (hCX:∀ (w:World) (H:Hp) (s:Shared) (e:Value) (s':Shared),CX w [] H s (fun _ _ _=>False) e s'→False) :
    PySem.W.WalkO q loose XP YP l.row.toRowW d [] (fun f vs=>PySem.call f vs):=by
  refine Att.attach_call hn hdf fun w s₀ s₁ mg mb fa o pm cd doc a vs ns G Y ho hd hcd hmg hobj hints hlen hg=>?_
  have KX:=hY w _ Y
  obtain ⟨fd,hb,hF⟩:=F w mg fa _ KX G.T.g hmg
  exact znE KX (hT0 w) G.T.g G.T.b G.T.builtins G.T.nolimit hg hobj hints (Nat.le_trans hlen hn2) hr hF hb (fun H hO hS=>hsp w H a ns hlen hO hS) fun H e s'=>hCX w H s₁ e s'
end L2
namespace L2
open PySem PySem.Spec PyProof.Rows
def zfm (s:Stmt):Arguments:=match s with
  | .FunctionDef _ a _ _ _ _ _ _ _ _=>a
  | _=>{ posonlyargs:=[],args:=[],vararg:=none,kwonlyargs:=[],kw_defaults:=[],kwarg:=none,defaults:=[] }
def zef (s:Stmt):List Stmt:=match s with
  | .FunctionDef _ _ b _ _ _ _ _ _ _=>b
  | _=>[]
def zar (s:Stmt):Scope:=match s with
  | .FunctionDef _ _ _ _ _ _ sc _ _ _=>sc
  | _=>{ kind:=.function,names:=[],isGenerator:=false,isCoroutine:=false }
abbrev CX0:CXT:=fun _ _ _ _ _ _=>False
abbrev E0:XK:=fun _ _ _=>False
theorem zbi {X:Cx}:zi7 CX0 X E0:=fun _ _ _ _ _ _ _ h=>h.elim
structure Fun (K:PySem.W.Frag) (x qual:Str) (st:Stmt) (f:Addr) (fd:FuncData):Prop where
  ex:∃ (oc:Value) (od:Option Addr) (kV doc pm:Value) (an:Option Addr) (cdv ct:Value) (osl:Array (Option Value)),
    fd=PySem.W.fnOf x qual (zfm st) (zef st) (zar st) .none kV doc pm an cdv ct∧K.lookup f=some ⟨oc,od,.func fd,osl⟩∧PySem.W.codeIn K cdv qual=true
  kp:PySem.W.keepIn K (.ref f)=true
section
variable {P:Program} {w:World} {K:PySem.W.Frag} {mg:Str→Option Value} {base:Heap}
theorem Fun.ok {x qual:Str} {st:Stmt} {f:Addr} {fd:FuncData} {N ps:List Str} {k:Nat} {sp:Sp} (F:Fun K x qual st f fd) (S:FnScope N ps (zar st)) (len:∀ vs H Q E,sp vs H Q E→vs.length=ps.length)
    (hbody:∀ (cdv:Value) (A:Around) (outer:List Env) (s:Shared) (H:Hp) (vs:List V) (Q:VK) (E:XK),Room k (A.deeper (envOfC qual (zar st) s.heap.objs.size f cdv))→sp vs H Q E →
      ∃ t,PSs (cxOf CX0 P w K mg base N qual (zar st) f cdv A outer s H E).nox (zef st) t∧t { nx:=fun _ H'=>Q .non H',rt:=Q } (start N vs) H):FnOk P w K mg base CX0 (k + 1) f fd ps sp:=by
  obtain ⟨oc,od,kV,doc,pm,an,cdv,ct,osl,rfl,lk,hcd⟩:=F.ex
  refine zpu lk hcd S len fun A outer s H vs Q E hr hsp=>?_
  obtain ⟨t,h,q⟩:=hbody cdv A outer s H vs Q E hr hsp
  exact ⟨t,h.nox,q⟩
theorem Fun.binds {x qual:Str} {st:Stmt} {f:Addr} {fd:FuncData} {ps:List Str} (F:Fun K x qual st f fd)
    (h:∀ (kV doc pm:Value) (an:Option Addr) (cdv ct:Value) (us:List Value),us.length=ps.length→bindArgs (PySem.W.fnOf x qual (zfm st) (zef st) (zar st) .none kV doc pm an cdv ct) ⟨us,[]⟩=pure (ps.zip us)):Binds K fd ps []:=by
  obtain ⟨oc,od,kV,doc,pm,an,cdv,ct,osl,rfl,lk,hcd⟩:=F.ex
  exact .all (h kV doc pm an cdv ct)
theorem zn3 {x qual:Str} {st:Stmt} {f:Addr} {oc:Value} {od an:Option Addr} {osl:Array (Option Value)} {kV doc pm cdv ct:Value} (l:K.lookup f=some ⟨oc,od,.func (PySem.W.fnOf x qual (zfm st) (zef st) (zar st) .none kV doc pm an cdv ct),osl⟩)
    (c:PySem.W.codeIn K cdv qual=true) (k:PySem.W.keepIn K (.ref f)=true):Fun K x qual st f (PySem.W.fnOf x qual (zfm st) (zef st) (zar st) .none kV doc pm an cdv ct):=⟨⟨oc,od,kV,doc,pm,an,cdv,ct,osl,rfl,l,c⟩,k⟩
end
theorem zbD {A:Around} {k:Nat} (hr:Room k A):A.units + 1 < cLine:=Nat.lt_of_le_of_lt (Nat.add_le_add_left (by decide:1 ≤ 64) _) hr.units
section
variable {X:Cx}
theorem pv (i:Nat) {x:Str} {pos:Pos} (hN:X.N[i]?=some x:=by rfl) (hv:Vis X.env.scope x:=by first | exact Or.inl rfl | exact Or.inr (Or.inl rfl) | exact Or.inr (Or.inr rfl)) (hd:(x == ("__debug__" : Str))=false:=by decide)
    (hcd:(x == ("__classdict__" : Str))=false:=by decide):PE X (.Name x pos) (tVar i):=zpw hN hv hd hcd
end
def Same (H H':Hp):Prop:=∀ b o,H b=some o→H' b=some o
theorem Same.refl (H:Hp):Same H H:=fun _ _ h=>h
theorem Same.trans {H H1 H2:Hp} (a:Same H H1) (b:Same H1 H2):Same H H2:=fun c o h=>b c o (a c o h)
theorem Same.free {H H':Hp} (e:Same H H') {l:Addr} (h:H' l=Option.none):H l=Option.none:=by
  cases q:H l with
  | none=>rfl
  | some o =>
    rw [e l o q] at h
    cases h
theorem Same.seq {K:PySem.W.Frag} {H H':Hp} {a:Addr} {xs:List V} (e:Same H H') (h:SqL K H a xs):SqL K H' a xs:=by
  rcases h with (h | ⟨o,h⟩) | h
  · exact .inl (.inl (e _ _ h))
  · exact .inl (.inr ⟨o,e _ _ h⟩)
  · exact .inr h
section
variable {κ:Type} [DecidableEq κ]
end
end L2
namespace L2
open PySem PySem.Spec PyProof.Rows
def Fit (i:Int):Prop:=i.natAbs < 2 ^ 8000
theorem log2_lt {n k:Nat} (hk:0 < k) (h:n < 2 ^ k):n.log2 < k:=by
  by_cases h0:n=0
  · subst h0; simpa using hk
  · exact (Nat.log2_lt h0).mpr h
theorem Fit.log {i:Int} (h:Fit i):i.natAbs.log2 < 8000:=log2_lt (by decide) h
theorem Fit.bits {i:Int} (h:Fit i):Builtin.Int.intBits i ≤ 2 ^ 20:=by
  have h1:=h.log
  have h2:(8000:Nat) ≤ 2 ^ 20:=by decide
  unfold Builtin.Int.intBits
  split <;> omega
section
variable {X:Cx}
theorem zbc:OpR X (binaryOp .Mult) (rI (fun i j=>Fit i∧Fit j) fun i j=>.int (i * j)):=opI fun _ _ _ _ _ _ _ hc q=>mul_int q (.of_bits hc.1.bits hc.2.bits)
theorem zbh:OpR X (binaryOp .FloorDiv) (rI (fun _ j=>j ≠ 0∧Fit j) fun i j=>.int (i.fdiv j)):=opI fun _ _ _ _ _ _ _ hc q =>
  floordiv_int hc.1 q (.inl (PyProof.noPylong_of_log2 (Nat.lt_trans hc.2.log (by decide))))
end
def clsV:V→Option Value
  | .ty n=>some (.type n)
  | .ref a=>some (.ref a)
  | _=>none
section
variable {X:Cx}
theorem zkS {c:V} {cv u:Value} (h:clsV c=some cv) (r:RelV c u):u=cv:=by
  cases c with
  | ty n=>cases h; exact r
  | ref a=>cases h; exact r
  | _=>cases h
def rIs (K:PySem.W.Frag):List V→Hp→VK→Prop:=fun xs H Q=>∃ x c cv t b,xs = [x,c]∧clsV c=some cv∧TyOf K H x t∧PySem.W.kitOne K t cv=some b∧Q (.bl b) H
theorem zhp:ze0 X (.builtin "isinstance") (rIs X.K):=by
  intro pins s σ H xs us Q I r h
  obtain ⟨x,c,cv,t,b,rfl,hc,ty,hk,q⟩:=h
  obtain ⟨u,v,rfl,rx,ry⟩:=zng r
  cases zkS hc ry
  exact zmD I rx ty hk fun tk=>⟨.bl b,H,I.tok _,rfl,q⟩
end
def Ite (K:PySem.W.Frag) (a:Addr):It :=
  ⟨fun i H=>∃ xs x,SqL K H a xs∧xs[i]?=some x,fun i H x H'=>∃ p y,x = .ref p∧H p=none∧H'=upd H p (.tup [.int i,y])∧∀ xs,SqL K H a xs→xs[i]?=some y,fun i H=>∃ xs,SqL K H a xs∧xs.length ≤ i⟩
theorem zl6 {P:Program} {w:World} {K:PySem.W.Frag} {es:List Expr} {k} {pos:Pos} (a e it:Addr) (hne:e ≠ it) :
    Turn P w K (.Tuple es k pos) (Ite K a) [e,it] e (fun i h=>(∃ old,IsEnum h e it i old)∧h.IsListIter it a i) where
  mem:=by simp
  obj:=fun i h st b hb=>by
    obtain ⟨⟨old,h1⟩,o,h2,c,d⟩:=st
    rcases List.mem_cons.mp hb with rfl | hb
    · exact ⟨_,h1,fun v z=>by cases (show Data.fields _=Data.cell v from z)⟩
    · have e':b=it:=by simpa using hb
      subst e'
      exact ⟨o,h2,fun v z=>by rw [d] at z; cases z⟩
  keep:=fun i h h' st k=>by
    obtain ⟨⟨old,h1⟩,h2⟩:=st
    exact ⟨⟨old,k e (by simp) _ h1⟩,h2.at fun o q=>k it (by simp) o q⟩
  item:=by
    intro X hP hw hK hc i pins s σ H E I hf st hg
    subst hP hw hK
    obtain ⟨xs,x,hq,hx⟩:=hg
    obtain ⟨its,rv,p,hz⟩:=I.list hq
    obtain ⟨u,hu,ru⟩:=rv.get hx
    obtain ⟨⟨old,he⟩,hit⟩:=st
    obtain ⟨f0,f1,f2,f3,f4,f5⟩:=hf e (by simp)
    obtain ⟨g0,g1,g2,g3,g4,g5⟩:=hf it (by simp)
    have hT:H s.heap.objs.size=none:=I.hok.fresh (Nat.le_refl _)
    have eT:e ≠ s.heap.objs.size:=Nat.ne_of_lt (Heap.lt_size he)
    have iT:it ≠ s.heap.objs.size:=by obtain ⟨_,z,_⟩:=hit; exact Nat.ne_of_lt (Heap.lt_size z)
    refine wpAny_pyNext_enum_item he hit p.isList (x:=u) (by simpa using hu) hne fun h' ho hit' ht hsz hk=>⟨_,rfl,?_⟩
    refine wpAny_letOwnedTupleGo_enum ho fun h'' he'' hs''=>?_
    have hs2:Heap.SameBut e h' h'':=hs''
    have ht2:h''.get? s.heap.objs.size=some { cls:=.type "tuple",data:=.seq #[.int i s.toks,u] }:=(hs2.2 _ eT.symm).trans ht
    have hk2:∀ b o,b ≠ e→b ≠ it→s.heap.get? b=some o→h''.get? b=some o:=fun b o z1 z2 q=>(hs2.2 b z1).trans (hk b o z1 z2 q)
    have nH:∀ b o,H b=some o→b ≠ e∧b ≠ it:=fun b o q=>⟨(fun z=>by rw [z,f0] at q; cases q),(fun z=>by rw [z,g0] at q; cases q)⟩
    refine ⟨.ref s.heap.objs.size,upd H s.heap.objs.size (.tup [.int i,x]),?_,rfl,⟨_,x,rfl,hT,rfl,fun ys hy=>by rw [I.list_inj hy hq]; exact hx⟩,⟨⟨_,by simpa using he''⟩,hit'.at fun o q=>(hs2.2 it hne.symm).trans q⟩,fun b hb=>?_⟩
    · show Inv X pins σ (upd H s.heap.objs.size (.tup [.int i,x])) { s with heap:=h'',toks:=s.toks + 1 }
      refine I.step (h':=h'') (g':=s.gens) (d':=s.drawn) (t':=s.toks + 1) (ch:=[e,it]) (fun b hb=>?_) (fun b o _ _ hb q _=>?_) (fun b o _ _ hb q _=>⟨o.slots,?_⟩) (fun b o hb q n=>?_) (fun b o hb q=>⟨o,?_⟩) (fun b ys q=>?_) (fun b o ys q=>?_) (fun b ps q=>⟨#[],?_⟩) (fun m hm=>?_) ?_ I.bare
      · rcases List.mem_cons.mp hb with rfl | hb
        · exact ⟨f3,f1,f4,f5⟩
        · have z:b=it:=by simpa using hb
          subst z
          exact ⟨g3,g1,g4,g5⟩
      · exact hk2 b o (fun z=>hb (by simp [z])) (fun z=>hb (by simp [z])) q
      · exact hk2 b o (fun z=>hb (by simp [z])) (fun z=>hb (by simp [z])) q
      · rw [zaH (Nat.ne_of_lt (Heap.lt_size q))]; exact n
      · exact hk2 b o (fun z=>hb (by simp [z])) (fun z=>hb (by simp [z])) q
      · rw [zaH (zaW q hT)]; exact q
      · rw [zaH (zaW q hT)]; exact q
      · rw [zaH (zaW q hT),q]; simp
      · obtain ⟨o,es',ep,ho',r⟩:=hm
        exact ⟨o,es',ep,hk2 _ o (Ne.symm f1) (Ne.symm g1) ho',r⟩
      · intro b o q
        by_cases hb:b=s.heap.objs.size
        · subst hb
          rw [zaY] at q; cases q
          exact ⟨by show 2 ≤ sizeLine; decide,[.int i s.toks,u],.cons ⟨_,rfl⟩ (.cons ru .nil),⟨_,ht2,rfl,_,rfl⟩⟩
        · rw [zaH hb] at q
          refine (I.hok b o q).stay (fun c v hc' q'=>?_) (fun c q'=>by rw [zaH (zaW q' hT)]; exact q') fun c ys q'=>by rw [zaH (zaW q' hT)]; exact q'
          rcases hc' with rfl | hc'
          · exact hk2 _ v (nH _ _ q).1 (nH _ _ q).2 q'
          · exact hk2 _ v (nH _ _ hc').1 (nH _ _ hc').2 q'
    · rcases List.mem_cons.mp hb with rfl | hb
      · rw [zaH eT]; exact f0
      · have z:b=it:=by simpa using hb
        subst z
        rw [zaH iT]; exact g0
  done:=by
    intro X hP hw hK hc i pins s σ H E I hf st hg
    subst hP hw hK
    obtain ⟨xs,hq,hx⟩:=hg
    obtain ⟨its,rv,p,hz⟩:=I.list hq
    obtain ⟨⟨old,he⟩,hit⟩:=st
    obtain ⟨g0,g1,g2,g3,g4,g5⟩:=hf it (by simp)
    have hl:=rv.length
    exact wpAny_pyNext_enum_end (I.ok.hd hc) he hit p.isList (by simp; omega) fun h' eb=>⟨rfl,I.turned (t':=s.toks) (fun b o hb q=>eb b o hb q) g0 g1 g3 g4 g5⟩
  self:=fun _ _ _ _ _ st h=>by
    obtain ⟨⟨old,he⟩,_⟩:=st
    exact wpAny_pyIter_enum he h
section
variable {X:Cx}
def zoo (K:PySem.W.Frag) (ta:TA):TI:=fun σ H R=>ta σ H fun vs H1=>∃ a,vs = [.ref a]∧(∃ xs,SqL K H1 a xs)∧R (Ite K a) H1
theorem ziB {es:List Expr} {k} {tp:Pos} {l:Expr} {ta:TA} {p pos:Pos} (hg:Gl X "enumerate") (hm:X.mg "enumerate"=none) (ha:PA X [l] ta) (hs:starEach [l] X.env = [(false,eval l X.env)]:=by rfl) :
    PI X (.Tuple es k tp) (.Call (.Name "enumerate" p) [l] [] pos) (zoo X.K ta):=by
  intro pins s σ H R I h
  refine Call_ (zgi I hg hm boot_enumerate (PyProof.Rows.callWith_type1 (thn (ha pos pins s σ H _ I h) fun us s1 ⟨vs,H1,I1,r1,q1⟩=>?_) hs rfl))
  obtain ⟨a,e,⟨xs,hq⟩,q⟩:=q1
  subst e
  obtain ⟨u,rfl,rx⟩:=zhh r1
  cases rx
  obtain ⟨its,rv,pl,hz⟩:=I1.list hq
  refine call_enumerate_list pl.isList fun h' he hit hsz hk=>?_
  have I2:Inv X pins σ H1 { s1 with heap:=h' }:=I1.kept (t':=s1.toks) hk
  have hne:s1.heap.objs.size + 1 ≠ s1.heap.objs.size:=by omega
  refine wpAny_pyIter_enum he ⟨s1.heap.objs.size + 1,[s1.heap.objs.size + 1,s1.heap.objs.size],_,_,H1,rfl,I2,zl6 a _ _ hne,⟨⟨_,he⟩,hit⟩,fun b hb=>?_,q⟩
  have hb':s1.heap.objs.size ≤ b:=by
    rcases List.mem_cons.mp hb with rfl | hb
    · omega
    · have z:b=s1.heap.objs.size:=by simpa using hb
      exact Nat.le_of_eq z.symm
  exact I1.fpOk hb' (I1.hok.fresh hb')
end
end L2
namespace L2
open PySem PySem.Spec PyProof.Rows
theorem zfR {env:Env}:∀ (names:List (Str × NameKind)) (acc:List (Str × Addr)),(∀ y ∈ names,y.2 = .free→∃ c,env.cells.lookup y.1=some c) →
    ∃ cl,(forIn (m:=Sem) names acc fun (x:Str × NameKind) (cs:List (Str × Addr))=>if (x.2 == NameKind.free)=true then do let c ← cellOf env x.1; pure (ForInStep.yield ((x.1,c) :: cs)) else pure (ForInStep.yield cs))=pure cl ∧
      (∀ p ∈ cl,p ∈ acc∨env.cells.lookup p.1=some p.2)∧(∀ p ∈ acc,p ∈ cl)∧∀ y ∈ names,y.2 = .free→∃ c,(y.1,c) ∈ cl
  | [],acc,_=>⟨acc,by simp,fun p hp=>.inl hp,fun p hp=>hp,fun y hy=>by cases hy⟩
  | (n,k) :: r,acc,h=>by
    by_cases hk:k = .free
    · subst hk
      obtain ⟨c,hc⟩:=h (n,.free) List.mem_cons_self rfl
      obtain ⟨cl,e,h1,h2,h3⟩:=zfR r ((n,c) :: acc) fun y hy=>h y (List.mem_cons_of_mem _ hy)
      refine ⟨cl,?_,fun p hp=>?_,fun p hp=>h2 p (List.mem_cons_of_mem _ hp),fun y hy hf=>?_⟩
      · have hco:cellOf env n=pure c:=by unfold cellOf; rw [hc]
        rw [List.forIn_cons]
        simp only [beq_self_eq_true,if_true,hco,pure_bind]
        exact e
      · rcases h1 p hp with z | z
        · rcases List.mem_cons.mp z with rfl | z
          · exact .inr hc
          · exact .inl z
        · exact .inr z
      · rcases List.mem_cons.mp hy with rfl | hy
        · exact ⟨c,h2 _ List.mem_cons_self⟩
        · exact h3 y hy hf
    · obtain ⟨cl,e,h1,h2,h3⟩:=zfR r acc fun y hy=>h y (List.mem_cons_of_mem _ hy)
      refine ⟨cl,?_,h1,h2,fun y hy hf=>?_⟩
      · have hb:(k == NameKind.free)=false:=by simpa using hk
        rw [List.forIn_cons]
        simp only [hb,Bool.false_eq_true,if_false,pure_bind]
        exact e
      · rcases List.mem_cons.mp hy with rfl | hy
        · exact absurd hf hk
        · exact h3 y hy hf
theorem zfD {f:Str→Option Addr}:∀ {cl:List (Str × Addr)} {x:Str} {c:Addr},(∀ p ∈ cl,f p.1=some p.2)→(x,c) ∈ cl→cl.lookup x=some c
  | [],_,_,_,h=>by cases h
  | (n,d) :: r,x,c,h,hm=>by
    rw [List.lookup_cons]
    cases e:x == n with
    | true =>
      have e':x=n:=by simpa using e
      subst e'
      have z1:=h (x,d) List.mem_cons_self
      have z2:=h (x,c) hm
      rw [z1] at z2
      simpa using z2
    | false =>
      rcases List.mem_cons.mp hm with z | z
      · cases z; simp at e
      · exact zfD (fun p hp=>h p (List.mem_cons_of_mem _ hp)) z
theorem zfp {scope:Scope} {env:Env} (h:∀ y ∈ scope.names,y.2 = .free→∃ c,env.cells.lookup y.1=some c) :
    ∃ cl,closureFor scope env=pure cl∧(∀ x c,cl.lookup x=some c→env.cells.lookup x=some c)∧∀ y ∈ scope.names,y.2 = .free→cl.lookup y.1=env.cells.lookup y.1:=by
  obtain ⟨cl,e,h1,_,h3⟩:=zfR scope.names [] h
  have all:∀ p ∈ cl,env.cells.lookup p.1=some p.2:=fun p hp=>(h1 p hp).elim (fun z=>by cases z) id
  refine ⟨cl,?_,fun x c z=>all (x,c) (PySem.mem_of_lookup z),fun y hy hf=>?_⟩
  · simp only [closureFor]
    rw [e]
    rfl
  · obtain ⟨c,hc⟩:=h3 y hy hf
    rw [all _ hc]
    exact zfD (f:=fun x=>env.cells.lookup x) all hc
end L2
namespace L2
open PySem PySem.Spec PyProof.Rows
section
variable {prog:Program} {w:World} {A:Around} {R:Result→Shared→Prop} {s:Shared}
theorem zjj {elt target iter:Expr} {ifs:List Expr} {scope:Scope} {pos:Pos} {it acc:Value} {env:Env} (I:Nat→Shared→Prop)
    (turn:∀ n s,I n s→wpAny (model prog w) A (pyNext it) (fun r s₁=>match r with
      | none=>R (.ok .next) s₁
      | some v=>wpAny (model prog w) A (letOwnedTupleGo target it v) (fun _ s₁'=>wpAny (model prog w) A (assign target env v) (fun _ s₂ =>
          wpAny (model prog w) A (forIn ifs true fun c r=>if r=true then do let ok ← isTrue c env (eval c env); pure (ForInStep.yield ok) else pure (ForInStep.yield r)) (fun ok s₃ =>
            if ok=true then wpAny (model prog w) A (eval elt env) (fun x s₄ =>
              wpAny (model prog w) A (call (.builtin "list.append") [acc,x]) (fun _ s₅=>∃ m,m < n∧I m s₅) (fun _ _=>False) s₄) (fun _ _=>False) s₃
            else ∃ m,m < n∧I m s₃) (fun _ _=>False) s₂) (fun _ _=>False) s₁') (fun _ _=>False) s₁) (fun _ _=>False) s)
    (n:Nat) (h:I n s) :
    codeAny (model prog w) A (.compLoop (.ListComp elt [⟨target,iter,ifs,0⟩] scope pos) 0 it acc env) R s:=by
  refine codeAny_loop rfl I (fun n s hI=>?_) n h
  show wpAny _ A ((compTurn (.ListComp elt [⟨target,iter,ifs,0⟩] scope pos) 0 it acc env).onRaise (fun x=>do noteFrame x env; theTreesLotGoes x)) _ _ s
  refine wpAny_noted ?_
  rw [compTurn_list]
  refine wpAny_bind (wpAny_standAt (wpAny_bind (wpAny_mono (turn n s hI) (fun r s₁ h₁=>?_) fun _ _ h'=>h'.elim)))
  cases r with
  | none=>exact wpAny_pure h₁
  | some v =>
    refine wpAny_bind (wpAny_mono h₁ (fun _ s₁' h₁'=>?_) fun _ _ h'=>h'.elim)
    refine wpAny_bind (wpAny_mono h₁' (fun _ s₂ h₂=>wpAny_bind (wpAny_mono h₂ (fun ok s₃ h₃=>?_) fun _ _ h'=>h'.elim)) fun _ _ h'=>h'.elim)
    cases ok with
    | false=>exact wpAny_pure ⟨rfl,h₃⟩
    | true =>
      exact wpAny_bind (wpAny_bind (wpAny_mono h₃ (fun x s₄ h₄=>wpAny_bind (wpAny_mono h₄ (fun _ s₅ h₅=>wpAny_pure (wpAny_pure ⟨rfl,h₅⟩)) fun _ _ h'=>h'.elim)) fun _ _ h'=>h'.elim))
end
def Cx.comp (X:Cx) (scope:Scope) (cl:List (Str × Addr)) (C:Addr) (N':List Str) (s:Shared) (H:Hp) (fp:List Addr) (pins:List (Addr × Obj)):Cx :=
  { X with N:=N',s₀:=s,H₀:=H,env:=compEnvC scope cl C X.env,outer:=X.stack,stack:=X.stack,ex:=fp,fn:=fun x=>scope.names.lookup x == some .cell,pn:=X.pn ++ pins,xe:=fun _ _=>False }
def zdC (σ:St) (ix:List Nat) (n:Nat):St:=ix.map (fun i=>(σ[i]?).getD none) ++ List.replicate n none
def zmi:Option TT→TT
  | none=>fun _ H Q=>Q true H
  | some t=>t
def zpl (D:Addr) (J:It) (g:TG) (tc:Option TT) (te:TE) (Q:VK) (σ0:St) (H0:Hp):Prop :=
  ∃ W:Nat→Nat→List V→St→Hp→Prop,(∃ m,W 0 m [] σ0 H0)∧∀ i m ys σ2 H2,W i m ys σ2 H2→H2 D=some (.lst ys) ∧
    ((J.stop i H2∧Q (.ref D) H2)∨(J.go i H2∧∃ N:List V→St→Hp→Prop,(∀ ys' σ' H',N ys' σ' H'→∃ m',m' < m∧W (i + 1) m' ys' σ' H') ∧
      ∀ x H',J.yld i H2 x H'→g x σ2 H' fun σ3 H3=>zmi tc σ3 H3 fun b H4=>if b=true then te σ3 H4 fun y H5=>H5 D=some (.lst ys)∧ys.length < sizeLine∧N (ys ++ [y]) σ3 (upd H5 D (.lst (ys ++ [y]))) else N ys σ3 H4))
def znp (wi:TI) (ix:List Nat) (n:Nat) (g:TG) (tc:Option TT) (te:TE):TE:=fun σ H Q=>wi σ H fun J H1=>∀ D,H1 D=none→zpl D J g tc te Q (zdC σ ix n) (upd H1 D (.lst []))
structure CompOk (X:Cx) (scope:Scope) (N':List Str) (ix:List Nat) (n:Nat) (tg elt:Expr) (ifs:List Expr) (g:TG) (tc:Option TT) (te:TE):Prop where
  kind:scope.kind = .function
  nocell:∀ y ∈ scope.names,y.2 = .free→(y.1,NameKind.cell) ∉ scope.names
  names:∀ y ∈ scope.names,y.2 = .local→scope.names.lookup y.1=some .local
  free:∀ y ∈ scope.names,y.2 = .free→X.env.kindOf y.1=some .cell∨X.env.kindOf y.1=some .free
  len:ix.length + n=N'.length
  take:∀ (j i:Nat),ix[j]?=some i→∃ x,N'[j]?=some x∧X.N[i]?=some x∧scope.names.lookup x=some .free
  tgt:∀ (cl:List (Str × Addr)) (C:Addr) (s:Shared) (H:Hp) (fp:List Addr) (pins:List (Addr × Obj)),PG (X.comp scope cl C N' s H fp pins) tg g
  elt:∀ (cl:List (Str × Addr)) (C:Addr) (s:Shared) (H:Hp) (fp:List Addr) (pins:List (Addr × Obj)),PE (X.comp scope cl C N' s H fp pins) elt te
  test:(ifs = []∧tc=none)∨∃ c t,ifs = [c]∧tc=some t∧∀ (cl:List (Str × Addr)) (C:Addr) (s:Shared) (H:Hp) (fp:List Addr) (pins:List (Addr × Obj)),PT (X.comp scope cl C N' s H fp pins) c t
theorem zdr {env:Env}:∀ {names:List (Str × NameKind)} {x:Str},names.lookup x=some .free →
    (names.map fun (n,k)=>if (k == NameKind.free && env.scope.kind == .function && env.kindOf n == some .cell) then (n,NameKind.cell) else (n,k)).lookup x=some .cell ∨
    (names.map fun (n,k)=>if (k == NameKind.free && env.scope.kind == .function && env.kindOf n == some .cell) then (n,NameKind.cell) else (n,k)).lookup x=some .free
  | [],_,h=>by simp at h
  | (n,k) :: r,x,h=>by
    have ih:=@zdr env r x
    show List.lookup x ((if (k == NameKind.free && env.scope.kind == .function && env.kindOf n == some .cell)=true then (n,NameKind.cell) else (n,k)) :: _)=_∨List.lookup x ((if (k == NameKind.free && env.scope.kind == .function && env.kindOf n == some .cell)=true then (n,NameKind.cell) else (n,k)) :: _)=_
    cases hx:x == n with
    | true =>
      simp only [List.lookup_cons,hx] at h
      cases h
      by_cases hc:(NameKind.free == NameKind.free && env.scope.kind == .function && env.kindOf n == some .cell)=true
      · rw [if_pos hc]; left; simp only [List.lookup_cons,hx]
      · rw [if_neg hc]; right; simp only [List.lookup_cons,hx]
    | false =>
      simp only [List.lookup_cons,hx] at h
      by_cases hc:(k == NameKind.free && env.scope.kind == .function && env.kindOf n == some .cell)=true
      · rw [if_pos hc]; simp only [List.lookup_cons,hx]; exact ih h
      · rw [if_neg hc]; simp only [List.lookup_cons,hx]; exact ih h
theorem zf8 {env:Env}:∀ {names:List (Str × NameKind)} {x:Str},
    ((names.map fun (n,k)=>if (k == NameKind.free && env.scope.kind == .function && env.kindOf n == some .cell) then (n,NameKind.cell) else (n,k)).lookup x=some .cell ∨
    (names.map fun (n,k)=>if (k == NameKind.free && env.scope.kind == .function && env.kindOf n == some .cell) then (n,NameKind.cell) else (n,k)).lookup x=some .free)→(x,NameKind.free) ∈ names∨(names.lookup x=some .cell∧(x,NameKind.cell) ∈ names)
  | [],_,h=>by simp at h
  | (n,k) :: r,x,h=>by
    have ih:=@zf8 env r x
    cases hx:x == n with
    | true =>
      have e:x=n:=by simpa using hx
      subst e
      by_cases hc:(k == NameKind.free && env.scope.kind == .function && env.kindOf x == some .cell)=true
      · have hk:k = .free:=by
          have:(k == NameKind.free)=true:=by
            simp only [Bool.and_eq_true] at hc
            exact hc.1.1
          simpa using this
        subst hk
        exact .inl List.mem_cons_self
      · rw [List.map_cons] at h
        have e2:(match (x,k) with | (n,k)=>if (k == NameKind.free && env.scope.kind == .function && env.kindOf n == some .cell)=true then (n,NameKind.cell) else (n,k))=(x,k):=if_neg hc
        rw [e2] at h
        simp only [List.lookup_cons,beq_self_eq_true] at h
        rcases h with h | h
        · cases h; exact .inr ⟨by simp only [List.lookup_cons,beq_self_eq_true],List.mem_cons_self⟩
        · cases h; exact .inl List.mem_cons_self
    | false =>
      refine (ih ?_).imp (List.mem_cons_of_mem _) fun z=>⟨by simp only [List.lookup_cons,hx]; exact z.1,List.mem_cons_of_mem _ z.2⟩
      rw [List.map_cons] at h
      by_cases hc:(k == NameKind.free && env.scope.kind == .function && env.kindOf n == some .cell)=true
      · have e2:(match (n,k) with | (n,k)=>if (k == NameKind.free && env.scope.kind == .function && env.kindOf n == some .cell)=true then (n,NameKind.cell) else (n,k))=(n,NameKind.cell):=if_pos hc
        rw [e2] at h
        simpa only [List.lookup_cons,hx] using h
      · have e2:(match (n,k) with | (n,k)=>if (k == NameKind.free && env.scope.kind == .function && env.kindOf n == some .cell)=true then (n,NameKind.cell) else (n,k))=(n,k):=if_neg hc
        rw [e2] at h
        simpa only [List.lookup_cons,hx] using h
theorem zec {x:Str} {c:Addr}:∀ (names:List (Str × NameKind)) (n:Nat) (acc:List (Str × Addr)),(x,NameKind.cell) ∈ names→(cellsFrom n names acc).lookup x=some c→(∀ y,acc.lookup x=some y→n ≤ y∨True)→n ≤ c
  | [],_,_,h,_,_=>by cases h
  | (y,k) :: r,n,acc,h,e,_=>by
    unfold cellsFrom at e
    by_cases hr:(x,NameKind.cell) ∈ r
    · split at e
      · exact Nat.le_of_succ_le (zec r (n + 1) _ hr e fun _ _=>.inr trivial)
      · exact zec r n _ hr e fun _ _=>.inr trivial
    · rcases List.mem_cons.mp h with z | z
      · cases z
        rw [if_pos (by rfl)] at e
        have key:∀ (r:List (Str × NameKind)) (n':Nat) (acc:List (Str × Addr)),(x,NameKind.cell) ∉ r→(cellsFrom n' r acc).lookup x=acc.lookup x:=by
          intro r
          induction r with
          | nil=>intro _ _ _; rfl
          | cons p r ih =>
            intro n' acc hp
            obtain ⟨y',k'⟩:=p
            unfold cellsFrom
            split
            · rename_i hk
              have hk':k' = .cell:=by simpa using hk
              subst hk'
              have ne:¬ x=y':=fun z=>hp (by rw [z]; exact List.mem_cons_self)
              rw [ih _ _ fun z=>hp (List.mem_cons_of_mem _ z),List.lookup_cons,show (x == y')=false by simpa using ne]
            · exact ih _ _ fun z=>hp (List.mem_cons_of_mem _ z)
        rw [key r _ _ hr] at e
        simp only [List.lookup_cons,beq_self_eq_true] at e
        cases e; exact Nat.le_refl _
      · exact absurd z hr
theorem zdl {x:Str}:∀ (names:List (Str × NameKind)) (n:Nat) (acc:List (Str × Addr)),(x,NameKind.cell) ∉ names→(cellsFrom n names acc).lookup x=acc.lookup x
  | [],_,_,_=>rfl
  | (y,k) :: r,n,acc,h=>by
    unfold cellsFrom
    split
    · rename_i hk
      have hk':k = .cell:=by simpa using hk
      subst hk'
      have ne:¬ x=y:=fun z=>h (by rw [z]; exact List.mem_cons_self)
      rw [zdl r _ _ fun z=>h (List.mem_cons_of_mem _ z),List.lookup_cons,show (x == y)=false by simpa using ne]
    · exact zdl r _ _ fun z=>h (List.mem_cons_of_mem _ z)
theorem zd5:∀ (names:List (Str × NameKind)) (n:Nat) (acc:List (Str × Addr)),(∀ x c,acc.lookup x=some c→c < n)→(∀ x y c,acc.lookup x=some c→acc.lookup y=some c→x=y) →
    ∀ x y c,(cellsFrom n names acc).lookup x=some c→(cellsFrom n names acc).lookup y=some c→x=y
  | [],_,_,_,h=>h
  | (z,k) :: r,n,acc,h1,h2=>by
    unfold cellsFrom
    split
    · have lk:∀ x c,((z,n) :: acc).lookup x=some c→(x=z∧c=n)∨acc.lookup x=some c:=fun x c h=>by
        rw [List.lookup_cons] at h
        cases hb:x == z with
        | true=>rw [hb] at h; cases h; exact .inl ⟨by simpa using hb,rfl⟩
        | false=>rw [hb] at h; exact .inr h
      refine zd5 r (n + 1) _ (fun x c h=>?_) fun x y c e1 e2=>?_
      · rcases lk x c h with ⟨_,z⟩ | z
        · rw [z]; exact Nat.lt_succ_self _
        · exact Nat.lt_succ_of_lt (h1 x c z)
      · rcases lk x c e1 with ⟨a1,a2⟩ | a <;> rcases lk y c e2 with ⟨b1,b2⟩ | b
        · rw [a1,b1]
        · have:=h1 y c b; rw [a2] at this; exact absurd this (Nat.lt_irrefl _)
        · have:=h1 x c a; rw [b2] at this; exact absurd this (Nat.lt_irrefl _)
        · exact h2 x y c a b
    · exact zd5 r n acc h1 h2
theorem zke {M:Model} {A:Around} {E:Value→Shared→Prop} {s:Shared} {scope:Scope} {globals:Addr} {cl:List (Str × Addr)} {qual:Str} {env:Env} {Q:Env→Shared→Prop}
    (hQ:Q (newEnv scope s.heap.objs.size globals (cellsFrom (s.heap.objs.size + 1) scope.names cl) qual none .none (some env) builtinsNs) { s with heap:=pushCells (s.heap.push { cls:=.type "dict",data:=.dict #[] }) scope.names }) :
    wpAny M A (newFunctionEnv scope globals cl [] qual none .none (some env)) Q E s:=by
  simp only [newFunctionEnv,Option.isSome_some,if_true]
  refine wpAny_bind (wpAny_alloc ?_)
  refine wpAny_bind (wpAny_layCells _ (fun name kind cells=>by cases hkc:kind == NameKind.cell <;> simp [hkc]) _ _ _ _ ?_)
  rw [show ({ s with heap:=s.heap.push { cls:=.type "dict",data:=.dict #[] } }:Shared).heap.objs.size=s.heap.objs.size + 1 from Heap.size_push ..]
  refine wpAny_bind ?_
  rw [List.forIn_nil]
  exact wpAny_pure (wpAny_pure hQ)
section
variable {X:Cx} {scope:Scope} {N':List Str} {ix:List Nat} {n:Nat} {tg elt iter:Expr} {ifs:List Expr} {g:TG} {tc:Option TT} {te:TE} {pos:Pos}
theorem zlq {pins:List (Addr × Obj)} {σ:St} {H:Hp} {s:Shared} {fp:List Addr} {cl:List (Str × Addr)} {h1:Heap} {tk:Nat} {m:Str→Option Value} (B:CompOk X scope N' ix n tg elt ifs g tc te) (I:Inv X pins σ H s)
    (hf:∀ b ∈ fp,FpOk X pins H b) (hfo:∀ b ∈ fp,∃ o,s.heap.get? b=some o) (hcl:∀ x c,cl.lookup x=some c→X.env.cells.lookup x=some c∨(s.heap.objs.size + 1 < c∧∃ v,h1.IsCell c v)) (hcf:∀ y ∈ scope.names,y.2 = .free→cl.lookup y.1=X.env.cells.lookup y.1)
    (hinj:∀ x y c,cl.lookup x=some c→cl.lookup y=some c→x=y) (hown:∀ x,scope.names.lookup x=some .cell→∃ c,cl.lookup x=some c) (hnew:∀ x c,scope.names.lookup x=some .cell→cl.lookup x=some c→s.heap.objs.size + 1 < c)
    (hk:∀ b o,s.heap.get? b=some o→h1.get? b=some o) (hD:h1.get? s.heap.objs.size=some { cls:=.type "list",data:=.seq #[] 0 }) (hC:h1.Ns (s.heap.objs.size + 1) m) :
    Inv (X.comp scope cl (s.heap.objs.size + 1) N' s H fp pins) [] (zdC σ ix n) (upd H s.heap.objs.size (.lst [])) { s with heap:=h1,toks:=tk }:=by
  have hn:H s.heap.objs.size=none:=I.hok.fresh (Nat.le_refl _)
  have lt:∀ {b:Addr} {o:Obj},s.heap.get? b=some o→b ≠ s.heap.objs.size∧b ≠ s.heap.objs.size + 1:=fun e=>⟨Nat.ne_of_lt (Heap.lt_size e),Nat.ne_of_lt (Nat.lt_succ_of_lt (Heap.lt_size e))⟩
  have cellLt:∀ x c,X.env.cells.lookup x=some c→c < s.heap.objs.size:=fun x c e=>by
    obtain ⟨v,o,ho,_⟩:=I.cell x c e
    exact Heap.lt_size ho
  have fpLt:∀ b ∈ fp,b ≠ s.heap.objs.size + 1:=fun b hb=>by
    obtain ⟨o,e⟩:=hfo b hb
    exact (lt e).2
  · have keep:Un (frs X.stack) fp H (upd H s.heap.objs.size (.lst [])) s.heap h1:=Un.laid hk (Nat.le_refl _) hn
    refine ⟨⟨I.ok.mod, ?_, I.ok.glob, I.ok.blt, Nat.le_succ _, hinj, fun x hx => ?_, fun x c z e => Nat.le_of_lt (Nat.lt_trans (Nat.lt_succ_self _) (hnew x c (by simpa using (show (scope.names.lookup x == some NameKind.cell) = true from z)) e)), I.ok.hd, I.ok.frames, .inl rfl, fun b hb => ⟨fpLt b hb, fun x c e => (hcl x c e).elim (fun z => (hf b hb).2.2.2.2.1 x c z) fun z w => by
          obtain ⟨o,ho⟩:=hfo b hb
          have:=Heap.lt_size ho
          rw [← w] at this; exact Nat.lt_irrefl _ (Nat.lt_trans (Nat.lt_trans (Nat.lt_succ_self _) z.1) this)⟩,
        I.bs,Nat.le_trans I.ok.bsz I.sz,fun b o e hb=>?_,fun b hb z=>?_,I.stack,I.stkFree,I.ok.tb.grown I.base.tbls⟩,
      rfl,I.bare,keep,⟨m,hC,fun i x v e1 e2 e3=>?_⟩,fun x c e=>?_,?_,fun x c e=>?_,fun p hp=>?_,?_,?_⟩
    · show (relabel scope X.env).kind = .function
      exact B.kind
    · show ∃ c,cl.lookup x=some c
      rcases zf8 hx with hx' | hx'
      case inr=>exact hown x hx'.1
      have z:=hcf _ hx' rfl
      dsimp only at z
      rw [z]
      exact I.ok.has x (B.free _ hx' rfl)
    · obtain ⟨_,_,_,f3,_⟩:=hf b hb
      rcases f3 with z | z
      · exact I.ok.noex b o e z
      · exact absurd (Nat.lt_of_lt_of_le (Heap.lt_size e) (Nat.le_trans I.ok.bsz z)) (Nat.lt_irrefl _)
    · rcases List.mem_cons.mp (I.stkSub b z) with e | e
      · exact (hf b hb).2.1 e
      · exact (hf b hb).2.2.1 e
    · have hj:i < ix.length:=by
        unfold zdC at e2
        by_cases hj:i < ix.length
        · exact hj
        · rw [List.getElem?_append_right (by simpa using hj),List.getElem?_replicate] at e2
          split at e2 <;> cases e2
      obtain ⟨j,hj2⟩:∃ j,ix[i]?=some j:=⟨ix[i],by simp [hj]⟩
      obtain ⟨y,y1,y2,y3⟩:=B.take i j hj2
      have exy:x=y:=by
        have z:N'[i]?=some x:=e1
        rw [y1] at z
        exact (Option.some.inj z).symm
      subst exy
      have ev:σ[j]?=some (some v):=by
        unfold zdC at e2
        rw [List.getElem?_append_left (by simpa using hj),List.getElem?_map,hj2] at e2
        have z:(σ[j]?).getD none=some v:=Option.some.inj e2
        cases q:σ[j]? with
        | none=>rw [q] at z; cases z
        | some w=>rw [q] at z; exact congrArg some z
      obtain ⟨m0,hn0,hl⟩:=I.loc
      have hm:(x,NameKind.free) ∈ scope.names:=PySem.mem_of_lookup y3
      have kx:=B.free _ hm rfl
      have vis:Vis X.env.scope x:=kx.elim (fun z=>.inr (.inl z)) fun z=>.inr (.inr z)
      obtain ⟨u,ru,lu⟩:=hl j x v y2 ev vis
      refine ⟨u,ru,.inr ⟨?_,?_⟩⟩
      · exact zdr y3
      · rcases lu with ⟨z,_⟩ | ⟨_,c,hc,hcell⟩
        · rcases kx with w | w <;> (rw [w] at z; cases z)
        · refine ⟨c,?_,?_⟩
          · show cl.lookup x=some c
            rw [hcf _ hm rfl]
            exact hc
          · obtain ⟨o,ho,hd⟩:=hcell
            exact ⟨o,hk c o ho,hd⟩
    · rcases hcl x c e with z | ⟨_,z⟩
      · obtain ⟨v,o,ho,hd⟩:=I.cell x c z
        exact ⟨v,o,hk c o ho,hd⟩
      · exact z
    · show upd H s.heap.objs.size (.lst []) (s.heap.objs.size + 1)=none
      rw [zaH (Nat.succ_ne_self _)]
      exact I.hok.fresh (Nat.le_succ _)
    · rcases hcl x c e with z | ⟨z,_⟩
      · have:=cellLt x c z
        rw [zaH (Nat.ne_of_lt this)]
        exact I.freeC x c z
      · rw [zaH (Nat.ne_of_gt (Nat.lt_trans (Nat.lt_succ_self _) z))]
        exact I.hok.fresh (Nat.le_of_lt (Nat.lt_trans (Nat.lt_succ_self _) z))
    · rw [List.append_nil] at hp
      obtain ⟨q1,q2,q3,q4,q5⟩:=I.pin p hp
      refine ⟨hk _ _ q1,by rw [zaH (lt q1).1]; exact q2,(lt q1).2,fun z=>?_,q5⟩
      rcases List.mem_cons.mp (I.stkSub _ z) with e | e
      · exact q3 e
      · exact q4 e
    · exact I.hok.laid hk (Nat.le_refl _) ⟨Nat.zero_le _,[],0,.nil,hD⟩
    · show (zdC σ ix n).length=N'.length
      unfold zdC
      rw [List.length_append,List.length_map,List.length_replicate]
      exact B.len
theorem zmb {pins:List (Addr × Obj)} {σ σ':St} {H H':Hp} {s s':Shared} {fp:List Addr} {cl:List (Str × Addr)} {C:Addr} (I:Inv X pins σ H s) (hf:∀ b ∈ fp,FpOk X pins H b)
    (J:Inv (X.comp scope cl C N' s H fp pins) [] σ' H' s'):Inv X pins σ H' s':=by
  obtain ⟨hh,g,d,t,os'⟩:=s'
  obtain rfl:os'=s.os:=J.os
  exact I.call (h':=hh) (g':=g) (d':=d) (t':=t) (ch:=fp) J.base J.hok J.bare fun b hb=>⟨(hf b hb).2.2.2.1,(hf b hb).2.1,(hf b hb).2.2.2.2.1,(hf b hb).2.2.2.2.2⟩
theorem zkH {pins:List (Addr × Obj)} {σ:St} {H:Hp} {s:Shared} {Q:VK} {it:Addr} {fp:List Addr} {tn:Nat→Heap→Prop} {J:It} {cl:List (Str × Addr)} {RR:Value→Addr→Result→Shared→Prop} {E:Value→Shared→Prop}
    (B:CompOk X scope N' ix n tg elt ifs g tc te) (hc:X.calm=true) (I:Inv X pins σ H s) (T:Turn X.prog X.w X.K tg J fp it tn) (st:tn 0 s.heap) (hf:∀ b ∈ fp,FpOk X pins H b)
    (hcl:∀ x c,cl.lookup x=some c→X.env.cells.lookup x=some c) (hcf:∀ y ∈ scope.names,y.2 = .free→cl.lookup y.1=X.env.cells.lookup y.1)
    (body:∀ D,H D=none→zpl D J g tc te Q (zdC σ ix n) (upd H D (.lst [])))
    (hRR:∀ D C H' s' m,Inv X pins σ H' s'→s'.heap.Ns C m→FpOk X pins H' C→Q (.ref D) H'→RR (.ref D) C (.ok .next) s') :
    wpAny (model X.prog X.w) X.A (newList []) (fun acc s₃=>wpAny (model X.prog X.w) X.A (newFunctionEnv scope X.env.globals cl [] X.env.qual none .none (some X.env)) (fun cenv s₄ =>
      codeAny (model X.prog X.w) X.A (.compStart (.ListComp elt [⟨tg,iter,ifs,0⟩] scope pos) 0 (.ref it) acc { cenv with scope:=relabel scope X.env }) (RR acc cenv.locals) s₄) E s₃) E s:=by
  refine wpAny_newObj_type (zke ?_)
  dsimp only
  generalize hH2:s.heap.push { cls:=.type "list",dict:=none,data:=.seq ([]:List Value).toArray }=H2
  have hC:H2.objs.size=s.heap.objs.size + 1:=by rw [← hH2,Heap.size_push]
  obtain ⟨cs,ecs⟩:∃ cs,cs=cellsFrom (H2.objs.size + 1) scope.names cl:=⟨_,rfl⟩
  rw [← ecs]
  obtain ⟨h₁,eh⟩:∃ h₁,h₁=pushCells (H2.push { cls:=.type "dict",data:=.dict #[] }) scope.names:=⟨_,rfl⟩
  rw [← eh]
  have kp:∀ b o,H2.get? b=some o→h₁.get? b=some o:=fun b o e=>by rw [eh]; exact pushCells_keeps _ _ b o (Heap.get?_push_of_some _ e)
  have hns₁:h₁.Ns H2.objs.size fun _=>none:=by rw [eh]; exact (Heap.Ns.new H2 (.type "dict")).keeps (pushCells_keeps _ _)
  have below:∀ b,b < s.heap.objs.size→b ≠ H2.objs.size:=fun b hb=>by rw [hC]; exact Nat.ne_of_lt (Nat.lt_succ_of_lt hb)
  have old:∀ b o,s.heap.get? b=some o→h₁.get? b=some o:=fun b o e=>kp b o (hH2 ▸ Heap.get?_push_of_some _ e)
  have hacc:h₁.get? s.heap.objs.size=some { cls:=.type "list",data:=.seq #[] 0 }:=kp _ _ (hH2 ▸ Heap.get?_push_size _ rfl)
  have clt:∀ x c,cl.lookup x=some c→c < s.heap.objs.size:=fun x c e=>by
    obtain ⟨v,o,ho,_⟩:=I.cell x c (hcl x c e)
    exact Heap.lt_size ho
  have own:∀ x c,(x,NameKind.cell) ∈ scope.names→cs.lookup x=some c→s.heap.objs.size + 1 < c:=fun x c h e=>by
    rw [ecs] at e
    have:=zec scope.names _ cl h e fun _ _=>.inr trivial
    omega
  have hcl2:∀ x c,cs.lookup x=some c→X.env.cells.lookup x=some c∨(s.heap.objs.size + 1 < c∧∃ v,h₁.IsCell c v):=fun x c e=>by
    by_cases hx:(x,NameKind.cell) ∈ scope.names
    · refine .inr ⟨own x c hx e,none,?_⟩
      have okc:=cellsFrom_ok scope.names (H2.push { cls:=.type "dict",data:=.dict #[] }) 0 [] ⟨fun _ _ hm=>(nomatch hm),List.Pairwise.nil⟩ (Nat.zero_le _)
      have e2:(cellsFrom (H2.objs.size + 1) scope.names []).lookup x=some c:=by
        have gen:∀ (names:List (Str × NameKind)) (n:Nat) (acc:List (Str × Addr)),(x,NameKind.cell) ∈ names→(cellsFrom n names acc).lookup x=(cellsFrom n names []).lookup x:=by
          have gen2:∀ (names:List (Str × NameKind)) (n:Nat) (acc acc':List (Str × Addr)),(x,NameKind.cell) ∈ names∨acc.lookup x=acc'.lookup x→(cellsFrom n names acc).lookup x=(cellsFrom n names acc').lookup x:=by
            intro names
            induction names with
            | nil=>intro n acc acc' h; exact h.elim (fun z=>by cases z) id
            | cons p r ih =>
              intro n acc acc' h
              obtain ⟨y,k⟩:=p
              unfold cellsFrom
              split
              · rename_i hk
                have hk':k = .cell:=by simpa using hk
                subst hk'
                refine ih _ _ _ ?_
                by_cases exy:x=y
                · subst exy; exact .inr (by simp only [List.lookup_cons,beq_self_eq_true])
                · rcases h with z | z
                  · rcases List.mem_cons.mp z with w | w
                    · cases w; exact absurd rfl exy
                    · exact .inl w
                  · exact .inr (by simp only [List.lookup_cons,show (x == y)=false by simpa using exy]; exact z)
              · rename_i hk
                refine ih _ _ _ ?_
                rcases h with z | z
                · rcases List.mem_cons.mp z with w | w
                  · cases w; exact absurd rfl hk
                  · exact .inl w
                · exact .inr z
          exact fun names n acc h=>gen2 names n acc [] (.inl h)
        rw [← gen scope.names _ cl hx,← ecs]; exact e
      rw [Heap.size_push] at okc
      rw [eh]
      exact (okc.empty x c (PySem.mem_of_lookup e2)).1
    · rw [ecs,zdl _ _ _ hx] at e
      exact .inl (hcl x c e)
  have hcf2:∀ y ∈ scope.names,y.2 = .free→cs.lookup y.1=X.env.cells.lookup y.1:=fun y hy hf=>by
    rw [ecs,zdl _ _ _ (B.nocell y hy hf)]
    exact hcf y hy hf
  have hinj:∀ x y c,cs.lookup x=some c→cs.lookup y=some c→x=y:=by
    rw [ecs]
    exact zd5 scope.names _ cl (fun x c e=>Nat.lt_of_lt_of_le (clt x c e) (by rw [hC]; omega)) fun x y c e1 e2=>I.ok.inj x y c (hcl x c e1) (hcl y c e2)
  have hown:∀ x,scope.names.lookup x=some .cell→∃ c,cs.lookup x=some c:=fun x h=>by
    rw [ecs]
    exact Option.isSome_iff_exists.mp (PySem.W.cellsFrom_some scope.names _ cl (.inl h))
  have hnew:∀ x c,scope.names.lookup x=some .cell→cs.lookup x=some c→s.heap.objs.size + 1 < c:=fun x c h e=>own x c (PySem.mem_of_lookup h) e
  have cne:∀ b,b < s.heap.objs.size→(∀ x c,X.env.cells.lookup x=some c→c ≠ b)→∀ x c,cs.lookup x=some c→c ≠ b:=fun b hb hold x c e z=>by
    rcases hcl2 x c e with w | ⟨w,_⟩
    · exact hold x c w z
    · rw [z] at w; exact Nat.lt_irrefl _ (Nat.lt_trans (Nat.lt_trans (Nat.lt_succ_self _) w) hb)
  have hfo:∀ b ∈ fp,∃ o,s.heap.get? b=some o:=fun b hb=>let ⟨o,e,_⟩:=T.obj 0 _ st b hb; ⟨o,e⟩
  have st1:tn 0 h₁:=T.keep 0 _ _ st fun b _ o e=>old b o e
  have hD0:H s.heap.objs.size=none:=I.hok.fresh (Nat.le_refl _)
  obtain ⟨W,⟨m0,w0⟩,turn⟩:=body _ hD0
  have J0:Inv (X.comp scope cs H2.objs.size N' s H fp pins) [] (zdC σ ix n) (upd H s.heap.objs.size (.lst [])) { s with heap:=h₁ }:=by
    rw [hC] at hns₁ ⊢
    exact zlq (tk:=s.toks) B I hf hfo hcl2 hcf2 hinj hown hnew old hacc hns₁
  have fpOk:∀ {H':Hp},(∀ b ∈ fp,H' b=none)→∀ b ∈ fp,FpOk (X.comp scope cs H2.objs.size N' s H fp pins) [] H' b:=fun hn b hb=>by
    obtain ⟨f0,f1,f2,f3,f4,f5⟩:=hf b hb
    obtain ⟨o,e⟩:=hfo b hb
    refine ⟨hn b hb,below b (Heap.lt_size e),fun z=>?_,.inl hb,cne b (Heap.lt_size e) f4,fun p hp=>f5 p ?_⟩
    · rcases List.mem_cons.mp (I.stkSub b z) with q | q
      · exact f1 q
      · exact f2 q
    · rw [List.append_nil] at hp
      exact hp
  have fp0:∀ b ∈ fp,upd H s.heap.objs.size (.lst []) b=none:=fun b hb=>by
    obtain ⟨o,e⟩:=hfo b hb
    rw [zaH (Nat.ne_of_lt (Heap.lt_size e))]
    exact (hf b hb).1
  have loop:∀ s₃:Shared,s₃ = { s with heap:=h₁ } →
      codeAny (model X.prog X.w) X.A (.compLoop (.ListComp elt [⟨tg,iter,ifs,0⟩] scope pos) 0 (.ref it) (.ref s.heap.objs.size) (compEnvC scope cs H2.objs.size X.env)) (RR (.ref s.heap.objs.size) H2.objs.size) s₃:=by
    rintro s₃ rfl
    refine zjj (fun k s'=>∃ i ys σ2 H3,Inv (X.comp scope cs H2.objs.size N' s H fp pins) [] σ2 H3 s'∧tn i s'.heap∧(∀ b ∈ fp,H3 b=none)∧W i k ys σ2 H3) ?_ m0 ⟨0,[],_,_,J0,st1,fp0,w0⟩
    rintro k s3 ⟨i,ys,σ3,H3,I3,st3,fr3,w3⟩
    obtain ⟨hD3,alt⟩:=turn i k ys σ3 H3 w3
    rcases alt with ⟨stop,q⟩ | ⟨go,N,hN,step⟩
    · refine thn (T.done (X.comp scope cs H2.objs.size N' s H fp pins) rfl rfl rfl hc i [] s3 σ3 H3 _ I3 (fpOk fr3) st3 stop) fun r s4 ⟨hr,I4⟩=>?_
      subst hr
      obtain ⟨m4,hn4,_⟩:=I4.loc
      refine hRR _ _ H3 s4 m4 (zmb I hf I4) hn4 ⟨I4.free,fun z=>?_,fun z=>?_,.inr (Nat.le_trans I.sz (by omega)),fun x c e z=>?_,fun p hp z=>?_⟩ q
      · have lt:=I.lt
        rw [← z,hC] at lt
        exact absurd lt (Nat.not_lt.mpr (Nat.le_succ _))
      · exact I.nofs (show s.heap.objs.size ≤ H2.objs.size by omega) z
      · obtain ⟨v,o,ho,_⟩:=I.cell x c e
        have lt:=Heap.lt_size ho
        rw [z,hC] at lt
        exact absurd lt (Nat.not_lt.mpr (Nat.le_succ _))
      · have lt:=Heap.lt_size (I.pin p hp).1
        rw [z,hC] at lt
        exact absurd lt (Nat.not_lt.mpr (Nat.le_succ _))
    · refine thn (T.item (X.comp scope cs H2.objs.size N' s H fp pins) rfl rfl rfl hc i [] s3 σ3 H3 _ I3 (fpOk fr3) st3 go) fun r s4 ⟨u,hr,h4⟩=>?_
      subst hr
      refine thn h4 fun _ s5 ⟨x,H5,I5,r5,y5,st5,fr5⟩=>?_
      have I5':=I5.pinned (fpOk fr5) (T.obj _ _ st5)
      have back:∀ {σ7:St} {H7:Hp} {s7:Shared} {ys':List V},Inv (X.comp scope cs H2.objs.size N' s H fp pins) ([] ++ zhV fp s5.heap) σ7 H7 s7→N ys' σ7 H7 →
          ∃ m,m < k∧∃ i ys σ2 H3,Inv (X.comp scope cs H2.objs.size N' s H fp pins) [] σ2 H3 s7∧tn i s7.heap∧(∀ b ∈ fp,H3 b=none)∧W i m ys σ2 H3:=fun {σ7 H7 s7 ys'} I7 n7=>by
        obtain ⟨m',hm,w7⟩:=hN ys' σ7 H7 n7
        refine ⟨m',hm,i + 1,ys',σ7,H7,I7.unpinned,T.keep _ _ _ st5 fun b hb o e=>(I7.pin (b,o) (List.mem_append_right _ (List.mem_append_right _ (zdZ hb e)))).1,fun b hb=>?_,w7⟩
        obtain ⟨o,e,d⟩:=T.obj _ _ st5 b hb
        exact (I7.pin (b,o) (List.mem_append_right _ (List.mem_append_right _ (zdZ hb e)))).2.1
      refine thn (B.tgt cs H2.objs.size s H fp pins _ s5 σ3 H5 x u _ I5' r5 (step x H5 y5)) fun _ s6 ⟨σ6,H6,I6,q6⟩=>?_
      have fin:∀ (b:Bool) (s7:Shared),TP (X.comp scope cs H2.objs.size N' s H fp pins) ([] ++ zhV fp s5.heap) σ6
          (fun b H4=>if b=true then te σ6 H4 fun y H5=>H5 s.heap.objs.size=some (.lst ys)∧ys.length < sizeLine∧N (ys ++ [y]) σ6 (upd H5 s.heap.objs.size (.lst (ys ++ [y]))) else N ys σ6 H4) b s7 →
          if b=true then wpAny (model X.prog X.w) X.A (eval elt (compEnvC scope cs H2.objs.size X.env)) (fun x s₄ =>
              wpAny (model X.prog X.w) X.A (call (.builtin "list.append") [.ref s.heap.objs.size,x]) (fun _ s₅=>∃ m,m < k∧∃ i ys σ2 H3,Inv (X.comp scope cs H2.objs.size N' s H fp pins) [] σ2 H3 s₅∧tn i s₅.heap∧(∀ b ∈ fp,H3 b=none)∧W i m ys σ2 H3) (fun _ _=>False) s₄) (fun _ _=>False) s7
            else ∃ m,m < k∧∃ i ys σ2 H3,Inv (X.comp scope cs H2.objs.size N' s H fp pins) [] σ2 H3 s7∧tn i s7.heap∧(∀ b ∈ fp,H3 b=none)∧W i m ys σ2 H3:=by
        rintro b s7 ⟨H7,I7,q7⟩
        cases b with
        | false =>
          rw [if_neg Bool.false_ne_true] at q7 ⊢
          exact back I7 q7
        | true =>
          rw [if_pos rfl] at q7 ⊢
          refine thn (B.elt cs H2.objs.size s H fp pins _ s7 σ6 H7 _ I7 q7) fun y s8 ⟨yv,H8,I8,r8,hD8,hz,n8⟩=>?_
          refine thn (zd0 _ s8 σ6 H8 (.ref s.heap.objs.size) [yv] (.ref s.heap.objs.size) [y] (fun _ H9=>N (ys ++ [yv]) σ6 H9) I8 rfl (.cons r8 .nil) ⟨_,ys,yv,rfl,rfl,hD8,hz,n8⟩) fun _ s9 ⟨_,H9,I9,_,n9⟩=>?_
          exact back I9 n9
      rcases B.test with ⟨e1,e2⟩ | ⟨c,t,e1,e2,ht⟩
      · subst e1; subst e2
        exact wpAny_tests_nil (fin true s6 ⟨H6,I6,q6⟩)
      · subst e1; subst e2
        exact wpAny_tests_one (thn (ht cs H2.objs.size s H fp pins _ s6 σ6 H6 _ I6 q6) fun b s7 z=>fin b s7 z)
  exact codeAny_compStart_list (loop _ rfl) (T.self X.A 0 _ _ _ st1 (loop _ rfl))
theorem zbL {wi:TI} (hc:X.calm=true) (hi:PI X tg iter wi) (B:CompOk X scope N' ix n tg elt ifs g tc te) (hs:∀ x,foldedSetIterable iter X.env x=pure x:=by intro _; rfl) :
    PE X (.ListComp elt [⟨tg,iter,ifs,0⟩] scope pos) (znp wi ix n g tc te):=by
  intro pins s σ H Q I h
  rw [eval_ListComp]
  obtain ⟨cl,hclos,hcl,hcf⟩:=zfp (scope:=scope) (env:=X.env) fun y hy hf=>I.ok.has _ (B.free y hy hf)
  refine wpAny_comprehension_free (use:=none) rfl hs hclos B.kind B.names (thn (hi pins s σ H _ I h) fun v s1 h1=>thn h1 fun itv s2 h2=>?_)
  obtain ⟨it,fp,tn,J,H2,rfl,I2,T,st2,f2,body⟩:=h2
  refine zkH (RR:=fun acc C=>compPost (model X.prog X.w) X.A X.xe none (EP X pins σ Q) acc C) B hc I2 T st2 f2 hcl hcf body fun D C H' s' m I' hn hC q=>⟨m,hn,fun h' hs'=>?_⟩
  obtain ⟨f0,f1,f2',f3,f4,f5⟩:=hC
  exact ⟨.ref D,H',I'.turned (t':=s'.toks) (fun b o hb e=>(hs'.2 b hb).trans e) f0 f1 f3 f4 f5,rfl,q⟩
theorem zlV {wi:TI} {i:Nat} {y:Str} {py spos:Pos} (hN:X.N.Nodup) (hiN:X.N[i]?=some y) (hy:Loc X.env.scope y) (hc:X.calm=true) (hi:PI X tg iter wi) (B:CompOk X scope N' ix n tg elt ifs g tc te)
    (hsw:swapsWith (.ListComp elt [⟨tg,iter,ifs,0⟩] scope pos) (some (.Name y py)) spos.line X.env=pure true) (hf:X.fn y=true∨X.env.scope.names.lookup y=some .local:=by first | exact .inl rfl | exact .inr rfl | assumption)
    (hs:∀ x,foldedSetIterable iter X.env x=pure x:=by intro _; rfl) :
    PS X (.Assign [.Name y py] (.ListComp elt [⟨tg,iter,ifs,0⟩] scope pos) spos) (tAsg (znp wi ix n g tc te) (ziU i)):=by
  intro pins s σ H D I h
  rw [exec_Assign_Name_used _ _ _ _ hsw]
  refine wpAny_bind (wpAny_standAt (wpAny_bind ?_))
  show wpAny _ X.A (do let _ ← comprehension (.ListComp elt [⟨tg,iter,ifs,0⟩] scope pos) scope X.env _ (newList []) false (eval iter X.env) (some (assign (.Name y py) X.env))) _ _ s
  obtain ⟨cl,hclos,hcl,hcf⟩:=zfp (scope:=scope) (env:=X.env) fun y hy hf=>I.ok.has _ (B.free y hy hf)
  refine wpAny_bind (wpAny_mono (wpAny_comprehension_free (use:=some (assign (.Name y py) X.env)) (Q:=fun _ s'=>SP X pins D .next s') rfl hs hclos B.kind B.names
    (thn (hi pins s σ H _ I h) fun v s1 h1=>thn h1 fun itv s2 h2=>?_)) (fun _ s' hq=>wpAny_pure (wpAny_pure hq)) fun _ _ e=>e)
  obtain ⟨it,fp,tn,J,H2,rfl,I2,T,st2,f2,body⟩:=h2
  refine zkH (Q:=fun x H1=>ziU i x σ H1 D.nx) (RR:=fun acc C=>compPost (model X.prog X.w) X.A X.xe (some (assign (.Name y py) X.env)) (fun _ s'=>SP X pins D .next s') acc C) B hc I2 T st2 f2 hcl hcf body fun D' C H' s' m I' hn hC q=>?_
  obtain ⟨f0,f1,f2',f3,f4,f5⟩:=hC
  have Ip := I'.pinned (fp := [C]) (fun b hb => by have e : b = C := by simpa using hb
                                                   subst e; exact ⟨f0,f1,f2',f3,f4,f5⟩) (fun b hb=>by
    have e:b=C:=by simpa using hb
    subst e
    obtain ⟨o,es,ep,ho,hd,_⟩:=hn
    exact ⟨o,ho,fun v z=>by rw [hd] at z; cases z⟩)
  refine wpAny_assign_Name (zdL Ip hN hiN hy (v:=.ref D') rfl (fun s'' I''=>?_) hf)
  obtain ⟨o,es,ep,ho,hd,hr⟩:=hn
  have pinC:=I''.pin (C,o) (List.mem_append_right _ (List.mem_append_right _ (zdZ (by simp) ho)))
  refine ⟨m,⟨o,es,ep,pinC.1,hd,hr⟩,fun h' hs'=>?_⟩
  exact ⟨_,H',(I''.unpinned).turned (t':=s''.toks) (fun b o hb e=>(hs'.2 b hb).trans e) pinC.2.1 f1 f3 f4 f5,q⟩
end
end L2
namespace L2
open PySem PySem.Spec PyProof.Rows
section
variable {X:Cx} {scope:Scope} {tg elt:Expr} {ifs:List Expr} {g:TG} {tc:Option TT} {te:TE}
theorem zci (osc:Scope) (oN N':List Str) (ix:List Nat) (n:Nat) (hosc:X.env.scope=osc) (hoN:X.N=oN) (kind:scope.kind = .function) (nocell:(scope.names.all fun y=>y.2 != .free || scope.names.all fun z=>!(z.1 == y.1) || z.2 != .cell)=true) (names:∀ y ∈ scope.names,y.2 = .local→scope.names.lookup y.1=some .local)
    (free:(scope.names.all fun y=>y.2 != .free || (osc.names.lookup y.1 == some .cell || osc.names.lookup y.1 == some .free))=true) (len:ix.length + n=N'.length)
    (take:((List.range ix.length).all fun j=>match N'[j]?,oN[ix.getD j 0]? with | some x,some y=>x == y && scope.names.lookup x == some .free | _,_=>false)=true)
    (tgt:∀ (cl:List (Str × Addr)) (C:Addr) (s:Shared) (H:Hp) (fp:List Addr) (pins:List (Addr × Obj)),PG (X.comp scope cl C N' s H fp pins) tg g)
    (elt':∀ (cl:List (Str × Addr)) (C:Addr) (s:Shared) (H:Hp) (fp:List Addr) (pins:List (Addr × Obj)),PE (X.comp scope cl C N' s H fp pins) elt te)
    (test:(ifs = []∧tc=none)∨∃ c t,ifs = [c]∧tc=some t∧∀ (cl:List (Str × Addr)) (C:Addr) (s:Shared) (H:Hp) (fp:List Addr) (pins:List (Addr × Obj)),PT (X.comp scope cl C N' s H fp pins) c t) :
    CompOk X scope N' ix n tg elt ifs g tc te :=
  ⟨kind,fun y hy e hc=>by
    have z:=List.all_eq_true.mp nocell y hy
    rw [e] at z
    have z2:(scope.names.all fun w=>!(w.1 == y.1) || w.2 != .cell)=true:=by simpa using z
    have z3:=List.all_eq_true.mp z2 _ hc
    simp at z3,names,fun y hy e=>by
    have z:=List.all_eq_true.mp free y hy
    rw [e] at z
    have z':(osc.names.lookup y.1 == some .cell || osc.names.lookup y.1 == some .free)=true:=by simpa using z
    show X.env.scope.names.lookup y.1=_∨X.env.scope.names.lookup y.1=_
    rw [hosc]
    simpa using z',len,fun j i e=>by
    obtain ⟨hj,_⟩:=List.getElem?_eq_some_iff.mp e
    have e2:ix.getD j 0=i:=by
      rw [List.getD_eq_getElem?_getD,e]
      rfl
    have z:=List.all_eq_true.mp take j (List.mem_range.mpr hj)
    rw [e2] at z
    cases h1:N'[j]? with
    | none=>rw [h1] at z; cases z
    | some x =>
      cases h2:oN[i]? with
      | none=>rw [h1,h2] at z; cases z
      | some y =>
        rw [h1,h2] at z
        have z':x=y∧scope.names.lookup x=some .free:=by simpa using z
        obtain ⟨rfl,z2⟩:=z'
        exact ⟨x,rfl,by rw [hoN]; exact h2,z2⟩,tgt,elt',test⟩
end
structure Has (P:Program) (w:World) (K:PySem.W.Frag) (mg:Str→Option Value) (base:Heap) (CX:CXT) (k:Nat) (x:Str) (ps:List Str) (sp:Sp):Prop where
  ex:∃ (f:Addr) (fd:FuncData),FnOk P w K mg base CX k f fd ps sp∧mg x=some (.ref f)∧PySem.W.keepIn K (.ref f)=true∧Binds K fd ps []
section
variable {X:Cx} {CX:CXT} {k:Nat} {x:Str} {ps:List Str} {sp:Sp} {E:XK} {p pos:Pos} {e:Expr} {es:List Expr} {t:TA}
theorem zaP (G:Has X.prog X.w X.K X.mg X.base CX k x ps sp) (hr:Room k X.A) (hg:Gl X x) (hx:zi7 CX X E)
    (ha:PA X (e :: es) t) (hdb:(x == ("__debug__" : Str))=false:=by decide) (he:starEach (e :: es) X.env=(false,eval e X.env) :: starEach es X.env:=by rfl) (hpl:(backTo pos (starEach es X.env)).any (·.1)=false:=by rfl) :
    PE X (.Call (.Name x p) (e :: es) [] pos) (zlW sp [] E t):=by
  obtain ⟨f,fd,F,hm,hk,hb⟩:=G.ex
  exact zoM F hr hg hm hk hb .nil hx ha hdb he hpl
end
structure DefAt (K:PySem.W.Frag) (x:Str) (st:Stmt) (f:Addr) (fd:FuncData):Prop where
  ns:PySem.W.nsIn K mainGlobals x=some (some (.ref f))
  fn:Fun K x x st f fd
theorem defAt_mk {K:PySem.W.Frag} {x:Str} {st:Stmt} {f:Addr} {oc:Value} {od an:Option Addr} {osl:Array (Option Value)} {kV doc pm cdv ct:Value} (a:PySem.W.nsIn K mainGlobals x=some (some (.ref f)))
    (l:K.lookup f=some ⟨oc,od,.func (PySem.W.fnOf x x (zfm st) (zef st) (zar st) .none kV doc pm an cdv ct),osl⟩) (c:PySem.W.codeIn K cdv x=true) (k:PySem.W.keepIn K (.ref f)=true):∃ f fd,DefAt K x st f fd :=
  ⟨f,_,a,zn3 l c k⟩
theorem DefAt.has {P:Program} {w:World} {K:PySem.W.Frag} {mg:Str→Option Value} {base h:Heap} {CX:CXT} {k:Nat} {x:Str} {st:Stmt} {f:Addr} {fd:FuncData} {ps:List Str} {sp:Sp} (D:DefAt K x st f fd) (X:K.In h) (G:h.Ns mainGlobals mg)
    (ok:FnOk P w K mg base CX k f fd ps sp) (b:Binds K fd ps []):Has P w K mg base CX k x ps sp:=⟨f,fd,ok,PySem.W.mg_of X G D.ns,D.fn.kp,b⟩
theorem zo9 {H:Hp} {a b:Addr} {o u:HO} (hn:H b=none) (h:H a=some o):upd H b u a=some o:=(zaH (zaW h hn)).trans h
theorem Same.upd {H:Hp} {b:Addr} {u:HO} (hn:H b=none):Same H (upd H b u):=fun _ _ h=>zo9 hn h
end L2
namespace L2
open PySem PySem.Spec PyProof.Rows
section
variable {X:Cx} {pos:Pos}
end
end L2
namespace L2
open PySem PySem.Spec PyProof.Rows
theorem kit_self {K:PySem.W.Frag} {T:String}:PySem.W.kitOne K (.type T) (.type T)=some true:=by
  unfold PySem.W.kitOne
  rw [if_pos (by simp)]
theorem kit_no {K:PySem.W.Frag} {S T:String} (h1:((Value.type S) == (Value.type T))=false) (h2:PySem.W.kitMeta T=true) (h3:(PySem.fastBuiltinMro S).map (·.contains (.type T))=some false):PySem.W.kitOne K (.type S) (.type T)=some false:=by
  unfold PySem.W.kitOne
  rw [h1,if_neg Bool.false_ne_true]
  show (if PySem.W.kitMeta T=true then PySem.W.subIn K (.type S) (.type T) else none)=some false
  rw [if_pos h2]
  exact h3
end L2
namespace L2
open PySem PySem.Spec PyProof.Rows
structure Tr (h:Heap) (e T:Addr) (cls:Value) (dct:Option Addr) (fl:Value):Prop where
  ex:∃ (oe:Obj) (vs:Array Value) (oT:Obj) (ts:Array Value),h.get? e=some oe∧oe.cls=cls∧oe.dict=dct∧oe.data = .fields vs∧vs[1]?=some (.ref T)∧h.get? T=some oT∧oT.data = .fields ts∧ts[3]?=some fl
  ne:T ≠ e
structure FlyD (B:Heap) (l:List Env) (e:Addr) (cls:Value) (dct:Option Addr) (fl:Value) (h:Heap):Prop where
  stays:B.StaysIn h
  out:B.get? e=none
  fun':h.FunFrames B l
  tr:∃ T,B.get? T=none∧Tr h e T cls dct fl
theorem Obj.dict_mapFields (o:Obj) (f):(o.mapFields f).dict=o.dict:=by
  obtain ⟨c,d,dt,sl⟩:=o
  cases dt <;> rfl
theorem zc0 {h:Heap} {a b:Addr} {o u:Obj} {vs:Array Value} (ha:h.get? a=some o) (hd:o.data = .fields vs) (hb:h.get? b=some u) (hn:∀ ws,u.data ≠ .fields ws):b ≠ a:=by
  intro z
  subst z
  rw [ha] at hb
  cases hb
  exact hn vs hd
section
variable {M:Model} {A:Around} {E:Value→Shared→Prop} {s:Shared} {B:Heap} {env:Env} {outer l:List Env} {L e:Addr} {cls:Value} {dct:Option Addr} {Q:Unit→Shared→Prop}
theorem znX {oe:Obj} {vs:Array Value} {head:Value} {had:Bool} (hfr:A.frames=some (env :: outer)) (hl:s.heap.FunFrames B (env :: outer)) (hf:env.frame=some L) (he:s.heap.get? e=some oe) (hd:oe.data = .fields vs) (hsz:1 < vs.size)
    (hst:B.StaysIn s.heap) (hen:B.get? e=none) (h:∀ h',FlyD B (env :: outer) e oe.cls oe.dict (rawInt L) h'→s.heap.UpToSlots h'→Q () { s with heap:=h' }) :
    wpAny M A (do let a ← frameOf env; let pl ← entryPlaceOf L had; let b ← EntryCells.newEntry head a .none (rawInt L) .none pl; setField (.ref e) 1 b) Q E s:=by
  have noF:e ∉ (env :: outer).filterMap (·.frame):=fun hm=>by
    obtain ⟨_,o,ho,hn⟩:=hl.mem hm
    exact zc0 he hd ho hn rfl
  refine wpAny_bind (wpAny_frameOf_fun hfr hl hf fun h₁ hs₁=>wpAny_bind (wpAny_entryPlaceOf fun pl hpl=>?_))
  have e1:h₁.get? e=some oe:=(hs₁.2.1 e noF).trans he
  have st1:B.StaysIn h₁:=fun b o q=>(hs₁.2.1 b fun hm=>by rw [(hl.mem hm).1] at q; cases q).trans (hst b o q)
  unfold EntryCells.newEntry newFields
  refine wpAny_bind (wpAny_newObj_type ?_ (hpl.sizeOk5 _ _ _ _ _))
  generalize hto:({ cls:=.type "traceback",dict:=none,data:=.fields ([head,.ref L,.none,rawInt L,.none] ++ (if pl.isEmpty then List.replicate 6 Value.none else pl)).toArray }:Obj)=ot
  have td:∃ ts,ot.data = .fields ts∧ts[3]?=some (rawInt L):=by
    subst hto
    refine ⟨_,rfl,?_⟩
    rcases hpl with rfl | ⟨_,_,_,_,_,_,_,rfl⟩ <;> simp
  have nfr:ot.isFreed=false:=by
    obtain ⟨ts,d,_⟩:=td
    exact Obj.isFreed_of_fields d
  have e2:(h₁.push ot).get? e=some oe:=Heap.get?_push_of_some _ e1
  refine wpAny_setField e2 hd hsz (h _ ?_ ?_)
  · have ne1:h₁.objs.size ≠ e:=Nat.ne_of_gt (Heap.lt_size e1)
    have kp:∀ b o,b ≠ e→h₁.get? b=some o→((h₁.push ot).update e (Obj.mapFields (·.setIfInBounds 1 (Value.ref h₁.objs.size)))).get? b=some o:=fun b o hb q=>by
      rw [Heap.get?_update_other _ _ (Ne.symm hb)]
      exact Heap.get?_push_of_some _ q
    have d3:=Obj.data_mapFields hd (·.setIfInBounds 1 (Value.ref h₁.objs.size))
    refine ⟨fun b o q=>kp b o (fun z=>by rw [z,hen] at q; cases q) (st1 b o q),hen,hl.of_keeps fun b o hb hn=>?_,h₁.objs.size,st1.fresh,⟨?_,ne1⟩⟩
    · obtain ⟨sl,q⟩:=hs₁.2.2 b o hb
      exact ⟨_,kp b _ (zc0 he hd hb hn) q,rfl⟩
    · obtain ⟨ts,t1,t2⟩:=td
      refine ⟨_,_,ot,ts,Heap.get?_update_self _ e2 (Obj.isFreed_of_fields d3),Obj.cls_mapFields _ _,Obj.dict_mapFields _ _,d3,by simp [hsz],?_,t1,t2⟩
      rw [Heap.get?_update_other _ _ (Ne.symm ne1)]
      exact Heap.get?_push_size _ nfr
  · intro b o hb hn
    obtain ⟨sl,q⟩:=hs₁.2.2 b o hb
    refine ⟨sl,?_⟩
    rw [Heap.get?_update_other _ _ (Ne.symm (zc0 he hd hb hn))]
    exact Heap.get?_push_of_some _ q
theorem zlx {fl:Value} (F:FlyD B l e cls dct fl s.heap) (h:∀ h',FlyD B l e cls dct .none h'→s.heap.UpToSlots h'→Q () { s with heap:=h' }):wpAny M A (setFlight (.ref e) none) Q E s:=by
  obtain ⟨T,bT,⟨oe,vs,oT,ts,he,hc,hdc,hd,h1,hT,hdT,h3⟩,ne⟩:=F.tr
  have sz:3 < ts.size:=(Array.getElem?_eq_some_iff.mp h3).1
  have oth:∀ b o,b ≠ T→s.heap.get? b=some o→(s.heap.update T (Obj.mapFields (·.setIfInBounds 3 Value.none))).get? b=some o:=fun b o hb q=>by
    rw [Heap.get?_update_other _ _ (Ne.symm hb)]
    exact q
  unfold setFlight
  refine wpAny_bind (wpAny_field he hd h1 ?_)
  rw [if_pos (show (Value.ref T != Value.none)=true by simp)]
  refine wpAny_setField hT hdT sz (h _ ⟨fun b o q=>oth b o (fun z=>by rw [z,bT] at q; cases q) (F.stays b o q),F.out,F.fun'.of_keeps fun b o hb hn=>⟨o,oth b o (zc0 hT hdT hb hn) hb,rfl⟩,T,bT,⟨?_,ne⟩⟩ fun b o hb hn=>⟨o.slots,oth b o (zc0 hT hdT hb hn) hb⟩)
  exact ⟨oe,vs,_,_,oth e oe (Ne.symm ne) he,hc,hdc,hd,h1,Heap.get?_update_self _ hT (Obj.isFreed_of_fields (Obj.data_mapFields hdT _)),Obj.data_mapFields hdT _,by simp [sz]⟩
theorem znt {h:Heap} {args:List Value} (hfr:A.frames=some (env :: outer)) (hf:env.frame=some L) (hst:B.StaysIn h) (hl:h.FunFrames B (env :: outer)) (hx:Heap.MadeExcOf h s.heap e cls args)
    (k:∀ h',FlyD B (env :: outer) e cls none (rawInt L) h'→s.heap.UpToSlots h'→Q () { s with heap:=h' }):wpAny M A (noteFrame (.ref e) env) Q E s:=by
  obtain ⟨t,he,_,_⟩:=hx.there
  have oe:B.get? e=none:=by
    cases q:B.get? e with
    | none=>rfl
    | some o=>have z:=hst e o q; rw [hx.new] at z; cases z
  unfold noteFrame
  simp only [hf]
  refine wpAny_bind (wpAny_field he rfl (x:=Value.none) rfl ?_)
  rw [if_neg (by decide)]
  exact znX hfr (hl.of_keeps fun b o hb _=>⟨o,hx.keeps b o hb,rfl⟩) hf he rfl (by simp) (fun b o q=>hx.keeps b o (hst b o q)) oe k
theorem zlJ (hfr:A.frames=some (env :: outer)) (hf:env.frame=some L) (F:FlyD B (env :: outer) e cls dct .none s.heap)
    (k:∀ h',FlyD B (env :: outer) e cls dct (rawInt L) h'→s.heap.UpToSlots h'→Q () { s with heap:=h' }):wpAny M A (noteFrame (.ref e) env) Q E s:=by
  obtain ⟨T,bT,⟨oe,vs,oT,ts,he,hc,hdc,hd,h1,hT,hdT,h3⟩,ne⟩:=F.tr
  have sz:3 < ts.size:=(Array.getElem?_eq_some_iff.mp h3).1
  have oth:∀ b o,b ≠ T→s.heap.get? b=some o→(s.heap.update T (Obj.mapFields (·.setIfInBounds 3 Value.none))).get? b=some o:=fun b o hb q=>by
    rw [Heap.get?_update_other _ _ (Ne.symm hb)]
    exact q
  subst hc
  subst hdc
  unfold noteFrame
  simp only [hf]
  refine wpAny_bind (wpAny_field he hd h1 ?_)
  rw [if_pos (show (Value.ref T != Value.none)=true by simp)]
  refine wpAny_bind (wpAny_field hT hdT h3 ?_)
  rw [if_neg (show ¬ ((Value.none == rawInt L)=true) by simp [rawInt])]
  refine wpAny_bind (wpAny_setField hT hdT sz ?_)
  refine znX hfr (F.fun'.of_keeps fun b o hb hn=>⟨o,oth b o (zc0 hT hdT hb hn) hb,rfl⟩) hf (oth e oe (Ne.symm ne) he) hd (Array.getElem?_eq_some_iff.mp h1).1 (fun b o q=>oth b o (fun z=>by rw [z,bT] at q; cases q) (F.stays b o q)) F.out fun h' F' up=>?_
  exact k h' F' fun b o hb hn=>up b o (oth b o (zc0 hT hdT hb hn) hb) hn
theorem FlyD.pop {h:Heap} {fl:Value} (F:FlyD B (env :: outer) e cls dct fl h):FlyD B outer e cls dct fl h:=⟨F.stays,F.out,F.fun'.2.2,F.tr⟩
end
end L2
namespace L2
open PySem PySem.Spec PyProof.Rows
structure Fly (P:Program) (w:World) (outer:List Env) (H:Hp) (s:Shared) (e:Addr) (cls:Value) (dct:Option Addr) (H':Hp) (s':Shared):Prop where
  os:s'.os=s.os
  bare:AllBare s'.gens
  un:Un (frs outer) [] H H' s.heap s'.heap
  lay:∃ B,FlyD B outer e cls dct .none s'.heap∧HOk P w H' B∧∀ b o,s.heap.get? b=some o→b ∉ frs outer→∃ o',B.get? b=some o'∧(H b=none→o'=o)
def CX1 (P:Program) (w:World):CXT:=fun outer H s E e s'=>∃ (ea C:Addr) (dct:Option Addr) (H':Hp),e = .ref ea∧Fly P w outer H s ea (.ref C) dct H' s'∧E (.ref C) dct H'
theorem HOk.fly {P:Program} {w:World} {H:Hp} {B h:Heap} (x:HOk P w H B) (st:B.StaysIn h):HOk P w H h:=x.kept fun b u q=>st b u q
theorem HOk.none_of {P:Program} {w:World} {H:Hp} {B:Heap} {a:Addr} (x:HOk P w H B) (n:B.get? a=none):H a=none:=by
  cases q:H a with
  | none=>rfl
  | some o =>
    have z:=x.lt q
    have z2:=(x a o q)
    exfalso
    cases o with
    | lst xs=>obtain ⟨_,_,_,_,e⟩:=z2; rw [n] at e; cases e
    | tup xs=>obtain ⟨_,_,_,o,e,_⟩:=z2; rw [n] at e; cases e
    | dK kvs=>obtain ⟨_,_,_,_,o,_,_,e,_⟩:=z2; rw [n] at e; cases e
    | dT kvs=>obtain ⟨_,_,_,_,o,_,_,e,_⟩:=z2; rw [n] at e; cases e
    | set S n'=>obtain ⟨o,_,_,_,e,_⟩:=z2; rw [n] at e; cases e
    | ins C dx fs=>obtain ⟨_,_,_,e,_⟩:=z2; rw [n] at e; cases e
    | own y=>obtain ⟨_,e⟩:=z2; rw [n] at e; cases e
    | xd fs=>obtain ⟨_,⟨_,_,_,e,_⟩,_⟩:=z2; rw [n] at e; cases e
    | rng lo hi=>obtain ⟨_,_,_,e⟩:=z2; rw [n] at e; cases e
    | frz ob u=>obtain ⟨e,_⟩:=z2; rw [n] at e; cases e
    | tbl ps=>obtain ⟨_,_,_,_,_,_,_,e,_⟩:=z2; rw [n] at e; cases e
    | met f y=>have e:B.get? a=some _:=z2; rw [n] at e; cases e
    | ext φ=>obtain ⟨_,⟨_,e⟩,_⟩:=z2; rw [n] at e; cases e
theorem zkn {fs fr:List Addr} {H0 H1 H2:Hp} {h0 h1 h2 h3 B:Heap} {L:Addr} (U:Un fs [] H0 H1 h0 h1) (V:Un fr [] H1 H2 h1 h2) (hL:h0.objs.size ≤ L) (sub:∀ b ∈ fr,b ∈ L :: fs) (sup:∀ b ∈ fs,b ∈ fr) (frf:∀ b ∈ fs,H0 b=none)
    (ndat:∀ b ∈ fs,∀ o,h2.get? b=some o→∀ vs,o.data ≠ .fields vs) (up:h2.UpToSlots h3) (st:B.StaysIn h3) (all:∀ b o,h1.get? b=some o→b ∉ fr→∃ o',B.get? b=some o'∧(H1 b=none→o'=o)) :
    Un fs [] H0 H2 h0 h3∧∀ b o,h0.get? b=some o→b ∉ fs→∃ o',B.get? b=some o'∧(H0 b=none→o'=o):=by
  have nfr:∀ b o,h0.get? b=some o→b ∉ fs→b ∉ fr:=fun b o e hb hm=>by
    rcases List.mem_cons.mp (sub b hm) with z | z
    · exact absurd (Nat.lt_of_lt_of_le (Heap.lt_size e) hL) (by rw [z]; exact Nat.lt_irrefl _)
    · exact hb z
  have third:∀ b o,h0.get? b=some o→b ∉ fs→∃ o',B.get? b=some o'∧(H0 b=none→o'=o):=fun b o e hb=>by
    obtain ⟨o1,e1⟩:=U.there b o e (by simp)
    obtain ⟨o2,e2,z⟩:=all b o1 e1 (nfr b o e hb)
    refine ⟨o2,e2,fun n=>?_⟩
    have e1':=U.keep b o e n hb (by simp)
    rw [e1] at e1'
    cases e1'
    exact z (U.free b o e n (by simp))
  have slots:∀ b o,h0.get? b=some o→b ∈ fs→∃ sl,h3.get? b=some { o with slots:=sl }:=fun b o e hb=>by
    have n:=frf b hb
    obtain ⟨s1,e1⟩:=U.slot b o e n hb (by simp)
    obtain ⟨s2,e2⟩:=V.slot b _ e1 (U.free b o e n (by simp)) (sup b hb) (by simp)
    obtain ⟨s3,e3⟩:=up b _ e2 (ndat b hb _ e2)
    exact ⟨s3,e3⟩
  refine ⟨⟨fun b o e n hb _=>?_,fun b o e n hb _=>slots b o e hb,fun b o e n _=>?_,fun b o e _=>?_,fun b xs e=>V.tups b xs (U.tups b xs e),fun b o u e=>V.frzs b o u (U.frzs b o u e),fun b ps e=>?_⟩,third⟩
  · obtain ⟨o',e',z⟩:=third b o e hb
    rw [z n] at e'
    exact st b o e'
  · obtain ⟨o1,e1⟩:=U.there b o e (by simp)
    exact V.free b o1 e1 (U.free b o e n (by simp)) (by simp)
  · by_cases hb:b ∈ fs
    · obtain ⟨sl,q⟩:=slots b o e hb
      exact ⟨_,q⟩
    · obtain ⟨o',e',_⟩:=third b o e hb
      exact ⟨o',st b o' e'⟩
  · obtain ⟨m1,e1⟩:=U.tbls b ps e
    obtain ⟨m2,e2⟩:=V.tbls b _ e1
    exact ⟨m1 ++ m2,by rw [e2,Array.append_assoc]⟩
section
variable {P:Program} {w:World} {K:PySem.W.Frag} {mg:Str→Option Value} {base:Heap} {N:List Str} {qual:Str} {scope:Scope} {f:Addr} {cd:Value} {A:Around} {outer:List Env} {s0:Shared} {H0:Hp} {E:XK}
abbrev cx1 (P:Program) (w:World) (K:PySem.W.Frag) (mg:Str→Option Value) (base:Heap) (N:List Str) (qual:Str) (scope:Scope) (f:Addr) (cd:Value) (A:Around) (outer:List Env) (s0:Shared) (H0:Hp) (E:XK):Cx:=cxOf (CX1 P w) P w K mg base N qual scope f cd A outer s0 H0 E
theorem znz {pins:List (Addr × Obj)} {σ:St} {H:Hp} {s s':Shared} {ea C:Addr} {args:List Value} (I:Inv (cx1 P w K mg base N qual scope f cd A outer s0 H0 E) pins σ H s) (hm:Heap.MadeExcOf s.heap s'.heap ea (.ref C) args)
    (os:s'.os=s.os) (bare:AllBare s'.gens) (q:E (.ref C) none H):(cx1 P w K mg base N qual scope f cd A outer s0 H0 E).xe (.ref ea) s':=by
  have hin:∀ env ∈ (cx1 P w K mg base N qual scope f cd A outer s0 H0 E).stack,∀ a,env.frame=some a→a ∈ frs (cx1 P w K mg base N qual scope f cd A outer s0 H0 E).stack:=fun env he a ha=>List.mem_filterMap.mpr ⟨env,he,ha⟩
  have hstk:=I.stack
  show wpAny (model P w) _ (leaving _ (.ref ea)) _ _ s'
  unfold leaving
  refine wpAny_bind (znt (B:=PySem.W.hideAll s.heap (frs (cx1 P w K mg base N qual scope f cd A outer s0 H0 E).stack)) I.ok.frames rfl (fun b o e=>PySem.W.of_hideAll _ e) (PySem.W.funFrames_hide hstk hin) hm fun h1 F1 up1=>?_)
  refine zlx F1 fun h2 F2 up2=>?_
  have keepS:∀ b o,s.heap.get? b=some o→b ∉ frs (cx1 P w K mg base N qual scope f cd A outer s0 H0 E).stack→(PySem.W.hideAll s.heap (frs (cx1 P w K mg base N qual scope f cd A outer s0 H0 E).stack)).get? b=some o:=fun b o e hb=>PySem.W.hideAll_get _ e hb
  obtain ⟨u,third⟩:=zkn (h2:=s.heap) (h3:=h2) (B:=PySem.W.hideAll s.heap (frs (cx1 P w K mg base N qual scope f cd A outer s0 H0 E).stack)) (fr:=frs (cx1 P w K mg base N qual scope f cd A outer s0 H0 E).stack) I.base Un.refl I.ok.above I.stkSub
    (fun b hb=>List.mem_cons_of_mem _ hb) I.ok.frf (fun b hb o e=>by
      obtain ⟨_,o',ho',hn⟩:=hstk.mem (List.mem_cons_of_mem _ hb)
      rw [e] at ho'
      cases ho'
      exact hn) ((Heap.UpToSlots.of_keeps hm.keeps).trans (up1.trans up2)) F2.stays (fun b o e hb=>⟨o,keepS b o e hb,fun _=>rfl⟩)
  refine ⟨ea,C,none,H,rfl,⟨os.trans I.os,bare,u,_,F2.pop,?_,third⟩,q⟩
  intro a o e
  refine (I.hok a o e).stay (fun b v hb q=>keepS b v q fun z=>?_) (fun _ q=>q) fun _ _ q=>q
  have n:=I.stkFree b z
  rcases hb with rfl | hb
  · rw [e] at n; cases n
  · rw [hb] at n; cases n
theorem znA {pins:List (Addr × Obj)} {σ:St} {H:Hp} {s s':Shared} {e:Value} (I:Inv (cx1 P w K mg base N qual scope f cd A outer s0 H0 E) pins σ H s) (h:CX1 P w (cx1 P w K mg base N qual scope f cd A outer s0 H0 E).stack H s E e s') :
    (cx1 P w K mg base N qual scope f cd A outer s0 H0 E).xe e s':=by
  obtain ⟨ea,C,dct,H',rfl,F,q⟩:=h
  obtain ⟨B,fl,hok,third⟩:=F.lay
  have hstk:=I.stack
  show wpAny (model P w) _ (leaving _ (.ref ea)) _ _ s'
  unfold leaving
  refine wpAny_bind (zlJ I.ok.frames rfl fl fun h1 F1 up1=>?_)
  refine zlx F1 fun h2 F2 up2=>?_
  obtain ⟨u,third'⟩:=zkn (h3:=h2) (B:=B) I.base F.un I.ok.above I.stkSub (fun b hb=>List.mem_cons_of_mem _ hb) I.ok.frf (fun b hb o e=>by
      obtain ⟨_,o',ho',hn⟩:=fl.fun'.mem (List.mem_cons_of_mem _ hb)
      rw [e] at ho'
      cases ho'
      exact hn) (up1.trans up2) F2.stays third
  exact ⟨ea,C,dct,H',rfl,⟨F.os.trans I.os,F.bare,u,B,F2.pop,hok,third'⟩,q⟩
end
theorem zlP {K:PySem.W.Frag} {h:Heap} {C:Addr} {bmB:List Value} {newId:String} (X:K.In h) (q:PySem.W.excIn K C bmB newId=true) :
    ∃ bm N nm qn bs hdct sn sub ab col dd k0 k1 k2 k3 k5 mN,h.get? C=some (excClassObj nm qn C N bs bm hdct sn sub ab col dd k0 k1 k2 k3 k5 newId)∧h.Ns N mN∧mN "__init__"=none∧OwnTail h bmB bm:=by
  unfold PySem.W.excIn at q
  split at q
  · rename_i dd cd sl ho
    split at q
    · rename_i C' bm k0 k1 k2 k3 n k5 hm hs
      simp only [Bool.and_eq_true,beq_iff_eq,Bool.not_eq_true'] at q
      obtain ⟨⟨⟨⟨⟨rfl,rfl⟩,hdel⟩,ht⟩,hok⟩,hni⟩:=q
      obtain ⟨nm,bs,mro,ns,qn,hd,sn,sub,ab,col,del⟩:=cd
      dsimp only at hm hdel hok hni
      subst hm hdel
      obtain ⟨sll⟩:=sl
      simp only at hs
      subst hs
      exact ⟨bm,ns,nm,qn,bs,hd,sn,sub,ab,col,dd,k0,k1,k2,k3,k5,_,X _ _ ho,.of_isNs (PySem.W.isNs_of_in X hok),PySem.W.nsMap_none_of_in X hok hni,PySem.W.tail_of_in X ht⟩
    · cases q
  · cases q
def Made (X:Cx) (E:St→XK):Prop:=∀ (pins:List (Addr × Obj)) (σ:St) (H:Hp) (s s':Shared) (ea C:Addr) (args:List Value),Inv X pins σ H s→Heap.MadeExcOf s.heap s'.heap ea (.ref C) args→s'.os=s.os→AllBare s'.gens→E σ (.ref C) none H→X.xe (.ref ea) s'
def ziC (CX:CXT) (X:Cx) (E:St→XK):Prop:=∀ (pins:List (Addr × Obj)) (σ:St) (H:Hp) (s:Shared) (e:Value) (s':Shared),Inv X pins σ H s→CX X.stack H s (E σ) e s'→X.xe e s'
def znV (C:Addr) (E:St→XK) (t:TA):TS:=fun _ σ H=>t σ H fun vs H1=>vs.length ≤ sizeLine∧E σ (.ref C) none H1
section
variable {X:Cx} {x:Str} {np cpos pos:Pos} {e₀:Expr} {rest:List Expr} {C:Addr} {bmB bmN:List Value} {newId Bn B nid inN initId:String} {E:St→XK} {t:TA}
theorem zgD (hc:X.calm=true) (hg:Gl X x) (hmx:X.mg x=some (.ref C)) (hk:PySem.W.excIn X.K C bmB newId=true) (Fn:ExcBaseFacts Bn newId inN bmN) (hBn:bmB.contains (.type Bn)=true) (FB:ExcBaseFacts B nid initId bmB) (hE:Made X E)
    (ha:PA X (e₀ :: rest) t) (he:starEach (e₀ :: rest) X.env=(false,eval e₀ X.env) :: starEach rest X.env:=by rfl) (hplain:(backTo cpos (starEach rest X.env)).any (·.1)=false:=by rfl) (hdb:(x == ("__debug__" : Str))=false:=by decide) :
    PS X (.Raise (some (.Call (.Name x np) (e₀ :: rest) [] cpos)) none pos) (znV C E t):=by
  intro pins s σ H D I h
  obtain ⟨tl,N,nm,qn,bs,hdct,sn,sub,ab,col,dd,k0,k1,k2,k3,k5,mN,hC,hN,hni,T⟩:=zlP I.ok.mod.kin hk
  refine wpAny_Raise_call_subU (C:=C) (nm:=nm) (q:=qn) (N:=N) (bs:=bs) (bm:=tl) (hdct:=hdct) (sn:=sn) (sub:=sub) (ab:=ab) (col:=col) (dd:=dd) (k0:=k0) (k1:=k1) (k2:=k2) (k3:=k3) (k5:=k5)
    Fn hBn FB (mN:=mN) (T.hasType FB.hasBase) (I.ok.hd hc) (by rw [he]; show (false || (backTo cpos (starEach rest X.env)).any (·.1))=false; rw [hplain]; rfl) hni (zfZ I hg hmx ⟨rfl,?_⟩ hdb)
  have hA:=ha cpos pins s σ H _ I h
  rw [he] at hA ⊢
  refine Calls.evalArgs_plain (thn hA fun us s1 ⟨vs,H1,I1,r1,z,q⟩=>?_)
  have bk:=I1.bk
  refine ⟨rfl,by rw [← r1.length]; exact z,bk _ _ hC,hN.keeps bk,T.keeps bk,fun h' ea hm=>?_⟩
  exact hE pins σ H1 s1 { s1 with heap:=h' } ea C us I1 hm rfl I1.bare q
end
def zl3 (sp:Sp) (E:St→XK) (t:TA):TE:=fun σ H Q=>t σ H fun vs H1=>sp vs H1 Q (E σ)
section
variable {X:Cx} {CX:CXT} {k:Nat} {x:Str} {ps:List Str} {sp:Sp} {E:St→XK} {p pos:Pos} {e:Expr} {es:List Expr} {t:TA}
theorem zbM (G:Has X.prog X.w X.K X.mg X.base CX k x ps sp) (hr:Room k X.A) (hg:Gl X x) (hx:ziC CX X E)
    (ha:PA X (e :: es) t) (hdb:(x == ("__debug__" : Str))=false:=by decide) (he:starEach (e :: es) X.env=(false,eval e X.env) :: starEach es X.env:=by rfl) (hpl:(backTo pos (starEach es X.env)).any (·.1)=false:=by rfl) :
    PE X (.Call (.Name x p) (e :: es) [] pos) (zl3 sp E t):=by
  obtain ⟨f,fd,F,hm,hk,hb⟩:=G.ex
  intro pins s σ H Q I h
  refine wpAny_Call_Name_kw (zfZ I hg hm ?_ hdb)
  refine PySem.W.callWith_K (h₀:=X.base) I.ok.mod.kin hk (thn (ha pos pins s σ H _ I h) fun us s1 ⟨vs,H1,I1,r,q⟩=>⟨I1.kIn,?_⟩) he hpl
  have hl:us.length=ps.length:=by rw [← r.length]; exact F.len _ _ _ _ q
  have bd:BindsTo s1 fd ⟨us,[]⟩ (ps.zip us):=by
    have z:=hb s1 us I1.kIn (by rw [List.append_nil]; exact hl)
    rw [List.append_nil] at z
    exact z
  refine wpAny_call (codeAny_mono (F.run X.A X.stack s1 H1 ⟨us,[]⟩ us vs Q (E σ) hr I1.env0 bd r q) fun rs s' hq=>?_)
  cases rs with
  | error e'=>exact hx pins σ H1 s1 e' s' I1 hq
  | ok fl =>
    cases fl with
    | ret u=>exact I1.after hq
    | next=>exact False.elim hq
    | brk=>exact False.elim hq
    | cont=>exact False.elim hq
end
theorem zi6 {K:PySem.W.Frag} {M:Model} {A:Around} {E:Value→Shared→Prop} {s:Shared} {Q:Bool→Shared→Prop} {e C D:Addr} {oe:Obj} (X:K.In s.heap) (he:s.heap.get? e=some oe) (hc:oe.cls = .ref C)
    (h1:PySem.W.kitCls K (.ref C) (.ref D)=some true) (h2:PySem.W.mroIn K D (.type "BaseException")=some true) (q:Q true s):wpAny M A (excMatches (.ref e) (.ref D)) Q E s:=by
  obtain ⟨hp,g,d,tk,os⟩:=s
  obtain ⟨l1,l2,l3⟩:=PySem.W.kit_cls (M:=M) X h1
  have l4:=PySem.W.looks_mroIn (M:=M) X h2
  have l5:PySem.W.Looks M hp (isInstance (.ref D) (.type "tuple")) false:=l1.andThen (PySem.W.Looks.of_pure tc_notTuple)
  have l6:PySem.W.Looks M hp (typeOf (.ref e)) (.ref C):=by
    rw [← hc]
    exact (PySem.W.Looks.ld he).andThen .now
  have l7:PySem.W.Looks M hp (isExcClass (.ref D)) true:=l2.andThen (by rw [if_pos rfl]; exact l4)
  unfold excMatches
  repeat (first | with_reducible refine PySem.W.Looks.at l5 ?_ | with_reducible refine PySem.W.Looks.at l6 ?_ | with_reducible refine PySem.W.Looks.at l7 ?_ | with_reducible refine PySem.W.Looks.at l3 ?_ | wp_step)
  exact q
def excO (C:Addr) (dct:Option Addr) (ea:Addr):HO:=.ext fun h=>∃ ob,h.get? ea=some ob∧ob.cls = .ref C∧ob.dict=dct∧∃ vs,ob.data = .fields vs
theorem Inv.track {X:Cx} {pins:List (Addr × Obj)} {σ:St} {H:Hp} {s:Shared} {ea:Addr} {o:HO} (I:Inv X pins σ H s) (hn:H ea=none) (h0:X.s₀.heap.get? ea=none) (hL:ea ≠ X.env.locals) (hc:∀ x c,X.env.cells.lookup x=some c→c ≠ ea)
    (hp:∀ p ∈ X.pn ++ pins,p.1 ≠ ea) (hnew:ObjOk X.prog X.w (upd H ea o) s.heap ea o):Inv X pins σ (upd H ea o) s:=by
  have ne:∀ {b:Addr} {u:HO},H b=some u→b ≠ ea:=fun q z=>by rw [z,hn] at q; cases q
  refine ⟨I.ok,I.os,I.bare,⟨I.base.keep,I.base.slot,fun b ob q n hx=>?_,I.base.there,fun b xs q=>?_,fun b ob u q=>?_,fun b ps q=>?_⟩,I.loc,I.cell,?_,fun x c q=>?_,fun p q=>?_,fun b u q=>?_,I.len⟩
  · rw [zaH (fun z=>by rw [z,h0] at q; cases q)]
    exact I.base.free b ob q n hx
  · have z:=I.base.tups b xs q
    rw [zaH (ne z)]; exact z
  · have z:=I.base.frzs b ob u q
    rw [zaH (ne z)]; exact z
  · obtain ⟨m,z⟩:=I.base.tbls b ps q
    exact ⟨m,by rw [zaH (ne z)]; exact z⟩
  · rw [zaH (Ne.symm hL)]; exact I.free
  · rw [zaH (hc x c q)]; exact I.freeC x c q
  · obtain ⟨a1,a2,a3,a4,a5⟩:=I.pin p q
    exact ⟨a1,by rw [zaH (hp p q)]; exact a2,a3,a4,a5⟩
  · by_cases hb:b=ea
    · subst hb
      rw [zaY] at q
      cases q
      exact hnew
    · rw [zaH hb] at q
      exact (I.hok b u q).stay (fun c v _ z=>z) (fun c z=>by rw [zaH (ne z)]; exact z) fun c xs z=>by rw [zaH (ne z)]; exact z
def Cx.suite (X:Cx) (ea:Addr):Cx:={ X with A:=X.A.mark (some (.ref ea)),calm:=false,xe:=fun _ _=>False }
theorem Inv.suite {X:Cx} {pins:List (Addr × Obj)} {σ:St} {H:Hp} {s:Shared} (I:Inv X pins σ H s) (ea:Addr):Inv (X.suite ea) pins σ H s :=
  ⟨⟨I.ok.mod,I.ok.kind,I.ok.glob,I.ok.blt,I.ok.above,I.ok.inj,I.ok.has,I.ok.cab,fun z=>(by cases (show false=true from z)),I.ok.frames,I.ok.stk,I.ok.exf,I.ok.bs,I.ok.bsz,I.ok.noex,I.ok.exfs,I.ok.funs,I.ok.frf,I.ok.tb⟩,I.os,I.bare,I.base,I.loc,I.cell,I.free,I.freeC,I.pin,I.hok,I.len⟩
theorem Inv.unsuite {X:Cx} {pins:List (Addr × Obj)} {σ:St} {H:Hp} {s:Shared} {ea:Addr} (ok:X.Ok) (I:Inv (X.suite ea) pins σ H s):Inv X pins σ H s :=
  ⟨ok,I.os,I.bare,I.base,I.loc,I.cell,I.free,I.freeC,I.pin,I.hok,I.len⟩
def tTry (K:PySem.W.Frag) (D':Addr) (tb:(St→XK)→TS) (i:Nat) (th:TS):TS:=fun D σ H =>
  tb (fun σ' cls dct H'=>∃ C,cls = .ref C∧PySem.W.kitCls K (.ref C) (.ref D')=some true∧∀ ea,H' ea=none→th { nx:=fun σ2 H2=>D.nx (σ2.set i none) H2,rt:=D.rt,bk:=fun σ2 H2=>D.bk (σ2.set i none) H2,ct:=fun σ2 H2=>D.ct (σ2.set i none) H2 } (σ'.set i (some (.ref ea))) (upd H' ea (excO C dct ea))) D σ H
section
variable {P:Program} {w:World} {X:Cx} {x n:Str} {np hpos pos:Pos} {body:List Stmt} {b₀:Stmt} {suite:List Stmt} {D':Addr} {tb:(St→XK)→TS} {th:TS} {i:Nat}
theorem zfB {pins:List (Addr × Obj)} {σ:St} {H:Hp} {s:Shared} {Q:Unit→Shared→Prop} (I:Inv X pins σ H s) (hN:X.N.Nodup) (hi:X.N[i]?=some n) (hn:X.env.kindOf n=some .local)
    (k:∀ s',Inv X pins (σ.set i none) H s'→Q () s'):wpAny (model X.prog X.w) X.A (do bindName X.env n .none; unbindBehindTheSuite X.env n hpos) Q X.xe s:=by
  have hk:X.env.scope.names.lookup n=some .local:=hn
  refine wpAny_bind (wpAny_bindName (zdL I hN hi (.inl hk) (v:=.non) rfl (fun s1 I1=>?_) (.inr hk)))
  obtain ⟨m,hm,hl⟩:=I1.loc
  have li:i < σ.length:=by
    rw [I.len]
    exact (List.getElem?_eq_some_iff.mp hi).1
  obtain ⟨u,ru,lu⟩:=hl i n .non hi (by rw [List.getElem?_set_self li]) (.inl hk)
  have hv:m n=some u:=by
    rcases lu with ⟨_,z⟩ | ⟨z,_⟩
    · exact z
    · rcases z with z | z <;> (rw [hn] at z; cases z)
  unfold unbindBehindTheSuite
  refine wpAny_onRaise (wpAny_unbindName_local hn hm hv (by rw [I.ok.kind]; rfl) fun h' u' hm' hs'=>k _ ?_)
  have I2:Inv X pins (σ.set i none) H s1:=I1.weak (by simp) fun j v e=>by
    by_cases hj:j=i
    · subst hj
      rw [List.getElem?_set_self li] at e
      cases e
    · rw [List.getElem?_set_ne (Ne.symm hj)] at e ⊢
      exact e
  have kp:∀ b o,b ≠ X.env.locals→s1.heap.get? b=some o→h'.get? b=some o:=fun b o hb e=>(hs'.2 b hb).trans e
  have e0:∀ b o,X.s₀.heap.get? b=some o→b ≠ X.env.locals:=fun b o e=>Nat.ne_of_lt (Nat.lt_of_lt_of_le (Heap.lt_size e) I.ok.above)
  refine ⟨I2.ok,I2.os,I2.bare,⟨fun b o e n' hb hx=>kp b o (e0 b o e) (I2.base.keep b o e n' hb hx),fun b o e n' hb hx=>?_,I2.base.free,fun b o e hx=>?_,I2.base.tups,I2.base.frzs,I2.base.tbls⟩,⟨_,hm',fun j y v e1 e2 e3=>?_⟩,fun y c e=>?_,I2.free,I2.freeC,fun p hp=>?_,?_,I2.len⟩
  · obtain ⟨sl,q⟩:=I2.base.slot b o e n' hb hx
    exact ⟨sl,kp b _ (e0 b o e) q⟩
  · obtain ⟨o',q⟩:=I2.base.there b o e hx
    exact ⟨o',kp b o' (e0 b o e) q⟩
  · by_cases hj:j=i
    · subst hj
      rw [List.getElem?_set_self li] at e2
      cases e2
    · rw [List.getElem?_set_ne (Ne.symm hj)] at e2
      have ny:y ≠ n:=fun z=>by
        subst z
        exact hj (zit hN e1 hi)
      obtain ⟨u2,r2,l2⟩:=hl j y v e1 (by rw [List.getElem?_set_ne (Ne.symm hj)]; exact e2) e3
      refine ⟨u2,r2,?_⟩
      rcases l2 with ⟨k1,k2⟩ | ⟨k1,c,k2,ob,k3,k4⟩
      · exact .inl ⟨k1,by show (if y=n then u' else m y)=_; rw [if_neg ny]; exact k2⟩
      · exact .inr ⟨k1,c,k2,ob,kp c ob (I1.cne y c k2) k3,k4⟩
  · obtain ⟨v,ob,k3,k4⟩:=I2.cell y c e
    exact ⟨v,ob,kp c ob (I2.cne y c e) k3,k4⟩
  · obtain ⟨a1,a2,a3,a4,a5⟩:=I2.pin p hp
    exact ⟨kp _ _ a3 a1,a2,a3,a4,a5⟩
  · intro a o e
    refine (I2.hok a o e).stay (fun b v hb q=>kp b v (fun z=>?_) q) (fun _ q=>q) fun _ _ q=>q
    have fr:=I2.free
    rcases hb with rfl | hb
    · rw [z,fr] at e; cases e
    · rw [z,fr] at hb; cases hb
def Cx.guard (X:Cx) (pl:List (Addr × Obj)) (xe:Value→Shared→Prop):Cx:={ X with pn:=pl,xe:=xe }
theorem Inv.guard {pins:List (Addr × Obj)} {σ:St} {H:Hp} {s:Shared} (I:Inv X pins σ H s) (xe:Value→Shared→Prop):Inv (X.guard (X.pn ++ pins) xe) [] σ H s :=
  ⟨⟨I.ok.mod,I.ok.kind,I.ok.glob,I.ok.blt,I.ok.above,I.ok.inj,I.ok.has,I.ok.cab,I.ok.hd,I.ok.frames,I.ok.stk,I.ok.exf,I.ok.bs,I.ok.bsz,I.ok.noex,I.ok.exfs,I.ok.funs,I.ok.frf,I.ok.tb⟩,I.os,I.bare,I.base,I.loc,I.cell,I.free,I.freeC,
    fun p hp=>I.pin p (by rw [List.append_nil] at hp; exact hp),I.hok,I.len⟩
theorem Inv.unguard {pins pins':List (Addr × Obj)} {σ:St} {H:Hp} {s:Shared} {xe:Value→Shared→Prop} (ok:X.Ok) (I:Inv (X.guard (X.pn ++ pins) xe) pins' σ H s):Inv X pins σ H s :=
  ⟨ok,I.os,I.bare,I.base,I.loc,I.cell,I.free,I.freeC,fun p hp=>I.pin p (List.mem_append_left _ hp),I.hok,I.len⟩
theorem zpK (hex:X.ex = []) (hst:X.stack=X.env :: X.outer) (hfr:X.env.frame=some X.env.locals) (hN:X.N.Nodup) (hi:X.N[i]?=some n) (hn:X.env.kindOf n=some .local) (hg:Gl X x) (hmx:X.mg x=some (.ref D')) (hD:PySem.W.mroIn X.K D' (.type "BaseException")=some true)
    (hb:∀ (E:St→XK) (pl:List (Addr × Obj)) (xe:Value→Shared→Prop),ziC (CX1 X.prog X.w) (X.guard pl xe) E→PSs (X.guard pl xe) body (tb E)) (hh:∀ ea,PSs (X.suite ea) (b₀ :: suite) th) (hdb:(x == ("__debug__" : Str))=false:=by decide) :
    PS X (.Try body [.ExceptHandler (some (.Name x np)) (some n) (b₀ :: suite) hpos] [] [] pos) (tTry X.K D' tb i th):=by
  intro pins s σ H D I h
  have ok:=I.ok
  refine wpAny_Try_except ?_
  refine wpAny_mono (hb _ (X.pn ++ pins) (fun e s₁=>wpAny (model X.prog X.w) X.A (noteFrame e X.env) (fun _ s₂=>wpAny (model X.prog X.w) X.A (setFlight e none) (fun _ s₃=>wpAny (model X.prog X.w) X.A (handleBy e X.env [.ExceptHandler (some (.Name x np)) (some n) (b₀ :: suite) hpos]) (SP X pins D) X.xe s₃) X.xe s₂) X.xe s₁) ?_ [] s σ H D (I.guard _) h) (fun f s1 q=>?_) fun _ _ q=>q
  · -- an exception of the body
    intro pins' σ' H1 s1 e s2 I1 hcx
    obtain ⟨ea,C,dct,H',rfl,F,C',hC',hm,hth⟩:=hcx
    cases hC'
    have J1:Inv X pins σ' H1 s1:=I1.unguard ok
    have F':Fly X.prog X.w (X.env :: X.outer) H1 s1 ea (.ref C) dct H' s2:=by
      rw [← hst]
      exact F
    obtain ⟨Fos,Fbare,Fun,B,fl,hok,third⟩:=F'
    have fr2:X.A.frames=some (X.env :: X.outer):=by rw [← hst]; exact ok.frames
    -- whatever the heap behind
    have land:∀ h' ,FlyD B (X.env :: X.outer) ea (.ref C) dct .none h'→s2.heap.UpToSlots h'→Inv X pins σ' H' { s2 with heap:=h' }:=fun h' F' up=>by
      obtain ⟨u,_⟩:=zkn (fs:=frs (X.env :: X.outer)) (fr:=frs (X.env :: X.outer)) (h0:=s1.heap) (h1:=s1.heap) (h3:=h') (B:=B) (L:=s1.heap.objs.size) Un.refl Fun (Nat.le_refl _) (fun b hb=>List.mem_cons_of_mem _ hb) (fun b hb=>hb)
        (fun b hb=>J1.stkFree b (by rw [hst]; exact hb)) (fun b hb o e=>by
          obtain ⟨_,o',ho',hn'⟩:=fl.fun'.mem hb
          rw [e] at ho'
          cases ho'
          exact hn') up F'.stays third
      obtain ⟨hh2,g2,d2,t2,os2⟩:=s2
      obtain rfl:os2=s1.os:=Fos
      show Inv X pins σ' H' { s1 with heap:=h',gens:=g2,drawn:=d2,toks:=t2 }
      exact J1.call (h':=h') (g':=g2) (d':=d2) (t':=t2) (ch:=[]) (by rw [hst]; exact u) (hok.fly F'.stays) Fbare fun b z=>absurd z (by simp)
    show wpAny (model X.prog X.w) X.A (noteFrame (.ref ea) X.env) _ _ s2
    refine zlJ fr2 hfr fl fun h1 F1 up1=>?_
    refine zlx F1 fun h2 F2 up2=>?_
    have J2:=land h2 F2 (up1.trans up2)
    obtain ⟨T,_,⟨oe,vs,_,_,he,hc,hdc,hd,_⟩,_⟩:=F2.tr
    refine wpAny_handleBy_cons (codeAny_handlers_test (zfZ (X:=X.suite ea) (J2.suite ea) hg hmx ?_ hdb)) (by intro z; cases z)
    refine zi6 (K:=X.K) J2.kIn he hc hm hD ?_
    refine codeAny_handlers_suite_as ?_
    refine zlx F2 fun h3 F3 up3=>?_
    have J3:=land h3 F3 ((up1.trans up2).trans up3)
    obtain ⟨T3,_,⟨oe3,vs3,_,_,he3,hc3,hdc3,hd3,_⟩,_⟩:=F3.tr
    have nH:H' ea=none:=hok.none_of F3.out
    have nfr:ea ∉ frs X.stack:=fun z=>by
      rw [hst] at z
      obtain ⟨_,o',ho',hn'⟩:=F3.fun'.mem z
      exact zc0 he3 hd3 ho' hn' rfl
    have nB:∀ b o,s1.heap.get? b=some o→b ∉ frs X.stack→b ≠ ea:=fun b o e hb z=>by
      obtain ⟨o',e',_⟩:=third b o e (by rw [← hst]; exact hb)
      rw [z,F3.out] at e'
      cases e'
    have nL:ea ≠ X.env.locals:=fun z=>nfr (by
      rw [hst,z]
      exact List.mem_filterMap.mpr ⟨X.env,List.mem_cons_self,hfr⟩)
    have J4:Inv (X.suite ea) pins σ' (upd H' ea (excO C dct ea)) { s2 with heap:=h3 }:=(J3.suite ea).track nH (by
        cases z:X.s₀.heap.get? ea with
        | none=>exact z
        | some o =>
          obtain ⟨o1,e1⟩:=J1.base.there ea o z (by rw [hex]; simp)
          exact absurd rfl (nB ea o1 e1 nfr)) nL (fun y c e z=>by
        obtain ⟨v,ob,k3,k4⟩:=J3.cell y c e
        rw [z] at k3
        have k3':h3.get? ea=some ob:=k3
        rw [he3] at k3'
        cases k3'
        rw [hd3] at k4
        cases k4) (fun p hp=>by
        obtain ⟨a1,_,a3,a4,_⟩:=J1.pin p hp
        exact nB p.1 p.2 a1 fun z=>(List.mem_cons.mp (J1.stkSub p.1 z)).elim a3 a4)
      ⟨⟨oe3,he3,hc3,hdc3,vs3,hd3⟩,⟨oe3,he3⟩,fun g1 g2 z k=>by
        obtain ⟨ob,z1,z2⟩:=z
        exact ⟨ob,k ob z1,z2⟩⟩
    refine zdL (X:=X.suite ea) J4 hN hi (.inl hn) (v:=.ref ea) rfl (fun s5 I5=>?_) (.inr hn)
    refine wpAny_mono (hh ea pins s5 _ _ _ I5 (hth ea nH)) (fun f s6 q6=>?_) fun _ _ z=>z.elim
    cases f with
    | next =>
      obtain ⟨σ6,H6,I6,q6⟩:=q6
      exact zfB (I6.unsuite ok) hN hi hn fun s7 I7=>⟨_,_,I7,q6⟩
    | brk =>
      obtain ⟨σ6,H6,I6,q6⟩:=q6
      exact zfB (I6.unsuite ok) hN hi hn fun s7 I7=>⟨_,_,I7,q6⟩
    | cont =>
      obtain ⟨σ6,H6,I6,q6⟩:=q6
      exact zfB (I6.unsuite ok) hN hi hn fun s7 I7=>⟨_,_,I7,q6⟩
    | ret v =>
      obtain ⟨v6,σ6,H6,I6,r6,q6⟩:=q6
      exact zfB (I6.unsuite ok) hN hi hn fun s7 I7=>⟨v6,_,_,I7,r6,q6⟩
  · cases f with
    | next =>
      obtain ⟨σ6,H6,I6,q6⟩:=q
      exact wpAny_execs_nil ⟨σ6,H6,I6.unguard ok,q6⟩
    | brk =>
      obtain ⟨σ6,H6,I6,q6⟩:=q
      exact ⟨σ6,H6,I6.unguard ok,q6⟩
    | cont =>
      obtain ⟨σ6,H6,I6,q6⟩:=q
      exact ⟨σ6,H6,I6.unguard ok,q6⟩
    | ret v =>
      obtain ⟨v6,σ6,H6,I6,r6,q6⟩:=q
      exact ⟨v6,σ6,H6,I6.unguard ok,r6,q6⟩
end
end L2
namespace L2
open PySem PySem.Spec PyProof.Rows
structure ExcCls (K:PySem.W.Frag) (C:Addr):Prop where
  ga:PySem.W.findIn K (.ref C) "__getattribute__"=some (some (.builtin "BaseException.__getattribute__"))
  gn:PySem.W.findIn K (.ref C) "__getattr__"=some none
  hd:PySem.W.hasDictIn K C=true
  ha:PySem.W.findIn K (.ref C) "__class__"=some (some (.builtin "object.__class__"))
  hn:PySem.W.specialIn K (.builtin "object.__class__") "__get__"=some (some (.builtin "getset_descriptor.__get__"))
  htk:PySem.W.takesIn K (.builtin "object.__class__")=some true
  hm:PySem.W.mroIn K C (.type "object")=some true
  hb:PySem.W.mroIn K C (.type "BaseException")=some true
theorem zj2 {K:PySem.W.Frag} {C:Addr} {od:Option Obj} {name:Str} {a g:Value} (hc:(PySem.W.clsIn K C).isSome=true) (ha:PySem.W.findIn K (.ref C) name=some (some a)) (hg:PySem.W.specialIn K a "__get__"=some (some g)) (ht:PySem.W.takesIn K a=some true) :
    PySem.W.findObj K C od name=some (.bind g a):=by
  obtain ⟨cd,hc⟩:=Option.isSome_iff_exists.mp hc
  unfold PySem.W.findObj
  rw [hc,Option.bind_some,ha,Option.bind_some]
  simp only [hg]
  show (PySem.W.takesIn K a).bind _=_
  rw [ht]
  rfl
set_option maxHeartbeats 4000000 in
theorem zmR {K:PySem.W.Frag} {x C:Addr} {ox:Obj} {od:Option Obj} {prog:Program} {w:World} {A:Around} {E:Value→Shared→Prop} {Q:Option Value→Shared→Prop} {s:Shared} (Z:ExcCls K C) (X:K.In s.heap) (I:PySem.W.InstAt s.heap x ox C od)
    (k:Q (some (.ref C)) { s with toks:=s.toks + 1 }):wpAny (model prog w) A (getAttr? (.ref x) "__class__") Q E s:=by
  have hf:PySem.W.findObj K C od "__class__"=some (.bind (.builtin "getset_descriptor.__get__") (.builtin "object.__class__")):=zj2 (by obtain ⟨cd,hc,_⟩:=PySem.W.any_some Z.hd; rw [hc]; rfl) Z.ha Z.hn Z.htk
  have X':=X
  have I':=I
  have Z':=Z
  obtain ⟨hh,g,d,t,os⟩:=s
  have L0:=I.type (M:=model prog w)
  have L1:=PySem.W.looks_findIn (M:=model prog w) X Z.ga
  have L2:=PySem.W.looks_findIn (M:=model prog w) X Z.gn
  have L3:=PySem.W.looks_find (M:=model prog w) X I hf
  have L4:PySem.W.Looks (model prog w) hh (isInstance (.ref x) (.type "BaseException")) true:=L0.andThen (PySem.W.looks_mroIn X Z.hb)
  have f3:=F.attr_ValueError.ga.bind (.ref x)
  have hx0:((false:Bool) && onTheHeap (Value.builtin "BaseException.__getattribute__"))=false:=rfl
  have hx2:(Value.builtin "BaseException.__getattribute__" == Value.builtin "object.__getattribute__")=false:=by decide +kernel
  have hx1:(onTheHeap (Value.ref C) && Value.builtin "BaseException.__getattribute__" == Value.builtin "object.__getattribute__")=false:=by rw [hx2]; rfl
  unfold getAttr? getAttrBy?
  refine wpAny_bind (wpAny_mkText (wpAny_bind (wpAny_attempt ?_)))
  repeat (any_goals (first | assumption | with_reducible refine PySem.W.Looks.at L0 ?_ | with_reducible refine PySem.W.Looks.at L1 ?_ | with_reducible refine PySem.W.Looks.at L2 ?_ | wp_step))
  have hk:builtinKind "BaseException.__getattribute__"=some .slot:=by decide +kernel
  have hsplit:splitId "BaseException.__getattribute__"=some ("BaseException","__getattribute__"):=by decide +kernel
  have har:=F.args_bexc_ga (.ref x) (.str "__class__" t)
  refine codeAny_call_builtin F.attr_ValueError.ga.plain F.entry_bexc_ga ?_
  simp only [checkBuiltinCall,hk,hsplit]
  refine wpAny_bind ?_
  refine PySem.W.Looks.at L4 ?_
  repeat (any_goals (first | assumption | with_reducible refine PySem.W.Looks.at L4 ?_ | with_reducible refine PySem.W.Looks.at L0 ?_ | with_reducible refine PySem.W.Looks.at L3 ?_ | wp_step))
  exact PySem.W.class_get (s:=⟨hh,g,d,t + 1,os⟩) (ox:=ox) (od:=od) X I Z.hm (wpAny_pure (PySem.W.handed_on rfl (wpAny_pure k)))
theorem zkO {K:PySem.W.Frag} {x C:Addr} (Z:ExcCls K C):PySem.W.KitX K (.ref x) (.ref C) (fun h=>∃ ox od,PySem.W.InstAt h x ox C od) where
  ty:=fun _ _ _ I=>by
    obtain ⟨ox,od,I⟩:=I
    exact I.type
  it:=fun _ _ X _=>by
    obtain ⟨cd,hc,_⟩:=PySem.W.any_some Z.hd
    unfold PySem.W.clsIn at hc
    split at hc
    · rename_i ho
      intro A' Q' E' s' k q
      unfold isType loadHead
      exact wpAny_bind (wpAny_loadPart (k _ _ (X _ _ ho)) (wpAny_pure q))
    · cases hc
  ne:=fun h tp dd its n sl X htp=>by
    obtain ⟨cd,hc,_⟩:=PySem.W.any_some Z.hd
    refine Bool.eq_false_iff.mpr fun q=>?_
    have e:C=tp:=Value.ref.inj (beq_iff_eq.mp q)
    subst e
    unfold PySem.W.clsIn at hc
    split at hc
    · rename_i ho
      have z:=(X _ _ ho).symm.trans htp
      cases z
    · cases hc
  ca:=fun {prog w A E Q s} X I k=>by
    obtain ⟨ox,od,I⟩:=I
    exact zmR Z X I k
theorem ziA {K:PySem.W.Frag} {C D:Addr} {b:Bool} (h1:PySem.W.hasDictIn K D=true) (h2:PySem.W.typeIn K (.ref D)=some (.type "type")) (h3:PySem.W.mroIn K C (.ref D)=some b):PySem.W.kitCls K (.ref C) (.ref D)=some b:=by
  obtain ⟨cd,hc,_⟩:=PySem.W.any_some h1
  show (if ((PySem.W.clsIn K D).isSome && PySem.W.typeIn K (.ref D) == some (.type "type"))=true then PySem.W.subIn K (.ref C) (.ref D) else none)=some b
  rw [hc,h2,if_pos (by simp)]
  exact h3
theorem zdW {K:PySem.W.Frag} {C D:Addr} {b:Bool} (h1:PySem.W.hasDictIn K D=true) (h2:PySem.W.typeIn K (.ref D)=some (.type "type")) (h3:PySem.W.mroIn K C (.ref D)=some b) (h4:PySem.W.mroIn K C (.ref C)=some true):PySem.W.kitOne K (.ref C) (.ref D)=some b:=by
  unfold PySem.W.kitOne
  by_cases e:C=D
  · subst e
    rw [if_pos (by simp)]
    exact h4.symm.trans h3
  · rw [if_neg (by simpa using e)]
    exact ziA h1 h2 h3
theorem zkW {K:PySem.W.Frag} {C:Addr} {S:String} {b:Bool} (h1:PySem.W.kitMeta S=true) (h2:PySem.W.mroIn K C (.type S)=some b):PySem.W.kitOne K (.ref C) (.type S)=some b:=by
  unfold PySem.W.kitOne
  rw [if_neg (by simp)]
  show (if PySem.W.kitMeta S=true then PySem.W.subIn K (.ref C) (.type S) else none)=some b
  rw [if_pos h1]
  exact h2
theorem zeE:PySem.W.kitMeta "ValueError"=true:=by decide +kernel
section
variable {X:Cx}
def rIsX (K:PySem.W.Frag):List V→Hp→VK→Prop:=fun xs H Q=>∃ a C dct c cv b,xs = [.ref a,c]∧clsV c=some cv∧H a=some (excO C dct a)∧(∀ dx,dct=some dx→∃ fs,H dx=some (.xd fs))∧ExcCls K C∧PySem.W.kitOne K (.ref C) cv=some b∧Q (.bl b) H
theorem zbE:ze0 X (.builtin "isinstance") (rIsX X.K):=by
  intro pins s σ H xs us Q I r h
  obtain ⟨a,C,dct,c,cv,b,rfl,hc,hH,hdx,Z,hk,q⟩:=h
  obtain ⟨u,v,rfl,rx,ry⟩:=zng r
  cases zkS hc ry
  cases (show u=Value.ref a from rx)
  obtain ⟨⟨ob,h1,h2,h3,vs,h4⟩,_⟩:=I.hok a _ hH
  cases dct with
  | none=>exact PySem.W.kia_one (zkO Z) I.kIn ⟨ob,none,h1,h2,by unfold PySem.W.notCls; rw [h4],by rw [h3]; trivial⟩ hk (fun z=>nomatch z) fun tk=>⟨.bl b,H,I.tok _,rfl,q⟩
  | some dx =>
    obtain ⟨fs,efs⟩:=hdx dx rfl
    obtain ⟨_,⟨od,_,_,hod,_⟩,_⟩:=(show ObjOk X.prog X.w H s.heap dx (.xd fs) from I.hok dx _ efs)
    exact PySem.W.kia_one (zkO Z) I.kIn ⟨ob,some od,h1,h2,by unfold PySem.W.notCls; rw [h4],by rw [h3]; exact hod⟩ hk (fun z=>nomatch z) fun tk=>⟨.bl b,H,I.tok _,rfl,q⟩
end
section
variable {P:Program} {w:World} {K:PySem.W.Frag} {mg:Str→Option Value} {base:Heap} {N:List Str} {qual:Str} {scope:Scope} {f:Addr} {cd:Value} {A:Around} {outer:List Env} {s0:Shared} {H0:Hp} {E:XK}
theorem zny:Made (cx1 P w K mg base N qual scope f cd A outer s0 H0 E) (fun _=>E):=fun _ _ _ _ _ _ _ _ I hm os bare q=>znz I hm os bare q
theorem zeo:ziC (CX1 P w) (cx1 P w K mg base N qual scope f cd A outer s0 H0 E) (fun _=>E):=fun _ _ _ _ _ _ I h=>znA I h
theorem zk4 {X:Cx}:zi7 (CX1 P w) X E0:=fun _ _ _ _ _ _ _ h=>by
  obtain ⟨_,_,_,_,_,_,z⟩:=h
  exact z.elim
theorem Fun.ok1 {x qual:Str} {st:Stmt} {f:Addr} {fd:FuncData} {N ps:List Str} {k:Nat} {sp:Sp} (F:Fun K x qual st f fd) (S:FnScope N ps (zar st)) (len:∀ vs H Q E,sp vs H Q E→vs.length=ps.length)
    (hbody:∀ (cdv:Value) (A:Around) (outer:List Env) (s:Shared) (H:Hp) (vs:List V) (Q:VK) (E:XK),Room k (A.deeper (envOfC qual (zar st) s.heap.objs.size f cdv))→sp vs H Q E →
      ∃ t,PSs (cx1 P w K mg base N qual (zar st) f cdv A outer s H E) (zef st) t∧t { nx:=fun _ H'=>Q .non H',rt:=Q } (start N vs) H):FnOk P w K mg base (CX1 P w) (k + 1) f fd ps sp:=by
  obtain ⟨oc,od,kV,doc,pm,an,cdv,ct,osl,rfl,lk,hcd⟩:=F.ex
  exact zpu lk hcd S len fun A outer s H vs Q E hr hsp=>hbody cdv A outer s H vs Q E hr hsp
end
end L2
namespace PM
open PySem L2
inductive D where
  | non | bl (b:Bool) | int (i:Int) | str (x:Str) | tup (l:List D) | lst (l:List D) | dct (ks:List Key) (l:List D) | scr (l:List Int) | exc (c:Nat) | fd (ks:List Key) (l:List D) | obj (c:Nat) (ks:List Str) (l:List D)
structure Kx where
  f:W.Frag
  ca:Nat→Addr
  an:Nat→Str
def XA (K:Kx) (F:Hp) (c:Nat) (dct:Option Addr):Prop:=if c < 16 then dct=none else ∃ dx,dct=some dx∧F dx=some (.xd [(K.an c,.int (((c / 16:Nat):Int) - 1))])
section
variable (K:Kx)
mutual
def Rep (F:Hp):D→V→Prop
  | .non,v=>v = .non
  | .bl b,v=>v = .bl b
  | .int i,v=>v = .int i
  | .str x,v=>v = .str x
  | .scr l,v=>∃ a,v = .ref a∧SqL K.f F a (l.map V.int)
  | .exc c,v=>∃ a dct,v = .ref a∧F a=some (excO (K.ca c) dct a)∧XA K F c dct
  | .tup l,v=>∃ a vs,v = .ref a∧F a=some (.tup vs)∧RepL F l vs
  | .fd ks l,v=>∃ a o kvs,v = .ref a∧F a=some (.frz o (.dK kvs))∧kvs.map (·.1)=ks∧RepL F l (kvs.map (·.2))
  | .obj c ks l,v=>∃ a dx fs,v = .ref a∧F a=some (.ins (K.ca c) dx fs)∧fs.map (·.1)=ks∧RepL F l (fs.map (·.2))
  | .lst l,v=>∃ a vs,v = .ref a∧Rd F a (.lst vs)∧RepL F l vs
  | .dct ks l,v=>∃ a kvs,v = .ref a∧F a=some (.dK kvs)∧kvs.map (·.1)=ks∧RepL F l (kvs.map (·.2))
def RepL (F:Hp):List D→List V→Prop
  | [],vs=>vs = []
  | d :: l,vs=>∃ v r,vs=v :: r∧Rep F d v∧RepL F l r
end
end
def ifC {α:Type} (p:Prop) (a b:α):α:=@ite α p (Classical.propDecidable p) a b
@[simp] theorem zbr {α:Type} {p:Prop} {a b:α} (h:p):ifC p a b=a:=if_pos h
theorem zmC {α:Type} {p:Prop} {a b:α} (h:¬ p):ifC p a b=b:=if_neg h
structure Xc where
  c:Nat
inductive R (α:Type) where
  | no | ok (a:α) | ex (x:Xc)
namespace R
def bind {α β:Type}:R α→(α→R β)→R β
  | .no,_=>.no
  | .ok a,f=>f a
  | .ex x,_=>.ex x
@[simp] theorem bind_ok {α β:Type} (a:α) (f:α→R β):(R.ok a).bind f=f a:=rfl
@[simp] theorem zpY {α β:Type} (f:α→R β):(R.no:R α).bind f = .no:=rfl
@[simp] theorem zpU {α β:Type} (x:Xc) (f:α→R β):(R.ex x:R α).bind f = .ex x:=rfl
end R
inductive Sl where
  | no | v (d:D) | o (d:D) | l (d:D) | p (ll:List (List Int))
abbrev En:=List Sl
inductive O where
  | no | nx (δ:En) | rt (d:D) | ro (d:D) | bk (δ:En) | ct (δ:En) | ex (δ:En) (x:Xc)
structure Ext (F H F' H':Hp):Prop where
  ff:Same F F'
  hh:Same H H'
  fh:Same F' H'
  nw:∀ p o,F p=none→H p=some o→F' p=none
theorem Ext.refl {F H:Hp} (s:Same F H):Ext F H F H:=⟨.refl _,.refl _,s,fun _ _ h _=>h⟩
theorem Ext.trans {F H F1 H1 F2 H2:Hp} (a:Ext F H F1 H1) (b:Ext F1 H1 F2 H2):Ext F H F2 H2 :=
  ⟨a.ff.trans b.ff,a.hh.trans b.hh,b.fh,fun p o h1 h2=>b.nw p o (a.nw p o h1 h2) (a.hh p o h2)⟩
theorem Ext.new {F H:Hp} {p:Addr} {o:HO} (s:Same F H) (h:H p=none):Ext F H (upd F p o) (upd H p o):=by
  have hf:=s.free h
  refine ⟨Same.upd hf,Same.upd h,fun b u q=>?_,fun q u h1 h2=>?_⟩
  · by_cases e:b=p
    · subst e; rw [zaY] at q ⊢; exact q
    · rw [zaH e] at q ⊢; exact s _ _ q
  · rw [zaH (zaW h2 h)]; exact h1
theorem Ext.newO {F H:Hp} {p:Addr} {o:HO} (s:Same F H) (h:H p=none):Ext F H F (upd H p o):=by
  refine ⟨.refl _,Same.upd h,s.trans (Same.upd h),fun q u h1 h2=>h1⟩
theorem Same.rd {H H':Hp} {a:Addr} {u:HO} (e:Same H H') (h:Rd H a u):Rd H' a u:=h.elim (fun h=>.inl (e _ _ h)) fun ⟨o,h⟩=>.inr ⟨o,e _ _ h⟩
section
variable {K:Kx} {F F' H H':Hp}
theorem XA.mono {c:Nat} {dct:Option Addr} (h:XA K F c dct) (e:Same F F'):XA K F' c dct:=by
  unfold XA at h ⊢
  split
  · rename_i hc; rw [if_pos hc] at h; exact h
  · rename_i hc
    rw [if_neg hc] at h
    obtain ⟨dx,h1,h2⟩:=h
    exact ⟨dx,h1,e _ _ h2⟩
mutual
theorem Rep.mono (e:Same F F'):∀ (d:D) {v:V},Rep K F d v→Rep K F' d v
  | .non,v,h=>by simpa only [Rep] using h
  | .bl b,v,h=>by simpa only [Rep] using h
  | .int b,v,h=>by simpa only [Rep] using h
  | .str b,v,h=>by simpa only [Rep] using h
  | .exc c,v,h=>by
    simp only [Rep] at h ⊢
    obtain ⟨a,dct,h1,h2,h3⟩:=h
    exact ⟨a,dct,h1,e _ _ h2,h3.mono e⟩
  | .fd ks l,v,h=>by
    simp only [Rep] at h ⊢
    obtain ⟨a,o,vs,h1,h2,h0,h3⟩:=h
    exact ⟨a,o,vs,h1,e _ _ h2,h0,RepL.mono e l h3⟩
  | .obj c ks l,v,h=>by
    simp only [Rep] at h ⊢
    obtain ⟨a,o,vs,h1,h2,h0,h3⟩:=h
    exact ⟨a,o,vs,h1,e _ _ h2,h0,RepL.mono e l h3⟩
  | .scr l,v,h=>by
    simp only [Rep] at h ⊢
    obtain ⟨a,h1,h2⟩:=h
    exact ⟨a,h1,e.seq h2⟩
  | .tup l,v,h=>by
    simp only [Rep] at h ⊢
    obtain ⟨a,vs,h1,h2,h3⟩:=h
    exact ⟨a,vs,h1,e _ _ h2,RepL.mono e l h3⟩
  | .lst l,v,h=>by
    simp only [Rep] at h ⊢
    obtain ⟨a,vs,h1,h2,h3⟩:=h
    exact ⟨a,vs,h1,PM.Same.rd e h2,RepL.mono e l h3⟩
  | .dct ks l,v,h=>by
    simp only [Rep] at h ⊢
    obtain ⟨a,vs,h1,h2,h0,h3⟩:=h
    exact ⟨a,vs,h1,e _ _ h2,h0,RepL.mono e l h3⟩
theorem RepL.mono (e:Same F F'):∀ (l:List D) {vs:List V},RepL K F l vs→RepL K F' l vs
  | [],vs,h=>by simpa only [RepL] using h
  | d :: l,vs,h=>by
    simp only [RepL] at h ⊢
    obtain ⟨v,r,h1,h2,h3⟩:=h
    exact ⟨v,r,h1,Rep.mono e d h2,RepL.mono e l h3⟩
end
theorem RepL.length:∀ {l:List D} {vs:List V},RepL K F l vs→vs.length=l.length
  | [],vs,h=>by simp only [RepL] at h; subst h; rfl
  | d :: l,vs,h=>by
    simp only [RepL] at h
    obtain ⟨v,r,rfl,_,h3⟩:=h
    simp [RepL.length h3]
theorem RepL.get:∀ {l:List D} {vs:List V} {i:Nat} {d:D},RepL K F l vs→l[i]?=some d→∃ v,vs[i]?=some v∧Rep K F d v
  | [],vs,i,d,h,e=>by simp at e
  | x :: l,vs,0,d,h,e=>by
    simp only [RepL] at h
    obtain ⟨v,r,rfl,h2,h3⟩:=h
    simp at e; subst e
    exact ⟨v,rfl,h2⟩
  | x :: l,vs,i + 1,d,h,e=>by
    simp only [RepL] at h
    obtain ⟨v,r,rfl,h2,h3⟩:=h
    obtain ⟨u,h4,h5⟩:=RepL.get h3 (i:=i) (d:=d) (by simpa using e)
    exact ⟨u,by simpa using h4,h5⟩
theorem RepL.nil:RepL K F [] []:=by simp only [RepL]
theorem RepL.cons {d:D} {l:List D} {v:V} {vs:List V} (h1:Rep K F d v) (h2:RepL K F l vs):RepL K F (d :: l) (v :: vs):=by
  simp only [RepL]; exact ⟨v,vs,rfl,h1,h2⟩
theorem RepL.append:∀ {l:List D} {vs:List V} {l':List D} {vs':List V},RepL K F l vs→RepL K F l' vs'→RepL K F (l ++ l') (vs ++ vs')
  | [],vs,l',vs',h,h'=>by simp only [RepL] at h; subst h; exact h'
  | d :: l,vs,l',vs',h,h'=>by
    simp only [RepL] at h
    obtain ⟨v,r,rfl,h2,h3⟩:=h
    exact .cons h2 (RepL.append h3 h')
theorem RepL.drop:∀ {l:List D} {vs:List V} (n:Nat),RepL K F l vs→RepL K F (l.drop n) (vs.drop n)
  | l,vs,0,h=>h
  | [],vs,n + 1,h=>by simp only [RepL] at h; subst h; exact .nil
  | d :: l,vs,n + 1,h=>by
    simp only [RepL] at h
    obtain ⟨v,r,rfl,h2,h3⟩:=h
    exact RepL.drop n h3
theorem RepL.take:∀ {l:List D} {vs:List V} (n:Nat),RepL K F l vs→RepL K F (l.take n) (vs.take n)
  | l,vs,0,h=>by simpa using RepL.nil
  | [],vs,n + 1,h=>by simp only [RepL] at h; subst h; exact .nil
  | d :: l,vs,n + 1,h=>by
    simp only [RepL] at h
    obtain ⟨v,r,rfl,h2,h3⟩:=h
    exact .cons h2 (RepL.take n h3)
theorem RepL.ints {ns:List Int}:RepL K F (ns.map .int) (ns.map .int):=by
  induction ns with
  | nil=>exact .nil
  | cons a l ih=>exact .cons rfl ih
end
section
variable (K:Kx)
def Top (F H:Hp):D→V→Prop
  | .lst l,v=>∃ a vs,v = .ref a∧Rd H a (.lst vs)∧RepL K F l vs
  | .dct ks l,v=>∃ a kvs,v = .ref a∧H a=some (.dK kvs)∧kvs.map (·.1)=ks∧RepL K F l (kvs.map (·.2))
  | .obj c ks l,v=>∃ a dx fs,v = .ref a∧H a=some (.ins (K.ca c) dx fs)∧fs.map (·.1)=ks∧RepL K F l (fs.map (·.2))
  | d,v=>Rep K F d v
def Own (F H:Hp):D→Addr→Prop
  | .lst l,a=>∃ vs,H a=some (.lst vs)∧RepL K F l vs
  | .dct ks l,a=>∃ kvs,H a=some (.dK kvs)∧kvs.map (·.1)=ks∧RepL K F l (kvs.map (·.2))
  | .obj c ks l,a=>∃ dx fs,H a=some (.ins (K.ca c) dx fs)∧fs.map (·.1)=ks∧RepL K F l (fs.map (·.2))
  | _,_=>False
structure Tab (H:Hp) (a:Addr) (bs:List Addr) (ll:List (List Int)):Prop where
  top:H a=some (.lst (bs.map .ref))
  len:bs.length=ll.length
  row:∀ (i:Nat) (b:Addr) (l:List Int),bs[i]?=some b→ll[i]?=some l→H b=some (.lst (l.map .int))
  nd:(a :: bs).Nodup
def SlOk (H0 F H:Hp):Option Sl→Option (Option V)→Prop
  | some (.v d),s=>∃ u,s=some (some u)∧Rep K F d u
  | some (.o d),s=>∃ a,s=some (some (.ref a))∧H0 a=none∧F a=none∧Own K F H d a
  | some (.l d),s=>∃ a,s=some (some (.ref a))∧H0 a=none∧F a=none∧Own K F H d a
  | some (.p ll),s=>∃ a bs,s=some (some (.ref a))∧Tab H a bs ll∧∀ b ∈ a :: bs,H0 b=none∧F b=none
  | _,_=>True
end
def Sl.own:Option Sl→Bool
  | some (.o _)=>true
  | some (.l _)=>true
  | some (.p _)=>true
  | _=>false
structure EnvOk (K:Kx) (Λ:List (Nat × Addr × HO)) (F0 H0 F H:Hp) (σ:St) (δ:En):Prop where
  ext:Ext F0 H0 F H
  len:σ.length=δ.length
  slot:∀ i:Nat,SlOk K H0 F H δ[i]? σ[i]?
  dist:∀ (i j:Nat) (a:Addr),i ≠ j→Sl.own δ[i]?=true→Sl.own δ[j]?=true→σ[i]?=some (some (.ref a))→σ[j]?=some (some (.ref a))→False
  lent:∀ x ∈ Λ,(∃ d,δ[x.1]?=some (.l d))∧σ[x.1]?=some (some (.ref x.2.1))∧H x.2.1=some x.2.2
  tabs:∀ (i:Nat) (ll:List (List Int)) (a:Addr) (vs:List V),δ[i]?=some (.p ll)→σ[i]?=some (some (.ref a))→H a=some (.lst vs)→(∀ (j:Nat) (b:Addr),j ≠ i→Sl.own δ[j]?=true→σ[j]?=some (some (.ref b))→V.ref b ∉ vs)∧∀ (j:Nat) (ll':List (List Int)),δ[j]?=some (.p ll')→j=i
section
variable {K:Kx} {Λ:List (Nat × Addr × HO)} {F0 H0 F H F' H' F1 H1:Hp} {σ:St} {δ:En}
theorem Own.mono (e1:Same F F') (e2:Same H H'):∀ {d:D} {a:Addr},Own K F H d a→Own K F' H' d a
  | .lst l,a,h=>let ⟨vs,h1,h2⟩:=h; ⟨vs,e2 _ _ h1,h2.mono e1⟩
  | .dct ks l,a,h=>let ⟨vs,h1,h0,h2⟩:=h; ⟨vs,e2 _ _ h1,h0,h2.mono e1⟩
  | .non,_,h=>h.elim
  | .bl _,_,h=>h.elim
  | .int _,_,h=>h.elim
  | .str _,_,h=>h.elim
  | .tup _,_,h=>h.elim
  | .scr _,_,h=>h.elim
  | .exc _,_,h=>h.elim
  | .fd _ _,_,h=>h.elim
  | .obj c ks l,a,h=>let ⟨dx,vs,h1,h0,h2⟩:=h; ⟨dx,vs,e2 _ _ h1,h0,h2.mono e1⟩
theorem Own.obj:∀ {d:D} {a:Addr},Own K F H d a→∃ o,H a=some o
  | .lst l,a,h=>let ⟨vs,h1,h2⟩:=h; ⟨_,h1⟩
  | .dct ks l,a,h=>let ⟨vs,h1,h2⟩:=h; ⟨_,h1⟩
  | .non,_,h=>h.elim
  | .bl _,_,h=>h.elim
  | .int _,_,h=>h.elim
  | .str _,_,h=>h.elim
  | .tup _,_,h=>h.elim
  | .scr _,_,h=>h.elim
  | .exc _,_,h=>h.elim
  | .fd _ _,_,h=>h.elim
  | .obj c ks l,a,h=>let ⟨dx,vs,h1,h2⟩:=h; ⟨_,h1⟩
theorem Own.at (e:H' a=H a):∀ {d:D},Own K F H d a→Own K F H' d a
  | .lst l,h=>let ⟨vs,h1,h2⟩:=h; ⟨vs,e.trans h1,h2⟩
  | .dct ks l,h=>let ⟨vs,h1,h0,h2⟩:=h; ⟨vs,e.trans h1,h0,h2⟩
  | .non,h=>h.elim
  | .bl _,h=>h.elim
  | .int _,h=>h.elim
  | .str _,h=>h.elim
  | .tup _,h=>h.elim
  | .scr _,h=>h.elim
  | .exc _,h=>h.elim
  | .fd _ _,h=>h.elim
  | .obj c ks l,h=>let ⟨dx,vs,h1,h0,h2⟩:=h; ⟨dx,vs,e.trans h1,h0,h2⟩
theorem Rep.top (s:Same F H):∀ {d:D} {v:V},Rep K F d v→Top K F H d v
  | .lst l,v,h=>by
    simp only [Rep] at h
    obtain ⟨a,vs,h1,h2,h3⟩:=h
    exact ⟨a,vs,h1,PM.Same.rd s h2,h3⟩
  | .dct ks l,v,h=>by
    simp only [Rep] at h
    obtain ⟨a,vs,h1,h2,h3⟩:=h
    exact ⟨a,vs,h1,s _ _ h2,h3⟩
  | .non,_,h=>h
  | .bl _,_,h=>h
  | .int _,_,h=>h
  | .str _,_,h=>h
  | .tup _,_,h=>h
  | .scr _,_,h=>h
  | .exc _,_,h=>h
  | .fd _ _,_,h=>h
  | .obj c ks l,v,h=>by
    simp only [Rep] at h
    obtain ⟨a,dx,vs,h1,h2,h3⟩:=h
    exact ⟨a,dx,vs,h1,s _ _ h2,h3⟩
theorem Own.top:∀ {d:D} {a:Addr},Own K F H d a→Top K F H d (.ref a)
  | .lst l,a,h=>let ⟨vs,h1,h2⟩:=h; ⟨a,vs,rfl,.inl h1,h2⟩
  | .dct ks l,a,h=>let ⟨vs,h1,h2⟩:=h; ⟨a,vs,rfl,h1,h2⟩
  | .non,_,h=>h.elim
  | .bl _,_,h=>h.elim
  | .int _,_,h=>h.elim
  | .str _,_,h=>h.elim
  | .tup _,_,h=>h.elim
  | .scr _,_,h=>h.elim
  | .exc _,_,h=>h.elim
  | .fd _ _,_,h=>h.elim
  | .obj c ks l,a,h=>let ⟨dx,vs,h1,h2⟩:=h; ⟨a,dx,vs,rfl,h1,h2⟩
theorem Top.mono (e1:Same F F') (e2:Same H H'):∀ {d:D} {v:V},Top K F H d v→Top K F' H' d v
  | .lst l,v,h=>let ⟨a,vs,h1,h2,h3⟩:=h; ⟨a,vs,h1,PM.Same.rd e2 h2,h3.mono e1⟩
  | .dct ks l,v,h=>let ⟨a,vs,h1,h2,h0,h3⟩:=h; ⟨a,vs,h1,e2 _ _ h2,h0,h3.mono e1⟩
  | .non,_,h=>h
  | .bl _,_,h=>h
  | .int _,_,h=>h
  | .str _,_,h=>h
  | .tup l,v,h=>Rep.mono e1 (.tup l) h
  | .scr l,v,h=>Rep.mono e1 (.scr l) h
  | .exc l,v,h=>Rep.mono e1 (.exc l) h
  | .fd ks l,v,h=>Rep.mono e1 (.fd ks l) h
  | .obj c ks l,v,h=>let ⟨a,dx,vs,h1,h2,h0,h3⟩:=h; ⟨a,dx,vs,h1,e2 _ _ h2,h0,h3.mono e1⟩
theorem Own.freeze {p:Addr} {d:D} (x:Ext F H F' H') (h0:F' p=none) (h1:H p=none) (o:Own K F' H' d p):∃ F'',Ext F H F'' H'∧Same F' F''∧Rep K F'' d (.ref p):=by
  obtain ⟨u,hu⟩:=o.obj
  have hs:Same F' (upd F' p u):=Same.upd h0
  refine ⟨upd F' p u,⟨x.ff.trans hs,x.hh,fun b w q=>?_,fun q w h2 h3=>?_⟩,hs,?_⟩
  · by_cases e:b=p
    · subst e; rw [zaY] at q; cases q; exact hu
    · rw [zaH e] at q; exact x.fh _ _ q
  · rw [zaH (zaW h3 h1)]; exact x.nw q w h2 h3
  · cases d with
    | lst l =>
      obtain ⟨vs,h2,h3⟩:=o
      rw [hu] at h2; cases h2
      simp only [Rep]
      exact ⟨p,vs,rfl,.inl zaY,h3.mono hs⟩
    | dct ks l =>
      obtain ⟨vs,h2,h3,h4⟩:=o
      rw [hu] at h2; cases h2
      simp only [Rep]
      exact ⟨p,vs,rfl,zaY,h3,h4.mono hs⟩
    | obj c ks l =>
      obtain ⟨dx,vs,h2,h3,h4⟩:=o
      rw [hu] at h2; cases h2
      simp only [Rep]
      exact ⟨p,dx,vs,rfl,zaY,h3,h4.mono hs⟩
    | _=>exact o.elim
theorem Tab.mono {a:Addr} {bs:List Addr} {ll:List (List Int)} (e:Same H H') (t:Tab H a bs ll):Tab H' a bs ll:=⟨e _ _ t.top,t.len,fun i b l h1 h2=>e _ _ (t.row i b l h1 h2),t.nd⟩
theorem Tab.obj {a:Addr} {bs:List Addr} {ll:List (List Int)} (t:Tab H a bs ll):∀ b ∈ a :: bs,∃ o,H b=some o:=fun b hb=>by
  rcases List.mem_cons.mp hb with rfl | hb
  · exact ⟨_,t.top⟩
  · obtain ⟨i,hi,e⟩:=List.getElem_of_mem hb
    have hl:i < ll.length:=by rw [← t.len]; exact hi
    exact ⟨_,t.row i b ll[i] (by rw [List.getElem?_eq_getElem hi,e]) (List.getElem?_eq_getElem hl)⟩
theorem Tab.at' {a:Addr} {bs:List Addr} {ll:List (List Int)} (t:Tab H a bs ll) (e:∀ b ∈ a :: bs,H' b=H b):Tab H' a bs ll :=
  ⟨(e a (by simp)).trans t.top,t.len,fun i b l h1 h2=>(e b (List.mem_cons_of_mem _ (List.mem_of_getElem? h1))).trans (t.row i b l h1 h2),t.nd⟩
theorem refs_mem {bs:List Addr} {b:Addr}:V.ref b ∈ bs.map V.ref ↔ b ∈ bs:=by
  constructor
  · intro h
    obtain ⟨c,hc,e⟩:=List.mem_map.mp h
    cases e; exact hc
  · exact fun h=>List.mem_map.mpr ⟨b,h,rfl⟩
theorem SlOk.mono (e:Ext F H F' H'):∀ {x:Option Sl} {s:Option (Option V)},SlOk K H0 F H x s→SlOk K H0 F' H' x s
  | some (.v d),s,h=>let ⟨u,h1,h2⟩:=h; ⟨u,h1,Rep.mono e.ff d h2⟩
  | some (.o d),s,h=>let ⟨a,h1,h2,h3,h4⟩:=h; let ⟨o,ho⟩:=h4.obj; ⟨a,h1,h2,e.nw a o h3 ho,h4.mono e.ff e.hh⟩
  | some (.l d),s,h=>let ⟨a,h1,h2,h3,h4⟩:=h; let ⟨o,ho⟩:=h4.obj; ⟨a,h1,h2,e.nw a o h3 ho,h4.mono e.ff e.hh⟩
  | some (.p ll),s,h=>let ⟨a,bs,h1,h2,h3⟩:=h; ⟨a,bs,h1,h2.mono e.hh,fun b hb=>let ⟨o,ho⟩:=h2.obj b hb; ⟨(h3 b hb).1,e.nw b o (h3 b hb).2 ho⟩⟩
  | some .no,_,_=>trivial
  | none,_,_=>trivial
theorem EnvOk.tab (I:EnvOk K Λ F0 H0 F H σ δ) {i:Nat} {ll:List (List Int)} (hx:δ[i]?=some (.p ll)):∃ a bs,σ[i]?=some (some (.ref a))∧Tab H a bs ll∧(∀ b ∈ a :: bs,H0 b=none∧F b=none)∧(∀ (j:Nat) (b:Addr),j ≠ i→Sl.own δ[j]?=true→σ[j]?=some (some (.ref b))→b ∉ a :: bs)∧∀ (j:Nat) (ll':List (List Int)),δ[j]?=some (.p ll')→j=i:=by
  have z:=I.slot i
  rw [hx] at z
  obtain ⟨a,bs,h1,h2,h3⟩:=z
  obtain ⟨t1,t2⟩:=I.tabs i ll a _ hx h1 h2.top
  refine ⟨a,bs,h1,h2,h3,fun j b hj ho hs hb=>?_,t2⟩
  rcases List.mem_cons.mp hb with e | hb
  · subst e
    exact I.dist i j b (Ne.symm hj) (by rw [hx]; rfl) ho h1 hs
  · exact t1 j b hj ho hs (refs_mem.mpr hb)
theorem EnvOk.tabsOf {δ':En} {σ':St} (I:EnvOk K Λ F0 H0 F H σ δ) (h1:∀ (i:Nat) (ll:List (List Int)),δ'[i]?=some (.p ll)→δ[i]?=some (.p ll)∧σ'[i]?=σ[i]?) (h2:∀ (i:Nat) (a:Addr) (ll:List (List Int)),δ[i]?=some (.p ll)→σ[i]?=some (some (.ref a))→H' a=H a)
    (h3:∀ (i j:Nat) (ll:List (List Int)) (a b:Addr) (bs:List Addr),δ[i]?=some (.p ll)→σ[i]?=some (some (.ref a))→Tab H a bs ll→j ≠ i→Sl.own δ'[j]?=true→σ'[j]?=some (some (.ref b))→(Sl.own δ[j]?=true∧σ[j]?=some (some (.ref b)))∨b ∉ bs) :
    ∀ (i:Nat) (ll:List (List Int)) (a:Addr) (vs:List V),δ'[i]?=some (.p ll)→σ'[i]?=some (some (.ref a))→H' a=some (.lst vs)→(∀ (j:Nat) (b:Addr),j ≠ i→Sl.own δ'[j]?=true→σ'[j]?=some (some (.ref b))→V.ref b ∉ vs)∧∀ (j:Nat) (ll':List (List Int)),δ'[j]?=some (.p ll')→j=i:=by
  intro i ll a vs g1 g2 g3
  obtain ⟨d1,d2⟩:=h1 i ll g1
  rw [d2] at g2
  obtain ⟨a',bs,t1,t2,t3,t4,t5⟩:=I.tab d1
  rw [g2] at t1; cases t1
  rw [h2 i a ll d1 g2,t2.top] at g3; cases g3
  refine ⟨fun j b hj ho hs hb=>?_,fun j ll' hj=>t5 j ll' (h1 j ll' hj).1⟩
  rcases h3 i j ll a b bs d1 g2 t2 hj ho hs with ⟨o1,o2⟩ | o
  · exact t4 j b hj o1 o2 (List.mem_cons_of_mem _ (refs_mem.mp hb))
  · exact o (refs_mem.mp hb)
theorem EnvOk.grow (I:EnvOk K Λ F0 H0 F H σ δ) (e:Ext F H F' H'):EnvOk K Λ F0 H0 F' H' σ δ :=
  ⟨I.ext.trans e,I.len,fun i=>(I.slot i).mono e,I.dist,fun x hx=>let ⟨h1,h2,h3⟩:=I.lent x hx; ⟨h1,h2,e.hh _ _ h3⟩,I.tabsOf (fun i ll h=>⟨h,rfl⟩) (fun i a ll h1 h2=>by
    obtain ⟨a',bs,t1,t2,_⟩:=I.tab h1
    rw [h2] at t1; cases t1
    rw [t2.top,e.hh _ _ t2.top]) fun i j ll a b bs _ _ _ _ ho hs=>.inl ⟨ho,hs⟩⟩
theorem EnvOk.same (I:EnvOk K Λ F0 H0 F H σ δ):Same F H:=I.ext.fh
theorem Ext.base (a:Ext F0 H0 F1 H1) (b:Ext F1 H0 F' H'):Ext F0 H0 F' H' :=
  ⟨a.ff.trans b.ff,b.hh,b.fh,fun p o h1 h2=>b.nw p o (a.nw p o h1 h2) h2⟩
theorem EnvOk.up (I:EnvOk K Λ F0 H0 F H σ δ):EnvOk K Λ F H0 F H σ δ :=
  ⟨⟨.refl _,I.ext.hh,I.ext.fh,fun p o h1 h2=>h1⟩,I.len,I.slot,I.dist,I.lent,I.tabs⟩
theorem EnvOk.down (a:Ext F0 H0 F1 H1) (I:EnvOk K Λ F1 H0 F H σ δ):EnvOk K Λ F0 H0 F H σ δ :=
  ⟨a.base I.ext,I.len,I.slot,I.dist,I.lent,I.tabs⟩
theorem EnvOk.put {i:Nat} {d:D} {v:V} (I:EnvOk K Λ F0 H0 F H σ δ) (hl:∃ x,δ[i]?=some x∧∀ d,x ≠ .l d) (r:Rep K F d v):EnvOk K Λ F0 H0 F H (σ.set i (some v)) (δ.set i (.v d)):=by
  obtain ⟨x,hx,hn⟩:=hl
  have hi:i < δ.length:=(List.getElem?_eq_some_iff.mp hx).1
  have hi':i < σ.length:=by rw [I.len]; exact hi
  refine ⟨I.ext,by simp [I.len],fun j=>?_,fun j k a hjk h1 h2 h3 h4=>?_,fun y hy=>?_,I.tabsOf (fun k ll h=>by
      by_cases e:i=k
      · subst e; rw [List.getElem?_set_self hi] at h; cases h
      · rw [List.getElem?_set_ne e] at h; exact ⟨h,List.getElem?_set_ne e⟩) (fun _ _ _ _ _=>rfl) fun k j ll a b bs _ _ _ _ ho hs=>.inl (by
      by_cases e:i=j
      · subst e; rw [List.getElem?_set_self hi] at ho; cases ho
      · rw [List.getElem?_set_ne e] at ho hs; exact ⟨ho,hs⟩)⟩
  · by_cases e:i=j
    · subst e
      rw [List.getElem?_set_self hi,List.getElem?_set_self hi']
      exact ⟨v,rfl,r⟩
    · rw [List.getElem?_set_ne e,List.getElem?_set_ne e]
      exact I.slot j
  · have ne:∀ k:Nat,Sl.own (δ.set i (.v d))[k]?=true→i ≠ k:=by
      rintro k h rfl
      rw [List.getElem?_set_self hi] at h
      cases h
    have n1:=ne j h1
    have n2:=ne k h2
    rw [List.getElem?_set_ne n1] at h1 h3
    rw [List.getElem?_set_ne n2] at h2 h4
    exact I.dist j k a hjk h1 h2 h3 h4
  · obtain ⟨⟨d',h1⟩,h2,h3⟩:=I.lent y hy
    have n:i ≠ y.1:=by
      intro e
      rw [← e,hx] at h1
      exact hn d' (Option.some.inj h1)
    exact ⟨⟨d',by rw [List.getElem?_set_ne n]; exact h1⟩,by rw [List.getElem?_set_ne n]; exact h2,h3⟩
theorem EnvOk.putO {i:Nat} {d:D} {p:Addr} (I:EnvOk K Λ F0 H0 F H σ δ) (hl:∃ x,δ[i]?=some x∧∀ d,x ≠ .l d) (e:Ext F H F' H') (h0:F' p=none) (h1:H p=none) (o:Own K F' H' d p) :
    EnvOk K Λ F0 H0 F' H' (σ.set i (some (.ref p))) (δ.set i (.o d)):=by
  obtain ⟨x,hx,hn⟩:=hl
  have hi:i < δ.length:=(List.getElem?_eq_some_iff.mp hx).1
  have hi':i < σ.length:=by rw [I.len]; exact hi
  have fresh:∀ k:Nat,Sl.own δ[k]?=true→σ[k]? ≠ some (some (V.ref p)):=fun k hk e=>by
    have z:=I.slot k
    cases q:δ[k]? with
    | none=>rw [q] at hk; cases hk
    | some y =>
      rw [q] at hk z
      cases y with
      | no=>cases hk
      | v d=>cases hk
      | o d =>
        obtain ⟨a,z1,_,_,z4⟩:=z
        rw [e] at z1; cases z1
        obtain ⟨u,hu⟩:=z4.obj
        rw [h1] at hu; cases hu
      | l d =>
        obtain ⟨a,z1,_,_,z4⟩:=z
        rw [e] at z1; cases z1
        obtain ⟨u,hu⟩:=z4.obj
        rw [h1] at hu; cases hu
      | p ll =>
        obtain ⟨a,bs,z1,z2,_⟩:=z
        rw [e] at z1; cases z1
        rw [z2.top] at h1; cases h1
  have J:=I.grow e
  refine ⟨J.ext,by simp [I.len],fun j=>?_,fun j k a hjk g1 g2 g3 g4=>?_,fun y hy=>?_,I.tabsOf (fun k ll h=>by
      by_cases e:i=k
      · subst e; rw [List.getElem?_set_self hi] at h; cases h
      · rw [List.getElem?_set_ne e] at h; exact ⟨h,List.getElem?_set_ne e⟩) (fun k a ll g1 g2=>by
      obtain ⟨a',bs,t1,t2,_⟩:=I.tab g1
      rw [g2] at t1; cases t1
      rw [t2.top,e.hh _ _ t2.top]) fun k j ll a b bs _ _ t _ ho hs=>by
      by_cases e:i=j
      · subst e
        rw [List.getElem?_set_self hi'] at hs
        cases hs
        refine .inr fun hb=>?_
        obtain ⟨u,hu⟩:=t.obj p (List.mem_cons_of_mem _ hb)
        rw [h1] at hu; cases hu
      · rw [List.getElem?_set_ne e] at ho hs; exact .inl ⟨ho,hs⟩⟩
  · by_cases e:i=j
    · subst e
      rw [List.getElem?_set_self hi,List.getElem?_set_self hi']
      exact ⟨p,rfl,I.ext.hh.free h1,h0,o⟩
    · rw [List.getElem?_set_ne e,List.getElem?_set_ne e]
      exact J.slot j
  · by_cases e1:i=j
    · subst e1
      rw [List.getElem?_set_self hi'] at g3
      cases g3
      rw [List.getElem?_set_ne hjk] at g2 g4
      exact fresh k g2 g4
    · by_cases e2:i=k
      · subst e2
        rw [List.getElem?_set_self hi'] at g4
        cases g4
        rw [List.getElem?_set_ne e1] at g1 g3
        exact fresh j g1 g3
      · rw [List.getElem?_set_ne e1] at g1 g3
        rw [List.getElem?_set_ne e2] at g2 g4
        exact I.dist j k a hjk g1 g2 g3 g4
  · obtain ⟨⟨d',g1⟩,g2,g3⟩:=J.lent y hy
    have n:i ≠ y.1:=by
      intro e
      rw [← e,hx] at g1
      exact hn d' (Option.some.inj g1)
    exact ⟨⟨d',by rw [List.getElem?_set_ne n]; exact g1⟩,by rw [List.getElem?_set_ne n]; exact g2,g3⟩
theorem EnvOk.chg {i:Nat} {d d':D} {a:Addr} {u:HO} (I:EnvOk K Λ F0 H0 F H σ δ) (hx:δ[i]?=some (.o d)) (ha:σ[i]?=some (some (.ref a))) (o:Own K F (upd H a u) d' a) :
    EnvOk K Λ F0 H0 F (upd H a u) σ (δ.set i (.o d')):=by
  have hi:i < δ.length:=(List.getElem?_eq_some_iff.mp hx).1
  have z:=I.slot i
  rw [hx] at z
  obtain ⟨a',z1,z2,z3,z4⟩:=z
  rw [ha] at z1; cases z1
  have oth:∀ (k:Nat) (b:Addr),i ≠ k→Sl.own δ[k]?=true→σ[k]?=some (some (.ref b))→b ≠ a:=fun k b hk h1 h2 e=>by
    subst e
    exact I.dist i k b hk (by rw [hx]; rfl) h1 ha h2
  refine ⟨⟨I.ext.ff,fun b w q=>?_,fun b w q=>?_,I.ext.nw⟩,by simp [I.len],fun j=>?_,fun j k b hjk g1 g2 g3 g4=>?_,fun y hy=>?_,I.tabsOf (fun k ll h=>by
      by_cases e:i=k
      · subst e; rw [List.getElem?_set_self hi] at h; cases h
      · rw [List.getElem?_set_ne e] at h; exact ⟨h,rfl⟩) (fun k r ll g1 g2=>zaH (by
      by_cases e:i=k
      · subst e; rw [hx] at g1; cases g1
      · exact oth k r e (by rw [g1]; rfl) g2)) fun k j ll r b bs _ _ _ _ ho hs=>.inl (by
      by_cases e:i=j
      · subst e; exact ⟨by rw [hx]; rfl,hs⟩
      · rw [List.getElem?_set_ne e] at ho; exact ⟨ho,hs⟩)⟩
  · rw [zaH (zaW q z2)]; exact I.ext.hh b w q
  · rw [zaH (zaW q z3)]; exact I.ext.fh b w q
  · by_cases e:i=j
    · subst e
      rw [List.getElem?_set_self hi]
      exact ⟨a,ha,z2,z3,o⟩
    · rw [List.getElem?_set_ne e]
      have w:=I.slot j
      cases q:δ[j]? with
      | none=>trivial
      | some y =>
        rw [q] at w
        cases y with
        | no=>trivial
        | v d=>exact w
        | o d =>
          obtain ⟨b,w1,w2,w3,w4⟩:=w
          exact ⟨b,w1,w2,w3,w4.at (zaH (oth j b e (by rw [q]; rfl) w1))⟩
        | l d =>
          obtain ⟨b,w1,w2,w3,w4⟩:=w
          exact ⟨b,w1,w2,w3,w4.at (zaH (oth j b e (by rw [q]; rfl) w1))⟩
        | p ll =>
          obtain ⟨r,bs,t1,t2,t3,t4,t5⟩:=I.tab q
          exact ⟨r,bs,t1,t2.at' fun b hb=>zaH fun e'=>t4 i a e (by rw [hx]; rfl) ha (e' ▸ hb),t3⟩
  · have ow:∀ k:Nat,Sl.own (δ.set i (.o d'))[k]?=true→Sl.own δ[k]?=true:=by
      intro k h
      by_cases e:i=k
      · subst e; rw [hx]; rfl
      · rw [List.getElem?_set_ne e] at h; exact h
    exact I.dist j k b hjk (ow j g1) (ow k g2) g3 g4
  · obtain ⟨⟨d2,g1⟩,g2,g3⟩:=I.lent y hy
    have n:i ≠ y.1:=by
      intro e
      rw [← e,hx] at g1
      cases g1
    exact ⟨⟨d2,by rw [List.getElem?_set_ne n]; exact g1⟩,g2,by rw [zaH (oth y.1 y.2.1 n (by rw [g1]; rfl) g2)]; exact g3⟩
theorem EnvOk.frz {i:Nat} {d:D} (I:EnvOk K Λ F0 H0 F H σ δ) (hx:δ[i]?=some (.o d)):∃ F',Same F F'∧EnvOk K Λ F0 H0 F' H σ (δ.set i (.v d)):=by
  have hi:i < δ.length:=(List.getElem?_eq_some_iff.mp hx).1
  have z:=I.slot i
  rw [hx] at z
  obtain ⟨a,z1,z2,z3,z4⟩:=z
  obtain ⟨u,hu⟩:=z4.obj
  have hs:Same F (upd F a u):=Same.upd z3
  have sl:∀ j:Nat,i ≠ j→Sl.own δ[j]?=true→σ[j]? ≠ some (some (V.ref a)):=fun j hj h e=>I.dist i j a hj (by rw [hx]; rfl) h z1 e
  refine ⟨upd F a u,hs,⟨I.ext.ff.trans hs,I.ext.hh,fun b w q=>?_,fun p o h1 h2=>?_⟩,by simp [I.len],fun j=>?_,fun j k b hjk g1 g2 g3 g4=>?_,fun y hy=>?_,I.tabsOf (fun k ll h=>by
      by_cases e:i=k
      · subst e; rw [List.getElem?_set_self hi] at h; cases h
      · rw [List.getElem?_set_ne e] at h; exact ⟨h,rfl⟩) (fun _ _ _ _ _=>rfl) fun k j ll r b bs _ _ _ _ ho hs=>.inl (by
      by_cases e:i=j
      · subst e; rw [List.getElem?_set_self hi] at ho; cases ho
      · rw [List.getElem?_set_ne e] at ho; exact ⟨ho,hs⟩)⟩
  · by_cases e:b=a
    · subst e; rw [zaY] at q; cases q; exact hu
    · rw [zaH e] at q; exact I.ext.fh _ _ q
  · rw [zaH (zaW h2 z2)]; exact I.ext.nw p o h1 h2
  · by_cases e:i=j
    · subst e
      rw [List.getElem?_set_self hi]
      refine ⟨.ref a,z1,?_⟩
      cases d with
      | lst l =>
        obtain ⟨vs,h2,h3⟩:=z4
        rw [hu] at h2; cases h2
        simp only [Rep]
        exact ⟨a,vs,rfl,.inl zaY,h3.mono hs⟩
      | dct ks l =>
        obtain ⟨vs,h2,h3,h4⟩:=z4
        rw [hu] at h2; cases h2
        simp only [Rep]
        exact ⟨a,vs,rfl,zaY,h3,h4.mono hs⟩
      | obj c ks l =>
        obtain ⟨dx,vs,h2,h3,h4⟩:=z4
        rw [hu] at h2; cases h2
        simp only [Rep]
        exact ⟨a,dx,vs,rfl,zaY,h3,h4.mono hs⟩
      | _=>exact z4.elim
    · rw [List.getElem?_set_ne e]
      have w:=I.slot j
      cases q:δ[j]? with
      | none=>trivial
      | some y =>
        rw [q] at w
        cases y with
        | no=>trivial
        | v d=>obtain ⟨v,w1,w2⟩:=w; exact ⟨v,w1,Rep.mono hs d w2⟩
        | o d =>
          obtain ⟨b,w1,w2,w3,w4⟩:=w
          exact ⟨b,w1,w2,by rw [zaH (show b ≠ a from fun e'=>sl j e (by rw [q]; rfl) (by rw [w1,e']))]; exact w3,w4.mono hs (.refl _)⟩
        | p ll =>
          obtain ⟨r,bs,t1,t2,t3,t4,t5⟩:=I.tab q
          exact ⟨r,bs,t1,t2,fun b hb=>⟨(t3 b hb).1,by rw [zaH (show b ≠ a from fun e'=>t4 i a e (by rw [hx]; rfl) z1 (e' ▸ hb))]; exact (t3 b hb).2⟩⟩
        | l d =>
          obtain ⟨b,w1,w2,w3,w4⟩:=w
          exact ⟨b,w1,w2,by rw [zaH (show b ≠ a from fun e'=>sl j e (by rw [q]; rfl) (by rw [w1,e']))]; exact w3,w4.mono hs (.refl _)⟩
  · have ow:∀ k:Nat,Sl.own (δ.set i (.v d))[k]?=true→Sl.own δ[k]?=true:=by
      intro k h
      by_cases e:i=k
      · subst e; rw [List.getElem?_set_self hi] at h; cases h
      · rw [List.getElem?_set_ne e] at h; exact h
    exact I.dist j k b hjk (ow j g1) (ow k g2) g3 g4
  · obtain ⟨⟨d2,g1⟩,g2,g3⟩:=I.lent y hy
    have n:i ≠ y.1:=by
      intro e
      rw [← e,hx] at g1
      cases g1
    exact ⟨⟨d2,by rw [List.getElem?_set_ne n]; exact g1⟩,g2,g3⟩
end
end PM
namespace PM
open PySem L2
abbrev XOT:=Xc→Hp→Hp→Value→Option Addr→Prop
def Aft {α:Type} (E:St→XK) (XO:XOT) (σ:St) (F H:Hp) (P:α→Hp→Hp→Prop):R α→Prop
  | .no=>False
  | .ok a=>∀ F' H',Ext F H F' H'→P a F' H'
  | .ex x=>∀ C dct F' H',Ext F H F' H'→XO x F' H' C dct→E σ C dct H'
section
variable {E:St→XK} {XO:XOT} {σ:St} {F H F1 H1:Hp} {α β:Type} {P P':α→Hp→Hp→Prop}
theorem Aft.mono (e:Ext F H F1 H1):∀ {r:R α},Aft E XO σ F H P r→Aft E XO σ F1 H1 P r
  | .no,h=>h
  | .ok _,h=>fun F' H' e'=>h F' H' (e.trans e')
  | .ex _,h=>fun C dct F' H' e' x=>h C dct F' H' (e.trans e') x
theorem Aft.imp (i:∀ a F1 H1,Ext F H F1 H1→P a F1 H1→P' a F1 H1):∀ {r:R α},Aft E XO σ F H P r→Aft E XO σ F H P' r
  | .no,h=>h
  | .ok _,h=>fun F' H' e'=>i _ F' H' e' (h F' H' e')
  | .ex _,h=>h
theorem Aft.bind {P:β→Hp→Hp→Prop} {f:α→R β}:∀ {r:R α},Aft E XO σ F H P (r.bind f)→Aft E XO σ F H (fun a F1 H1=>Aft E XO σ F1 H1 P (f a)) r
  | .no,h=>h
  | .ok _,h=>fun F' H' e'=>Aft.mono e' h
  | .ex _,h=>h
end
inductive Prd (T:D→V→Prop):List D→List V→Prop where
  | nil:Prd T [] []
  | cons {d:D} {v:V} {ds:List D} {vs:List V}:T d v→Prd T ds vs→Prd T (d :: ds) (v :: vs)
section
variable (K:Kx) (XO:XOT) (E:St→XK)
def SE (t:TE) (m:En→R D):Prop:=∀ Λ F0 H0 F H σ δ Q,EnvOk K Λ F0 H0 F H σ δ→Aft E XO σ F H (fun d F' H'=>∀ v,Rep K F' d v→Q v H') (m δ)→t σ H Q
def SEr (t:TE) (m:En→R D):Prop:=∀ Λ F0 H0 F H σ δ Q,EnvOk K Λ F0 H0 F H σ δ→Aft E XO σ F H (fun d F' H'=>∀ v,Top K F' H' d v→Q v H') (m δ)→t σ H Q
def SEo (t:TE) (m:En→R D):Prop:=∀ Λ F0 H0 F H σ δ Q,EnvOk K Λ F0 H0 F H σ δ→Aft E XO σ F H (fun d F' H'=>∀ p,F' p=none→H p=none→Own K F' H' d p→Q (.ref p) H') (m δ)→t σ H Q
def ST (t:TT) (m:En→R Bool):Prop:=∀ Λ F0 H0 F H σ δ Q,EnvOk K Λ F0 H0 F H σ δ→Aft E XO σ F H (fun b _ H'=>Q b H') (m δ)→t σ H Q
def SA (t:TA) (m:En→R (List D)):Prop:=∀ Λ F0 H0 F H σ δ Q,EnvOk K Λ F0 H0 F H σ δ→Aft E XO σ F H (fun ds F' H'=>∀ vs,RepL K F' ds vs→Q vs H') (m δ)→t σ H Q
def SAr (t:TA) (m:En→R (List D)):Prop:=∀ Λ F0 H0 F H σ δ Q,EnvOk K Λ F0 H0 F H σ δ→Aft E XO σ F H (fun ds F' H'=>∀ vs,Prd (Top K F' H') ds vs→Q vs H') (m δ)→t σ H Q
end
section
variable {K:Kx} {XO:XOT} {E:St→XK} {t ta tb te:TE} {m ma mb me:En→R D}
theorem SE.r (h:SE K XO E t m):SEr K XO E t m:=fun Λ F0 H0 F H σ δ Q I a=>h Λ F0 H0 F H σ δ Q I (a.imp fun d F1 H1 e p v r=>p v (r.top e.fh))
theorem SEo.e (h:SEo K XO E t m):SE K XO E t m:=fun Λ F0 H0 F H σ δ Q I a=>h Λ F0 H0 F H σ δ Q I (by
  cases q:m δ with
  | no=>rw [q] at a; exact a
  | ex x=>rw [q] at a; exact a
  | ok d =>
    rw [q] at a
    intro F1 H1 e p h0 h1 o
    obtain ⟨F2,e2,s2,r⟩:=o.freeze e h0 h1
    exact a F2 H1 e2 _ r)
def mVar (i:Nat) (δ:En):R D:=match δ[i]? with | some (.v d)=>.ok d | _=>.no
def mRd (i:Nat) (δ:En):R D:=match δ[i]? with | some (.v d)=>.ok d | some (.o d)=>.ok d | some (.l d)=>.ok d | _=>.no
theorem zak {i:Nat}:SE K XO E (tVar i) (mVar i):=by
  intro Λ F0 H0 F H σ δ Q I a
  unfold mVar at a
  have z:=I.slot i
  split at a
  · rename_i d q
    rw [q] at z
    obtain ⟨u,h1,h2⟩:=z
    exact ⟨u,h1,a F H (.refl I.same) u h2⟩
  · exact a.elim
theorem zac {i:Nat}:SEr K XO E (tVar i) (mRd i):=by
  intro Λ F0 H0 F H σ δ Q I a
  unfold mRd at a
  have z:=I.slot i
  split at a
  · rename_i d q
    rw [q] at z
    obtain ⟨u,h1,h2⟩:=z
    exact ⟨u,h1,a F H (.refl I.same) u (h2.top I.same)⟩
  · rename_i d q
    rw [q] at z
    obtain ⟨u,h1,_,_,h2⟩:=z
    exact ⟨_,h1,a F H (.refl I.same) _ h2.top⟩
  · rename_i d q
    rw [q] at z
    obtain ⟨u,h1,_,_,h2⟩:=z
    exact ⟨_,h1,a F H (.refl I.same) _ h2.top⟩
  · exact a.elim
def mC (d:D) (_:En):R D:=.ok d
theorem zae {i:Int}:SE K XO E (tC (.int i)) (mC (.int i)):=fun Λ F0 H0 F H σ δ Q I a=>a F H (.refl I.same) _ (by simp only [Rep])
theorem zhB {i:Bool}:SE K XO E (tC (.bl i)) (mC (.bl i)):=fun Λ F0 H0 F H σ δ Q I a=>a F H (.refl I.same) _ (by simp only [Rep])
theorem zdx:SE K XO E (tC .non) (mC .non):=fun Λ F0 H0 F H σ δ Q I a=>a F H (.refl I.same) _ (by simp only [Rep])
theorem zcK {i:Str}:SE K XO E (tC (.str i)) (mC (.str i)):=fun Λ F0 H0 F H σ δ Q I a=>a F H (.refl I.same) _ (by simp only [Rep])
def R.of {α:Type}:Option α→R α
  | some a=>.ok a
  | none=>.no
@[simp] theorem R.of_some {α:Type} (a:α):R.of (some a) = .ok a:=rfl
@[simp] theorem R.of_none {α:Type}:R.of (none:Option α) = .no:=rfl
def m2 (f:D→D→Option D) (ma mb:En→R D) (δ:En):R D:=(ma δ).bind fun x=>(mb δ).bind fun y=>R.of (f x y)
def m1 (f:D→Option D) (ma:En→R D) (δ:En):R D:=(ma δ).bind fun x=>R.of (f x)
@[simp] theorem zbZ {f:D→D→Option D} {ma mb:En→R D} {δ:En}:m2 f ma mb δ=(ma δ).bind fun x=>(mb δ).bind fun y=>R.of (f x y):=rfl
@[simp] theorem zqa {f:D→Option D} {ma:En→R D} {δ:En}:m1 f ma δ=(ma δ).bind fun x=>R.of (f x):=rfl
variable (K) in
def SR (r:R2) (f:D→D→Option D):Prop:=∀ F H x y dx dy d Q,Same F H→Top K F H dx x→Top K F H dy y→f dx dy=some d→(∀ v F' H',Ext F H F' H'→Rep K F' d v→Q v H')→r x y H Q
variable (K) in
def SRo (r:R2) (f:D→D→Option D):Prop:=∀ F H x y dx dy d Q,Same F H→Top K F H dx x→Top K F H dy y→f dx dy=some d→(∀ p F' H',Ext F H F' H'→F' p=none→H p=none→Own K F' H' d p→Q (.ref p) H')→r x y H Q
theorem zai {r:R2} {f:D→D→Option D} (hr:SR K r f) (ha:SEr K XO E ta ma) (hb:SEr K XO E tb mb):SE K XO E (tOp r ta tb) (m2 f ma mb):=by
  intro Λ F0 H0 F H σ δ Q I a
  refine ha Λ F0 H0 F H σ δ _ I (a.bind.imp fun dx F1 H1 e1 a1 x rx=>?_)
  refine hb Λ F0 H0 F1 H1 σ δ _ (I.grow e1) (a1.bind.imp fun dy F2 H2 e2 a2 y ry=>?_)
  cases q:f dx dy with
  | none=>rw [q] at a2; exact a2.elim
  | some d =>
    rw [q] at a2
    exact hr F2 H2 x y dx dy d Q e2.fh (rx.mono e2.ff e2.hh) ry q fun v F' H' e r=>a2 F' H' e v r
theorem zjt {r:R2} {f:D→D→Option D} (hr:SRo K r f) (ha:SEr K XO E ta ma) (hb:SEr K XO E tb mb):SEo K XO E (tOp r ta tb) (m2 f ma mb):=by
  intro Λ F0 H0 F H σ δ Q I a
  refine ha Λ F0 H0 F H σ δ _ I (a.bind.imp fun dx F1 H1 e1 a1 x rx=>?_)
  refine hb Λ F0 H0 F1 H1 σ δ _ (I.grow e1) (a1.bind.imp fun dy F2 H2 e2 a2 y ry=>?_)
  cases q:f dx dy with
  | none=>rw [q] at a2; exact a2.elim
  | some d =>
    rw [q] at a2
    exact hr F2 H2 x y dx dy d Q e2.fh (rx.mono e2.ff e2.hh) ry q fun p F' H' e h0 h1 o=>a2 F' H' e p h0 (e1.hh.free (e2.hh.free h1)) o
variable (K) in
def SU (r:V→Hp→VK→Prop) (f:D→Option D):Prop:=∀ F H x dx d Q,Same F H→Top K F H dx x→f dx=some d→(∀ v F' H',Ext F H F' H'→Rep K F' d v→Q v H')→r x H Q
theorem zpm {r:V→Hp→VK→Prop} {f:D→Option D} (hr:SU K r f) (ha:SEr K XO E ta ma):SE K XO E (tUn r ta) (m1 f ma):=by
  intro Λ F0 H0 F H σ δ Q I a
  refine ha Λ F0 H0 F H σ δ _ I (a.bind.imp fun dx F1 H1 e1 a1 x rx=>?_)
  cases q:f dx with
  | none=>rw [q] at a1; exact a1.elim
  | some d =>
    rw [q] at a1
    exact hr F1 H1 x dx d Q e1.fh rx q fun v F' H' e r=>a1 F' H' e v r
def mNil (_:En):R (List D):=.ok []
def zaa (ma:En→R D) (mr:En→R (List D)) (δ:En):R (List D):=(ma δ).bind fun x=>(mr δ).bind fun l=>.ok (x :: l)
theorem zao:SA K XO E tNil mNil:=fun Λ F0 H0 F H σ δ Q I a=>a F H (.refl I.same) _ .nil
theorem zad {tr:TA} {mr:En→R (List D)} (ha:SE K XO E ta ma) (hr:SA K XO E tr mr):SA K XO E (zfH ta tr) (zaa ma mr):=by
  intro Λ F0 H0 F H σ δ Q I a
  refine ha Λ F0 H0 F H σ δ _ I (a.bind.imp fun dx F1 H1 e1 a1 x rx=>?_)
  refine hr Λ F0 H0 F1 H1 σ δ _ (I.grow e1) (a1.bind.imp fun dy F2 H2 e2 a2 y ry=>?_)
  exact a2 F2 H2 (.refl e2.fh) _ (.cons (Rep.mono e2.ff _ rx) ry)
theorem zaD:SAr K XO E tNil mNil:=fun Λ F0 H0 F H σ δ Q I a=>a F H (.refl I.same) _ .nil
theorem zau {tr:TA} {mr:En→R (List D)} (ha:SEr K XO E ta ma) (hr:SAr K XO E tr mr):SAr K XO E (zfH ta tr) (zaa ma mr):=by
  intro Λ F0 H0 F H σ δ Q I a
  refine ha Λ F0 H0 F H σ δ _ I (a.bind.imp fun dx F1 H1 e1 a1 x rx=>?_)
  refine hr Λ F0 H0 F1 H1 σ δ _ (I.grow e1) (a1.bind.imp fun dy F2 H2 e2 a2 y ry=>?_)
  exact a2 F2 H2 (.refl e2.fh) _ (.cons (rx.mono e2.ff e2.hh) ry)
def mTup (ml:En→R (List D)) (δ:En):R D:=(ml δ).bind fun l=>ifC (l.length ≤ sizeLine) (.ok (.tup l)) .no
def mLst (ml:En→R (List D)) (δ:En):R D:=(ml δ).bind fun l=>ifC (l.length ≤ sizeLine) (.ok (.lst l)) .no
theorem zcD {tl:TA} {ml:En→R (List D)} (h:SA K XO E tl ml):SE K XO E (tTup tl) (mTup ml):=by
  intro Λ F0 H0 F H σ δ Q I a
  refine h Λ F0 H0 F H σ δ _ I (a.bind.imp fun ds F1 H1 e1 a1 vs r=>?_)
  unfold ifC at a1
  split at a1
  · rename_i hl
    refine ⟨by rw [r.length]; exact hl,fun p hp=>a1 _ _ (.new e1.fh hp) _ ?_⟩
    simp only [Rep]
    exact ⟨p,vs,rfl,zaY,r.mono (Same.upd (e1.fh.free hp))⟩
  · exact a1.elim
theorem zbH {tl:TA} {ml:En→R (List D)} (h:SA K XO E tl ml):SEo K XO E (tLst tl) (mLst ml):=by
  intro Λ F0 H0 F H σ δ Q I a
  refine h Λ F0 H0 F H σ δ _ I (a.bind.imp fun ds F1 H1 e1 a1 vs r=>?_)
  unfold ifC at a1
  split at a1
  · rename_i hl
    refine ⟨by rw [r.length]; exact hl,fun p hp=>a1 _ _ (.newO e1.fh hp) _ (e1.fh.free hp) (e1.hh.free hp) ⟨vs,zaY,r⟩⟩
  · exact a1.elim
def asB:D→Option Bool
  | .bl b=>some b
  | _=>none
def zal (me:En→R D) (δ:En):R Bool:=(me δ).bind fun d=>R.of (asB d)
theorem zaz (h:SE K XO E te me):ST K XO E (zo0 te) (zal me):=by
  intro Λ F0 H0 F H σ δ Q I a
  refine h Λ F0 H0 F H σ δ _ I (a.bind.imp fun d F1 H1 e1 a1 v r=>?_)
  cases d with
  | bl b=>simp only [Rep] at r; exact ⟨b,r,a1 F1 H1 (.refl e1.fh)⟩
  | _=>exact a1.elim
theorem st_b (h:SE K XO E te me):ST K XO E (tB te) (zal me):=zaz h
variable {tA tB':TT} {nA nB:En→R Bool}
def mAnd (nA nB:En→R Bool) (δ:En):R Bool:=(nA δ).bind fun b=>if b=true then nB δ else .ok false
def mOr (nA nB:En→R Bool) (δ:En):R Bool:=(nA δ).bind fun b=>if b=true then .ok true else nB δ
def mNot (nA:En→R Bool) (δ:En):R Bool:=(nA δ).bind fun b=>.ok (!b)
theorem zkZ (h:ST K XO E tA nA) (h':ST K XO E tB' nB):ST K XO E (tAnd tA tB') (mAnd nA nB):=by
  intro Λ F0 H0 F H σ δ Q I a
  refine h Λ F0 H0 F H σ δ _ I (a.bind.imp fun b F1 H1 e1 a1=>?_)
  cases b with
  | true=>exact h' Λ F0 H0 F1 H1 σ δ _ (I.grow e1) a1
  | false=>exact a1 F1 H1 (.refl e1.fh)
theorem zgA (h:ST K XO E tA nA) (h':ST K XO E tB' nB):ST K XO E (tOr tA tB') (mOr nA nB):=by
  intro Λ F0 H0 F H σ δ Q I a
  refine h Λ F0 H0 F H σ δ _ I (a.bind.imp fun b F1 H1 e1 a1=>?_)
  cases b with
  | false=>exact h' Λ F0 H0 F1 H1 σ δ _ (I.grow e1) a1
  | true=>exact a1 F1 H1 (.refl e1.fh)
theorem zfC (h:ST K XO E tA nA):ST K XO E (tNot tA) (mNot nA):=by
  intro Λ F0 H0 F H σ δ Q I a
  exact h Λ F0 H0 F H σ δ _ I (a.bind.imp fun b F1 H1 e1 a1=>a1 F1 H1 (.refl e1.fh))
def zhP (ma mb:En→R D) (δ:En):R D:=(ma δ).bind fun d=>(R.of (asB d)).bind fun b=>if b=true then mb δ else .ok (.bl false)
def zoA (ma:En→R D) (δ:En):R D:=(ma δ).bind fun d=>(R.of (asB d)).bind fun b=>.ok (.bl (!b))
theorem zko (h:SE K XO E ta ma) (h':SE K XO E tb mb):SE K XO E (zpI ta tb) (zhP ma mb):=by
  intro Λ F0 H0 F H σ δ Q I a
  refine h Λ F0 H0 F H σ δ _ I (a.bind.imp fun d F1 H1 e1 a1 v r=>?_)
  cases d with
  | bl b =>
    simp only [Rep] at r
    refine ⟨b,r,?_⟩
    cases b with
    | true=>exact h' Λ F0 H0 F1 H1 σ δ _ (I.grow e1) a1
    | false=>exact a1 F1 H1 (.refl e1.fh) _ (by simp only [Rep])
  | _=>exact a1.elim
theorem zn4 (h:SE K XO E ta ma):SE K XO E (zpn ta) (zoA ma):=by
  intro Λ F0 H0 F H σ δ Q I a
  refine h Λ F0 H0 F H σ δ _ I (a.bind.imp fun d F1 H1 e1 a1 v r=>?_)
  cases d with
  | bl b =>
    simp only [Rep] at r
    exact ⟨b,r,a1 F1 H1 (.refl e1.fh) _ (by simp only [Rep])⟩
  | _=>exact a1.elim
def spM (K:Kx) (XO:XOT) (f:List D→R D):Sp:=fun vs H Q E=>∃ F ds,Same F H∧RepL K F ds vs∧Aft (fun _=>E) XO [] F H (fun d F' H'=>∀ v,Rep K F' d v→Q v H') (f ds)
def zbf (f:List D→R D) (ml:En→R (List D)) (δ:En):R D:=(ml δ).bind f
def R.nev {α:Type}:R α→R α
  | .ex _=>.no
  | r=>r
@[simp] theorem R.nev_ok {α:Type} (a:α):(R.ok a).nev = .ok a:=rfl
def zaj (f:List D→R D) (ml:En→R (List D)) (δ:En):R D:=(ml δ).bind fun l=>(f l).nev
theorem Aft.any {α:Type} {E E':St→XK} {σ σ':St} {F H:Hp} {P:α→Hp→Hp→Prop} {r:R α} (h:Aft E XO σ F H P r.nev):Aft E' XO σ' F H P r:=by
  cases r with
  | no=>exact h
  | ok a=>exact h
  | ex x=>exact h.elim
theorem zbt {f:List D→R D} {tl:TA} {ml:En→R (List D)} (h:SA K XO E tl ml):SE K XO E (zl3 (spM K XO f) E tl) (zbf f ml):=by
  intro Λ F0 H0 F H σ δ Q I a
  refine h Λ F0 H0 F H σ δ _ I (a.bind.imp fun ds F1 H1 e1 a1 vs r=>⟨F1,ds,e1.fh,r,?_⟩)
  cases q:f ds with
  | no=>rw [q] at a1; exact a1
  | ok d=>rw [q] at a1; exact a1
  | ex x=>rw [q] at a1; exact a1
theorem zax {f:List D→R D} {tl:TA} {ml:En→R (List D)} {E':XK} (h:SA K XO E tl ml):SE K XO E (zlW (spM K XO f) [] E' tl) (zaj f ml):=by
  intro Λ F0 H0 F H σ δ Q I a
  refine h Λ F0 H0 F H σ δ _ I (a.bind.imp fun ds F1 H1 e1 a1 vs r=>⟨F1,ds,e1.fh,by rw [List.append_nil]; exact r,a1.any⟩)
variable (K) in
def SG (g:TG) (b:D→En→Option En):Prop:=∀ Λ F0 H0 F H σ δ d v δ' Q,EnvOk K Λ F0 H0 F H σ δ→Rep K F d v→b d δ=some δ'→(∀ σ',EnvOk K Λ F0 H0 F H σ' δ'→Q σ' H)→g v σ H Q
variable (K) in
def SGs (g:TGs) (b:List D→En→Option En):Prop:=∀ Λ F0 H0 F H σ δ d v δ' Q,EnvOk K Λ F0 H0 F H σ δ→RepL K F d v→b d δ=some δ'→(∀ σ',EnvOk K Λ F0 H0 F H σ' δ'→Q σ' H)→g v σ H Q
def zap (i:Nat) (d:D) (δ:En):Option En:=match δ[i]? with | none=>none | some (.l _)=>none | some _=>some (δ.set i (.v d))
def za0 (i:Nat) (d:D) (δ:En):Option En:=match δ[i]? with | some .no=>some (δ.set i (.v d)) | _=>none
def bNil (l:List D) (δ:En):Option En:=match l with | []=>some δ | _=>none
def zcu (b:D→En→Option En) (c:List D→En→Option En) (l:List D) (δ:En):Option En:=match l with | d :: r=>(b d δ).bind (c r) | []=>none
def bTup (n:Nat) (c:List D→En→Option En) (d:D) (δ:En):Option En:=match d with | .tup l=>if l.length=n then c l δ else none | _=>none
theorem zas {i:Nat}:SG K (ziU i) (zap i):=by
  intro Λ F0 H0 F H σ δ d v δ' Q I r e q
  unfold zap at e
  split at e
  · cases e
  · cases e
  · rename_i x h2 h1
    cases e
    exact q _ (I.put ⟨x,h1,fun d' z=>h2 d' (by rw [z])⟩ r)
theorem zbe {i:Nat}:SG K (ziU i) (za0 i):=by
  intro Λ F0 H0 F H σ δ d v δ' Q I r e q
  unfold za0 at e
  split at e
  · rename_i h1
    cases e
    exact q _ (I.put ⟨_,h1,fun d' z=>by cases z⟩ r)
  · cases e
theorem zfn:SGs K gNil bNil:=by
  intro Λ F0 H0 F H σ δ d v δ' Q I r e q
  cases d with
  | nil=>simp only [RepL] at r; cases e; exact ⟨r,q _ I⟩
  | cons x l=>cases e
theorem zb5 {g:TG} {h:TGs} {b:D→En→Option En} {c:List D→En→Option En} (hg:SG K g b) (hh:SGs K h c):SGs K (zpC g h) (zcu b c):=by
  intro Λ F0 H0 F H σ δ d v δ' Q I r e q
  cases d with
  | nil=>cases e
  | cons x l =>
    simp only [RepL] at r
    obtain ⟨u,w,rfl,r1,r2⟩:=r
    change (b x δ).bind (c l)=some δ' at e
    cases z:b x δ with
    | none=>rw [z] at e; cases e
    | some δ1 =>
      rw [z] at e
      exact ⟨u,w,rfl,hg Λ F0 H0 F H σ δ x u δ1 _ I r1 z fun σ1 I1=>hh Λ F0 H0 F H σ1 δ1 l w δ' Q I1 r2 e q⟩
theorem zgN {n:Nat} {h:TGs} {c:List D→En→Option En} (hh:SGs K h c):SG K (gTup K.f n h) (bTup n c):=by
  intro Λ F0 H0 F H σ δ d v δ' Q I r e q
  cases d with
  | tup l =>
    simp only [Rep] at r
    obtain ⟨a,vs,rfl,h1,h2⟩:=r
    simp only [bTup] at e
    split at e
    · rename_i hn
      exact ⟨a,vs,rfl,.inl (.inl (I.same _ _ h1)),by rw [h2.length]; exact hn,hh Λ F0 H0 F H σ δ l vs δ' Q I h2 e q⟩
    · cases e
  | _=>cases e
def Weak (δ δ':En):Prop:=δ.length=δ'.length∧∀ i:Nat,δ[i]?=some .no∨δ[i]?=δ'[i]?
theorem Weak.refl (δ:En):Weak δ δ:=⟨rfl,fun _=>.inr rfl⟩
theorem Weak.trans {a b c:En} (h:Weak a b) (h':Weak b c):Weak a c:=⟨h.1.trans h'.1,fun i=>by
  rcases h.2 i with z | z
  · exact .inl z
  · rcases h'.2 i with y | y
    · exact .inl (z.trans y)
    · exact .inr (z.trans y)⟩
def BW (b:D→En→Option En):Prop:=∀ d δ δ',b d δ=some δ'→Weak δ δ'
def BWs (b:List D→En→Option En):Prop:=∀ d δ δ',b d δ=some δ'→Weak δ δ'
theorem zbq {i:Nat}:BW (za0 i):=by
  intro d δ δ' e
  unfold za0 at e
  split at e
  · rename_i h1
    cases e
    refine ⟨by simp,fun j=>?_⟩
    by_cases h:i=j
    · subst h; exact .inl h1
    · exact .inr (by rw [List.getElem?_set_ne h])
  · cases e
theorem zjP:BWs bNil:=by
  intro d δ δ' e
  cases d with
  | nil=>cases e; exact .refl _
  | cons x l=>cases e
theorem zeV {b:D→En→Option En} {c:List D→En→Option En} (h:BW b) (h':BWs c):BWs (zcu b c):=by
  intro d δ δ' e
  cases d with
  | nil=>cases e
  | cons x l =>
    change (b x δ).bind (c l)=some δ' at e
    cases z:b x δ with
    | none=>rw [z] at e; cases e
    | some δ1=>rw [z] at e; exact (h _ _ _ z).trans (h' _ _ _ e)
theorem zmW {n:Nat} {c:List D→En→Option En} (h:BWs c):BW (bTup n c):=by
  intro d δ δ' e
  cases d with
  | tup l =>
    simp only [bTup] at e
    split at e
    · exact h _ _ _ e
    · cases e
  | _=>cases e
variable (K) in
def IsIt (J:It) (P:Hp→Hp→Prop) (ds:List D):Prop:=∀ F2 H2,P F2 H2→∀ i:Nat,(∀ d,ds[i]?=some d→J.go i H2∧∀ x H',J.yld i H2 x H'→∃ F3,Ext F2 H2 F3 H'∧Rep K F3 d x)∧(ds[i]?=none→J.stop i H2)
variable (K XO E) in
def SI (wi:TI) (m:En→R (List D)):Prop:=∀ Λ F0 H0 F H σ δ R,EnvOk K Λ F0 H0 F H σ δ→Aft E XO σ F H (fun ds F1 H1=>∀ J,IsIt K J (fun F2 H2=>Same F1 F2∧Same F2 H2) ds→R J H1) (m δ)→wi σ H R
variable (K XO E) in
def SIc (wi:TI) (m:En→R (List D)):Prop:=∀ Λ F0 H0 F H σ δ R,EnvOk K Λ F0 H0 F H σ δ→Aft E XO σ F H (fun ds F1 H1=>∀ J,IsIt K J (fun F2 H2=>Ext F1 H1 F2 H2) ds→R J H1) (m δ)→wi σ H R
theorem SI.c {wi:TI} {m:En→R (List D)} (h:SI K XO E wi m):SIc K XO E wi m:=fun Λ F0 H0 F H σ δ R I a=>h Λ F0 H0 F H σ δ R I (a.imp fun ds F1 H1 e p J hJ=>p J fun F2 H2 x=>hJ F2 H2 ⟨x.ff,x.fh⟩)
def asL:D→Option (List D)
  | .lst l=>some l
  | .scr l=>some (l.map .int)
  | _=>none
def mItL (ml:En→R D) (δ:En):R (List D):=(ml δ).bind fun d=>R.of (asL d)
theorem zfu {a:Addr} {ds:List D} {vs:List V} {F1:Hp} {P:Hp→Hp→Prop} (r:RepL K F1 ds vs) (h:∀ F2 H2,P F2 H2→Same F1 F2∧Same F2 H2∧SqL K.f H2 a vs):IsIt K (Itl K.f a) P ds:=by
  intro F2 H2 p i
  obtain ⟨s1,s2,q⟩:=h F2 H2 p
  refine ⟨fun d hd=>?_,fun hn=>?_⟩
  · obtain ⟨v,hv,rv⟩:=r.get hd
    refine ⟨⟨vs,v,q,hv⟩,fun x H' y=>?_⟩
    obtain ⟨rfl,y⟩:=y
    have z:=y vs q
    rw [hv] at z; cases z
    exact ⟨F2,.refl s2,Rep.mono s1 _ rv⟩
  · exact ⟨vs,q,by rw [r.length]; exact List.getElem?_eq_none_iff.mp hn⟩
theorem zeL (h:SE K XO E te me):SI K XO E (zoe K.f te) (mItL me):=by
  intro Λ F0 H0 F H σ δ R I a
  refine h Λ F0 H0 F H σ δ _ I (a.bind.imp fun d F1 H1 e1 a1 v r=>?_)
  cases d with
  | lst l =>
    simp only [Rep] at r
    obtain ⟨a,vs,rfl,h1,h2⟩:=r
    exact ⟨a,rfl,⟨vs,.inl (PM.Same.rd e1.fh h1)⟩,a1 F1 H1 (.refl e1.fh) _ (zfu h2 fun F2 H2 x=>⟨x.1,x.2,.inl (PM.Same.rd x.2 (PM.Same.rd x.1 h1))⟩)⟩
  | scr l =>
    simp only [Rep] at r
    obtain ⟨a,rfl,h1⟩:=r
    exact ⟨a,rfl,⟨_,e1.fh.seq h1⟩,a1 F1 H1 (.refl e1.fh) _ (zfu .ints fun F2 H2 x=>⟨x.1,x.2,x.2.seq (x.1.seq h1)⟩)⟩
  | _=>exact a1.elim
theorem zbS (h:SEr K XO E te me):SIc K XO E (zoe K.f te) (mItL me):=by
  intro Λ F0 H0 F H σ δ R I a
  refine h Λ F0 H0 F H σ δ _ I (a.bind.imp fun d F1 H1 e1 a1 v r=>?_)
  cases d with
  | lst l =>
    obtain ⟨a,vs,rfl,h1,h2⟩:=r
    exact ⟨a,rfl,⟨vs,.inl h1⟩,a1 F1 H1 (.refl e1.fh) _ (zfu h2 fun F2 H2 x=>⟨x.ff,x.fh,.inl (PM.Same.rd x.hh h1)⟩)⟩
  | scr l =>
    simp only [Top,Rep] at r
    obtain ⟨a,rfl,h1⟩:=r
    exact ⟨a,rfl,⟨_,e1.fh.seq h1⟩,a1 F1 H1 (.refl e1.fh) _ (zfu .ints fun F2 H2 x=>⟨x.ff,x.fh,x.fh.seq (x.ff.seq h1)⟩)⟩
  | _=>exact a1.elim
def zgk (lo:Int) (n:Nat):List D:=(List.range n).map fun (k:Nat)=>D.int (lo + (k:Int))
theorem zhQ {lo:Int} {n:Nat} {P:Hp→Hp→Prop} (h:∀ F2 H2,P F2 H2→Same F2 H2):IsIt K (Itr lo n) P (zgk lo n):=by
  intro F2 H2 p i
  unfold zgk
  rw [List.getElem?_map]
  have er:(List.range n)[i]?=if i < n then some i else none:=by
    by_cases hi:i < n
    · rw [if_pos hi,List.getElem?_range hi]
    · rw [if_neg hi,List.getElem?_eq_none_iff]; simpa using hi
  rw [er]
  refine ⟨fun d hd=>?_,fun hn=>?_⟩
  · by_cases hi:i < n
    · rw [if_pos hi] at hd
      cases hd
      refine ⟨hi,fun x H' y=>?_⟩
      obtain ⟨rfl,rfl⟩:=y
      exact ⟨F2,.refl (h F2 _ p),by simp only [Rep]⟩
    · rw [if_neg hi] at hd; cases hd
  · by_cases hi:i < n
    · rw [if_pos hi] at hn; cases hn
    · exact Nat.le_of_not_lt hi
def rng (l:List D):Option (List D):=match l with
  | [.int j]=>ifC (-(2 ^ 62) ≤ j∧j < 2 ^ 62) (some (zgk 0 j.toNat)) none
  | [.int i,.int j]=>ifC (-(2 ^ 62) ≤ i∧i < 2 ^ 62∧-(2 ^ 62) ≤ j∧j < 2 ^ 62) (some (zgk i (j - i).toNat)) none
  | _=>none
def mRng (ml:En→R (List D)) (δ:En):R (List D):=(ml δ).bind fun l=>R.of (rng l)
theorem RepL.one {F:Hp} {d:D} {vs:List V} (r:RepL K F [d] vs):∃ v,vs = [v]∧Rep K F d v:=by
  simp only [RepL] at r
  obtain ⟨v,r',rfl,h,rfl⟩:=r
  exact ⟨v,rfl,h⟩
theorem RepL.two {F:Hp} {d e:D} {vs:List V} (r:RepL K F [d,e] vs):∃ v u,vs = [v,u]∧Rep K F d v∧Rep K F e u:=by
  simp only [RepL] at r
  obtain ⟨v,r',rfl,h,v2,r2,rfl,h2,rfl⟩:=r
  exact ⟨v,v2,rfl,h,h2⟩
theorem zb1 {tl:TA} {ml:En→R (List D)} (hn:∀ δ l,ml δ = .ok l→l.length=1) (h:SA K XO E tl ml):SI K XO E (zpr tl) (mRng ml):=by
  intro Λ F0 H0 F H σ δ R I a
  unfold mRng at a
  cases hm:ml δ with
  | no=>rw [hm] at a; exact a.elim
  | ex x=>refine h Λ F0 H0 F H σ δ _ I ?_; rw [hm] at a ⊢; exact a
  | ok l =>
    refine h Λ F0 H0 F H σ δ _ I ?_
    rw [hm] at a ⊢
    intro F1 H1 e1 vs r
    have h1:=hn δ l hm
    match l,h1 with
    | [d],_ =>
      obtain ⟨v,rfl,rv⟩:=r.one
      have a1:=Aft.mono e1 a
      cases d with
      | int j =>
        simp only [Rep] at rv
        subst rv
        change Aft E XO σ F1 H1 _ (PM.R.of (ifC (-(2 ^ 62) ≤ j∧j < 2 ^ 62) _ _)) at a1
        by_cases hj : -(2 ^ 62) ≤ j∧j < 2 ^ 62
        · rw [zbr hj] at a1
          exact ⟨j,rfl,hj.1,hj.2,a1 F1 H1 (.refl e1.fh) _ (zhQ fun F2 H2 x=>x.2)⟩
        · rw [zmC hj] at a1; exact a1.elim
      | _=>exact a1.elim
theorem zmA {tl:TA} {ml:En→R (List D)} (hn:∀ δ l,ml δ = .ok l→l.length=2) (h:SA K XO E tl ml):SI K XO E (zpk tl) (mRng ml):=by
  intro Λ F0 H0 F H σ δ R I a
  unfold mRng at a
  cases hm:ml δ with
  | no=>rw [hm] at a; exact a.elim
  | ex x=>refine h Λ F0 H0 F H σ δ _ I ?_; rw [hm] at a ⊢; exact a
  | ok l =>
    refine h Λ F0 H0 F H σ δ _ I ?_
    rw [hm] at a ⊢
    intro F1 H1 e1 vs r
    have h1:=hn δ l hm
    match l,h1 with
    | [d,d'],_ =>
      obtain ⟨v,u,rfl,rv,ru⟩:=r.two
      have a1:=Aft.mono e1 a
      cases d with
      | int i =>
        cases d' with
        | int j =>
          simp only [Rep] at rv ru
          subst rv ru
          change Aft E XO σ F1 H1 _ (PM.R.of (ifC (-(2 ^ 62) ≤ i∧i < 2 ^ 62∧-(2 ^ 62) ≤ j∧j < 2 ^ 62) _ _)) at a1
          by_cases hj : -(2 ^ 62) ≤ i∧i < 2 ^ 62∧-(2 ^ 62) ≤ j∧j < 2 ^ 62
          · rw [zbr hj] at a1
            exact ⟨i,j,rfl,hj,a1 F1 H1 (.refl e1.fh) _ (zhQ fun F2 H2 x=>x.2)⟩
          · rw [zmC hj] at a1; exact a1.elim
        | _=>exact a1.elim
      | _=>exact a1.elim
theorem len1 {ma:En→R D}:∀ δ l,zaa ma mNil δ = .ok l→l.length=1:=by
  intro δ l h
  unfold zaa mNil at h
  cases e:ma δ with
  | ok d=>rw [e] at h; cases h; rfl
  | no=>rw [e] at h; cases h
  | ex x=>rw [e] at h; cases h
theorem len2 {ma mb:En→R D}:∀ δ l,zaa ma (zaa mb mNil) δ = .ok l→l.length=2:=by
  intro δ l h
  unfold zaa mNil at h
  cases e:ma δ with
  | ok d =>
    rw [e] at h
    cases e2:mb δ with
    | ok d=>rw [R.bind_ok,e2] at h; cases h; rfl
    | no=>rw [R.bind_ok,e2] at h; cases h
    | ex x=>rw [R.bind_ok,e2] at h; cases h
  | no=>rw [e] at h; cases h
  | ex x=>rw [e] at h; cases h
def ziM (l:List D):List D:=l.mapIdx fun i d=>.tup [.int i,d]
theorem zjz {a:Addr} {ds:List D} {vs:List V} {F1:Hp} {P:Hp→Hp→Prop} (r:RepL K F1 ds vs) (h:∀ F2 H2,P F2 H2→Same F1 F2∧Same F2 H2∧SqL K.f H2 a vs):IsIt K (Ite K.f a) P (ziM ds):=by
  intro F2 H2 p i
  obtain ⟨s1,s2,q⟩:=h F2 H2 p
  unfold ziM
  rw [List.getElem?_mapIdx]
  refine ⟨fun d hd=>?_,fun hn=>?_⟩
  · cases e:ds[i]? with
    | none=>rw [e] at hd; cases hd
    | some x =>
      rw [e] at hd
      cases hd
      obtain ⟨v,hv,rv⟩:=r.get e
      refine ⟨⟨vs,v,q,hv⟩,fun x' H' y=>?_⟩
      obtain ⟨p',y',rfl,hp,rfl,y⟩:=y
      have z:=y vs q
      rw [hv] at z; cases z
      refine ⟨_,.new s2 hp,?_⟩
      simp only [Rep]
      exact ⟨p',_,rfl,zaY,.cons (by simp only [Rep]) (.cons (Rep.mono (s1.trans (Same.upd (s2.free hp))) _ rv) .nil)⟩
  · cases e:ds[i]? with
    | none=>exact ⟨vs,q,by rw [r.length]; exact List.getElem?_eq_none_iff.mp e⟩
    | some x=>rw [e] at hn; cases hn
def asL':D→Option (List D)
  | .lst l=>some l
  | _=>none
def zjS:List D→Option (List D)
  | [d]=>(asL' d).map ziM
  | _=>none
def zhO (ml:En→R (List D)) (δ:En):R (List D):=(ml δ).bind fun l=>R.of (zjS l)
theorem zh5 {l r:List D} (h:zjS l=some r):∃ x,l = [.lst x]∧r=ziM x:=by
  cases l with
  | nil=>cases h
  | cons d t =>
    cases t with
    | cons _ _=>cases h
    | nil =>
      cases d with
      | lst x=>cases h; exact ⟨x,rfl,rfl⟩
      | _=>cases h
theorem zoF {tl:TA} {ml:En→R (List D)} (h:SA K XO E tl ml):SI K XO E (zoo K.f tl) (zhO ml):=by
  intro Λ F0 H0 F H σ δ R I a
  refine h Λ F0 H0 F H σ δ _ I (a.bind.imp fun ds F1 H1 e1 a1 vs r=>?_)
  cases q:zjS ds with
  | none=>rw [q] at a1; exact a1.elim
  | some z =>
    rw [q] at a1
    obtain ⟨l,rfl,rfl⟩:=zh5 q
    obtain ⟨v,rfl,r'⟩:=RepL.one r
    simp only [Rep] at r'
    obtain ⟨a,vs,rfl,h1,h2⟩:=r'
    exact ⟨a,rfl,⟨vs,.inl (PM.Same.rd e1.fh h1)⟩,a1 F1 H1 (.refl e1.fh) _ (zjz h2 fun F2 H2 x=>⟨x.1,x.2,.inl (PM.Same.rd x.2 (PM.Same.rd x.1 h1))⟩)⟩
theorem ziv {tl:TA} {ml:En→R (List D)} (h:SAr K XO E tl ml):SIc K XO E (zoo K.f tl) (zhO ml):=by
  intro Λ F0 H0 F H σ δ R I a
  refine h Λ F0 H0 F H σ δ _ I (a.bind.imp fun ds F1 H1 e1 a1 vs r=>?_)
  cases q:zjS ds with
  | none=>rw [q] at a1; exact a1.elim
  | some z =>
    rw [q] at a1
    obtain ⟨l,rfl,rfl⟩:=zh5 q
    cases r with
    | cons r r' =>
      cases r'
      obtain ⟨a,vs,rfl,h1,h2⟩:=r
      exact ⟨a,rfl,⟨vs,.inl h1⟩,a1 F1 H1 (.refl e1.fh) _ (zjz h2 fun F2 H2 x=>⟨x.ff,x.fh,.inl (PM.Same.rd x.hh h1)⟩)⟩
end
end PM
namespace PM
open PySem L2
section
variable (K:Kx) (XO:XOT) (E:St→XK)
def AftS (Λ:List (Nat × Addr × HO)) (F0 H0:Hp) (Dn:Ends):O→Prop
  | .no=>False
  | .nx δ=>∀ σ F H,EnvOk K Λ F0 H0 F H σ δ→Dn.nx σ H
  | .bk δ=>∀ σ F H,EnvOk K Λ F0 H0 F H σ δ→Dn.bk σ H
  | .ct δ=>∀ σ F H,EnvOk K Λ F0 H0 F H σ δ→Dn.ct σ H
  | .rt d=>∀ v F H,Ext F0 H0 F H→Rep K F d v→Dn.rt v H
  | .ro d=>∀ p F H,Ext F0 H0 F H→F p=none→H0 p=none→Own K F H d p→Dn.rt (.ref p) H
  | .ex δ x=>∀ σ F H C dct,EnvOk K Λ F0 H0 F H σ δ→XO x F H C dct→E σ C dct H
def SS (t:TS) (m:En→O):Prop:=∀ Λ F0 H0 F H σ δ Dn,EnvOk K Λ F0 H0 F H σ δ→AftS K XO E Λ F0 H0 Dn (m δ)→t Dn σ H
end
def R.toO {α:Type} (r:R α) (δ:En) (f:α→O):O:=match r with | .no=>.no | .ok a=>f a | .ex x=>.ex δ x
@[simp] theorem R.toO_ok {α:Type} (a:α) (δ:En) (f:α→O):(R.ok a).toO δ f=f a:=rfl
@[simp] theorem R.toO_no {α:Type} (δ:En) (f:α→O):(R.no:R α).toO δ f = .no:=rfl
@[simp] theorem R.toO_ex {α:Type} (x:Xc) (δ:En) (f:α→O):(R.ex x:R α).toO δ f = .ex δ x:=rfl
section
variable {K:Kx} {XO:XOT} {E:St→XK} {ta tb te:TE} {ma mb me:En→R D} {t u:TS} {m n:En→O} {Λ:List (Nat × Addr × HO)} {F0 H0 F H F1 H1:Hp} {σ:St} {δ:En} {Dn:Ends}
theorem AftS.of {α:Type} {r:R α} {f:α→O} (I:EnvOk K Λ F0 H0 F H σ δ) (a:AftS K XO E Λ F0 H0 Dn (r.toO δ f)):Aft E XO σ F H (fun a _ _=>AftS K XO E Λ F0 H0 Dn (f a)) r:=by
  cases r with
  | no=>exact a
  | ok b=>exact fun _ _ _=>a
  | ex x=>exact fun C dct F' H' e h=>a σ F' H' C dct (I.grow e) h
theorem AftS.up (e:Ext F0 H0 F1 H1):∀ {o:O},AftS K XO E Λ F0 H0 Dn o→AftS K XO E Λ F1 H0 Dn o
  | .no,h=>h
  | .nx _,h=>fun σ F H I=>h σ F H (I.down e)
  | .bk _,h=>fun σ F H I=>h σ F H (I.down e)
  | .ct _,h=>fun σ F H I=>h σ F H (I.down e)
  | .rt _,h=>fun v F H x=>h v F H (e.base x)
  | .ro _,h=>fun p F H x=>h p F H (e.base x)
  | .ex _ _,h=>fun σ F H C d I=>h σ F H C d (I.down e)
def zaM (δ:En):O:=.nx δ
def mSeq (m n:En→O) (δ:En):O:=match m δ with | .nx δ'=>n δ' | r=>r
theorem zaJ:SS K XO E zpA zaM:=fun Λ F0 H0 F H σ δ Dn I a=>a σ F H I
theorem zaq (h:SS K XO E t m) (h':SS K XO E u n):SS K XO E (tSeq t u) (mSeq m n):=by
  intro Λ F0 H0 F H σ δ Dn I a
  refine h Λ F0 H0 F H σ δ _ I ?_
  unfold mSeq at a
  cases q:m δ with
  | no=>rw [q] at a; exact a
  | nx δ'=>rw [q] at a; exact fun σ' F' H' I'=>h' Λ F0 H0 F' H' σ' δ' Dn I' a
  | rt d=>rw [q] at a; exact a
  | ro d=>rw [q] at a; exact a
  | bk δ'=>rw [q] at a; exact a
  | ct δ'=>rw [q] at a; exact a
  | ex δ' x=>rw [q] at a; exact a
def mRet (me:En→R D) (δ:En):O:=(me δ).toO δ .rt
theorem zaG (h:SE K XO E te me):SS K XO E (tRet te) (mRet me):=by
  intro Λ F0 H0 F H σ δ Dn I a
  exact h Λ F0 H0 F H σ δ _ I ((AftS.of I a).imp fun d F1 H1 e p v r=>p v F1 H1 (I.ext.trans e) r)
def zen (me:En→R D) (δ:En):O:=(me δ).toO δ .ro
theorem zfb (h:SEo K XO E te me):SS K XO E (tRet te) (zen me):=by
  intro Λ F0 H0 F H σ δ Dn I a
  exact h Λ F0 H0 F H σ δ _ I ((AftS.of I a).imp fun d F1 H1 e p v h0 h1 o=>p v F1 H1 (I.ext.trans e) h0 (I.ext.hh.free h1) o)
def zns (i:Nat) (δ:En):O:=match δ[i]? with | some (.o d)=>.ro d | _=>.no
theorem zml {i:Nat}:SS K XO E (tRet (tVar i)) (zns i):=by
  intro Λ F0 H0 F H σ δ Dn I a
  unfold zns at a
  split at a
  · rename_i d q
    have z:=I.slot i
    rw [q] at z
    obtain ⟨p,z1,z2,z3,z4⟩:=z
    exact ⟨_,z1,a p F H I.ext z3 z2 z4⟩
  · exact a.elim
def mDo (me:En→R D) (δ:En):O:=(me δ).toO δ fun _=>.nx δ
theorem zg4 (h:SE K XO E te me):SS K XO E (znf te) (mDo me):=by
  intro Λ F0 H0 F H σ δ Dn I a
  exact h Λ F0 H0 F H σ δ _ I ((AftS.of I a).imp fun d F1 H1 e p v r=>p σ F1 H1 (I.grow e))
def mIfS (n:En→R Bool) (m m':En→O) (δ:En):O:=(n δ).toO δ fun b=>if b=true then m δ else m' δ
theorem zbk {tc:TT} {nc:En→R Bool} (h:ST K XO E tc nc) (ha:SS K XO E t m) (hb:SS K XO E u n):SS K XO E (tIfS tc t u) (mIfS nc m n):=by
  intro Λ F0 H0 F H σ δ Dn I a
  refine h Λ F0 H0 F H σ δ _ I ((AftS.of I a).imp fun b F1 H1 e p=>?_)
  cases b with
  | true=>exact ha Λ F0 H0 F1 H1 σ δ Dn (I.grow e) p
  | false=>exact hb Λ F0 H0 F1 H1 σ δ Dn (I.grow e) p
def O.of:Option En→O
  | some δ=>.nx δ
  | none=>.no
@[simp] theorem O.of_some (δ:En):O.of (some δ) = .nx δ:=rfl
@[simp] theorem O.of_none:O.of none = .no:=rfl
def mAsg (me:En→R D) (b:D→En→Option En) (δ:En):O:=(me δ).toO δ fun d=>O.of (b d δ)
theorem zaL {g:TG} {b:D→En→Option En} (h:SE K XO E te me) (hg:SG K g b):SS K XO E (tAsg te g) (mAsg me b):=by
  intro Λ F0 H0 F H σ δ Dn I a
  refine h Λ F0 H0 F H σ δ _ I ((AftS.of I a).imp fun d F1 H1 e p v r=>?_)
  cases q:b d δ with
  | none=>rw [q] at p; exact p.elim
  | some δ'=>rw [q] at p; exact hg Λ F0 H0 F1 H1 σ δ d v δ' _ (I.grow e) r q fun σ' I'=>p σ' F1 H1 I'
def bNew (i:Nat) (d:D) (δ:En):Option En:=match δ[i]? with | none=>none | some (.l _)=>none | some _=>some (δ.set i (.o d))
theorem zh3 {i:Nat} (h:SEo K XO E te me):SS K XO E (tAsg te (ziU i)) (mAsg me (bNew i)):=by
  intro Λ F0 H0 F H σ δ Dn I a
  refine h Λ F0 H0 F H σ δ _ I ((AftS.of I a).imp fun d F1 H1 e p v h0 h1 o=>?_)
  unfold bNew at p
  split at p
  · exact p.elim
  · exact p.elim
  · rename_i x h3 h2
    exact p _ F1 H1 (I.putO ⟨x,h2,fun d' z=>h3 d' (by rw [z])⟩ e h0 h1 o)
def mPar (i j:Nat) (ml:En→R (List D)) (δ:En):O:=(ml δ).toO δ fun l=>match l with | [x,y]=>O.of ((zap i x δ).bind (zap j y)) | _=>.no
theorem zm8 {i j:Nat} {tl:TA} {ml:En→R (List D)} (h:SA K XO E tl ml):SS K XO E (tPar i j tl) (mPar i j ml):=by
  intro Λ F0 H0 F H σ δ Dn I a
  refine h Λ F0 H0 F H σ δ _ I ((AftS.of I a).imp fun l F1 H1 e p vs r=>?_)
  match l,p,r with
  | [],p,_=>exact p.elim
  | [_],p,_=>exact p.elim
  | _ :: _ :: _ :: _,p,_=>exact p.elim
  | [x,y],p,r =>
    obtain ⟨v,w,rfl,r1,r2⟩:=RepL.two r
    refine ⟨v,w,rfl,?_⟩
    cases q:zap i x δ with
    | none=>simp only [q] at p; exact p.elim
    | some δ1 =>
      cases q2:zap j y δ1 with
      | none=>simp only [q,Option.bind_some,q2] at p; exact p.elim
      | some δ2 =>
        simp only [q,Option.bind_some,q2] at p
        exact zas Λ F0 H0 F1 H1 σ δ x v δ1 (fun σ1 H=>Dn.nx (σ1.set j (some w)) H) (I.grow e) r1 q fun σ1 I1 =>
          zas Λ F0 H0 F1 H1 σ1 δ1 y w δ2 Dn.nx I1 r2 q2 fun σ2 I2=>p σ2 F1 H1 I2
def mFrz (i:Nat) (m:En→O) (δ:En):O:=match δ[i]? with | some (.o d)=>m (δ.set i (.v d)) | some (.v _)=>m δ | _=>.no
theorem znW {i:Nat} (h:SS K XO E t m):SS K XO E t (mFrz i m):=by
  intro Λ F0 H0 F H σ δ Dn I a
  unfold mFrz at a
  split at a
  · rename_i d q
    obtain ⟨F',_,I'⟩:=I.frz q
    exact h Λ F0 H0 F' H σ _ Dn I' a
  · exact h Λ F0 H0 F H σ _ Dn I a
  · exact a.elim
def zcm (b:D→En→Option En) (m:En→O):List D→En→O
  | [],δ=>.nx δ
  | d :: l,δ=>match b d δ with
    | none=>.no
    | some δ1=>match m δ1 with
      | .nx δ2=>zcm b m l δ2
      | .ct δ2=>zcm b m l δ2
      | .bk δ2=>.nx δ2
      | r=>r
def mFor (mi:En→R (List D)) (b:D→En→Option En) (m:En→O) (δ:En):O:=(mi δ).toO δ fun l=>zcm b m l δ
theorem zoR {J:It} {P:Hp→Hp→Prop} {g:TG} {b:D→En→Option En} {ds:List D} (hJ:IsIt K J P ds) (hP:∀ σ δ F H,EnvOk K Λ F0 H0 F H σ δ→P F H) (hg:SG K g b) (hb:SS K XO E t m) (I:EnvOk K Λ F0 H0 F H σ δ)
    (a:AftS K XO E Λ F0 H0 Dn (zcm b m ds δ)):∃ W:Nat→Nat→St→Hp→Prop,(∃ k,W 0 k σ H)∧∀ i k σ H,W i k σ H →
      (J.stop i H∧Dn.nx σ H)∨(J.go i H∧∃ N:St→Hp→Prop,(∀ σ' H',N σ' H'→∃ k',k' < k∧W (i + 1) k' σ' H')∧∀ x H',J.yld i H x H'→g x σ H' fun σ2 H2=>t { Dn with nx:=N,ct:=N,bk:=Dn.nx } σ2 H2):=by
  let W:Nat→Nat→St→Hp→Prop:=fun i k σ H=>∃ F δ,EnvOk K Λ F0 H0 F H σ δ∧k=ds.length - i∧i ≤ ds.length∧AftS K XO E Λ F0 H0 Dn (zcm b m (ds.drop i) δ)
  refine ⟨W,⟨ds.length,F,δ,I,rfl,Nat.zero_le _,a⟩,?_⟩
  rintro i k σ H ⟨F,δ,I,rfl,hi,a⟩
  have hP':=hP σ δ F H I
  by_cases hlt:i < ds.length
  · have e:ds.drop i=ds[i] :: ds.drop (i + 1):=List.drop_eq_getElem_cons hlt
    obtain ⟨h1,h2⟩:=(hJ F H hP' i).1 ds[i] (by simp [hlt])
    refine .inr ⟨h1,W (i + 1) (ds.length - (i + 1)),fun σ' H' w=>⟨_,by omega,w⟩,fun x H' y=>?_⟩
    obtain ⟨F3,e3,r⟩:=h2 x H' y
    rw [e] at a
    unfold zcm at a
    cases q:b ds[i] δ with
    | none=>rw [q] at a; exact a.elim
    | some δ1 =>
      rw [q] at a
      refine hg Λ F0 H0 F3 H' σ δ _ x δ1 _ (I.grow e3) r q fun σ1 I1=>hb Λ F0 H0 F3 H' σ1 δ1 _ I1 ?_
      cases q2:m δ1 with
      | no=>simp only [q2] at a; exact a
      | nx δ2=>simp only [q2] at a; exact fun σ' F' H' I'=>⟨F',δ2,I',rfl,hlt,a⟩
      | ct δ2=>simp only [q2] at a; exact fun σ' F' H' I'=>⟨F',δ2,I',rfl,hlt,a⟩
      | bk δ2=>simp only [q2] at a; exact a
      | rt d=>simp only [q2] at a; exact a
      | ro d=>simp only [q2] at a; exact a
      | ex δ' x=>simp only [q2] at a; exact a
  · have e:i=ds.length:=by omega
    subst e
    rw [List.drop_length] at a
    exact .inl ⟨(hJ F H hP' _).2 (by simp),a σ F H I⟩
theorem zcN {wi:TI} {mi:En→R (List D)} {g:TG} {b:D→En→Option En} (hi:SI K XO E wi mi) (hg:SG K g b) (hb:SS K XO E t m):SS K XO E (tFor wi g t) (mFor mi b m):=by
  intro Λ F0 H0 F H σ δ Dn I a
  refine hi Λ F0 H0 F H σ δ _ I ((AftS.of I a).imp fun ds F1 H1 e p J hJ=>?_)
  have I1:=I.grow e
  exact zoR (F0:=F1) hJ (fun σ δ F H I=>⟨I.ext.ff,I.ext.fh⟩) hg hb I1.up (p.up I1.ext)
def zeZ (c:En→R Bool) (m:En→O):Nat→En→O
  | 0,_=>.no
  | n + 1,δ=>(c δ).toO δ fun b=>if b=true then (match m δ with | .nx δ2=>zeZ c m n δ2 | .ct δ2=>zeZ c m n δ2 | .bk δ2=>.nx δ2 | r=>r) else .nx δ
open Classical in
def zfw (c:En→R Bool) (m:En→O) (δ:En):O:=if h:∃ n,zeZ c m n δ ≠ .no then zeZ c m (choose h) δ else .no
theorem zgL {tc:TT} {nc:En→R Bool} (hc:ST K XO E tc nc) (hb:SS K XO E t m):SS K XO E (zn0 tc t) (zfw nc m):=by
  intro Λ F0 H0 F H σ δ Dn I a
  unfold zfw at a
  split at a
  · rename_i h
    refine ⟨fun k σ H=>∃ F δ,EnvOk K Λ F0 H0 F H σ δ∧AftS K XO E Λ F0 H0 Dn (zeZ nc m k δ),⟨_,F,δ,I,a⟩,?_⟩
    rintro k σ H ⟨F,δ,I,a⟩
    cases k with
    | zero=>exact a.elim
    | succ k =>
      unfold zeZ at a
      refine hc Λ F0 H0 F H σ δ _ I ((AftS.of I a).imp fun b F1 H1 e p=>?_)
      cases b with
      | false=>exact p σ F1 H1 (I.grow e)
      | true =>
        refine ⟨fun σ H=>∃ F δ,EnvOk K Λ F0 H0 F H σ δ∧AftS K XO E Λ F0 H0 Dn (zeZ nc m k δ),fun σ' H' w=>⟨k,Nat.lt_succ_self _,w⟩,hb Λ F0 H0 F1 H1 σ δ _ (I.grow e) ?_⟩
        rw [if_pos rfl] at p
        cases q2:m δ with
        | no=>simp only [q2] at p; exact p
        | nx δ2=>simp only [q2] at p; exact fun σ' F' H' I'=>⟨F',δ2,I',p⟩
        | ct δ2=>simp only [q2] at p; exact fun σ' F' H' I'=>⟨F',δ2,I',p⟩
        | bk δ2=>simp only [q2] at p; exact p
        | rt d=>simp only [q2] at p; exact p
        | ro d=>simp only [q2] at p; exact p
        | ex δ' x=>simp only [q2] at p; exact p
  · exact a.elim
end
end PM
namespace PM
open PySem L2
section
variable {K:Kx} {F H:Hp}
end
section
variable {K:Kx} {XO:XOT} {E:St→XK} {ta tb te ty td:TE} {ma mb me my md:En→R D} {t u:TS} {m n:En→O} {Λ:List (Nat × Addr × HO)} {F0 H0 F H F1 H1:Hp} {σ:St} {δ:En} {Dn:Ends}
theorem EnvOk.own {i:Nat} {d:D} (I:EnvOk K Λ F0 H0 F H σ δ) (hx:δ[i]?=some (.o d)):∃ a,σ[i]?=some (some (.ref a))∧Own K F H d a:=by
  have z:=I.slot i
  rw [hx] at z
  obtain ⟨a,z1,z2,z3,z4⟩:=z
  exact ⟨a,z1,z4⟩
def zc6 (i:Nat) (me:En→R D) (δ:En):O:=match δ[i]? with
  | some (.o (.lst l))=>(me δ).toO δ fun d=>ifC (l.length < sizeLine) (.nx (δ.set i (.o (.lst (l ++ [d]))))) .no
  | _=>.no
theorem zeq {i:Nat} (h:SE K XO E te me):SS K XO E (znf (tBM K.f "list" zms (tVar i) (zfH te tNil))) (zc6 i me):=by
  intro Λ F0 H0 F H σ δ Dn I a
  unfold zc6 at a
  split at a
  · rename_i l q
    obtain ⟨p,s1,vs,s2,s3⟩:=I.own q
    refine ⟨_,s1,.inl ⟨rfl,vs,.inl (.inl s2)⟩,?_⟩
    refine h Λ F0 H0 F H σ δ _ I ((AftS.of I a).imp fun d F1 H1 e c v r=>?_)
    unfold ifC at c
    split at c
    · rename_i hl
      refine ⟨p,vs,v,rfl,rfl,e.hh _ _ s2,by rw [s3.length]; exact hl,?_⟩
      exact c σ F1 _ ((I.grow e).chg q s1 ⟨_,zaY,(s3.mono e.ff).append (.cons r .nil)⟩)
    · exact c.elim
  · exact a.elim
def mAug (f:Int→Int→Int) (i:Nat) (me:En→R D) (δ:En):O:=match δ[i]? with
  | some (.v (.int x))=>(me δ).toO δ fun y=>(match y with | .int y=>.nx (δ.set i (.v (.int (f x y)))) | _=>.no)
  | _=>.no
theorem zn1 {f:Int→Int→Int} {i:Nat} (h:SE K XO E te me):SS K XO E (tAug i te (ipI f)) (mAug f i me):=by
  intro Λ F0 H0 F H σ δ Dn I a
  unfold mAug at a
  split at a
  · rename_i x q
    have z:=I.slot i
    rw [q] at z
    obtain ⟨u,z1,z2⟩:=z
    simp only [Rep] at z2
    subst z2
    refine ⟨_,z1,h Λ F0 H0 F H σ δ _ I ((AftS.of I a).imp fun y F1 H1 e c v r=>?_)⟩
    cases y with
    | int y =>
      simp only [Rep] at r
      subst r
      exact ⟨x,y,rfl,rfl,c _ F1 H1 ((I.grow e).put ⟨_,q,fun d z=>by cases z⟩ (by simp only [Rep]))⟩
    | _=>exact c.elim
  · exact a.elim
def i2 (f:Int→Int→D) (x y:D):Option D:=match x,y with | .int i,.int j=>some (f i j) | _,_=>none
def i2c (C:Int→Int→Prop) (f:Int→Int→D) (x y:D):Option D:=match x,y with | .int i,.int j=>ifC (C i j) (some (f i j)) none | _,_=>none
theorem zlj {g:Int→Int→V} {f:Int→Int→D} (h:∀ i j F,Rep K F (f i j) (g i j)):SR K (rI0 g) (i2 f):=by
  intro F H x y dx dy d Q s hx hy e q
  cases dx with
  | int i =>
    cases dy with
    | int j =>
      cases e
      simp only [Top,Rep] at hx hy
      exact ⟨i,j,hx,hy,q _ F H (.refl s) (h i j F)⟩
    | _=>cases e
  | _=>cases e
theorem zkL {C:Int→Int→Prop} {g:Int→Int→V} {f:Int→Int→D} (h:∀ i j F,Rep K F (f i j) (g i j)):SR K (rI C g) (i2c C f):=by
  intro F H x y dx dy d Q s hx hy e q
  cases dx with
  | int i =>
    cases dy with
    | int j =>
      simp only [Top,Rep] at hx hy
      simp only [i2c] at e
      unfold ifC at e
      split at e
      · rename_i hc
        cases e
        exact ⟨i,j,hx,hy,hc,q _ F H (.refl s) (h i j F)⟩
      · cases e
    | _=>cases e
  | _=>cases e
def oAdd:D→D→Option D:=i2 fun i j=>.int (i + j)
def oSub:D→D→Option D:=i2 fun i j=>.int (i - j)
def oMul:D→D→Option D:=i2c (fun i j=>Fit i∧Fit j) fun i j=>.int (i * j)
def oDiv:D→D→Option D:=i2c (fun _ j=>j ≠ 0∧Fit j) fun i j=>.int (i.fdiv j)
def oMod:D→D→Option D:=i2c (fun _ j=>0 < j) fun i j=>.int (i % j)
def oPow:D→D→Option D:=i2c CPow fun i j=>.int (i ^ j.toNat)
def oLt:D→D→Option D:=i2 fun i j=>.bl (decide (i < j))
def oLe:D→D→Option D:=i2 fun i j=>.bl (decide (i ≤ j))
def oGt:D→D→Option D:=i2 fun i j=>.bl (decide (j < i))
def oGe:D→D→Option D:=i2 fun i j=>.bl (decide (j ≤ i))
theorem zbo:SR K (rI0 fun i j=>.int (i + j)) oAdd:=zlj fun _ _ _=>by simp only [Rep]
theorem zg0:SR K (rI0 fun i j=>.int (i - j)) oSub:=zlj fun _ _ _=>by simp only [Rep]
theorem zby:SR K (rI (fun i j=>Fit i∧Fit j) fun i j=>.int (i * j)) oMul:=zkL fun _ _ _=>by simp only [Rep]
theorem zb7:SR K (rI (fun _ j=>j ≠ 0∧Fit j) fun i j=>.int (i.fdiv j)) oDiv:=zkL fun _ _ _=>by simp only [Rep]
theorem zbb:SR K (rI (fun _ j=>0 < j) fun i j=>.int (i % j)) oMod:=zkL fun _ _ _=>by simp only [Rep]
theorem zgd:SR K (rI CPow fun i j=>.int (i ^ j.toNat)) oPow:=zkL fun _ _ _=>by simp only [Rep]
theorem zhn:SR K (rI0 fun i j=>.bl (decide (i < j))) oLt:=zlj fun _ _ _=>by simp only [Rep]
theorem zmF:SR K (rI0 fun i j=>.bl (decide (i ≤ j))) oLe:=zlj fun _ _ _=>by simp only [Rep]
theorem zgB:SR K (rI0 fun i j=>.bl (decide (j < i))) oGt:=zlj fun _ _ _=>by simp only [Rep]
theorem zpS:SR K (rI0 fun i j=>.bl (decide (j ≤ i))) oGe:=zlj fun _ _ _=>by simp only [Rep]
def oNeg:D→Option D
  | .int i=>some (.int (-i))
  | _=>none
theorem znQ:SU K (rU fun i=>.int (-i)) oNeg:=by
  intro F H x dx d Q s hx e q
  cases dx with
  | int i=>cases e; simp only [Top,Rep] at hx; exact ⟨i,hx,q _ F H (.refl s) (by simp only [Rep])⟩
  | _=>cases e
def fl:D→Option V
  | .non=>some .non
  | .bl b=>some (.bl b)
  | .int i=>some (.int i)
  | .str x=>some (.str x)
  | _=>none
theorem zku {d:D} {v x:V} (h:fl d=some v) (r:Top K F H d x):x=v:=by
  cases d with
  | non=>cases h; simpa only [Top,Rep] using r
  | bl _=>cases h; simpa only [Top,Rep] using r
  | int _=>cases h; simpa only [Top,Rep] using r
  | str _=>cases h; simpa only [Top,Rep] using r
  | _=>cases h
def oEq (x y:D):Option D:=match fl x,fl y with | some a,some b=>if scal a b=true then some (.bl (decide (a=b))) else none | _,_=>none
def oNe (x y:D):Option D:=match fl x,fl y with | some a,some b=>if scal a b=true then some (.bl (!decide (a=b))) else none | _,_=>none
theorem zdR:SR K rEq oEq:=by
  intro F H x y dx dy d Q s hx hy e q
  unfold oEq at e
  split at e
  · rename_i a b h1 h2
    split at e
    · rename_i hs
      cases e
      cases zku h1 hx; cases zku h2 hy
      exact ⟨hs,q _ F H (.refl s) (by simp only [Rep])⟩
    · cases e
  · cases e
theorem zjB:SR K rNe oNe:=by
  intro F H x y dx dy d Q s hx hy e q
  unfold oNe at e
  split at e
  · rename_i a b h1 h2
    split at e
    · rename_i hs
      cases e
      cases zku h1 hx; cases zku h2 hy
      exact ⟨hs,q _ F H (.refl s) (by simp only [Rep])⟩
    · cases e
  · cases e
def isN:D→Bool
  | .non=>true
  | _=>false
theorem zoN {d:D} {x:V} (r:Top K F H d x):decide (x = .non)=isN d:=by
  cases d with
  | non=>simp only [Top,Rep] at r; subst r; rfl
  | bl _=>simp only [Top,Rep] at r; subst r; rfl
  | int _=>simp only [Top,Rep] at r; subst r; rfl
  | str _=>simp only [Top,Rep] at r; subst r; rfl
  | tup _=>simp only [Top,Rep] at r; obtain ⟨a,_,rfl,_⟩:=r; rfl
  | lst _=>obtain ⟨a,_,rfl,_⟩:=r; rfl
  | dct _ _=>obtain ⟨a,_,rfl,_⟩:=r; rfl
  | scr _=>simp only [Top,Rep] at r; obtain ⟨a,rfl,_⟩:=r; rfl
  | exc _=>simp only [Top,Rep] at r; obtain ⟨a,_,rfl,_⟩:=r; rfl
  | fd _ _=>simp only [Top,Rep] at r; obtain ⟨a,_,_,rfl,_⟩:=r; rfl
  | obj _ _ _=>simp only [Top,Rep] at r; obtain ⟨a,_,_,rfl,_⟩:=r; rfl
def oIs (x y:D):Option D:=match y with | .non=>some (.bl (isN x)) | _=>none
theorem zmV:SR K (fun x y H Q=>y = .non∧Q (.bl (decide (x = .non))) H) oIs:=by
  intro F H x y dx dy d Q s hx hy e q
  cases dy with
  | non=>cases e; simp only [Top,Rep] at hy; exact ⟨hy,q _ F H (.refl s) (by simp only [Rep]; rw [zoN hx])⟩
  | _=>cases e
def oIxL (x y:D):Option D:=match x,y with | .lst l,.int i=>atI l i | .scr l,.int i=>(atI l i).map .int | _,_=>none
def oIxT (x y:D):Option D:=match x,y with | .tup l,.int i=>atI l i | _,_=>none
theorem zj6 {l:List D} {vs:List V} {i:Int} {d:D} (r:RepL K F l vs) (h:atI l i=some d):∃ v,atI vs i=some v∧Rep K F d v:=by
  unfold atI at h ⊢
  rw [r.length]
  cases q:ixN l.length i with
  | none=>rw [q] at h; cases h
  | some j=>rw [q] at h; exact r.get h
theorem za7:SR K (rIxL K.f) oIxL:=by
  intro F H x y dx dy d Q s hx hy e q
  cases dx with
  | lst l =>
    cases dy with
    | int i =>
      obtain ⟨a,vs,rfl,h1,h2⟩:=hx
      simp only [Top,Rep] at hy
      obtain ⟨v,g1,g2⟩:=zj6 h2 e
      exact ⟨a,vs,i,v,rfl,hy,.inl h1,g1,q _ F H (.refl s) g2⟩
    | _=>cases e
  | scr l =>
    cases dy with
    | int i =>
      simp only [Top,Rep] at hx hy
      obtain ⟨a,rfl,h1⟩:=hx
      simp only [oIxL] at e
      cases z:atI l i with
      | none=>rw [z] at e; cases e
      | some n =>
        rw [z] at e; cases e
        obtain ⟨v,g1,g2⟩:=zj6 (F:=F) (K:=K) (l:=l.map .int) (vs:=l.map V.int) (i:=i) (d:=.int n) .ints (by
          unfold atI at z ⊢
          rw [List.length_map]
          cases q:ixN l.length i with
          | none=>rw [q] at z; cases z
          | some j =>
            rw [q] at z
            change l[j]?=some n at z
            show (l.map D.int)[j]?=_
            rw [List.getElem?_map,z]; rfl)
        exact ⟨a,_,i,v,rfl,hy,s.seq h1,g1,q _ F H (.refl s) g2⟩
    | _=>cases e
  | _=>cases e
theorem zaU:SR K (rIxT K.f) oIxT:=by
  intro F H x y dx dy d Q s hx hy e q
  cases dx with
  | tup l =>
    cases dy with
    | int i =>
      simp only [Top,Rep] at hx hy
      obtain ⟨a,vs,rfl,h1,h2⟩:=hx
      obtain ⟨v,g1,g2⟩:=zj6 h2 e
      exact ⟨a,vs,i,v,rfl,hy,.inl (.inl (s _ _ h1)),g1,q _ F H (.refl s) g2⟩
    | _=>cases e
  | _=>cases e
end
end PM
namespace PM
open PySem L2
section
variable {K:Kx} {XO:XOT} {E:St→XK} {ta tb te ty td:TE} {ma mb me my md:En→R D} {t u:TS} {m n:En→O} {Λ:List (Nat × Addr × HO)} {F0 H0 F H F1 H1:Hp} {σ:St} {δ:En} {Dn:Ends}
abbrev EN:St→XK:=fun _ _ _ _=>False
def zhK:Sl→Sl
  | .o d=>.l d
  | .p _=>.no
  | s=>s
def za2 (δ:En) (ix:List Nat) (n:Nat):En:=ix.map (fun i=>zhK (δ[i]?.getD .no)) ++ List.replicate n .no
def zdJ (f:D→R (Option D)):List D→R (List D)
  | []=>.ok []
  | d :: l=>(f d).bind fun o=>(zdJ f l).bind fun r=>.ok (o.toList ++ r)
def zcX (b:D→En→Option En) (nc:Option (En→R Bool)) (me:En→R D) (δ:En) (d:D):R (Option D):=match b d δ with
  | none=>.no
  | some δ1=>(match nc with
    | none=>(me δ1).nev.bind fun x=>.ok (some x)
    | some c=>(c δ1).nev.bind fun k=>if k=true then (me δ1).nev.bind fun x=>.ok (some x) else .ok none)
def zc1 (mi:En→R (List D)) (ix:List Nat) (n:Nat) (b:D→En→Option En) (nc:Option (En→R Bool)) (me:En→R D) (δ:En):R D :=
  (mi δ).bind fun ds=>ifC (ds.length ≤ sizeLine) ((zdJ (zcX b nc me (za2 δ ix n)) ds).nev.bind fun l=>.ok (.lst l)) .no
theorem zjb {ix:List Nat} {n:Nat} (I:EnvOk K Λ F0 H0 F H σ δ) (hix:ix.Nodup) :
    ∃ Λc,EnvOk K Λc F0 H0 F H (zdC σ ix n) (za2 δ ix n)∧(∀ i:Nat,Sl.own (za2 δ ix n)[i]?=true→∃ x ∈ Λc,x.1=i)∧∀ x ∈ Λc,∃ o,H x.2.1=some o:=by
  have gd:∀ j:Nat,j < ix.length→(za2 δ ix n)[j]?=some (zhK (δ[ix.getD j 0]?.getD .no)):=fun j hj=>by
    unfold za2
    rw [List.getElem?_append_left (by simpa using hj),List.getElem?_map,List.getElem?_eq_getElem hj]
    simp [List.getD_eq_getElem?_getD,List.getElem?_eq_getElem hj]
  have gs:∀ j:Nat,j < ix.length→(zdC σ ix n)[j]?=some ((σ[ix.getD j 0]?).getD none):=fun j hj=>by
    unfold zdC
    rw [List.getElem?_append_left (by simpa using hj),List.getElem?_map,List.getElem?_eq_getElem hj]
    simp [List.getD_eq_getElem?_getD,List.getElem?_eq_getElem hj]
  have gn:∀ j:Nat,¬ j < ix.length→(za2 δ ix n)[j]?=some .no∨(za2 δ ix n)[j]?=none:=fun j hj=>by
    unfold za2
    rw [List.getElem?_append_right (by simpa using hj),List.getElem?_replicate]
    split
    · exact .inl rfl
    · exact .inr rfl
  have own:∀ j:Nat,Sl.own (za2 δ ix n)[j]?=true→j < ix.length∧∃ d a o,δ[ix.getD j 0]?=some d∧Sl.own (some d)=true∧(za2 δ ix n)[j]?=some (zhK d)∧(∃ e,zhK d = .l e)∧σ[ix.getD j 0]?=some (some (.ref a))∧(zdC σ ix n)[j]?=some (some (.ref a))∧H a=some o∧H0 a=none∧F a=none:=fun j h=>by
    by_cases hj:j < ix.length
    · refine ⟨hj,?_⟩
      rw [gd j hj] at h
      have z:=I.slot (ix.getD j 0)
      cases q:δ[ix.getD j 0]? with
      | none=>rw [q] at h; cases h
      | some s =>
        rw [q] at h z
        cases s with
        | no=>cases h
        | v d=>cases h
        | o d =>
          obtain ⟨a,z1,z2,z3,z4⟩:=z
          obtain ⟨o,ho⟩:=z4.obj
          exact ⟨_,a,o,rfl,rfl,by rw [gd j hj,q]; rfl,⟨d,rfl⟩,z1,by rw [gs j hj,z1]; rfl,ho,z2,z3⟩
        | l d =>
          obtain ⟨a,z1,z2,z3,z4⟩:=z
          obtain ⟨o,ho⟩:=z4.obj
          exact ⟨_,a,o,rfl,rfl,by rw [gd j hj,q]; rfl,⟨d,rfl⟩,z1,by rw [gs j hj,z1]; rfl,ho,z2,z3⟩
        | p ll=>cases h
    · rcases gn j hj with z | z <;> (rw [z] at h; cases h)
  let Λc:List (Nat × Addr × HO):=(List.range ix.length).filterMap fun (j:Nat)=>match (zdC σ ix n)[j]? with
    | some (some (V.ref a))=>if Sl.own (za2 δ ix n)[j]?=true then (H a).map fun o=>(j,a,o) else none
    | _=>none
  have mem:∀ x ∈ Λc,(zdC σ ix n)[x.1]?=some (some (.ref x.2.1))∧Sl.own (za2 δ ix n)[x.1]?=true∧H x.2.1=some x.2.2:=fun x hx=>by
    obtain ⟨j,_,h⟩:=List.mem_filterMap.mp hx
    split at h
    · rename_i a q
      split at h
      · rename_i ow
        cases q2:H a with
        | none=>rw [q2] at h; cases h
        | some o=>rw [q2] at h; cases h; exact ⟨q,ow,q2⟩
      · cases h
    · cases h
  have zjV:∀ (j:Nat) (ll:List (List Int)),(za2 δ ix n)[j]? ≠ some (.p ll):=fun j ll h=>by
    by_cases hj:j < ix.length
    · rw [gd j hj] at h
      cases q:δ[ix.getD j 0]? with
      | none=>rw [q] at h; cases h
      | some s=>rw [q] at h; cases s <;> cases h
    · rcases gn j hj with z | z <;> (rw [z] at h; cases h)
  refine ⟨Λc,⟨I.ext,?_,fun j=>?_,fun i j a hij h1 h2 h3 h4=>?_,fun x hx=>?_,fun j ll a vs h=>absurd h (zjV j ll)⟩,fun j h=>?_,fun x hx=>⟨_,(mem x hx).2.2⟩⟩
  · unfold zdC za2
    simp
  · by_cases hj:j < ix.length
    · rw [gd j hj,gs j hj]
      have z:=I.slot (ix.getD j 0)
      cases q:δ[ix.getD j 0]? with
      | none=>trivial
      | some s =>
        rw [q] at z
        cases s with
        | no=>trivial
        | v d=>obtain ⟨u,z1,z2⟩:=z; exact ⟨u,by rw [z1]; rfl,z2⟩
        | o d=>obtain ⟨a,z1,z2⟩:=z; exact ⟨a,by rw [z1]; rfl,z2⟩
        | l d=>obtain ⟨a,z1,z2⟩:=z; exact ⟨a,by rw [z1]; rfl,z2⟩
        | p ll=>trivial
    · rcases gn j hj with z | z <;> (rw [z]; trivial)
  · obtain ⟨i1,d1,a1,o1,i2,i3,i4,i5,i6,i7,i8⟩:=own i h1
    obtain ⟨j1,d2,a2,o2,j2,j3,j4,j5,j6,j7,j8⟩:=own j h2
    rw [i7] at h3; cases h3
    rw [j7] at h4; cases h4
    refine I.dist (ix.getD i 0) (ix.getD j 0) a (fun e=>hij ?_) (by rw [i2]; exact i3) (by rw [j2]; exact j3) i6 j6
    rw [List.getD_eq_getElem?_getD,List.getD_eq_getElem?_getD,List.getElem?_eq_getElem i1,List.getElem?_eq_getElem j1] at e
    exact ((List.getElem?_inj i1 hix).mp (by rw [List.getElem?_eq_getElem i1,List.getElem?_eq_getElem j1]; exact congrArg some e))
  · obtain ⟨m1,m2,m3⟩:=mem x hx
    obtain ⟨_,d,_,_,_,_,h4,⟨e,h5⟩,_⟩:=own x.1 m2
    exact ⟨⟨e,by rw [h4,h5]⟩,m1,m3⟩
  · obtain ⟨i1,d1,a1,o1,i2,i3,i4,i5,i6,i7,i8,_⟩:=own j h
    refine ⟨(j,a1,o1),List.mem_filterMap.mpr ⟨j,List.mem_range.mpr i1,?_⟩,rfl⟩
    rw [i7]
    show (if Sl.own (za2 δ ix n)[j]?=true then (H a1).map fun o=>(j,a1,o) else none)=_
    rw [if_pos h,i8]
    rfl
theorem EnvOk.side {p:Addr} {w:HO} (I:EnvOk K Λ F0 H0 F H σ δ) (ho:∀ i:Nat,Sl.own δ[i]?=true→∃ x ∈ Λ,x.1=i) (hp:∀ x ∈ Λ,x.2.1 ≠ p) (h0:H0 p=none) (h1:F p=none):EnvOk K Λ F0 H0 F (upd H p w) σ δ:=by
  have ne:∀ (i:Nat) (a:Addr),Sl.own δ[i]?=true→σ[i]?=some (some (.ref a))→a ≠ p:=fun i a h h'=>by
    obtain ⟨x,hx,e⟩:=ho i h
    have z:=(I.lent x hx).2.1
    rw [e,h'] at z
    cases z
    exact hp x hx
  have zjV:∀ (j:Nat) (ll:List (List Int)),δ[j]? ≠ some (.p ll):=fun j ll h=>by
    obtain ⟨x,hx,e⟩:=ho j (by rw [h]; rfl)
    obtain ⟨d,hd⟩:=(I.lent x hx).1
    rw [e,h] at hd; cases hd
  refine ⟨⟨I.ext.ff,fun b o q=>?_,fun b o q=>?_,I.ext.nw⟩,I.len,fun i=>?_,I.dist,fun x hx=>?_,fun j ll a vs h=>absurd h (zjV j ll)⟩
  · rw [zaH (zaW q h0)]; exact I.ext.hh b o q
  · rw [zaH (zaW q h1)]; exact I.ext.fh b o q
  · have z:=I.slot i
    cases q:δ[i]? with
    | none=>trivial
    | some s =>
      rw [q] at z
      cases s with
      | no=>trivial
      | v d=>exact z
      | o d=>obtain ⟨a,z1,z2,z3,z4⟩:=z; exact ⟨a,z1,z2,z3,z4.at (zaH (ne i a (by rw [q]; rfl) z1))⟩
      | l d=>obtain ⟨a,z1,z2,z3,z4⟩:=z; exact ⟨a,z1,z2,z3,z4.at (zaH (ne i a (by rw [q]; rfl) z1))⟩
      | p ll=>exact absurd q (zjV i ll)
  · obtain ⟨z1,z2,z3⟩:=I.lent x hx
    exact ⟨z1,z2,by rw [zaH (hp x hx)]; exact z3⟩
theorem EnvOk.weakL {δ':En} (w:Weak δ δ') (hl:∀ x ∈ Λ,∃ d,δ[x.1]?=some (.l d)) (I:EnvOk K Λ F0 H0 F H σ δ'):EnvOk K Λ F0 H0 F H σ δ:=by
  refine ⟨I.ext,I.len.trans w.1.symm,fun i=>?_,fun i j a hij h1 h2 h3 h4=>?_,fun x hx=>⟨hl x hx,(I.lent x hx).2⟩,I.tabsOf (fun k ll h=>⟨(w.2 k).elim (fun z=>by rw [z] at h; cases h) fun z=>by rw [← z]; exact h,rfl⟩) (fun _ _ _ _ _=>rfl) fun k j ll r b bs _ _ _ _ ho hs=>.inl ⟨(w.2 j).elim (fun z=>by rw [z] at ho; cases ho) fun z=>by rw [← z]; exact ho,hs⟩⟩
  · rcases w.2 i with z | z
    · rw [z]; trivial
    · rw [z]; exact I.slot i
  · have ow:∀ k:Nat,Sl.own δ[k]?=true→Sl.own δ'[k]?=true:=fun k h=>by
      rcases w.2 k with z | z
      · rw [z] at h; cases h
      · rw [← z]; exact h
    exact I.dist i j a hij (ow i h1) (ow j h2) h3 h4
theorem zj5 {f:D→R (Option D)} {d:D} {l r:List D} (h:(zdJ f (d :: l)).nev = .ok r):∃ o r',f d = .ok o∧(zdJ f l).nev = .ok r'∧r=o.toList ++ r':=by
  unfold zdJ at h
  cases q:f d with
  | no=>rw [q] at h; cases h
  | ex x=>rw [q] at h; cases h
  | ok o =>
    rw [q] at h
    cases q2:zdJ f l with
    | no=>rw [R.bind_ok,q2] at h; cases h
    | ex x=>rw [R.bind_ok,q2] at h; cases h
    | ok r'=>rw [R.bind_ok,q2] at h; cases h; exact ⟨o,r',rfl,rfl,rfl⟩
theorem nev_ok {α:Type} {r:R α} {a:α} (h:r.nev = .ok a):r = .ok a:=by
  cases r with
  | no=>cases h
  | ok b=>cases h; rfl
  | ex x=>cases h
theorem zbm {wi:TI} {mi:En→R (List D)} {ix:List Nat} {n:Nat} {g:TG} {b:D→En→Option En} {tc:Option TT} {nc:Option (En→R Bool)}
    (hi:SIc K XO E wi mi) (hix:ix.Nodup) (hg:SG K g b) (hw:BW b) (hc:(tc=none∧nc=none)∨∃ c k,tc=some c∧nc=some k∧ST K XO EN c k) (he:SE K XO EN te me):SEo K XO E (znp wi ix n g tc te) (zc1 mi ix n b nc me):=by
  intro Λ F0 H0 F H σ δ Q I a
  refine hi Λ F0 H0 F H σ δ _ I (a.bind.imp fun ds F1 H1 e1 a1 J hJ p hp=>?_)
  unfold ifC at a1
  split at a1
  case isFalse=>exact a1.elim
  rename_i hsz
  have I1:=I.grow e1
  obtain ⟨Λc,Ic,hown,hall⟩:=zjb (n:=n) I1 hix
  cases qg:(zdJ (zcX b nc me (za2 δ ix n)) ds).nev with
  | no=>rw [qg] at a1; exact a1.elim
  | ex x=>cases q2:zdJ (zcX b nc me (za2 δ ix n)) ds <;> (rw [q2] at qg; cases qg)
  | ok l =>
  rw [qg] at a1
  have hlent:∀ x ∈ Λc,∃ d,(za2 δ ix n)[x.1]?=some (.l d):=fun x hx=>(Ic.lent x hx).1
  have hpn:∀ x ∈ Λc,x.2.1 ≠ p:=fun x hx e=>by
    obtain ⟨o,ho⟩:=hall x hx
    rw [e,hp] at ho; cases ho
  have p0:H0 p=none:=I1.ext.hh.free hp
  have f1:F1 p=none:=e1.fh.free hp
  refine ⟨fun i k ys σ2 H2=>∃ F2 l1 l2,EnvOk K Λc F0 H0 F2 H2 σ2 (za2 δ ix n)∧Ext F1 H1 F2 H2∧H2 p=some (.lst ys)∧F2 p=none∧RepL K F2 l1 ys∧(zdJ (zcX b nc me (za2 δ ix n)) (ds.drop i)).nev = .ok l2∧l=l1 ++ l2∧k=ds.length - i∧i ≤ ds.length∧ys.length ≤ i,
    ⟨_,F1,[],l,?_,.newO e1.fh hp,zaY,f1,.nil,qg,rfl,rfl,Nat.zero_le _,Nat.le_refl _⟩,?_⟩
  · exact Ic.grow (.newO e1.fh hp)
  rintro i k ys σ2 H2 ⟨F2,l1,l2,I2,x2,hD,hF,r,qd,rfl,rfl,hil,hys⟩
  refine ⟨hD,?_⟩
  by_cases hlt:i < ds.length
  · have e:ds.drop i=ds[i] :: ds.drop (i + 1):=List.drop_eq_getElem_cons hlt
    rw [e] at qd
    obtain ⟨o,l3,q1,q3,rfl⟩:=zj5 qd
    obtain ⟨h1,h2⟩:=(hJ F2 H2 x2 i).1 ds[i] (by simp [hlt])
    refine .inr ⟨h1,fun ys' σ' H'=>∃ F' l1',EnvOk K Λc F0 H0 F' H' σ' (za2 δ ix n)∧Ext F1 H1 F' H'∧H' p=some (.lst ys')∧F' p=none∧RepL K F' l1' ys'∧l1 ++ (o.toList ++ l3)=l1' ++ l3∧ys'.length ≤ i + 1,
      fun ys' σ' H' ⟨F',l1',w1,w2,w3,w4,w5,w6,w7⟩=>⟨_,by omega,F',l1',l3,w1,w2,w3,w4,w5,q3,w6,rfl,hlt,w7⟩,fun x H' y=>?_⟩
    obtain ⟨F3,e3,rx⟩:=h2 x H' y
    have hp2:∀ {F5 H5:Hp},Ext F2 H2 F5 H5→H5 p=some (.lst ys)∧F5 p=none:=fun z=>⟨z.hh _ _ hD,z.nw p _ hF hD⟩
    unfold zcX at q1
    cases qb:b ds[i] (za2 δ ix n) with
    | none=>rw [qb] at q1; cases q1
    | some δ1 =>
      rw [qb] at q1
      have hwk:=hw _ _ _ qb
      refine hg Λc F0 H0 F3 H' σ2 _ _ x δ1 _ (I2.grow e3) rx qb fun σ3 I3=>?_
      have fin:∀ F4 H4,Ext F3 H' F4 H4→(me δ1).nev.bind (fun x=>R.ok (some x)) = .ok o→te σ3 H4 fun y H5=>H5 p=some (.lst ys)∧ys.length < sizeLine ∧
          ∃ F' l1',EnvOk K Λc F0 H0 F' (upd H5 p (.lst (ys ++ [y]))) σ3 (za2 δ ix n)∧Ext F1 H1 F' (upd H5 p (.lst (ys ++ [y])))∧upd H5 p (.lst (ys ++ [y])) p=some (.lst (ys ++ [y]))∧F' p=none∧RepL K F' l1' (ys ++ [y])∧l1 ++ (o.toList ++ l3)=l1' ++ l3∧(ys ++ [y]).length ≤ i + 1:=by
        intro F4 H4 e4 qe
        cases qm:me δ1 with
        | no=>rw [qm] at qe; cases qe
        | ex x=>rw [qm] at qe; cases qe
        | ok d =>
          rw [qm] at qe
          cases qe
          refine he Λc F0 H0 F4 H4 σ3 δ1 _ (I3.grow e4) ?_
          rw [qm]
          intro F5 H5 e5 v rv
          have z:=e3.trans (e4.trans e5)
          obtain ⟨z1,z2⟩:=hp2 z
          refine ⟨z1,by omega,F5,l1 ++ [d],(((I3.grow e4).grow e5).weakL hwk hlent).side hown hpn p0 z2,?_,zaY,z2,(r.mono z.ff).append (.cons rv .nil),by simp,by simpa using hys⟩
          have w:=x2.trans z
          exact ⟨w.ff,fun c o q=>by rw [zaH (zaW q hp)]; exact w.hh c o q,fun c o q=>by rw [zaH (zaW q z2)]; exact w.fh c o q,w.nw⟩
      rcases hc with ⟨rfl,rfl⟩ | ⟨c,kc,rfl,rfl,hcc⟩
      · have z:=fin F3 H' (.refl e3.fh) q1
        unfold zmi
        simp only [if_true]
        exact z
      · simp only at q1
        refine hcc Λc F0 H0 F3 H' σ3 δ1 _ I3 ?_
        cases qk:kc δ1 with
        | no=>rw [qk] at q1; cases q1
        | ex x=>rw [qk] at q1; cases q1
        | ok bb =>
          rw [qk] at q1
          intro F4 H4 e4
          cases bb with
          | true=>rw [if_pos rfl]; exact fin F4 H4 e4 q1
          | false =>
            rw [if_neg Bool.false_ne_true]
            have eo:o=none:=by
              rw [R.nev_ok,R.bind_ok,if_neg Bool.false_ne_true] at q1
              cases q1; rfl
            subst eo
            have z:=e3.trans e4
            obtain ⟨z1,z2⟩:=hp2 z
            exact ⟨F4,l1,(I3.grow e4).weakL hwk hlent,x2.trans z,z1,z2,r.mono z.ff,rfl,by omega⟩
  · have e:i=ds.length:=by omega
    subst e
    rw [List.drop_length] at qd
    cases qd
    refine .inl ⟨(hJ F2 H2 x2 _).2 (by simp),a1 F2 H2 x2 p hF (e1.hh.free hp) ⟨ys,hD,?_⟩⟩
    rw [List.append_nil]
    exact r
def zcZ (n:Nat) (ds:List D):En:=ds.map .v ++ List.replicate n .no
def runF (np nv:Nat) (m:En→O) (ds:List D):R D:=if ds.length=np then (match m (zcZ nv ds) with | .rt d=>.ok d | .nx _=>.ok .non | .ex _ x=>.ex x | _=>.no) else .no
theorem zkA {np nv:Nat} {N:List Str} {ds:List D} {vs:List V} (s:Same F H) (r:RepL K F ds vs) (hn:N.length=np + nv) (hl:ds.length=np):EnvOk K [] F H F H (L2.start N vs) (zcZ nv ds):=by
  have hv:=r.length
  unfold L2.start zcZ
  have en:N.length - vs.length=nv:=by omega
  rw [en]
  refine ⟨.refl s,by simp [hv],fun i=>?_,fun i j a _ h1 _ _ _=>?_,fun x hx=>(by cases hx),fun i ll a vs h1=>(by
    by_cases hi:i < ds.length
    · rw [List.getElem?_append_left (by simpa using hi),List.getElem?_map,List.getElem?_eq_getElem hi] at h1
      cases h1
    · rw [List.getElem?_append_right (by simpa using hi),List.getElem?_replicate] at h1
      split at h1 <;> cases h1)⟩
  · by_cases hi:i < ds.length
    · rw [List.getElem?_append_left (by simpa using hi),List.getElem?_append_left (by simp; omega),List.getElem?_map,List.getElem?_map,List.getElem?_eq_getElem hi]
      obtain ⟨v,h1,h2⟩:=r.get (List.getElem?_eq_getElem hi)
      rw [h1]
      exact ⟨v,rfl,h2⟩
    · rw [List.getElem?_append_right (by simpa using hi),List.getElem?_replicate]
      split <;> trivial
  · by_cases hi:i < ds.length
    · rw [List.getElem?_append_left (by simpa using hi),List.getElem?_map,List.getElem?_eq_getElem hi] at h1
      cases h1
    · rw [List.getElem?_append_right (by simpa using hi),List.getElem?_replicate] at h1
      split at h1 <;> cases h1
theorem zb4 {np nv:Nat} {N:List Str} {vs:List V} {Q:VK} {E:XK} (h:SS K XO (fun _=>E) t m) (hn:N.length=np + nv) (sp:spM K XO (runF np nv m) vs H Q E):t { nx:=fun _ H'=>Q .non H',rt:=Q } (L2.start N vs) H:=by
  obtain ⟨F,ds,s,r,a⟩:=sp
  unfold runF at a
  split at a
  · rename_i hl
    refine h [] F H F H _ _ _ (zkA s r hn hl) ?_
    cases q:m (zcZ nv ds) with
    | no=>rw [q] at a; exact a
    | nx δ=>rw [q] at a; exact fun σ F' H' I=>a F' H' I.ext _ (by simp only [Rep])
    | rt d=>rw [q] at a; exact fun v F' H' e r=>a F' H' e v r
    | ro d=>rw [q] at a; exact a.elim
    | bk δ=>rw [q] at a; exact a.elim
    | ct δ=>rw [q] at a; exact a.elim
    | ex δ x=>rw [q] at a; exact fun σ F' H' C dct I w=>a C dct F' H' I.ext w
  · exact a.elim
def runO (np nv:Nat) (m:En→O) (ds:List D):R D:=if ds.length=np then (match m (zcZ nv ds) with | .ro d=>.ok d | .ex _ x=>.ex x | _=>.no) else .no
def spO (K:Kx) (XO:XOT) (f:List D→R D):Sp:=fun vs H Q E=>∃ F ds,Same F H∧RepL K F ds vs∧Aft (fun _=>E) XO [] F H (fun d F' H'=>∀ p,F' p=none→H p=none→Own K F' H' d p→Q (.ref p) H') (f ds)
theorem zgb {np nv:Nat} {N:List Str} {vs:List V} {Q:VK} {E:XK} (h:SS K XO (fun _=>E) t m) (hn:N.length=np + nv) (sp:spO K XO (runO np nv m) vs H Q E):t { nx:=fun _ H'=>Q .non H',rt:=Q } (L2.start N vs) H:=by
  obtain ⟨F,ds,s,r,a⟩:=sp
  unfold runO at a
  split at a
  · rename_i hl
    refine h [] F H F H _ _ _ (zkA s r hn hl) ?_
    cases q:m (zcZ nv ds) with
    | no=>rw [q] at a; exact a
    | nx δ=>rw [q] at a; exact a.elim
    | rt d=>rw [q] at a; exact a.elim
    | ro d=>rw [q] at a; exact fun p F' H' e h0 h1 o=>a F' H' e p h0 h1 o
    | bk δ=>rw [q] at a; exact a.elim
    | ct δ=>rw [q] at a; exact a.elim
    | ex δ x=>rw [q] at a; exact fun σ F' H' C dct I w=>a C dct F' H' I.ext w
  · exact a.elim
theorem zeO {np nv:Nat} {vs:List V} {Q:VK} {E:XK} (sp:spO K XO (runO np nv m) vs H Q E):vs.length=np:=by
  obtain ⟨F,ds,s,r,a⟩:=sp
  unfold runO at a
  split at a
  · rename_i hl; rw [r.length]; exact hl
  · exact a.elim
theorem za4 {np nv:Nat} {vs:List V} {Q:VK} {E:XK} (sp:spM K XO (runF np nv m) vs H Q E):vs.length=np:=by
  obtain ⟨F,ds,s,r,a⟩:=sp
  unfold runF at a
  split at a
  · rename_i hl; rw [r.length]; exact hl
  · exact a.elim
theorem zpt {f:List D→R D} {ns:List Int} {a:Addr} {Q:VK} {E:XK} (hf:f [.scr ns] = .ok (.bl true)) (h:SqL K.f H a (ns.map V.int)) (q:∀ H',Q (.bl true) H'):spM K XO f [.ref a] H Q E:=by
  refine ⟨fun b=>if b=a then H b else none,[.scr ns],fun b o e=>?_,.cons ?_ .nil,?_⟩
  · dsimp only at e
    split at e
    · exact e
    · cases e
  · simp only [Rep]
    refine ⟨a,rfl,?_⟩
    rcases h with (h | ⟨o,h⟩) | h
    · exact .inl (.inl (by dsimp only; rw [if_pos rfl]; exact h))
    · exact .inl (.inr ⟨o,by dsimp only; rw [if_pos rfl]; exact h⟩)
    · exact .inr h
  · rw [hf]
    intro F' H' _ v r
    simp only [Rep] at r
    subst r
    exact q H'
theorem zck {f:List D→R D} {tl:TA} {ml:En→R (List D)} {E':XK} (h:SA K XO E tl ml):SEo K XO E (zlW (spO K XO f) [] E' tl) (zaj f ml):=by
  intro Λ F0 H0 F H σ δ Q I a
  refine h Λ F0 H0 F H σ δ _ I (a.bind.imp fun ds F1 H1 e1 a1 vs r=>⟨F1,ds,e1.fh,by rw [List.append_nil]; exact r,?_⟩)
  exact Aft.imp (fun d F2 H2 e2 p q h0 h1 o=>p q h0 (e1.hh.free h1) o) (Aft.any a1)
theorem zlU {f:List D→R D} {tl:TA} {ml:En→R (List D)} (h:SA K XO E tl ml):SEo K XO E (zl3 (spO K XO f) E tl) (zbf f ml):=by
  intro Λ F0 H0 F H σ δ Q I a
  refine h Λ F0 H0 F H σ δ _ I (a.bind.imp fun ds F1 H1 e1 a1 vs r=>⟨F1,ds,e1.fh,r,?_⟩)
  cases q:f ds with
  | no=>rw [q] at a1; exact a1
  | ok d=>rw [q] at a1; exact fun F2 H2 e2 p h0 h1 o=>a1 F2 H2 e2 p h0 (e1.hh.free h1) o
  | ex x=>rw [q] at a1; exact a1
mutual
def zfz:D→Bool
  | .tup l=>zkB l
  | .lst _=>false
  | .dct _ _=>false
  | .scr _=>false
  | .exc _=>false
  | .fd _ _=>false
  | .obj _ _ _=>false
  | _=>true
def zkB:List D→Bool
  | []=>true
  | d :: l=>zfz d && zkB l
end
variable (K) in
def Bor (F H:Hp) (d:D) (v:V):Prop:=Rep K F d v∨∃ a,v = .ref a∧Own K F H d a
variable (K XO E) in
def SAb (t:TA) (m:En→R (List D)):Prop:=∀ Λ F0 H0 F H σ δ Q,EnvOk K Λ F0 H0 F H σ δ→Aft E XO σ F H (fun ds F' H'=>∀ vs,Prd (Bor K F' H') ds vs→Q vs H') (m δ)→t σ H Q
theorem Bor.mono {F H F' H':Hp} (e:Ext F H F' H') {d:D} {v:V}:Bor K F H d v→Bor K F' H' d v
  | .inl h=>.inl (Rep.mono e.ff _ h)
  | .inr ⟨a,h1,h2⟩=>.inr ⟨a,h1,h2.mono e.ff e.hh⟩
theorem zlC:SAb K XO E tNil mNil:=fun Λ F0 H0 F H σ δ Q I a=>a F H (.refl I.same) _ .nil
theorem zgE {tr:TA} {mr:En→R (List D)} (ha:SE K XO E ta ma) (hr:SAb K XO E tr mr):SAb K XO E (zfH ta tr) (zaa ma mr):=by
  intro Λ F0 H0 F H σ δ Q I a
  refine ha Λ F0 H0 F H σ δ _ I (a.bind.imp fun dx F1 H1 e1 a1 x rx=>?_)
  refine hr Λ F0 H0 F1 H1 σ δ _ (I.grow e1) (a1.bind.imp fun dy F2 H2 e2 a2 y ry=>?_)
  exact a2 F2 H2 (.refl e2.fh) _ (.cons (.inl (Rep.mono e2.ff _ rx)) ry)
theorem zly {i:Nat} {tr:TA} {mr:En→R (List D)} (hr:SAb K XO E tr mr):SAb K XO E (zfH (tVar i) tr) (zaa (mRd i) mr):=by
  intro Λ F0 H0 F H σ δ Q I a
  have key:∀ d v,mRd i δ = .ok d→σ[i]?=some (some v)→Bor K F H d v→zfH (tVar i) tr σ H Q:=fun d v hm hs b=>by
    unfold zaa at a
    rw [hm] at a
    refine ⟨v,hs,hr Λ F0 H0 F H σ δ _ I (Aft.imp (fun dy F2 H2 e2 a2 y ry=>?_) (Aft.bind a))⟩
    exact a2 F2 H2 (.refl e2.fh) _ (.cons (b.mono e2) ry)
  have z:=I.slot i
  unfold zaa at a
  cases q:δ[i]? with
  | none =>
    have e:mRd i δ = .no:=by unfold mRd; rw [q]
    rw [e] at a; exact a.elim
  | some s =>
    rw [q] at z
    cases s with
    | no =>
      have e:mRd i δ = .no:=by unfold mRd; rw [q]
      rw [e] at a; exact a.elim
    | v d=>obtain ⟨u,z1,z2⟩:=z; exact key d u (by unfold mRd; rw [q]) z1 (.inl z2)
    | o d=>obtain ⟨u,z1,_,_,z2⟩:=z; exact key d _ (by unfold mRd; rw [q]) z1 (.inr ⟨u,rfl,z2⟩)
    | l d=>obtain ⟨u,z1,_,_,z2⟩:=z; exact key d _ (by unfold mRd; rw [q]) z1 (.inr ⟨u,rfl,z2⟩)
    | p ll =>
      have e:mRd i δ = .no:=by unfold mRd; rw [q]
      rw [e] at a; exact a.elim
def zdc (F H:Hp):Hp:=fun b=>match F b with
  | some o=>some o
  | none=>match H b with
    | some (.lst vs)=>some (.lst vs)
    | some (.dK kvs)=>some (.dK kvs)
    | some (.frz o u)=>some (.frz o u)
    | some (.ins C dx fs)=>some (.ins C dx fs)
    | _=>none
theorem zeF {F H:Hp}:Same F (zdc F H):=fun b o h=>by unfold zdc; rw [h]
theorem zkg {F H:Hp} (s:Same F H):Same (zdc F H) H:=fun b o h=>by
  unfold zdc at h
  cases q:F b with
  | some u=>rw [q] at h; cases h; exact s _ _ q
  | none =>
    simp only [q] at h
    cases q2:H b with
    | none=>rw [q2] at h; cases h
    | some u=>cases u <;> simp only [q2] at h <;> cases h <;> rfl
theorem ziD {F H:Hp} (s:Same F H):∀ {d:D} {v:V},Bor K F H d v→Rep K (zdc F H) d v:=by
  intro d v h
  rcases h with h | ⟨a,rfl,h⟩
  · exact Rep.mono zeF _ h
  · cases d with
    | lst l =>
      obtain ⟨vs,h1,h2⟩:=h
      simp only [Rep]
      refine ⟨a,vs,rfl,.inl ?_,h2.mono zeF⟩
      unfold zdc
      cases q:F a with
      | some u=>rw [s _ _ q] at h1; exact h1
      | none=>simp only [h1]
    | dct ks l =>
      obtain ⟨vs,h1,h0,h2⟩:=h
      simp only [Rep]
      refine ⟨a,vs,rfl,?_,h0,h2.mono zeF⟩
      unfold zdc
      cases q:F a with
      | some u=>rw [s _ _ q] at h1; exact h1
      | none=>simp only [h1]
    | obj c ks l =>
      obtain ⟨dx,vs,h1,h0,h2⟩:=h
      simp only [Rep]
      refine ⟨a,dx,vs,rfl,?_,h0,h2.mono zeF⟩
      unfold zdc
      cases q:F a with
      | some u=>rw [s _ _ q] at h1; exact h1
      | none=>simp only [h1]
    | _=>exact h.elim
theorem zkM {F H:Hp} (s:Same F H):∀ {ds:List D} {vs:List V},Prd (Bor K F H) ds vs→RepL K (zdc F H) ds vs
  | _,_,.nil=>.nil
  | _,_,.cons h t=>.cons (ziD s h) (zkM s t)
open Classical in
def minH (F H F':Hp):Hp:=fun b=>if F b=none∧H b ≠ none then none else F' b
theorem zpF {F H F' H':Hp} (e:Ext (zdc F H) H F' H') {a:Addr} {o:HO} (h:F' a=some o) (h1:∀ vs,o ≠ .lst vs) (h2:∀ kvs,o ≠ .dK kvs) (h3:∀ q u,o ≠ .frz q u) (h4:∀ C dx fs,o ≠ .ins C dx fs):minH F H F' a=some o:=by
  unfold minH
  split
  · rename_i hc
    exfalso
    cases qh:H a with
    | none=>exact hc.2 qh
    | some u =>
      have np:zdc F H a=match H a with | some (.lst vs)=>some (.lst vs) | some (.dK kvs)=>some (.dK kvs) | some (.frz o u)=>some (.frz o u) | some (.ins C dx fs)=>some (.ins C dx fs) | _=>none:=by
        unfold zdc; rw [hc.1]
      cases u with
      | lst vs=>rw [qh] at np; have z:=e.ff a _ np; rw [h] at z; cases z; exact h1 vs rfl
      | dK vs=>rw [qh] at np; have z:=e.ff a _ np; rw [h] at z; cases z; exact h2 vs rfl
      | frz q w=>rw [qh] at np; have z:=e.ff a _ np; rw [h] at z; cases z; exact h3 q w rfl
      | ins C dx fs=>rw [qh] at np; have z:=e.ff a _ np; rw [h] at z; cases z; exact h4 C dx fs rfl
      | _=>rw [qh] at np; have z:=e.nw a _ np qh; rw [h] at z; cases z
  · exact h
mutual
theorem zj0 {F H F' H':Hp} (e:Ext (zdc F H) H F' H'):∀ (d:D) {v:V},zfz d=true→Rep K F' d v→Rep K (minH F H F') d v
  | .non,v,_,h=>by simp only [Rep] at h ⊢; exact h
  | .bl _,v,_,h=>by simp only [Rep] at h ⊢; exact h
  | .int _,v,_,h=>by simp only [Rep] at h ⊢; exact h
  | .str _,v,_,h=>by simp only [Rep] at h ⊢; exact h
  | .lst _,v,c,h=>by simp only [zfz] at c; cases c
  | .dct _ _,v,c,h=>by simp only [zfz] at c; cases c
  | .scr _,v,c,h=>by simp only [zfz] at c; cases c
  | .exc _,v,c,h=>by simp only [zfz] at c; cases c
  | .fd _ _,v,c,h=>by simp only [zfz] at c; cases c
  | .obj _ _ _,v,c,h=>by simp only [zfz] at c; cases c
  | .tup l,v,c,h=>by
    simp only [zfz] at c
    simp only [Rep] at h ⊢
    obtain ⟨a,vs,h1,h2,h3⟩:=h
    exact ⟨a,vs,h1,zpF e h2 (fun _ z=>by cases z) (fun _ z=>by cases z) (fun _ _ z=>by cases z) (fun _ _ _ z=>by cases z),zkY e l c h3⟩
theorem zkY {F H F' H':Hp} (e:Ext (zdc F H) H F' H'):∀ (l:List D) {vs:List V},zkB l=true→RepL K F' l vs→RepL K (minH F H F') l vs
  | [],vs,_,h=>by simp only [RepL] at h ⊢; exact h
  | d :: l,vs,c,h=>by
    simp only [zkB,Bool.and_eq_true] at c
    simp only [RepL] at h ⊢
    obtain ⟨v,r,h1,h2,h3⟩:=h
    exact ⟨v,r,h1,zj0 e d c.1 h2,zkY e l c.2 h3⟩
end
theorem zl7 {F H F' H':Hp} (e:Ext (zdc F H) H F' H'):Ext F H (minH F H F') H':=by
  refine ⟨fun b o h=>?_,e.hh,fun b o h=>?_,fun p o h1 h2=>?_⟩
  · unfold minH
    rw [if_neg (fun hc=>by rw [h] at hc; cases hc.1)]
    exact e.ff b o (zeF b o h)
  · unfold minH at h
    split at h
    · cases h
    · exact e.fh b o h
  · unfold minH
    rw [if_pos ⟨h1,by rw [h2]; intro z; cases z⟩]
def ziS (f:List D→R D) (ml:En→R (List D)) (δ:En):R D:=(ml δ).bind fun l=>(f l).nev.bind fun d=>if zfz d=true then .ok d else .no
theorem zkR {f:List D→R D} {tl:TA} {ml:En→R (List D)} {E':XK} (h:SAb K XO E tl ml):SE K XO E (zlW (spM K XO f) [] E' tl) (ziS f ml):=by
  intro Λ F0 H0 F H σ δ Q I a
  refine h Λ F0 H0 F H σ δ _ I (a.bind.imp fun ds F1 H1 e1 a1 vs r=>⟨zdc F1 H1,ds,zkg e1.fh,by rw [List.append_nil]; exact zkM e1.fh r,?_⟩)
  cases q:f ds with
  | no=>rw [q] at a1; exact a1.elim
  | ex x=>rw [q] at a1; exact a1.elim
  | ok d =>
    rw [q] at a1
    intro F2 H2 e2 v rv
    simp only [R.nev_ok,R.bind_ok] at a1
    split at a1
    · rename_i hc
      exact a1 _ H2 (zl7 e2) v (zj0 e2 d hc rv)
    · exact a1.elim
variable (K) in
def SC (r:List V→Hp→VK→Prop) (f:List D→Option D):Prop:=∀ F H vs ds d Q,Same F H→Prd (Top K F H) ds vs→f ds=some d→(∀ v F' H',Ext F H F' H'→Rep K F' d v→Q v H')→r vs H Q
variable (K) in
def SCo (r:List V→Hp→VK→Prop) (f:List D→Option D):Prop:=∀ F H vs ds d Q,Same F H→Prd (Top K F H) ds vs→f ds=some d→(∀ p F' H',Ext F H F' H'→F' p=none→H p=none→Own K F' H' d p→Q (.ref p) H')→r vs H Q
def mCB (f:List D→Option D) (ml:En→R (List D)) (δ:En):R D:=(ml δ).bind fun l=>R.of (f l)
theorem zbu {r:List V→Hp→VK→Prop} {f:List D→Option D} {tl:TA} {ml:En→R (List D)} (hr:SC K r f) (h:SAr K XO E tl ml):SE K XO E (tCB r tl) (mCB f ml):=by
  intro Λ F0 H0 F H σ δ Q I a
  refine h Λ F0 H0 F H σ δ _ I (a.bind.imp fun ds F1 H1 e1 a1 vs rv=>?_)
  cases q:f ds with
  | none=>rw [q] at a1; exact a1.elim
  | some d=>rw [q] at a1; exact hr F1 H1 vs ds d Q e1.fh rv q fun v F' H' e r=>a1 F' H' e v r
theorem zgX {r:List V→Hp→VK→Prop} {f:List D→Option D} {tl:TA} {ml:En→R (List D)} (hr:SCo K r f) (h:SAr K XO E tl ml):SEo K XO E (tCB r tl) (mCB f ml):=by
  intro Λ F0 H0 F H σ δ Q I a
  refine h Λ F0 H0 F H σ δ _ I (a.bind.imp fun ds F1 H1 e1 a1 vs rv=>?_)
  cases q:f ds with
  | none=>rw [q] at a1; exact a1.elim
  | some d=>rw [q] at a1; exact hr F1 H1 vs ds d Q e1.fh rv q fun p F' H' e h0 h1 o=>a1 F' H' e p h0 (e1.hh.free h1) o
def fLen:List D→Option D
  | [.lst l]=>some (.int l.length)
  | [.scr l]=>some (.int l.length)
  | [.tup l]=>some (.int l.length)
  | _=>none
theorem zb2:SC K (fun xs H Q=>∃ p ys,xs = [.ref p]∧(SqL K.f H p ys∨SqT K.f H p ys)∧Q (.int ys.length) H) fLen:=by
  intro F H vs ds d Q s r e q
  unfold fLen at e
  split at e
  · cases e
    cases r with
    | cons r r' =>
      cases r'
      obtain ⟨a,xs,rfl,h1,h2⟩:=r
      exact ⟨a,xs,rfl,.inl (.inl h1),q _ F H (.refl s) (by simp only [Rep]; rw [h2.length])⟩
  · cases e
    cases r with
    | cons r r' =>
      cases r'
      simp only [Top,Rep] at r
      obtain ⟨a,rfl,h1⟩:=r
      exact ⟨a,_,rfl,.inl (s.seq h1),q _ F H (.refl s) (by simp only [Rep]; rw [List.length_map])⟩
  · cases e
    cases r with
    | cons r r' =>
      cases r'
      simp only [Top,Rep] at r
      obtain ⟨a,xs,rfl,h1,h2⟩:=r
      exact ⟨a,xs,rfl,.inr (.inl (.inl (s _ _ h1))),q _ F H (.refl s) (by simp only [Rep]; rw [h2.length])⟩
  · cases e
def fAbs:List D→Option D
  | [.int i]=>some (.int (if i < 0 then -i else i))
  | _=>none
theorem zjs:SC K (fun xs H Q=>∃ i,xs = [.int i]∧Q (.int (if i < 0 then -i else i)) H) fAbs:=by
  intro F H vs ds d Q s r e q
  unfold fAbs at e
  split at e
  · rename_i i
    cases e
    cases r with
    | cons r r' =>
      cases r'
      simp only [Top,Rep] at r
      subst r
      exact ⟨i,rfl,q _ F H (.refl s) (by simp only [Rep])⟩
  · cases e
def zd3:List D→Option D
  | [.lst l]=>some (.lst l)
  | [.tup l]=>some (.lst l)
  | _=>none
theorem zfS:SCo K (fun xs H Q=>∃ p ys,xs = [.ref p]∧(SqL K.f H p ys∨SqT K.f H p ys)∧∀ l,H l=none→Q (.ref l) (upd H l (.lst ys))) zd3:=by
  intro F H vs ds d Q s r e q
  unfold zd3 at e
  split at e
  · cases e
    cases r with
    | cons r r' =>
      cases r'
      obtain ⟨a,xs,rfl,h1,h2⟩:=r
      exact ⟨a,xs,rfl,.inl (.inl h1),fun p hp=>q _ F _ (.newO s hp) (s.free hp) hp ⟨xs,zaY,h2⟩⟩
  · cases e
    cases r with
    | cons r r' =>
      cases r'
      simp only [Top,Rep] at r
      obtain ⟨a,xs,rfl,h1,h2⟩:=r
      exact ⟨a,xs,rfl,.inr (.inl (.inl (s _ _ h1))),fun p hp=>q _ F _ (.newO s hp) (s.free hp) hp ⟨xs,zaY,h2⟩⟩
  · cases e
def asI:D→Option Int
  | .int i=>some i
  | _=>none
def mNoP (_:En):R (Option Int):=.ok none
def zbF (me:En→R D) (δ:En):R (Option Int):=(me δ).bind fun d=>(R.of (asI d)).bind fun i=>.ok (some i)
variable (K XO E) in
def SO (t:TO) (m:En→R (Option Int)):Prop:=∀ Λ F0 H0 F H σ δ Q,EnvOk K Λ F0 H0 F H σ δ→Aft E XO σ F H (fun o _ H'=>Q o H') (m δ)→t σ H Q
theorem zhN:SO K XO E zlQ mNoP:=fun Λ F0 H0 F H σ δ Q I a=>a F H (.refl I.same)
theorem zc9 (h:SE K XO E te me):SO K XO E (zo3 te) (zbF me):=by
  intro Λ F0 H0 F H σ δ Q I a
  refine h Λ F0 H0 F H σ δ _ I (a.bind.imp fun d F1 H1 e1 a1 v r=>?_)
  cases d with
  | int i=>simp only [Rep] at r; exact ⟨i,r,a1 F1 H1 (.refl e1.fh)⟩
  | _=>exact a1.elim
def cutD (xs:List D) (lo hi:Option Int):List D:=(xs.drop (HT.sIx xs.length 0 lo)).take (HT.sIx xs.length xs.length hi - HT.sIx xs.length 0 lo)
def mSl (me:En→R D) (ml mh:En→R (Option Int)) (δ:En):R D:=(me δ).bind fun d=>(ml δ).bind fun lo=>(mh δ).bind fun hi=>(R.of (asL d)).bind fun l=>.ok (.lst (cutD l lo hi))
theorem zcc {tl th:TO} {ml mh:En→R (Option Int)} (h:SEr K XO E te me) (hl:SO K XO E tl ml) (hh:SO K XO E th mh):SEo K XO E (tSl (rSlL K.f) te tl th) (mSl me ml mh):=by
  intro Λ F0 H0 F H σ δ Q I a
  refine h Λ F0 H0 F H σ δ _ I (a.bind.imp fun d F1 H1 e1 a1 v r=>?_)
  refine hl Λ F0 H0 F1 H1 σ δ _ (I.grow e1) (a1.bind.imp fun lo F2 H2 e2 a2=>?_)
  refine hh Λ F0 H0 F2 H2 σ δ _ ((I.grow e1).grow e2) (a2.bind.imp fun hi F3 H3 e3 a3=>?_)
  cases d with
  | lst l =>
    obtain ⟨p,vs,rfl,h1,h2⟩:=r
    refine ⟨p,vs,rfl,.inl (PM.Same.rd e3.hh (PM.Same.rd e2.hh h1)),fun q hq=>a3 F3 _ (.newO e3.fh hq) q (e3.fh.free hq) (e1.hh.free (e2.hh.free (e3.hh.free hq))) ⟨_,zaY,?_⟩⟩
    unfold cutD cutV
    rw [← h2.length]
    exact (((h2.mono e2.ff).mono e3.ff).drop _).take _
  | scr l =>
    simp only [Top,Rep] at r
    obtain ⟨p,rfl,h1⟩:=r
    refine ⟨p,_,rfl,e3.hh.seq (e2.hh.seq (e1.fh.seq h1)),fun q hq=>a3 F3 _ (.newO e3.fh hq) q (e3.fh.free hq) (e1.hh.free (e2.hh.free (e3.hh.free hq))) ⟨_,zaY,?_⟩⟩
    unfold cutD cutV
    rw [List.length_map,List.length_map]
    exact (RepL.ints.drop _).take _
  | _=>exact a3.elim
end
end PM
namespace PM
open PySem L2
def oCat (x y:D):Option D:=match x,y with | .lst l,.lst r=>ifC (l.length + r.length ≤ sizeLine) (some (.lst (l ++ r))) none | _,_=>none
def zbx:Nat→D→Bool
  | _,.non=>true
  | _,.int _=>true
  | n + 1,.tup l=>l.all (zbx n)
  | n + 1,.lst l=>l.all (zbx n)
  | _,_=>false
open Classical in
def oNeD (x y:D):Option D:=ifC (zbx 8 x=true∧zbx 8 y=true) (some (.bl (!decide (x=y)))) none
def isiB:String→D→Bool
  | "int",.int _=>true
  | "int",.bl _=>true
  | "bool",.bl _=>true
  | "list",.lst _=>true
  | "tuple",.tup _=>true
  | "str",.str _=>true
  | _,_=>false
def okI:D→Bool
  | .scr _=>false
  | .exc _=>false
  | .fd _ _=>false
  | .obj _ _ _=>false
  | _=>true
def oIsi (c:String) (d:D):Option D:=match d with | .scr _=>none | .exc _=>none | .fd _ _=>none | .obj _ _ _=>none | d=>some (.bl (isiB c d))
def asIs:List D→Option (List Int)
  | []=>some []
  | .int i :: l=>(asIs l).map (i :: ·)
  | _=>none
theorem zcE (ns:List Int):asIs (ns.map .int)=some ns:=by
  induction ns with
  | nil=>rfl
  | cons a l ih=>simp [asIs,ih]
theorem zcI {l:List D} {ns:List Int} (h:asIs l=some ns):l=ns.map .int:=by
  induction l generalizing ns with
  | nil=>cases h; rfl
  | cons d l ih =>
    cases d with
    | int i =>
      simp only [asIs] at h
      cases q:asIs l with
      | none=>rw [q] at h; cases h
      | some m=>rw [q] at h; cases h; rw [ih q]; rfl
    | _=>cases h
def fSum:List D→Option D
  | [.lst l]=>(asIs l).map fun ns=>.int ns.sum
  | _=>none
def maxI:List Int→Int→Int
  | [],m=>m
  | a :: l,m=>maxI l (if a > m then a else m)
theorem zmH {c:En→R Bool} {m:En→O} {δ:En} {n:Nat} {o:O} (h:zeZ c m n δ=o) (ho:o ≠ .no):zfw c m δ=o:=by
  have mono:∀ k n δ,zeZ c m n δ ≠ .no→zeZ c m (n + k) δ=zeZ c m n δ:=by
    intro k n
    induction n with
    | zero=>intro δ h; exact absurd rfl h
    | succ n ih =>
      intro δ h
      have e:n + 1 + k=(n + k) + 1:=by omega
      rw [e]
      unfold zeZ at h ⊢
      cases q:c δ with
      | no=>rfl
      | ex x=>rfl
      | ok b =>
        rw [q] at h
        cases b with
        | false=>rfl
        | true =>
          simp only [R.toO_ok,if_true] at h ⊢
          cases q2:m δ <;> simp only [q2] at h ⊢ <;> exact ih _ h
  have hex:∃ n,zeZ c m n δ ≠ .no:=⟨n,by rw [h]; exact ho⟩
  unfold zfw
  rw [dif_pos hex]
  have h1:=mono n (Classical.choose hex) δ (Classical.choose_spec hex)
  have h2:=mono (Classical.choose hex) n δ (by rw [h]; exact ho)
  rw [← h1,Nat.add_comm,h2,h]
theorem zfy {c:En→R Bool} {m:En→O} {α:Type} (env:α→En) (go:α→Bool) (nxt:α→α) (P:α→Prop) (μ:α→Nat) (hc:∀ a,P a→c (env a) = .ok (go a)) (hs:∀ a,P a→go a=true→m (env a) = .nx (env (nxt a))∧P (nxt a)∧μ (nxt a) < μ a)
    (a:α) (h:P a):∃ b,P b∧go b=false∧zfw c m (env a) = .nx (env b)∧∃ k,b=Nat.repeat nxt k a:=by
  have key:∀ n a,P a→μ a < n→∃ b,P b∧go b=false∧zeZ c m n (env a) = .nx (env b)∧∃ k,b=Nat.repeat nxt k a:=by
    intro n
    induction n with
    | zero=>intro a _ h; omega
    | succ n ih =>
      intro a hp hm
      cases g:go a with
      | false=>exact ⟨a,hp,g,by unfold zeZ; rw [hc a hp,g]; rfl,0,rfl⟩
      | true =>
        obtain ⟨h1,h2,h3⟩:=hs a hp g
        obtain ⟨b,b1,b2,b3,k,b4⟩:=ih (nxt a) h2 (by omega)
        refine ⟨b,b1,b2,?_,k + 1,?_⟩
        · unfold zeZ
          rw [hc a hp,g]
          simp only [R.toO_ok,if_true,h1]
          exact b3
        · rw [b4]
          clear b4 b3 b2 b1 b h3 h2 h1 hm hp ih
          induction k with
          | zero=>rfl
          | succ k ih=>show nxt (Nat.repeat nxt k (nxt a))=nxt (Nat.repeat nxt (k + 1) a); rw [ih]
  obtain ⟨b,b1,b2,b3,k⟩:=key (μ a + 1) a h (Nat.lt_succ_self _)
  exact ⟨b,b1,b2,zmH b3 (by intro z; cases z),k⟩
theorem zhX {β:Type} {f:D→R (Option D)} (enc:β→D) (g:β→Option D):∀ (l:List β),(∀ x ∈ l,f (enc x) = .ok (g x))→zdJ f (l.map enc) = .ok (l.filterMap g)
  | [],_=>rfl
  | x :: l,h=>by
    rw [List.map_cons]
    unfold zdJ
    rw [h x List.mem_cons_self,R.bind_ok,zhX enc g l fun y hy=>h y (List.mem_cons_of_mem _ hy)]
    cases q:g x with
    | none=>rw [List.filterMap_cons_none q]; rfl
    | some d=>rw [List.filterMap_cons_some q]; rfl
theorem small {n:Nat} (h:n ≤ 100000):n ≤ sizeLine:=Nat.le_trans h (by decide)
end PM
namespace PM
open PySem L2
theorem fitN {i:Int} (n:Nat) (h:i.natAbs ≤ n) (h2:n < 2 ^ 8000:=by decide +kernel):Fit i:=Nat.lt_of_le_of_lt h h2
@[simp] theorem zh4 (i j:Int):oAdd (.int i) (.int j)=some (.int (i + j)):=rfl
@[simp] theorem zp6 (i j:Int):oSub (.int i) (.int j)=some (.int (i - j)):=rfl
theorem zbv {i j:Int} (h:Fit i) (h':Fit j):oMul (.int i) (.int j)=some (.int (i * j)):=zbr (p:=Fit i∧Fit j) ⟨h,h'⟩
theorem zo4 {i j:Int} (h:j ≠ 0) (h':Fit j):oDiv (.int i) (.int j)=some (.int (i.fdiv j)):=zbr (p:=j ≠ 0∧Fit j) ⟨h,h'⟩
theorem zcx {i j:Int} (h:0 < j) (h':Fit j):oDiv (.int i) (.int j)=some (.int (i / j)):=by
  rw [zo4 (by omega) h',Int.fdiv_eq_ediv_of_nonneg _ (by omega)]
theorem za6 {i j:Int} (h:0 < j):oMod (.int i) (.int j)=some (.int (i % j)):=zbr (p:=0 < j) h
theorem zkF {i j:Int} (h:CPow i j):oPow (.int i) (.int j)=some (.int (i ^ j.toNat)):=zbr (p:=CPow i j) h
@[simp] theorem zo7 (i j:Int):oLt (.int i) (.int j)=some (.bl (decide (i < j))):=rfl
@[simp] theorem zqd (i j:Int):oLe (.int i) (.int j)=some (.bl (decide (i ≤ j))):=rfl
@[simp] theorem zpN (i j:Int):oGt (.int i) (.int j)=some (.bl (decide (j < i))):=rfl
@[simp] theorem zp9 (i j:Int):oGe (.int i) (.int j)=some (.bl (decide (j ≤ i))):=rfl
@[simp] theorem zp7 (i:Int):oNeg (.int i)=some (.int (-i)):=rfl
@[simp] theorem zqe (i j:Int):oEq (.int i) (.int j)=some (.bl (decide (i=j))):=by simp [oEq,fl,scal]
@[simp] theorem zqc (i j:Int):oNe (.int i) (.int j)=some (.bl (!decide (i=j))):=by simp [oNe,fl,scal]
@[simp] theorem zqb (d:D):oIs d .non=some (.bl (isN d)):=rfl
@[simp] theorem zla (b:Bool):asB (.bl b)=some b:=rfl
@[simp] theorem zqf (l:List D):asL (.lst l)=some l:=rfl
@[simp] theorem zme (i:Int):asI (.int i)=some i:=rfl
@[simp] theorem zp5 (l:List D):fLen [.lst l]=some (.int l.length):=rfl
@[simp] theorem zp4 (l:List D):fLen [.tup l]=some (.int l.length):=rfl
@[simp] theorem zp0 (l:List D):zd3 [.lst l]=some (.lst l):=rfl
@[simp] theorem zpV (a b:D):oIxT (.tup [a,b]) (.int 0)=some a:=rfl
@[simp] theorem zp1 (a b:D):oIxT (.tup [a,b]) (.int 1)=some b:=rfl
theorem atI_nat {α:Type} {l:List α} {k:Nat} {d:α} (h:l[k]?=some d):atI l (k:Int)=some d:=by
  have hk:=(List.getElem?_eq_some_iff.mp h).1
  unfold atI ixN
  rw [if_pos (by omega),if_pos (by omega)]
  exact h
theorem zpi {l:List D} {k:Nat} {d:D} (h:l[k]?=some d):oIxL (.lst l) (.int (k:Int))=some d:=atI_nat h
theorem zdM {l:List D} {i:Int} {d:D} (h0:0 ≤ i) (h:l[i.toNat]?=some d):oIxL (.lst l) (.int i)=some d:=by
  have e:i=((i.toNat:Nat):Int):=by omega
  rw [e]
  exact zpi h
theorem rng1 {n:Int} (h0:0 ≤ n) (h:n ≤ 100000):rng [.int n]=some (zgk 0 n.toNat):=by
  show ifC _ _ _=_
  rw [zbr (by omega)]
theorem rng2 {a b:Int} (h0 : -100000 ≤ a∧a ≤ 100000) (h : -100000 ≤ b∧b ≤ 100000):rng [.int a,.int b]=some (zgk a (b - a).toNat):=by
  show ifC _ _ _=_
  rw [zbr (by omega)]
theorem zol (n:Nat):zgk 0 n=(List.range n).map fun (k:Nat)=>D.int (k:Int):=by
  unfold zgk
  exact List.map_congr_left fun k _=>by simp
theorem zis (l:List D):ziM l=(l.zipIdx).map fun p=>D.tup [.int (p.2:Int),p.1]:=by
  unfold ziM
  rw [List.mapIdx_eq_zipIdx_map]
@[simp] theorem zp8 (a b:α):([a,b].length ≤ sizeLine)=True:=by simp [sizeLine]
end PM
namespace PM
open PySem L2
def sv:Option D→Sl
  | none=>.no
  | some d=>.v d
theorem zaS {i:Nat} {d:D} {δ:En} {o:Option D} (h:δ[i]?=some (sv o)):zap i d δ=some (δ.set i (.v d)):=by
  unfold zap
  rw [h]
  cases o <;> rfl
@[simp] theorem zp3:sv none = .no:=rfl
@[simp] theorem zp2 (d:D):sv (some d) = .v d:=rfl
def iL (l:List Int):D:=.lst (l.map .int)
theorem zbg {α:Type} {f:D→R (Option D)} (enc:α→D) (g:α→D) (l:List α) (h:∀ x ∈ l,f (enc x) = .ok (some (g x))):zdJ f (l.map enc) = .ok (l.map g):=by
  rw [zhX enc (fun x=>some (g x)) l h,List.filterMap_eq_map']
end PM
namespace PM
open PySem L2
theorem zbC {mi:En→R (List D)} {ix:List Nat} {n:Nat} {b:D→En→Option En} {nc:Option (En→R Bool)} {me:En→R D} {δ:En} {l r:List D} (h1:mi δ = .ok l) (hl:l.length ≤ 100000)
    (h2:zdJ (zcX b nc me (za2 δ ix n)) l = .ok r):zc1 mi ix n b nc me δ = .ok (.lst r):=by
  unfold zc1
  rw [h1,R.bind_ok,zbr (small hl),h2]
  rfl
theorem zcR {mi:En→R (List D)} {b:D→En→Option En} {m:En→O} {δ:En} {l:List D} (h:mi δ = .ok l):mFor mi b m δ=zcm b m l δ:=by
  unfold mFor
  rw [h]
  rfl
theorem za3 {np nv:Nat} {m:En→O} {ds:List D} {d:D} (h:m (zcZ nv ds) = .rt d) (hl:ds.length=np:=by rfl):runF np nv m ds = .ok d:=by
  unfold runF
  rw [if_pos hl,h]
theorem zoE {np nv:Nat} {m:En→O} {ds:List D} {δ:En} (h:m (zcZ nv ds) = .nx δ) (hl:ds.length=np:=by rfl):runF np nv m ds = .ok .non:=by
  unfold runF
  rw [if_pos hl,h]
theorem zeI {np nv:Nat} {m:En→O} {ds:List D} {d:D} (h:m (zcZ nv ds) = .ro d) (hl:ds.length=np:=by rfl):runO np nv m ds = .ok d:=by
  unfold runO
  rw [if_pos hl,h]
theorem zam {m n:En→O} {δ δ':En} (h:m δ = .nx δ'):mSeq m n δ=n δ':=by unfold mSeq; rw [h]
theorem zaC {me:En→R D} {b:D→En→Option En} {δ δ':En} {d:D} (h:me δ = .ok d) (h2:b d δ=some δ'):mAsg me b δ = .nx δ':=by unfold mAsg; rw [h,R.toO_ok,h2]; rfl
theorem za5 {n:En→R Bool} {m m':En→O} {δ:En} (h:n δ = .ok true):mIfS n m m' δ=m δ:=by unfold mIfS; rw [h]; rfl
theorem zaZ {n:En→R Bool} {m m':En→O} {δ:En} (h:n δ = .ok false):mIfS n m m' δ=m' δ:=by unfold mIfS; rw [h]; rfl
theorem zb8 {β:Type} {b:D→En→Option En} {m:En→O} (enc:β→D) (P:List β→En→Prop) (all:List β)
    (step:∀ pre x post δ,all=pre ++ x :: post→P pre δ→∃ δ1 δ2,b (enc x) δ=some δ1∧(m δ1 = .nx δ2∨m δ1 = .ct δ2)∧P (pre ++ [x]) δ2) (δ:En) (h:P [] δ):∃ δ2,zcm b m (all.map enc) δ = .nx δ2∧P all δ2:=by
  have key:∀ (post pre:List β) (δ:En),all=pre ++ post→P pre δ→∃ δ2,zcm b m (post.map enc) δ = .nx δ2∧P all δ2:=by
    intro post
    induction post with
    | nil=>intro pre δ e h; exact ⟨δ,rfl,by rw [e,List.append_nil]; exact h⟩
    | cons x post ih =>
      intro pre δ e h
      obtain ⟨δ1,δ2,h1,h2,h3⟩:=step pre x post δ e h
      obtain ⟨δ3,h4,h5⟩:=ih (pre ++ [x]) δ2 (by rw [e]; simp) h3
      refine ⟨δ3,?_,h5⟩
      rw [List.map_cons]
      unfold zcm
      rw [h1]
      rcases h2 with h2 | h2 <;> (simp only [h2]; exact h4)
  exact key all [] δ rfl h
end PM
namespace PM
open PySem L2
@[simp] theorem zjY (l:List Int):fLen [iL l]=some (.int l.length):=by simp [iL]
@[simp] theorem zmG (l:List Int):asL (iL l)=some (l.map .int):=rfl
end PM
namespace PM
open PySem L2
theorem znF {l:List D} {k:Nat} (h:k ≤ l.length):cutD l none (some (k:Int))=l.take k:=by
  unfold cutD
  have e:HT.sIx l.length l.length (some (k:Int))=k:=by
    show (if (k:Int) < 0 then ((k:Int) + (l.length:Int)).toNat else min (k:Int).toNat l.length)=k
    rw [if_neg (by omega)]; omega
  rw [e]
  show (l.drop 0).take (k - 0)=_
  simp
theorem zne {l:List D} {k:Nat} (h:k ≤ l.length):cutD l (some (k:Int)) none=l.drop k:=by
  unfold cutD
  have e:HT.sIx l.length 0 (some (k:Int))=k:=by
    show (if (k:Int) < 0 then ((k:Int) + (l.length:Int)).toNat else min (k:Int).toNat l.length)=k
    rw [if_neg (by omega)]; omega
  rw [e]
  show (l.drop k).take (l.length - k)=_
  rw [List.take_of_length_le (by simp)]
theorem zik (l:List Int) (lo hi:Option Int):∃ cs:List Int,cutD (l.map .int) lo hi=cs.map .int∧cs.length ≤ l.length:=by
  refine ⟨(l.drop (HT.sIx l.length 0 lo)).take (HT.sIx l.length l.length hi - HT.sIx l.length 0 lo),?_,by rw [List.length_take,List.length_drop]; omega⟩
  unfold cutD
  rw [List.length_map,List.map_take,List.map_drop]
theorem ziq {x y:D} (hx:zbx 8 x=true) (hy:zbx 8 y=true) (h:x=y):oNeD x y=some (.bl false):=by
  unfold oNeD
  rw [zbr ⟨hx,hy⟩]
  simp [h]
theorem zgH (l:List Int):zbx 8 (iL l)=true:=by
  show (l.map D.int).all (zbx 7)=true
  rw [List.all_map,List.all_eq_true]
  intro x _; rfl
end PM
namespace PM
open PySem L2 PyProof.Rows
section
variable {K:Kx} {ca:Nat→Addr} {an:Nat→Str} {XO:XOT} {E:L2.St→XK} {ta tb te:TE} {ma mb me:En→R D} {X:Cx}
def zpG:R2:=fun x y H Q=>∃ l b xs zs,x = .ref l∧y = .ref b∧Rd H l (.lst xs)∧Rd H b (.lst zs)∧xs.length + zs.length ≤ sizeLine∧∀ p,H p=none→Q (.ref p) (upd H p (.lst (xs ++ zs)))
theorem zgM:OpR X (binaryOp .Add) zpG:=by
  intro pins s σ H x y v u Q I rx ry h
  obtain ⟨l,b,xs,zs,rfl,rfl,hH,hB,hz,q⟩:=h
  cases rx
  cases ry
  obtain ⟨z,its,n,r,e⟩:=hH.ok I.hok
  obtain ⟨z2,its2,n2,r2,e2⟩:=hB.ok I.hok
  have hl:=r.length
  have hl2:=r2.length
  refine PySem.P.add_list e e2 ?_ (by rw [List.size_toArray,List.size_toArray]; omega)
  have ea:its.toArray ++ its2.toArray=(its ++ its2).toArray:=by simp
  rw [ea]
  exact ⟨.ref _,_,I.lnew (t':=s.toks) (r.append r2) (by rw [List.length_append]; omega),rfl,q _ I.fresh⟩
theorem zjE:SRo K zpG oCat:=by
  intro F H x y dx dy d Q s hx hy e q
  cases dx with
  | lst l =>
    cases dy with
    | lst r =>
      simp only [oCat] at e
      unfold ifC at e
      split at e
      · rename_i hc
        cases e
        obtain ⟨a,vs,rfl,h1,h2⟩:=hx
        obtain ⟨b,ws,rfl,g1,g2⟩:=hy
        exact ⟨a,b,vs,ws,rfl,rfl,h1,g1,by rw [h2.length,g2.length]; exact hc,fun p hp=>q p F _ (.newO s hp) (s.free hp) hp ⟨_,zaY,h2.append g2⟩⟩
      · cases e
    | _=>cases e
  | _=>cases e
theorem zcl {F:Hp}:∀ {ns:List Int} {xs:List V},RepL K F (ns.map .int) xs→xs=ns.map V.int
  | [],xs,h=>by simpa only [List.map_nil,RepL] using h
  | n :: ns,xs,h=>by
    simp only [List.map_cons,RepL,Rep] at h
    obtain ⟨v,r,rfl,rfl,h3⟩:=h
    rw [zcl h3]; rfl
def rSum:List V→Hp→VK→Prop:=fun xs H Q=>∃ (p:Addr) (ns:List Int),xs = [.ref p]∧Rd H p (.lst (ns.map V.int))∧Q (.int ns.sum) H
theorem zlM {ds:List D} {d:D} (h:fSum ds=some d):∃ ns:List Int,ds = [.lst (ns.map .int)]∧d = .int ns.sum:=by
  unfold fSum at h
  split at h
  · rename_i l
    cases z:asIs l with
    | none=>rw [z] at h; cases h
    | some ns=>rw [z] at h; cases h; exact ⟨ns,by rw [zcI z],rfl⟩
  · cases h
theorem zhS:SC K rSum fSum:=by
  intro F H vs ds d Q s r e q
  obtain ⟨ns,rfl,rfl⟩:=zlM e
  cases r with
  | cons r r' =>
    cases r'
    obtain ⟨a,xs,rfl,h1,h2⟩:=r
    have ex:=zcl h2
    subst ex
    exact ⟨a,ns,rfl,h1,q _ F H (.refl s) (by simp only [Rep])⟩
theorem zcg (hc:X.calm=true):ze0 X (.builtin "sum") rSum:=by
  intro pins s σ H xs us Q I r h
  obtain ⟨p,ns,rfl,hq,q⟩:=h
  obtain ⟨u,rfl,rx⟩:=zhh r
  cases rx
  obtain ⟨z,its,n,rv,e⟩:=hq.ok I.hok
  obtain ⟨ts,rfl,htl⟩:∃ ts:List Tok,its=(ns.zip ts).map (fun p=>Value.int p.1 p.2)∧ts.length=ns.length:=by
    clear e hq q z
    induction ns generalizing its with
    | nil=>cases rv; exact ⟨[],rfl,rfl⟩
    | cons a l ih =>
      cases rv with
      | cons h t =>
        obtain ⟨tk,rfl⟩:=h
        obtain ⟨ts,rfl,hl⟩:=ih _ t
        exact ⟨tk :: ts,rfl,by simp [hl]⟩
  have ei:((ns.zip ts).map (fun p=>Value.int p.1 p.2)).toArray=intItems (ns.zip ts).toArray:=by simp [intItems]
  rw [ei] at e
  refine sum_intListG (I.ok.hd hc) ⟨_,e,rfl,n,rfl⟩ fun h' tk t' hk=>?_
  have es:preSum (numAt (ns.zip ts).toArray) (ns.zip ts).toArray.size=ns.sum:=by
    rw [preSum_eq,List.take_of_length_le (by simp)]
    have:(ns.zip ts).map (·.1)=ns:=List.map_fst_zip (by omega)
    show ((ns.zip ts).map (·.1)).sum=_
    rw [this]
  rw [es]
  exact ⟨.int ns.sum,H,I.kept (t':=tk) hk,⟨_,rfl⟩,q⟩
def zl5:D→String
  | .non=>"NoneType"
  | .bl _=>"bool"
  | .int _=>"int"
  | .str _=>"str"
  | .tup _=>"tuple"
  | .lst _=>"list"
  | .dct _ _=>"dict"
  | .scr _=>"list"
  | .exc _=>"object"
  | .fd _ _=>"object"
  | .obj _ _ _=>"object"
theorem zgr {K:W.Frag}:PySem.W.kitOne K (.type "NoneType") (.type "str")=some false:=L2.kit_no (by decide +kernel) (by decide +kernel) (by decide +kernel)
theorem zi4 {K:W.Frag}:PySem.W.kitOne K (.type "bool") (.type "str")=some false:=L2.kit_no (by decide +kernel) (by decide +kernel) (by decide +kernel)
theorem zkb {K:W.Frag}:PySem.W.kitOne K (.type "int") (.type "str")=some false:=L2.kit_no (by decide +kernel) (by decide +kernel) (by decide +kernel)
theorem zj9 {K:W.Frag}:PySem.W.kitOne K (.type "str") (.type "str")=some true:=L2.kit_self
theorem zim {K:W.Frag}:PySem.W.kitOne K (.type "tuple") (.type "str")=some false:=L2.kit_no (by decide +kernel) (by decide +kernel) (by decide +kernel)
theorem ziO {K:W.Frag}:PySem.W.kitOne K (.type "list") (.type "str")=some false:=L2.kit_no (by decide +kernel) (by decide +kernel) (by decide +kernel)
theorem zjg {K:W.Frag}:PySem.W.kitOne K (.type "dict") (.type "str")=some false:=L2.kit_no (by decide +kernel) (by decide +kernel) (by decide +kernel)
theorem znx {K:W.Frag} (d:D) (h:okI d=true):PySem.W.kitOne K (.type (zl5 d)) (.type "str")=some (isiB "str" d):=by
  cases d with
  | non=>exact zgr
  | bl b=>exact zi4
  | int b=>exact zkb
  | str b=>exact zj9
  | tup b=>exact zim
  | lst b=>exact ziO
  | dct b b'=>exact zjg
  | scr b=>cases h
  | exc b=>cases h
  | fd b b'=>cases h
  | obj b b' b''=>cases h
theorem zo6 {c:String} (hk:∀ d,okI d=true→PySem.W.kitOne K.f (.type (zl5 d)) (.type c)=some (isiB c d)) (ha:SEr K XO E ta ma):SE K XO E (tCB (rIs K.f) (zfH ta (zfH (tC (.ty c)) tNil))) (m1 (oIsi c) ma):=by
  intro Λ F0 H0 F H σ δ Q I a
  refine ha Λ F0 H0 F H σ δ _ I (a.bind.imp fun d F1 H1 e1 a1 x rx=>?_)
  by_cases hs':okI d=true
  case neg =>
    cases d with
    | scr _=>exact a1.elim
    | exc _=>exact a1.elim
    | fd _ _=>exact a1.elim
    | obj _ _ _=>exact a1.elim
    | _=>exact absurd rfl hs'
  have a2:Aft E XO σ F1 H1 (fun d F' H'=>∀ v,Rep K F' d v→Q v H') (.ok (.bl (isiB c d))):=by
    cases d with
    | scr l=>cases hs'
    | exc l=>cases hs'
    | fd _ _=>cases hs'
    | obj _ _ _=>cases hs'
    | _=>exact a1
  have fin:=a2 F1 H1 (.refl e1.fh) (.bl (isiB c d)) (by simp only [Rep])
  suffices h:TyOf K.f H1 x (.type (zl5 d)) from ⟨x,.ty c,.type c,_,_,rfl,rfl,h,hk d hs',fin⟩
  cases d with
  | non=>simp only [Top,Rep] at rx; subst rx; exact .non
  | bl b=>simp only [Top,Rep] at rx; subst rx; exact .bl _
  | int b=>simp only [Top,Rep] at rx; subst rx; exact .int _
  | str b=>simp only [Top,Rep] at rx; subst rx; exact .str _
  | tup l =>
    simp only [Top,Rep] at rx
    obtain ⟨p,vs,rfl,h1,h2⟩:=rx
    exact .tup (e1.fh _ _ h1)
  | lst l =>
    obtain ⟨p,vs,rfl,h1,h2⟩:=rx
    rcases h1 with h | ⟨o,h⟩
    · exact .lst h
    · exact .frz h
  | dct ks l=>obtain ⟨p,kvs,rfl,h1,h2⟩:=rx; exact .dK h1
  | scr l=>cases hs'
  | exc l=>cases hs'
  | fd _ _=>cases hs'
  | obj _ _ _=>cases hs'
def toPy:Nat→D→PyData
  | _,.non=>.none
  | _,.int i=>.int i
  | n + 1,.tup l=>.tuple (l.map (toPy n))
  | n + 1,.lst l=>.list (l.map (toPy n))
  | _,_=>.none
theorem zkx:∀ (n:Nat) (d:D),zbx n d=true→(toPy n d).canLay0=true∧(toPy n d).depth ≤ n:=by
  intro n
  induction n with
  | zero =>
    intro d h
    cases d with
    | non=>exact ⟨rfl,Nat.le_refl _⟩
    | int i=>exact ⟨rfl,Nat.le_refl _⟩
    | _=>cases h
  | succ n ih =>
    have all:∀ l:List D,l.all (zbx n)=true→PyData.canLayAll0 (l.map (toPy n))=true∧PyData.depthAll (l.map (toPy n)) ≤ n:=by
      intro l
      induction l with
      | nil=>intro _; exact ⟨rfl,Nat.zero_le _⟩
      | cons a l ih2 =>
        intro h
        rw [List.all_cons,Bool.and_eq_true] at h
        obtain ⟨h1,h2⟩:=ih a h.1
        obtain ⟨h3,h4⟩:=ih2 h.2
        refine ⟨?_,?_⟩
        · simp only [List.map_cons,PyData.canLayAll0,h1,h3,Bool.and_self]
        · simp only [List.map_cons,PyData.depthAll]; omega
    intro d h
    cases d with
    | non=>exact ⟨rfl,Nat.zero_le _⟩
    | int i=>exact ⟨rfl,Nat.zero_le _⟩
    | tup l=>obtain ⟨h1,h2⟩:=all l h; exact ⟨by simpa only [toPy,PyData.canLay0] using h1,by simp only [toPy,PyData.depth]; omega⟩
    | lst l=>obtain ⟨h1,h2⟩:=all l h; exact ⟨by simpa only [toPy,PyData.canLay0] using h1,by simp only [toPy,PyData.depth]; omega⟩
    | _=>cases h
open Classical in
theorem zos:∀ (n:Nat) (d d':D),zbx n d=true→zbx n d'=true→PyData.eqv (toPy n d) (toPy n d')=decide (d=d'):=by
  intro n
  induction n with
  | zero =>
    intro d d' h h'
    cases d with
    | non=>cases d' <;> first | (simp [toPy,PyData.eqv]; done) | cases h'
    | int i =>
      cases d' with
      | int j=>simp only [toPy,PyData.eqv]; by_cases e:i=j <;> simp [e]
      | _=>first | (simp [toPy,PyData.eqv]; done) | cases h'
    | _=>cases h
  | succ n ih =>
    have all:∀ l l':List D,l.all (zbx n)=true→l'.all (zbx n)=true→PyData.eqvAll (l.map (toPy n)) (l'.map (toPy n))=decide (l=l'):=by
      intro l
      induction l with
      | nil=>intro l' _ _; cases l' <;> simp [PyData.eqvAll]
      | cons a l ih2 =>
        intro l' h h'
        cases l' with
        | nil=>simp [PyData.eqvAll]
        | cons b l' =>
          rw [List.all_cons,Bool.and_eq_true] at h h'
          simp only [List.map_cons,PyData.eqvAll,ih a b h.1 h'.1,ih2 l' h.2 h'.2]
          by_cases e1:a=b <;> by_cases e2:l=l' <;> simp [e1,e2]
    intro d d' h h'
    cases d with
    | non=>cases d' <;> first | (simp [toPy,PyData.eqv]; done) | cases h'
    | int i =>
      cases d' with
      | int j=>simp only [toPy,PyData.eqv]; by_cases e:i=j <;> simp [e]
      | _=>first | (simp [toPy,PyData.eqv]; done) | cases h'
    | tup l =>
      cases d' with
      | tup l'=>simp only [toPy,PyData.eqv,all l l' h h']; simp
      | _=>first | (simp [toPy,PyData.eqv]; done) | cases h'
    | lst l =>
      cases d' with
      | lst l'=>simp only [toPy,PyData.eqv,all l l' h h']; simp
      | _=>first | (simp [toPy,PyData.eqv]; done) | cases h'
    | _=>cases h
theorem zni {pins:List (Addr × Obj)} {σ:L2.St} {H F:Hp} {s:Shared} (I:Inv X pins σ H s) (sm:Same F H):∀ (n:Nat) (d:D) (v:V) (u:Value),zbx n d=true→Rep ⟨X.K,ca,an⟩ F d v→RelV v u→∃ as,Reads s.heap u (toPy n d) as:=by
  intro n
  induction n with
  | zero =>
    intro d v u h r ru
    cases d with
    | non=>simp only [Rep] at r; subst r; cases ru; exact ⟨_,.none⟩
    | int i=>simp only [Rep] at r; subst r; obtain ⟨t,rfl⟩:=ru; exact ⟨_,.int i t⟩
    | _=>cases h
  | succ n ih =>
    have all:∀ (l:List D) (vs:List V) (us:List Value),l.all (zbx n)=true→RepL ⟨X.K,ca,an⟩ F l vs→Vals vs us→∃ as,ReadsAll s.heap us (l.map (toPy n)) as:=by
      intro l
      induction l with
      | nil=>intro vs us _ r ru; simp only [RepL] at r; subst r; cases ru; exact ⟨_,.nil⟩
      | cons a l ih2 =>
        intro vs us h r ru
        rw [List.all_cons,Bool.and_eq_true] at h
        simp only [RepL] at r
        obtain ⟨v,r',rfl,r1,r2⟩:=r
        cases ru with
        | cons ru ru' =>
          obtain ⟨as,h1⟩:=ih a v _ h.1 r1 ru
          obtain ⟨bs,h2⟩:=ih2 r' _ h.2 r2 ru'
          exact ⟨_,.cons h1 h2⟩
    intro d v u h r ru
    cases d with
    | non=>simp only [Rep] at r; subst r; cases ru; exact ⟨_,.none⟩
    | int i=>simp only [Rep] at r; subst r; obtain ⟨t,rfl⟩:=ru; exact ⟨_,.int i t⟩
    | tup l =>
      simp only [Rep] at r
      obtain ⟨a,vs,rfl,h1,h2⟩:=r
      cases ru
      obtain ⟨its,rv,⟨o,e,c,k,dd⟩,_⟩:=I.tuple (show SqT X.K H a vs from .inl (.inl (sm _ _ h1)))
      obtain ⟨as,h3⟩:=all l vs its h h2 rv
      exact ⟨_,.tuple e c dd (by simpa using h3)⟩
    | lst l =>
      simp only [Rep] at r
      obtain ⟨a,vs,rfl,h1,h2⟩:=r
      cases ru
      obtain ⟨its,rv,⟨o,k,e,c,_,dd⟩,_⟩:=I.list (show SqL X.K H a vs from .inl (PM.Same.rd sm h1))
      obtain ⟨as,h3⟩:=all l vs its h h2 rv
      exact ⟨_,.list e c dd (by simpa using h3)⟩
    | _=>cases h
theorem ziW {pins:List (Addr × Obj)} {σ:L2.St} {H F:Hp} {s:Shared} (I:Inv X pins σ H s) (sm:Same F H) {n:Nat} {d:D} {v:V} {u:Value} (h:zbx n d=true) (r:Top ⟨X.K,ca,an⟩ F H d v) (ru:RelV v u):∃ as,Reads s.heap u (toPy n d) as:=by
  have r':Rep ⟨X.K,ca,an⟩ (zdc F H) d v:=by
    cases d with
    | lst l =>
      obtain ⟨a,vs,rfl,h1,h2⟩:=r
      rcases h1 with h1 | ⟨o,h1⟩
      · exact ziD sm (.inr ⟨a,rfl,vs,h1,h2⟩)
      · simp only [Rep]
        refine ⟨a,vs,rfl,.inr ⟨o,?_⟩,h2.mono zeF⟩
        unfold zdc
        cases q:F a with
        | some u=>rw [sm _ _ q] at h1; exact h1
        | none=>simp only [h1]
    | dct ks l=>cases n <;> cases h
    | obj c ks l=>cases n <;> cases h
    | _=>exact Rep.mono zeF _ r
  exact zni I (zkg sm) n d v u h r' ru
open Classical in
def rEqD (K:Kx) (neg:Bool):R2:=fun x y H Q=>∃ (F:Hp) (dx dy:D),Same F H∧Top K F H dx x∧Top K F H dy y∧zbx 8 dx=true∧zbx 8 dy=true∧Q (.bl (if neg=true then !decide (dx=dy) else decide (dx=dy))) H
theorem zkC (hu:X.A.units + 64 < cLine):OpR X (compareOp .NotEq) (rEqD ⟨X.K,ca,an⟩ true):=by
  intro pins s σ H x y v u Q I rx ry h
  obtain ⟨F,dx,dy,sm,tx,ty,px,py,q⟩:=h
  obtain ⟨as,ra⟩:=ziW I sm px tx rx
  obtain ⟨bs,rb⟩:=ziW I sm py ty ry
  obtain ⟨l1,l2⟩:=zkx 8 dx px
  obtain ⟨m1,m2⟩:=zkx 8 dy py
  refine SeqAt.compareNe_reads ra rb l1 m1 (by omega) ?_
  rw [zos 8 dx dy px py]
  exact ⟨.bl _,H,I,rfl,q⟩
theorem zkz:SR K (rEqD K true) oNeD:=by
  intro F H x y dx dy d Q s hx hy e q
  unfold oNeD ifC at e
  split at e
  · rename_i h
    cases e
    exact ⟨F,dx,dy,s,hx,hy,h.1,h.2,q _ F H (.refl s) (by simp only [Rep]; rfl)⟩
  · cases e
end
end PM
namespace L2
open PySem PySem.Spec PyProof.Rows
def ziu (scope osc:Scope):Scope:={ scope with names:=scope.names.map fun (n,k)=>if (k == .free && osc.kind == .function && osc.names.lookup n == some .cell) then (n,.cell) else (n,k) }
section
variable {X:Cx}
end
end L2
namespace PM
open PySem L2
section
variable {K:Kx} {XO:XOT} {E:L2.St→XK}
end
end PM
namespace PM
open PySem L2
def xoK (K:Kx):XOT:=fun x F _ C dct=>C = .ref (K.ca x.c)∧XA K F x.c dct
def zhj (c:Nat) (ml:En→R (List D)) (δ:En):O:=(ml δ).toO δ fun l=>ifC (l.length ≤ sizeLine) (.ex δ ⟨c⟩) .no
section
variable {K:Kx} {E:L2.St→XK} {ta:TE} {ma:En→R D} {t u:TS} {m n:En→O} {Λ:List (Nat × Addr × HO)} {F0 H0 F H:Hp} {σ:L2.St} {δ:En}
theorem zgI {C:Addr} {c:Nat} {tl:TA} {ml:En→R (List D)} (hC:C=K.ca c) (hax:c < 16) (h:SA K (xoK K) E tl ml):SS K (xoK K) E (znV C E tl) (zhj c ml):=by
  intro Λ F0 H0 F H σ δ Dn I a
  refine h Λ F0 H0 F H σ δ _ I ((AftS.of I a).imp fun l F1 H1 e p vs r=>?_)
  unfold ifC at p
  split at p
  · rename_i hl
    exact ⟨by rw [r.length]; exact hl,p σ F1 H1 _ _ (I.grow e) ⟨by rw [hC],by unfold XA; rw [if_pos hax]⟩⟩
  · exact p.elim
theorem EnvOk.unset {i:Nat} (I:EnvOk K Λ F0 H0 F H σ δ) (hl:∃ x,δ[i]?=some x∧∀ d,x ≠ .l d):EnvOk K Λ F0 H0 F H (σ.set i none) (δ.set i .no):=by
  obtain ⟨x,hx,hn⟩:=hl
  have hi:i < δ.length:=(List.getElem?_eq_some_iff.mp hx).1
  refine ⟨I.ext,by simp [I.len],fun j=>?_,fun j k a hjk h1 h2 h3 h4=>?_,fun y hy=>?_,I.tabsOf (fun k ll h=>by
      by_cases e:i=k
      · subst e; rw [List.getElem?_set_self hi] at h; cases h
      · rw [List.getElem?_set_ne e] at h; exact ⟨h,List.getElem?_set_ne e⟩) (fun _ _ _ _ _=>rfl) fun k j ll a b bs _ _ _ _ ho hs=>.inl (by
      by_cases e:i=j
      · subst e; rw [List.getElem?_set_self hi] at ho; cases ho
      · rw [List.getElem?_set_ne e] at ho hs; exact ⟨ho,hs⟩)⟩
  · by_cases e:i=j
    · subst e
      rw [List.getElem?_set_self hi]
      trivial
    · rw [List.getElem?_set_ne e,List.getElem?_set_ne e]
      exact I.slot j
  · have ne:∀ k:Nat,Sl.own (δ.set i .no)[k]?=true→i ≠ k:=by
      rintro k h rfl
      rw [List.getElem?_set_self hi] at h
      cases h
    have n1:=ne j h1
    have n2:=ne k h2
    rw [List.getElem?_set_ne n1] at h1 h3
    rw [List.getElem?_set_ne n2] at h2 h4
    exact I.dist j k a hjk h1 h2 h3 h4
  · obtain ⟨⟨d',h1⟩,h2,h3⟩:=I.lent y hy
    have n:i ≠ y.1:=by
      intro e
      rw [← e,hx] at h1
      exact hn d' (Option.some.inj h1)
    exact ⟨⟨d',by rw [List.getElem?_set_ne n]; exact h1⟩,by rw [List.getElem?_set_ne n]; exact h2,h3⟩
def zgg (i:Nat) (δ:En):Option En:=match δ[i]? with | none=>none | some (.l _)=>none | some _=>some (δ.set i .no)
theorem zhu {i:Nat} {δ':En} (h:zgg i δ=some δ') (I:EnvOk K Λ F0 H0 F H σ δ):EnvOk K Λ F0 H0 F H (σ.set i none) δ':=by
  unfold zgg at h
  split at h
  · cases h
  · cases h
  · rename_i x h2 h1
    cases h
    exact I.unset ⟨x,h1,fun d' z=>h2 d' (by rw [z])⟩
def zkE (i:Nat):O→O
  | .nx δ=>(match zgg i δ with | some δ'=>.nx δ' | none=>.no)
  | .bk δ=>(match zgg i δ with | some δ'=>.bk δ' | none=>.no)
  | .ct δ=>(match zgg i δ with | some δ'=>.ct δ' | none=>.no)
  | .ex _ _=>.no
  | r=>r
def mTry (mb:En→O) (sub:Nat→Bool) (i:Nat) (mh:En→O) (δ:En):O:=match mb δ with
  | .ex δ' x=>if sub x.c=true then (match zap i (.exc x.c) δ' with | some δ1=>zkE i (mh δ1) | none=>.no) else .no
  | r=>r
theorem zpf {D':Addr} {tb:(L2.St→XK)→TS} {th:TS} {mb mh:En→O} {sub:Nat→Bool} {i:Nat} (hsub:∀ c,sub c=true→PySem.W.kitCls K.f (.ref (K.ca c)) (.ref D')=some true)
    (hb:∀ E',SS K (xoK K) E' (tb E') mb) (hh:SS K (xoK K) EN th mh):SS K (xoK K) E (tTry K.f D' tb i th) (mTry mb sub i mh):=by
  intro Λ F0 H0 F H σ δ Dn I a
  refine hb _ Λ F0 H0 F H σ δ Dn I ?_
  unfold mTry at a
  cases q:mb δ with
  | no=>rw [q] at a; exact a
  | nx δ'=>rw [q] at a; exact a
  | rt d=>rw [q] at a; exact a
  | ro d=>rw [q] at a; exact a
  | bk δ'=>rw [q] at a; exact a
  | ct δ'=>rw [q] at a; exact a
  | ex δ' x =>
    rw [q] at a
    simp only at a
    split at a
    · rename_i hs
      rintro σ1 F1 H1 C dct I1 ⟨rfl,hxa⟩
      refine ⟨_,rfl,hsub _ hs,fun ea hea=>?_⟩
      have sF:Same F1 (upd F1 ea (excO (K.ca x.c) dct ea)):=Same.upd (I1.same.free hea)
      have I2:=I1.grow (Ext.new (o:=excO (K.ca x.c) dct ea) I1.same hea)
      cases qb:zap i (.exc x.c) δ' with
      | none=>rw [qb] at a; exact a.elim
      | some δ1 =>
        rw [qb] at a
        simp only at a
        refine zas (K:=K) Λ F0 H0 _ _ σ1 δ' (.exc x.c) (.ref ea) δ1 (fun σ2 H2=>th { nx:=fun σ2 H2=>Dn.nx (σ2.set i none) H2,rt:=Dn.rt,bk:=fun σ2 H2=>Dn.bk (σ2.set i none) H2,ct:=fun σ2 H2=>Dn.ct (σ2.set i none) H2 } σ2 H2) I2 ?_ qb fun σ2 I3=>?_
        · simp only [Rep]
          exact ⟨ea,dct,rfl,zaY,hxa.mono sF⟩
        · refine hh Λ F0 H0 _ _ σ2 δ1 _ I3 ?_
          cases qh:mh δ1 with
          | no=>rw [qh] at a; exact a
          | rt d=>rw [qh] at a; exact a
          | ro d=>rw [qh] at a; exact a
          | ex _ _=>rw [qh] at a; exact a.elim
          | nx δ2 =>
            rw [qh] at a
            simp only [zkE] at a
            cases z:zgg i δ2 with
            | none=>rw [z] at a; exact a.elim
            | some δ3=>rw [z] at a; exact fun σ F H J=>a _ F H (zhu z J)
          | bk δ2 =>
            rw [qh] at a
            simp only [zkE] at a
            cases z:zgg i δ2 with
            | none=>rw [z] at a; exact a.elim
            | some δ3=>rw [z] at a; exact fun σ F H J=>a _ F H (zhu z J)
          | ct δ2 =>
            rw [qh] at a
            simp only [zkE] at a
            cases z:zgg i δ2 with
            | none=>rw [z] at a; exact a.elim
            | some δ3=>rw [z] at a; exact fun σ F H J=>a _ F H (zhu z J)
    · exact a.elim
def zjn (tab:Nat→Option Bool) (d:D):Option D:=match d with | .exc c=>(tab c).map .bl | _=>none
theorem zfV {w:V} {cv:Value} {tab:Nat→Option Bool} (hw:clsV w=some cv) (hk:∀ c b,tab c=some b→ExcCls K.f (K.ca c)∧PySem.W.kitOne K.f (.ref (K.ca c)) cv=some b) (ha:SEr K XO E ta ma) :
    SE K XO E (tCB (rIsX K.f) (zfH ta (zfH (tC w) tNil))) (m1 (zjn tab) ma):=by
  intro Λ F0 H0 F H σ δ Q I a
  refine ha Λ F0 H0 F H σ δ _ I (a.bind.imp fun d F1 H1 e1 a1 x rx=>?_)
  cases d with
  | exc c =>
    simp only [Top,Rep] at rx
    obtain ⟨p,dct,rfl,h1,hxa⟩:=rx
    simp only [zjn] at a1
    cases z:tab c with
    | none=>rw [z] at a1; exact a1.elim
    | some b =>
      rw [z] at a1
      obtain ⟨k1,k2⟩:=hk c b z
      exact ⟨p,_,dct,w,cv,b,rfl,hw,e1.fh _ _ h1,fun dx ed=>by
        unfold XA at hxa
        split at hxa
        · rw [hxa] at ed; cases ed
        · obtain ⟨dx',e2,e3⟩:=hxa
          rw [e2] at ed; cases ed
          exact ⟨_,e1.fh _ _ e3⟩,k1,k2,a1 F1 H1 (.refl e1.fh) _ (by simp only [Rep])⟩
  | _=>exact a1.elim
end
end PM
namespace L2
open PySem PySem.Spec PyProof.Rows
section
variable {P:Program} {w:World} {B:Around} {Z:Result→Shared→Prop} {J S:Addr} {fp wr:List Addr} {n:Nat} {Pv:Nat→Value→Prop} {Sn:Nat→Heap→Prop}
end
section
variable {P:Program} {w:World} {B:Around} {E:Value→Shared→Prop} {s:Shared} {Q:Value→Shared→Prop} {l:Addr} {xs:Array (Int × Tok)} {df:Value}
end
end L2
namespace L2
open PySem PySem.Spec PyProof.Rows
theorem maxI_ge:∀ (l:List Int) (m:Int),m ≤ PM.maxI l m∧(∀ a ∈ l,a ≤ PM.maxI l m)∧(PM.maxI l m=m∨PM.maxI l m ∈ l)
  | [],m=>⟨Int.le_refl _,fun _ h=>(by cases h),.inl rfl⟩
  | a :: l,m=>by
    obtain ⟨h1,h2,h3⟩:=maxI_ge l (if a > m then a else m)
    unfold PM.maxI
    have e:(if a > m then a else m)=a∧a > m∨(if a > m then a else m)=m∧¬ a > m:=by split <;> simp_all
    refine ⟨by omega,fun b hb=>?_,?_⟩
    · rcases List.mem_cons.mp hb with rfl | hb
      · omega
      · exact h2 b hb
    · rcases h3 with h3 | h3
      · rcases e with ⟨e,_⟩ | ⟨e,_⟩
        · exact .inr (by rw [h3,e]; exact List.mem_cons_self)
        · exact .inl (by rw [h3,e])
      · exact .inr (List.mem_cons_of_mem _ h3)
section
variable {X:Cx}
end
end L2
namespace PM
open PySem L2
section
variable {K:Kx} {XO:XOT} {E:L2.St→XK} {td te:TE} {md me:En→R D}
end
end PM
namespace L2
open PySem PySem.Spec PyProof.Rows
section
variable {X:Cx}
end
end L2
namespace PM
open PySem L2
section
variable {K:Kx} {XO:XOT} {E:L2.St→XK} {td ty tx:TE} {md my mx:En→R D}
def oIn (x y:D):Option D:=match x,y with | .int i,.lst l=>(asIs l).map fun ns=>.bl (decide (i ∈ ns)) | .int i,.tup l=>(asIs l).map fun ns=>.bl (decide (i ∈ ns)) | _,_=>none
def zg1 (x y:D):Option D:=match x,y with | .int i,.lst l=>(asIs l).map fun ns=>.bl (!decide (i ∈ ns)) | .int i,.tup l=>(asIs l).map fun ns=>.bl (!decide (i ∈ ns)) | _,_=>none
theorem zgJ {i:Int} {ns:List Int}:inV (.int i) (ns.map V.int)=decide (i ∈ ns):=by
  rw [Bool.eq_iff_iff]
  unfold inV
  simp only [List.any_map,List.any_eq_true,Function.comp,decide_eq_true_eq]
  constructor
  · rintro ⟨a,h1,h2⟩
    have:a=i:=by simpa [eqV] using h2
    subst this; exact h1
  · intro h
    exact ⟨i,h,by simp [eqV]⟩
theorem zfN {ns:List Int}:(ns.map V.int).all zin=true:=by
  rw [List.all_map,List.all_eq_true]
  intro x _; rfl
theorem zpR:SR K (rIn K.f false) oIn:=by
  intro F H x y dx dy d Q s hx hy e q
  cases dx with
  | int i =>
    simp only [Top,Rep] at hx
    subst hx
    cases dy with
    | lst l =>
      obtain ⟨a,vs,rfl,h1,h2⟩:=hy
      simp only [oIn] at e
      cases z:asIs l with
      | none=>rw [z] at e; cases e
      | some ns =>
        rw [z] at e; cases e
        have el:=zcI z; subst el
        have ev:=zcl h2; subst ev
        exact ⟨a,_,rfl,.inl (.inl h1),rfl,zfN,q _ F H (.refl s) (by simp only [Rep]; rw [zgJ]; rfl)⟩
    | tup l =>
      simp only [Top,Rep] at hy
      obtain ⟨a,vs,rfl,h1,h2⟩:=hy
      simp only [oIn] at e
      cases z:asIs l with
      | none=>rw [z] at e; cases e
      | some ns =>
        rw [z] at e; cases e
        have el:=zcI z; subst el
        have ev:=zcl h2; subst ev
        exact ⟨a,_,rfl,.inr (.inl (.inl (s _ _ h1))),rfl,zfN,q _ F H (.refl s) (by simp only [Rep]; rw [zgJ]; rfl)⟩
    | _=>cases e
  | _=>cases e
theorem znI:SR K (rIn K.f true) zg1:=by
  intro F H x y dx dy d Q s hx hy e q
  cases dx with
  | int i =>
    simp only [Top,Rep] at hx
    subst hx
    cases dy with
    | lst l =>
      obtain ⟨a,vs,rfl,h1,h2⟩:=hy
      simp only [zg1] at e
      cases z:asIs l with
      | none=>rw [z] at e; cases e
      | some ns =>
        rw [z] at e; cases e
        have el:=zcI z; subst el
        have ev:=zcl h2; subst ev
        exact ⟨a,_,rfl,.inl (.inl h1),rfl,zfN,q _ F H (.refl s) (by simp only [Rep]; rw [zgJ]; rfl)⟩
    | tup l =>
      simp only [Top,Rep] at hy
      obtain ⟨a,vs,rfl,h1,h2⟩:=hy
      simp only [zg1] at e
      cases z:asIs l with
      | none=>rw [z] at e; cases e
      | some ns =>
        rw [z] at e; cases e
        have el:=zcI z; subst el
        have ev:=zcl h2; subst ev
        exact ⟨a,_,rfl,.inr (.inl (.inl (s _ _ h1))),rfl,zfN,q _ F H (.refl s) (by simp only [Rep]; rw [zgJ]; rfl)⟩
    | _=>cases e
  | _=>cases e
end
end PM
namespace L2
open PySem PySem.Spec PyProof.Rows
section
variable {X:Cx}
end
end L2
namespace PM
open PySem L2
section
variable {K:Kx} {XO:XOT} {E:L2.St→XK}
end
end PM
namespace L2
open PySem PySem.Spec PyProof.Rows
section
variable {X:Cx}
end
end L2
namespace PM
open PySem L2
section
variable {K:Kx} {XO:XOT} {E:L2.St→XK}
end
end PM
namespace PM
def minI:List Int→Int→Int
  | [],m=>m
  | a :: l,m=>minI l (if a < m then a else m)
end PM
namespace L2
open PySem PySem.Spec PyProof.Rows
theorem minI_le:∀ (l:List Int) (m:Int),PM.minI l m ≤ m∧(∀ a ∈ l,PM.minI l m ≤ a)∧(PM.minI l m=m∨PM.minI l m ∈ l)
  | [],m=>⟨Int.le_refl _,fun _ h=>(by cases h),.inl rfl⟩
  | a :: l,m=>by
    obtain ⟨h1,h2,h3⟩:=minI_le l (if a < m then a else m)
    unfold PM.minI
    have e:(if a < m then a else m)=a∧a < m∨(if a < m then a else m)=m∧¬ a < m:=by split <;> simp_all
    refine ⟨by omega,fun b hb=>?_,?_⟩
    · rcases List.mem_cons.mp hb with rfl | hb
      · omega
      · exact h2 b hb
    · rcases h3 with h3 | h3
      · rcases e with ⟨e,_⟩ | ⟨e,_⟩
        · exact .inr (by rw [h3,e]; exact List.mem_cons_self)
        · exact .inl (by rw [h3,e])
      · exact .inr (List.mem_cons_of_mem _ h3)
section
variable {X:Cx}
def zog (f:List Int→Int→Int):List V→Hp→VK→Prop:=fun xs H Q=>∃ (p:Addr) (n:Int) (l:List Int),xs = [.ref p]∧Rd H p (.lst ((n :: l).map V.int))∧Q (.int (f l n)) H
theorem zkJ {ns:List Int} {its:List Value} (rv:Vals (ns.map V.int) its):∃ ts:List Tok,its.toArray=intItems (ns.zip ts).toArray∧(ns.zip ts).toArray.size=ns.length∧∀ j,numAt (ns.zip ts).toArray j=ns.getD j 0:=by
  obtain ⟨ts,rfl,htl⟩:∃ ts:List Tok,its=(ns.zip ts).map (fun p=>Value.int p.1 p.2)∧ts.length=ns.length:=by
    induction ns generalizing its with
    | nil=>cases rv; exact ⟨[],rfl,rfl⟩
    | cons a l ih =>
      cases rv with
      | cons h t =>
        obtain ⟨tk,rfl⟩:=h
        obtain ⟨ts,rfl,hl⟩:=ih t
        exact ⟨tk :: ts,rfl,by simp [hl]⟩
  refine ⟨ts,by simp [intItems],by simp; omega,fun j=>?_⟩
  rw [numAt_eq]
  have:(ns.zip ts).map (·.1)=ns:=List.map_fst_zip (by omega)
  show ((ns.zip ts).map (·.1)).getD j 0=_
  rw [this]
theorem znB {m:Int} {l:List Int} {f:Nat→Int} (hf:∀ j,f j=(m :: l).getD j 0):f (argBest (fun i j=>decide (f i > f j)) ((m :: l).length - 1))=PM.maxI l m:=by
  obtain ⟨g1,g2⟩:=argBest_gt f ((m :: l).length - 1)
  obtain ⟨k1,k2,k3⟩:=maxI_ge l m
  generalize argBest (fun i j=>decide (f i > f j)) ((m :: l).length - 1)=j at *
  have hj:j < (m :: l).length:=by have:(m :: l).length=l.length + 1:=rfl; omega
  have hm:(m :: l).getD j 0 ∈ m :: l:=by rw [List.getD_eq_getElem?_getD,List.getElem?_eq_getElem hj]; exact List.getElem_mem hj
  rw [← hf j] at hm
  refine Int.le_antisymm ?_ ?_
  · rcases List.mem_cons.mp hm with z | z
    · rw [z]; exact k1
    · exact k2 _ z
  · have hx:PM.maxI l m ∈ m :: l:=k3.elim (fun z=>by rw [z]; exact List.mem_cons_self) fun z=>List.mem_cons_of_mem _ z
    obtain ⟨i,hi,ei⟩:=List.getElem_of_mem hx
    have:=g2 i (by have:(m :: l).length=l.length + 1:=rfl; omega)
    rw [hf i,List.getD_eq_getElem?_getD,List.getElem?_eq_getElem hi,ei] at this
    exact this
theorem znd {m:Int} {l:List Int} {f:Nat→Int} (hf:∀ j,f j=(m :: l).getD j 0):f (argBest (fun i j=>decide (f i < f j)) ((m :: l).length - 1))=PM.minI l m:=by
  obtain ⟨g1,g2⟩:=argBest_lt f ((m :: l).length - 1)
  obtain ⟨k1,k2,k3⟩:=minI_le l m
  generalize argBest (fun i j=>decide (f i < f j)) ((m :: l).length - 1)=j at *
  have hj:j < (m :: l).length:=by have:(m :: l).length=l.length + 1:=rfl; omega
  have hm:(m :: l).getD j 0 ∈ m :: l:=by rw [List.getD_eq_getElem?_getD,List.getElem?_eq_getElem hj]; exact List.getElem_mem hj
  rw [← hf j] at hm
  refine Int.le_antisymm ?_ ?_
  · have hx:PM.minI l m ∈ m :: l:=k3.elim (fun z=>by rw [z]; exact List.mem_cons_self) fun z=>List.mem_cons_of_mem _ z
    obtain ⟨i,hi,ei⟩:=List.getElem_of_mem hx
    have:=g2 i (by have:(m :: l).length=l.length + 1:=rfl; omega)
    rw [hf i,List.getD_eq_getElem?_getD,List.getElem?_eq_getElem hi,ei] at this
    exact this
  · rcases List.mem_cons.mp hm with z | z
    · rw [z]; exact k1
    · exact k2 _ z
theorem zfq (hc:X.calm=true):ze0 X (.builtin "max") (zog PM.maxI):=by
  intro pins s σ H xs us Q I r h
  obtain ⟨p,m,l,rfl,hq,q⟩:=h
  obtain ⟨u,rfl,rx⟩:=zhh r
  cases rx
  obtain ⟨z,its,n,rv,e⟩:=hq.ok I.hok
  obtain ⟨ts,e1,e2,e3⟩:=zkJ rv
  rw [e1] at e
  refine max_intList (I.ok.hd hc) ⟨_,e,rfl,n,rfl⟩ (by rw [e2]; simp) fun v h' tk hv hk=>?_
  obtain ⟨t,rfl⟩:=intItems_at hv
  refine ⟨.int (PM.maxI l m),H,I.kept (t':=tk) hk,⟨t,?_⟩,q⟩
  congr 1
  rw [e2]
  exact znB e3
theorem zg8 (hc:X.calm=true):ze0 X (.builtin "min") (zog PM.minI):=by
  intro pins s σ H xs us Q I r h
  obtain ⟨p,m,l,rfl,hq,q⟩:=h
  obtain ⟨u,rfl,rx⟩:=zhh r
  cases rx
  obtain ⟨z,its,n,rv,e⟩:=hq.ok I.hok
  obtain ⟨ts,e1,e2,e3⟩:=zkJ rv
  rw [e1] at e
  refine min_intList (I.ok.hd hc) ⟨_,e,rfl,n,rfl⟩ (by rw [e2]; simp) fun v h' tk hv hk=>?_
  obtain ⟨t,rfl⟩:=intItems_at hv
  refine ⟨.int (PM.minI l m),H,I.kept (t':=tk) hk,⟨t,?_⟩,q⟩
  congr 1
  rw [e2]
  exact znd e3
end
end L2
namespace PM
open PySem L2
section
variable {K:Kx}
def zjd:List D→Option D
  | [.int i,.int j]=>some (.int (if j > i then j else i))
  | _=>none
def zih:List D→Option D
  | [.int i,.int j]=>some (.int (if j < i then j else i))
  | _=>none
def zep (f:List Int→Int→Int):List D→Option D
  | [.lst (.int a :: l)]=>(asIs l).map fun ns=>.int (f ns a)
  | _=>none
theorem zmm:SC K (fun xs H Q=>∃ i j,xs = [.int i,.int j]∧Q (.int (if j > i then j else i)) H) zjd:=by
  intro F H vs ds d Q s r e q
  unfold zjd at e
  split at e
  · rename_i i j
    cases e
    cases r with
    | cons r r' =>
      cases r' with
      | cons r2 r3 =>
        cases r3
        simp only [Top,Rep] at r r2
        subst r r2
        exact ⟨i,j,rfl,q _ F H (.refl s) (by simp only [Rep])⟩
  · cases e
theorem zkc:SC K (fun xs H Q=>∃ i j,xs = [.int i,.int j]∧Q (.int (if j < i then j else i)) H) zih:=by
  intro F H vs ds d Q s r e q
  unfold zih at e
  split at e
  · rename_i i j
    cases e
    cases r with
    | cons r r' =>
      cases r' with
      | cons r2 r3 =>
        cases r3
        simp only [Top,Rep] at r r2
        subst r r2
        exact ⟨i,j,rfl,q _ F H (.refl s) (by simp only [Rep])⟩
  · cases e
theorem zlt {f:List Int→Int→Int} {ds:List D} {d:D} (h:zep f ds=some d):∃ (n:Int) (l:List Int),ds = [.lst ((n :: l).map .int)]∧d = .int (f l n):=by
  unfold zep at h
  split at h
  · rename_i a l
    cases z:asIs l with
    | none=>rw [z] at h; cases h
    | some ns=>rw [z] at h; cases h; exact ⟨a,ns,by rw [zcI z]; rfl,rfl⟩
  · cases h
theorem zfi {f:List Int→Int→Int}:SC K (zog f) (zep f):=by
  intro F H vs ds d Q s r e q
  obtain ⟨n,l,rfl,rfl⟩:=zlt e
  cases r with
  | cons r r' =>
    cases r'
    obtain ⟨a,xs,rfl,h1,h2⟩:=r
    have ex:=zcl (ns:=n :: l) h2
    subst ex
    exact ⟨a,n,l,rfl,h1,q _ F H (.refl s) (by simp only [Rep])⟩
end
end PM
namespace L2
open PySem PySem.Spec PyProof.Rows
section
variable {X:Cx}
def zlE:List V→Hp→VK→Prop:=fun xs H Q=>∃ (p:Addr) (ns:List Int),xs = [.ref p]∧Rd H p (.lst (ns.map V.int))∧ns.length < 64∧∀ a,H a=none→Q (.ref a) (upd H a (.lst ((ns.mergeSort (fun a b=>decide (a ≤ b))).map V.int)))
theorem zks {ns:List Int} {its:List Value} (rv:Vals (ns.map V.int) its):IntsAre its ns:=by
  induction ns generalizing its with
  | nil=>cases rv; exact .nil
  | cons a l ih =>
    cases rv with
    | cons h t =>
      obtain ⟨tk,rfl⟩:=h
      exact .cons _ _ (ih t)
theorem znk {ns:List Int} {its:List Value} (rv:IntsAre its ns):Vals (ns.map V.int) its:=by
  induction rv with
  | nil=>exact .nil
  | cons _ _ _ ih=>exact .cons ⟨_,rfl⟩ ih
theorem zow {ns ms:List Int} (hp:ms.Perm ns) (hs:ms.Pairwise (· ≤ ·)):ms=ns.mergeSort fun a b=>decide (a ≤ b):=by
  have h1:(ns.mergeSort fun a b=>decide (a ≤ b)).Pairwise (· ≤ ·):=by
    have:=List.pairwise_mergeSort (le:=fun a b:Int=>decide (a ≤ b)) (fun a b c h1 h2=>by simp at *; omega) (fun a b=>by simp; omega) ns
    exact this.imp fun h=>by simpa using h
  have h2:ms.Perm (ns.mergeSort fun a b=>decide (a ≤ b)):=hp.trans (List.mergeSort_perm ..).symm
  exact List.Perm.eq_of_pairwise (fun a b _ _ h3 h4=>Int.le_antisymm h3 h4) hs h1 h2
theorem zjX:ze0 X (.builtin "sorted") zlE:=by
  intro pins s σ H xs us Q I r h
  obtain ⟨p,ns,rfl,hq,hl,q⟩:=h
  obtain ⟨u,rfl,rx⟩:=zhh r
  cases rx
  obtain ⟨z,its,n,rv,e⟩:=hq.ok I.hok
  have len:=rv.length
  rw [List.length_map] at len
  refine sorted_ints ⟨_,e,rfl,n,rfl⟩ (zks rv) (by omega) fun out ms a1 a2 a3=>?_
  obtain ⟨c,hc⟩:=sortedAll_at s.heap its out
  rw [zow a2 a3] at a1
  refine ⟨.ref (s.heap.objs.size + 1),_,?_,rfl,q _ (I.hok.fresh (Nat.le_succ _))⟩
  refine I.laid (fun b o hb=>sortedAll_old hb) (Nat.le_succ _) ⟨?_,out.toList,c,znk a1,by simpa using hc⟩
  rw [List.length_map,List.length_mergeSort]
  exact Nat.le_trans (Nat.le_of_lt hl) (by decide)
end
end L2
namespace PM
open PySem L2
section
variable {K:Kx}
def zfl:List D→Option D
  | [.lst l]=>(asIs l).bind fun ns=>ifC (ns.length < 64) (some (.lst ((ns.mergeSort fun a b=>decide (a ≤ b)).map .int))) none
  | _=>none
theorem zjo {ds:List D} {d:D} (h:zfl ds=some d):∃ ns:List Int,ds = [.lst (ns.map .int)]∧ns.length < 64∧d = .lst ((ns.mergeSort fun a b=>decide (a ≤ b)).map .int):=by
  unfold zfl at h
  split at h
  · rename_i l
    cases z:asIs l with
    | none=>rw [z] at h; cases h
    | some ns =>
      rw [z] at h
      simp only [Option.bind] at h
      unfold ifC at h
      split at h
      · rename_i hl
        cases h
        exact ⟨ns,by rw [zcI z],hl,rfl⟩
      · cases h
  · cases h
theorem zlI {F:Hp}:∀ ns:List Int,RepL K F (ns.map .int) (ns.map V.int)
  | []=>.nil
  | n :: ns=>.cons (by simp only [Rep]) (zlI ns)
theorem zl8:SCo K zlE zfl:=by
  intro F H vs ds d Q s r e q
  obtain ⟨ns,rfl,hl,rfl⟩:=zjo e
  cases r with
  | cons r r' =>
    cases r'
    obtain ⟨a,xs,rfl,h1,h2⟩:=r
    have ex:=zcl h2
    subst ex
    exact ⟨a,ns,rfl,h1,hl,fun p hp=>q p F _ (.newO s hp) (s.free hp) hp ⟨_,zaY,zlI _⟩⟩
end
end PM
namespace PM
open PySem L2
section
variable {K:Kx} {XO:XOT} {E:L2.St→XK} {te:TE} {me:En→R D}
end
end PM
namespace L2
open PySem PySem.Spec PyProof.Rows
section
variable {X:Cx}
end
end L2
namespace PM
open PySem L2
section
variable {K:Kx} {XO:XOT} {E:L2.St→XK} {tl te:TE} {ml me:En→R D}
end
end PM
namespace L2
open PySem PySem.Spec PyProof.Rows
open Sem (wp)
section
variable {P:Program} {w:World} {B:Around} {Er:Value→Shared→Prop} {hp:Heap} {gs:Array GenState} {dr:Drawn} {tk:Nat} {os:OsState}
variable {nm q:Str} {C N:Addr} {bs bm bmB:List Value} {hdct:Bool} {sn:List Str} {sub:List Value} {ab:Bool} {col:Option Bool} {dd:Option Addr} {k0 k1 k2 k3 k5:Option Value} {B0 Bn newId nid initId inN:String} {bmN:List Value}
end
end L2
namespace L2
open PySem PySem.Spec PyProof.Rows
section
variable {P:Program} {w:World} {B:Around} {Er:Value→Shared→Prop} {s:Shared}
end
end L2
namespace L2
open PySem PySem.Spec PyProof.Rows
section
variable {X:Cx}
end
end L2
namespace PM
open PySem L2
section
variable {K:Kx} {XO:XOT} {E:L2.St→XK}
end
end PM
namespace L2
open PySem PySem.Spec PyProof.Rows
def uniq (ns:List Int):List Int:=ns.foldl step_dedup []
section
variable {X:Cx}
def zpb:List V→Hp→VK→Prop:=fun xs H Q=>∃ (p:Addr) (ns:List Int),xs = [.ref p]∧Rd H p (.lst (ns.map V.int))∧ns.length < 4000∧∀ a,H a=none→Q (.ref a) (upd H a (.set (fun k=>(uniq ns).any (· == k)) (uniq ns).length))
theorem zpE (ns:List Int):firstMet (fun i=>ns.getD i 0) ns.length=uniq ns:=by
  unfold firstMet uniq
  congr 1
  refine List.ext_getElem (by simp) fun i h1 h2=>?_
  simp [List.getElem?_eq_getElem h2]
theorem zm7 (hc:X.calm=true):ze0 X (.type "set") zpb:=by
  intro pins s σ H xs us Q I r h
  obtain ⟨p,ns,rfl,hq,hl,q⟩:=h
  obtain ⟨u,rfl,rx⟩:=zhh r
  cases rx
  obtain ⟨z,its,n,rv,e⟩:=hq.ok I.hok
  have len:=rv.length
  rw [List.length_map] at len
  have esz:its.toArray.size=ns.length:=by simp [← len]
  refine PySem.call_set_list (items:=its.toArray) (ns:=ns) (I.ok.hd hc) ⟨_,e,rfl,n,rfl⟩ (by simpa using zks rv) (by rw [esz]; unfold scanBound; omega) fun h' tk hS hk=>?_
  rw [esz,zpE] at hS
  refine ⟨.ref s.heap.objs.size,_,?_,rfl,q _ (I.hok.fresh (Nat.le_refl _))⟩
  exact I.laid (fun b o hb=>hk b o (Heap.lt_size hb) hb) (Nat.le_refl _) hS
def zpv:List V→Hp→VK→Prop:=fun xs H Q=>∃ (p:Addr) (S:Int→Bool) (n:Nat),xs = [.ref p]∧H p=some (.set S n)∧Q (.int n) H
theorem zlX:ze0 X (.builtin "len") zpv:=by
  intro pins s σ H xs us Q I r h
  obtain ⟨p,S,n,rfl,hp,q⟩:=h
  obtain ⟨u,rfl,rx⟩:=zhh r
  cases rx
  obtain ⟨o,es,ep,t,ho,hex,hd,_,_,hb,hf,hn⟩:=I.hok p _ hp
  exact call_len_set ho hex hd hf (by unfold scanBound at hb; omega) ⟨.int n,H,I.tok _,⟨_,by rw [hn]⟩,q⟩
end
end L2
namespace PM
open PySem L2
section
variable {K:Kx} {XO:XOT} {E:L2.St→XK}
def zev:List D→Option D
  | [.lst l]=>(asIs l).bind fun ns=>ifC (ns.length < 4000) (some (.int (uniq ns).length)) none
  | _=>none
theorem zje {ds:List D} {d:D} (h:zev ds=some d):∃ ns:List Int,ds = [.lst (ns.map .int)]∧ns.length < 4000∧d = .int (uniq ns).length:=by
  unfold zev at h
  split at h
  · rename_i l
    cases z:asIs l with
    | none=>rw [z] at h; cases h
    | some ns =>
      rw [z] at h
      simp only [Option.bind] at h
      unfold ifC at h
      split at h
      · rename_i hl
        cases h
        exact ⟨ns,by rw [zcI z],hl,rfl⟩
      · cases h
  · cases h
theorem zma {tl:TA} {ml:En→R (List D)} (h:SAr K XO E tl ml):SE K XO E (tCB zpv (zfH (tCB zpb tl) tNil)) (mCB zev ml):=by
  intro Λ F0 H0 F H σ δ Q I a
  refine h Λ F0 H0 F H σ δ _ I (a.bind.imp fun ds F1 H1 e1 a1 vs r=>?_)
  cases q:zev ds with
  | none=>rw [q] at a1; exact a1.elim
  | some d =>
    rw [q] at a1
    obtain ⟨ns,rfl,hl,rfl⟩:=zje q
    cases r with
    | cons r r' =>
      cases r'
      obtain ⟨p,xs,rfl,h1,h2⟩:=r
      have ex:=zcl h2
      subst ex
      refine ⟨p,ns,rfl,h1,hl,fun b hb=>⟨b,_,_,rfl,zaY,a1 F1 _ (.newO e1.fh hb) _ (by simp only [Rep])⟩⟩
end
end PM
namespace L2
open PySem PySem.Spec PyProof.Rows
section
variable {X:Cx}
def zmd:V→List V→Hp→VK→Prop:=fun x vs H Q=>∃ (l:Addr) (xs:List V) (k:Int) (y:V),x = .ref l∧vs = [.int k,y]∧H l=some (.lst xs)∧(0 ≤ k∧k.toNat ≤ xs.length)∧xs.length < sizeLine∧Q .non (upd H l (.lst (xs.take k.toNat ++ y :: xs.drop k.toNat)))
theorem zlS:MtM X "list.insert" zmd:=by
  intro pins s σ H x vs v us Q I rx rv h
  obtain ⟨l,xs,k,y,rfl,rfl,hH,hk,hz,q⟩:=h
  cases rx
  cases rv with
  | cons r1 rv =>
    cases rv with
    | cons r2 rv =>
      cases rv
      obtain ⟨t,rfl⟩:=r1
      rename_i u
      obtain ⟨z,its,n,r,hl,e⟩:=I.lstM hH
      have sl:=zjq
      obtain ⟨k0,hk⟩:=hk
      have k1:k < 2 ^ 63:=by omega
      have k2 : -(2 ^ 63) ≤ k:=by omega
      have f3:¬ (!Builtin.List.listFitsIndex k)=true:=by rw [fitsIndex_both k2 k1]; exact Bool.false_ne_true
      have hsz:its.toArray.size ≤ sizeLine:=by rw [List.size_toArray]; omega
      have M:=AutoSeq1.list_insert_list_int_val_1 l its.toArray n k t u f3 hsz
      refine call_meets F.slot_list_insert ⟨_,e,rfl⟩ F.entry_list_insert (F.args_list_insert_3 _ _ _) M ⟨e,?_⟩
      refine ⟨.non,_,I.lset (its':=its.take k.toNat ++ u :: its.drop k.toNat) hH e ?_ ((r.take k.toNat).append (.cons r2 (r.drop k.toNat))) ?_,rfl,q⟩
      · have e1:(if k < 0 then (k + ((its.toArray.size:Nat):Int)).toNat else min k.toNat its.toArray.size)=k.toNat:=by
          rw [if_neg (by omega),List.size_toArray,← hl,Nat.min_eq_left hk]
        show (its.toArray.extract 0 _).push u ++ its.toArray.extract _=_
        rw [e1]
        have e2:its.toArray.extract k.toNat=(its.drop k.toNat).toArray:=by
          apply Array.ext'
          simp
          exact List.take_of_length_le (by rw [List.length_drop]; exact Nat.le_refl _)
        have e3:its.toArray.extract 0 k.toNat=(its.take k.toNat).toArray:=by
          apply Array.ext'
          simp
        rw [e2,e3]
        simp
      · rw [List.length_append,List.length_cons,List.length_take,List.length_drop]; omega
end
end L2
namespace PM
open PySem L2
section
variable {K:Kx} {XO:XOT} {E:L2.St→XK} {tk te:TE} {mk me:En→R D}
def zhq (i:Nat) (mk me:En→R D) (δ:En):O:=match δ[i]? with
  | some (.o (.lst l))=>(mk δ).toO δ fun k=>(me δ).toO δ fun d=>match k with
    | .int k=>ifC ((0 ≤ k∧k.toNat ≤ l.length)∧l.length < sizeLine) (.nx (δ.set i (.o (.lst (l.take k.toNat ++ d :: l.drop k.toNat))))) .no
    | _=>.no
  | _=>.no
theorem zmz {i:Nat} (hk:SE K XO E tk mk) (h:SE K XO E te me):SS K XO E (znf (tBM K.f "list" zmd (tVar i) (zfH tk (zfH te tNil)))) (zhq i mk me):=by
  intro Λ F0 H0 F H σ δ Dn I a
  unfold zhq at a
  split at a
  · rename_i l q
    obtain ⟨p,s1,vs,s2,s3⟩:=I.own q
    refine ⟨_,s1,.inl ⟨rfl,vs,.inl (.inl s2)⟩,?_⟩
    refine hk Λ F0 H0 F H σ δ _ I ((AftS.of I a).imp fun k F1 H1 e c v r=>?_)
    refine h Λ F0 H0 F1 H1 σ δ _ (I.grow e) ((AftS.of (I.grow e) c).imp fun d F2 H2 e2 c2 u r2=>?_)
    split at c2
    · rename_i k
      simp only [Rep] at r
      subst r
      unfold ifC at c2
      split at c2
      · rename_i hc
        have s3':=(s3.mono e.ff).mono e2.ff
        refine ⟨p,vs,k,u,rfl,rfl,e2.hh _ _ (e.hh _ _ s2),⟨hc.1.1,by rw [s3.length]; exact hc.1.2⟩,by rw [s3.length]; exact hc.2,?_⟩
        exact c2 σ F2 _ (((I.grow e).grow e2).chg q s1 ⟨_,zaY,(s3'.take _).append (.cons r2 (s3'.drop _))⟩)
      · exact c2.elim
    · exact c2.elim
  · exact a.elim
end
end PM
namespace PM
open PySem L2
section
variable {K:Kx} {XO:XOT} {E:St→XK} {ta tb te:TE} {ma mb me:En→R D} {t u:TS} {m n:En→O} {Λ:List (Nat × Addr × HO)} {F0 H0 F H F' H' F1 H1:Hp} {σ:St} {δ:En} {Dn:Ends}
def tabD (ll:List (List Int)):D:=.lst (ll.map iL)
def zof:Sl→Sl
  | .o d=>.v d
  | .l d=>.v d
  | .p ll=>.v (tabD ll)
  | s=>s
def peek (δ:En):En:=δ.map zof
theorem zoP {a:Addr} {bs:List Addr} {ll:List (List Int)} (t:Tab F a bs ll):Rep K F (tabD ll) (.ref a):=by
  unfold tabD
  simp only [Rep]
  refine ⟨a,bs.map .ref,rfl,.inl t.top,?_⟩
  have key:∀ (bs:List Addr) (ll:List (List Int)),bs.length=ll.length→(∀ (i:Nat) (b:Addr) (l:List Int),bs[i]?=some b→ll[i]?=some l→F b=some (.lst (l.map .int)))→RepL K F (ll.map iL) (bs.map .ref):=by
    intro bs
    induction bs with
    | nil=>intro ll h _; cases ll with | nil=>exact .nil | cons _ _=>simp at h
    | cons b bs ih =>
      intro ll h hr
      cases ll with
      | nil=>simp at h
      | cons l ll =>
        refine .cons ?_ (ih ll (by simpa using h) fun i b' l' h1 h2=>hr (i + 1) b' l' (by simpa using h1) (by simpa using h2))
        unfold iL
        simp only [Rep]
        exact ⟨b,l.map .int,rfl,.inl (hr 0 b l rfl rfl),RepL.ints⟩
  exact key bs ll t.len t.row
theorem zmM {a:Addr} {vs:List V} (s:Same F H) (h:H a=some (.lst vs)):zdc F H a=some (.lst vs):=by
  unfold zdc
  cases q:F a with
  | some u=>rw [s _ _ q] at h; exact h
  | none=>simp only [h]
theorem Tab.plus {a:Addr} {bs:List Addr} {ll:List (List Int)} (s:Same F H) (t:Tab H a bs ll):Tab (zdc F H) a bs ll :=
  ⟨zmM s t.top,t.len,fun i b l h1 h2=>zmM s (t.row i b l h1 h2),t.nd⟩
theorem zot (I:EnvOk K Λ F0 H0 F H σ δ):EnvOk K [] (zdc F H) H (zdc F H) H σ (peek δ):=by
  have pk:∀ i:Nat,(peek δ)[i]?=(δ[i]?).map zof:=fun i=>by unfold peek; rw [List.getElem?_map]
  have no:∀ i:Nat,Sl.own (peek δ)[i]?=false:=fun i=>by
    rw [pk]
    cases q:δ[i]? with
    | none=>rfl
    | some s=>cases s <;> rfl
  refine ⟨.refl (zkg I.same),by rw [I.len]; simp [peek],fun i=>?_,fun i j a _ h1=>(by rw [no i] at h1; cases h1),fun x hx=>(by cases hx),fun i ll a vs h=>?_⟩
  · have z:=I.slot i
    rw [pk]
    cases q:δ[i]? with
    | none=>trivial
    | some s =>
      rw [q] at z
      cases s with
      | no=>trivial
      | v d=>obtain ⟨u,z1,z2⟩:=z; exact ⟨u,z1,Rep.mono zeF d z2⟩
      | o d=>obtain ⟨a,z1,_,_,z4⟩:=z; exact ⟨_,z1,ziD I.same (.inr ⟨a,rfl,z4⟩)⟩
      | l d=>obtain ⟨a,z1,_,_,z4⟩:=z; exact ⟨_,z1,ziD I.same (.inr ⟨a,rfl,z4⟩)⟩
      | p ll=>obtain ⟨a,bs,z1,z2,_⟩:=z; exact ⟨_,z1,zoP (z2.plus I.same)⟩
  · have:=no i
    rw [h] at this; cases this
def zk0 (m:En→R D) (δ:En):R D:=match m (peek δ) with | .ok d=>if zfz d=true then .ok d else .no | _=>.no
theorem zoO (h:SE K XO E te me):SE K XO E te (zk0 me):=by
  intro Λ F0 H0 F H σ δ Q I a
  refine h [] (zdc F H) H (zdc F H) H σ (peek δ) Q (zot I) ?_
  unfold zk0 at a
  cases q:me (peek δ) with
  | no=>rw [q] at a; exact a
  | ex x=>rw [q] at a; exact a.elim
  | ok d =>
    rw [q] at a
    dsimp only at a
    split at a
    · rename_i hc
      intro F2 H2 e2 v rv
      exact a _ H2 (zl7 e2) v (zj0 e2 d hc rv)
    · exact a.elim
variable (K XO E) in
def SEp (t:TE) (m:En→R (List (List Int))):Prop:=∀ Λ F0 H0 F H σ δ Q,EnvOk K Λ F0 H0 F H σ δ→Aft E XO σ F H (fun ll F' H'=>∀ a bs,Tab H' a bs ll→(∀ b ∈ a :: bs,F' b=none∧H b=none)→Q (.ref a) H') (m δ)→t σ H Q
def asIl:D→Option (List Int)
  | .lst l=>asIs l
  | _=>none
theorem zmT {d:D} {l:List Int} (h:asIl d=some l):d=iL l:=by
  cases d with
  | lst x=>rw [zcI h]; rfl
  | _=>cases h
def zjL (b:D→En→Option En) (me:En→R D) (δ:En) (d:D):R (List Int):=match b d δ with
  | none=>.no
  | some δ1=>(me δ1).nev.bind fun x=>R.of (asIl x)
def zc5 (f:D→R (List Int)):List D→R (List (List Int))
  | []=>.ok []
  | d :: l=>(f d).bind fun o=>(zc5 f l).bind fun r=>.ok (o :: r)
def zmq (mi:En→R (List D)) (ix:List Nat) (n:Nat) (b:D→En→Option En) (me:En→R D) (δ:En):R (List (List Int)) :=
  (mi δ).bind fun ds=>ifC (ds.length ≤ sizeLine) (zc5 (zjL b me (za2 δ ix n)) ds).nev .no
theorem zjf {f:D→R (List Int)} {d:D} {l:List D} {r:List (List Int)} (h:zc5 f (d :: l) = .ok r):∃ o r',f d = .ok o∧zc5 f l = .ok r'∧r=o :: r':=by
  unfold zc5 at h
  cases q:f d with
  | no=>rw [q] at h; cases h
  | ex x=>rw [q] at h; cases h
  | ok o =>
    rw [q] at h
    cases q2:zc5 f l with
    | no=>rw [R.bind_ok,q2] at h; cases h
    | ex x=>rw [R.bind_ok,q2] at h; cases h
    | ok r'=>rw [R.bind_ok,q2] at h; cases h; exact ⟨o,r',rfl,rfl,rfl⟩
theorem zm9 {wi:TI} {mi:En→R (List D)} {ix:List Nat} {n:Nat} {g:TG} {b:D→En→Option En}
    (hi:SIc K XO E wi mi) (hix:ix.Nodup) (hg:SG K g b) (hw:BW b) (he:SEo K XO EN te me):SEp K XO E (znp wi ix n g none te) (zmq mi ix n b me):=by
  intro Λ F0 H0 F H σ δ Q I a
  refine hi Λ F0 H0 F H σ δ _ I (a.bind.imp fun ds F1 H1 e1 a1 J hJ p hp=>?_)
  unfold ifC at a1
  split at a1
  case isFalse=>exact a1.elim
  rename_i hsz
  have I1:=I.grow e1
  obtain ⟨Λc,Ic,hown,hall⟩:=zjb (n:=n) I1 hix
  cases qg':(zc5 (zjL b me (za2 δ ix n)) ds).nev with
  | no=>rw [qg'] at a1; exact a1.elim
  | ex x=>cases q2:zc5 (zjL b me (za2 δ ix n)) ds <;> (rw [q2] at qg'; cases qg')
  | ok l =>
  rw [qg'] at a1
  have qg:=nev_ok qg'
  have hlent:∀ x ∈ Λc,∃ d,(za2 δ ix n)[x.1]?=some (.l d):=fun x hx=>(Ic.lent x hx).1
  have hpn:∀ x ∈ Λc,x.2.1 ≠ p:=fun x hx e=>by
    obtain ⟨o,ho⟩:=hall x hx
    rw [e,hp] at ho; cases ho
  have p0:H0 p=none:=I1.ext.hh.free hp
  have f1:F1 p=none:=e1.fh.free hp
  refine ⟨fun i k ys σ2 H2=>∃ F2 l1 l2 bs,EnvOk K Λc F0 H0 F2 H2 σ2 (za2 δ ix n)∧Ext F1 H1 F2 H2∧ys=bs.map .ref∧Tab H2 p bs l1∧(∀ c ∈ p :: bs,F2 c=none∧H1 c=none)∧zc5 (zjL b me (za2 δ ix n)) (ds.drop i) = .ok l2∧l=l1 ++ l2∧k=ds.length - i∧i ≤ ds.length∧ys.length ≤ i,
    ⟨_,F1,[],l,[],?_,.newO e1.fh hp,rfl,⟨zaY,rfl,fun i c r h=>by simp at h,by simp⟩,fun c hc=>?_,qg,rfl,rfl,Nat.zero_le _,Nat.le_refl _⟩,?_⟩
  · exact Ic.grow (.newO e1.fh hp)
  · rw [List.mem_singleton.mp hc]; exact ⟨f1,hp⟩
  rintro i k ys σ2 H2 ⟨F2,l1,l2,bs,I2,x2,rfl,tb,hfr,qd,rfl,rfl,hil,hys⟩
  refine ⟨tb.top,?_⟩
  by_cases hlt:i < ds.length
  · have e:ds.drop i=ds[i] :: ds.drop (i + 1):=List.drop_eq_getElem_cons hlt
    rw [e] at qd
    obtain ⟨row,l3,q1,q3,rfl⟩:=zjf qd
    obtain ⟨h1,h2⟩:=(hJ F2 H2 x2 i).1 ds[i] (by simp [hlt])
    refine .inr ⟨h1,fun ys' σ' H'=>∃ F' bs',EnvOk K Λc F0 H0 F' H' σ' (za2 δ ix n)∧Ext F1 H1 F' H'∧ys'=bs'.map .ref∧Tab H' p bs' (l1 ++ [row])∧(∀ c ∈ p :: bs',F' c=none∧H1 c=none)∧ys'.length ≤ i + 1,
      fun ys' σ' H' ⟨F',bs',w1,w2,w3,w4,w5,w6⟩=>⟨_,by omega,F',l1 ++ [row],l3,bs',w1,w2,w3,w4,w5,q3,by simp,rfl,hlt,w6⟩,fun x H' y=>?_⟩
    obtain ⟨F3,e3,rx⟩:=h2 x H' y
    unfold zjL at q1
    cases qb:b ds[i] (za2 δ ix n) with
    | none=>rw [qb] at q1; cases q1
    | some δ1 =>
      rw [qb] at q1
      dsimp only at q1
      have hwk:=hw _ _ _ qb
      refine hg Λc F0 H0 F3 H' σ2 _ _ x δ1 _ (I2.grow e3) rx qb fun σ3 I3=>?_
      unfold zmi
      simp only [if_true]
      cases qm:me δ1 with
      | no=>rw [qm] at q1; cases q1
      | ex x=>rw [qm] at q1; cases q1
      | ok d =>
        rw [qm] at q1
        simp only [R.nev_ok,R.bind_ok] at q1
        have ed:d=iL row:=by
          cases qa:asIl d with
          | none=>rw [qa] at q1; cases q1
          | some r=>rw [qa] at q1; cases q1; exact zmT qa
        subst ed
        refine he Λc F0 H0 F3 H' σ3 δ1 _ I3 ?_
        rw [qm]
        intro F5 H5 e5 c c0 c1 co
        have z:=e3.trans e5
        obtain ⟨vs,cv,cr⟩:=co
        have ex:=zcl cr
        subst ex
        have tb5:=tb.mono z.hh
        have z2:F5 p=none:=z.nw p _ (hfr p (by simp)).1 tb.top
        have cH2:H2 c=none:=e3.hh.free c1
        have cne:∀ q ∈ p :: bs,q ≠ c:=fun q hq ee=>by
          obtain ⟨o,ho⟩:=tb.obj q hq
          rw [ee,cH2] at ho; cases ho
        refine ⟨tb5.top,?_,F5,bs ++ [c],((I3.grow e5).weakL hwk hlent).side hown hpn p0 z2,?_,by simp,⟨?_,by simp [tb.len],fun j q r g1 g2=>?_,?_⟩,fun q hq=>?_,by simpa using hys⟩
        · simp at hys ⊢; omega
        · have w:=x2.trans z
          exact ⟨w.ff,fun c o q=>by rw [zaH (zaW q hp)]; exact w.hh c o q,fun c o q=>by rw [zaH (zaW q z2)]; exact w.fh c o q,w.nw⟩
        · rw [zaY]; simp
        · have qp:q ≠ p:=fun ee=>by
            have hm:=List.mem_of_getElem? g1
            rw [ee] at hm
            rcases List.mem_append.mp hm with w | w
            · exact (List.nodup_cons.mp tb.nd).1 w
            · exact cne p (by simp) (List.mem_singleton.mp w)
          rw [zaH qp]
          by_cases hj:j < bs.length
          · rw [List.getElem?_append_left hj] at g1
            rw [List.getElem?_append_left (by rw [← tb.len]; exact hj)] at g2
            exact tb5.row j q r g1 g2
          · rw [List.getElem?_append_right (by omega)] at g1
            rw [List.getElem?_append_right (by rw [← tb.len]; omega),← tb.len] at g2
            have j0:j - bs.length=0:=by
              have:=(List.getElem?_eq_some_iff.mp g1).1
              simp at this; omega
            rw [j0] at g1 g2
            simp at g1 g2
            subst g1 g2
            exact cv
        · have nd:=tb.nd
          rw [← List.cons_append,List.nodup_append]
          exact ⟨nd,by simp,fun q hq r hr ee=>cne q hq (by rw [ee]; exact List.mem_singleton.mp hr)⟩
        · rw [← List.cons_append] at hq
          rcases List.mem_append.mp hq with w | w
          · obtain ⟨o,ho⟩:=tb.obj q w
            exact ⟨z.nw q o (hfr q w).1 ho,(hfr q w).2⟩
          · rw [List.mem_singleton.mp w]
            exact ⟨c0,x2.hh.free cH2⟩
  · have e:i=ds.length:=by omega
    subst e
    rw [List.drop_length] at qd
    cases qd
    refine .inl ⟨(hJ F2 H2 x2 _).2 (by simp),a1 F2 H2 x2 p bs (by rw [List.append_nil]; exact tb) fun c hc=>⟨(hfr c hc).1,e1.hh.free (hfr c hc).2⟩⟩
def zjV (i:Nat) (δ:En):Bool:=(List.range δ.length).all fun j=>j == i || match δ[j]? with | some (.p _)=>false | _=>true
theorem znv {i:Nat} (h:zjV i δ=true) (j:Nat) (ll:List (List Int)) (hj:δ[j]?=some (.p ll)):j=i:=by
  have:=List.all_eq_true.mp h j (List.mem_range.mpr (List.getElem?_eq_some_iff.mp hj).1)
  rw [hj] at this
  simpa using this
theorem EnvOk.putP {i:Nat} {ll:List (List Int)} {a:Addr} {bs:List Addr} (I:EnvOk K Λ F0 H0 F H σ δ) (hl:∃ x,δ[i]?=some x∧∀ d,x ≠ .l d) (hn:∀ (j:Nat) (ll':List (List Int)),δ[j]?=some (.p ll')→j=i) (e:Ext F H F' H') (t:Tab H' a bs ll) (h0:∀ b ∈ a :: bs,F' b=none∧H b=none) :
    EnvOk K Λ F0 H0 F' H' (σ.set i (some (.ref a))) (δ.set i (.p ll)):=by
  obtain ⟨x,hx,hnl⟩:=hl
  have hi:i < δ.length:=(List.getElem?_eq_some_iff.mp hx).1
  have hi':i < σ.length:=by rw [I.len]; exact hi
  have fresh:∀ (k:Nat) (b:Addr),k ≠ i→Sl.own δ[k]?=true→σ[k]?=some (some (.ref b))→b ∉ a :: bs:=fun k b hki hk hs hb=>by
    have z:=I.slot k
    have hn':=(h0 b hb).2
    cases q:δ[k]? with
    | none=>rw [q] at hk; cases hk
    | some y =>
      rw [q] at hk z
      cases y with
      | no=>cases hk
      | v d=>cases hk
      | o d=>obtain ⟨c,z1,_,_,z4⟩:=z; rw [hs] at z1; cases z1; obtain ⟨u,hu⟩:=z4.obj; rw [hn'] at hu; cases hu
      | l d=>obtain ⟨c,z1,_,_,z4⟩:=z; rw [hs] at z1; cases z1; obtain ⟨u,hu⟩:=z4.obj; rw [hn'] at hu; cases hu
      | p l2=>exact hki (hn k l2 q)
  have J:=I.grow e
  refine ⟨J.ext,by simp [I.len],fun j=>?_,fun j k b hjk g1 g2 g3 g4=>?_,fun y hy=>?_,fun j l2 c vs g1 g2 g3=>?_⟩
  · by_cases ee:i=j
    · subst ee
      rw [List.getElem?_set_self hi,List.getElem?_set_self hi']
      exact ⟨a,bs,rfl,t,fun b hb=>⟨I.ext.hh.free (h0 b hb).2,(h0 b hb).1⟩⟩
    · rw [List.getElem?_set_ne ee,List.getElem?_set_ne ee]
      exact J.slot j
  · by_cases e1:i=j
    · subst e1
      rw [List.getElem?_set_self hi'] at g3; cases g3
      rw [List.getElem?_set_ne hjk] at g2 g4
      exact fresh k a (Ne.symm hjk) g2 g4 (by simp)
    · by_cases e2:i=k
      · subst e2
        rw [List.getElem?_set_self hi'] at g4; cases g4
        rw [List.getElem?_set_ne e1] at g1 g3
        exact fresh j a (Ne.symm e1) g1 g3 (by simp)
      · rw [List.getElem?_set_ne e1] at g1 g3
        rw [List.getElem?_set_ne e2] at g2 g4
        exact I.dist j k b hjk g1 g2 g3 g4
  · obtain ⟨⟨d',g1⟩,g2,g3⟩:=J.lent y hy
    have ne:i ≠ y.1:=by
      intro ee
      rw [← ee,hx] at g1
      exact hnl d' (Option.some.inj g1)
    exact ⟨⟨d',by rw [List.getElem?_set_ne ne]; exact g1⟩,by rw [List.getElem?_set_ne ne]; exact g2,g3⟩
  · have ji:j=i:=by
      by_cases ee:i=j
      · exact ee.symm
      · rw [List.getElem?_set_ne ee] at g1; exact hn j l2 g1
    subst ji
    rw [List.getElem?_set_self hi'] at g2; cases g2
    rw [t.top] at g3; cases g3
    refine ⟨fun k b hk ho hs hb=>?_,fun k l3 hk=>?_⟩
    · rw [List.getElem?_set_ne (Ne.symm hk)] at ho hs
      exact fresh k b hk ho hs (List.mem_cons_of_mem _ (refs_mem.mp hb))
    · by_cases ee:j=k
      · exact ee.symm
      · rw [List.getElem?_set_ne ee] at hk; exact hn k l3 hk
def znJ (me:En→R (List (List Int))) (i:Nat) (δ:En):O:=(me δ).toO δ fun ll=>match δ[i]? with
  | none=>.no
  | some (.l _)=>.no
  | some _=>if zjV i δ=true then .nx (δ.set i (.p ll)) else .no
theorem zov {i:Nat} {mp:En→R (List (List Int))} (h:SEp K XO E te mp):SS K XO E (tAsg te (ziU i)) (znJ mp i):=by
  intro Λ F0 H0 F H σ δ Dn I a
  refine h Λ F0 H0 F H σ δ _ I ((AftS.of I a).imp fun ll F1 H1 e c p bs t h0=>?_)
  cases q:δ[i]? with
  | none=>simp only [q] at c; exact c.elim
  | some x =>
    simp only [q] at c
    cases x with
    | l d=>exact c.elim
    | no | v d | o d | p l2 =>
      dsimp only at c
      split at c
      · rename_i hn
        exact c _ F1 H1 (I.putP ⟨_,q,fun d z=>by cases z⟩ (znv hn) e t h0)
      · exact c.elim
theorem EnvOk.chgP {i k:Nat} {ll:List (List Int)} {row:List Int} {a b:Addr} {bs:List Addr} (I:EnvOk K Λ F0 H0 F H σ δ) (hx:δ[i]?=some (.p ll)) (ha:σ[i]?=some (some (.ref a))) (t:Tab H a bs ll) (hb:bs[k]?=some b) :
    EnvOk K Λ F0 H0 F (upd H b (.lst (row.map .int))) σ (δ.set i (.p (ll.set k row))):=by
  have hi:i < δ.length:=(List.getElem?_eq_some_iff.mp hx).1
  obtain ⟨a',bs',t1,t2,t3,t4,t5⟩:=I.tab hx
  rw [ha] at t1; cases t1
  have eb:bs'=bs:=by
    have:=t2.top.symm.trans t.top
    have e2:bs'.map V.ref=bs.map V.ref:=by injection this with this; injection this
    exact List.map_inj_right (fun x y h=>by injection h) |>.mp e2
  subst eb
  have bm:b ∈ bs':=List.mem_of_getElem? hb
  have fb:=t3 b (List.mem_cons_of_mem _ bm)
  have kl:k < bs'.length:=(List.getElem?_eq_some_iff.mp hb).1
  have nd:=List.nodup_cons.mp t.nd
  have oth:∀ (j:Nat) (c:Addr),i ≠ j→Sl.own δ[j]?=true→σ[j]?=some (some (.ref c))→c ≠ b:=fun j c hj ho hs ee=>t4 j c (Ne.symm hj) ho hs (by rw [ee]; exact List.mem_cons_of_mem _ bm)
  refine ⟨⟨I.ext.ff,fun c w q=>?_,fun c w q=>?_,I.ext.nw⟩,by simp [I.len],fun j=>?_,fun j k2 c hjk g1 g2 g3 g4=>?_,fun y hy=>?_,fun j l2 c vs g1 g2 g3=>?_⟩
  · rw [zaH (zaW q fb.1)]; exact I.ext.hh c w q
  · rw [zaH (zaW q fb.2)]; exact I.ext.fh c w q
  · by_cases ee:i=j
    · subst ee
      rw [List.getElem?_set_self hi]
      refine ⟨a,bs',ha,⟨?_,by simp [t.len],fun j c r h1 h2=>?_,t.nd⟩,t3⟩
      · rw [zaH (show a ≠ b from fun z=>nd.1 (z ▸ bm))]; exact t.top
      · by_cases ej:k=j
        · subst ej
          rw [hb] at h1; cases h1
          rw [List.getElem?_set_self (by rw [← t.len]; exact kl)] at h2; cases h2
          exact zaY
        · rw [List.getElem?_set_ne ej] at h2
          rw [zaH (fun z=>ej ((List.getElem?_inj kl nd.2).mp (by rw [hb,h1,z])))]
          exact t.row j c r h1 h2
    · rw [List.getElem?_set_ne ee]
      have w:=I.slot j
      cases q:δ[j]? with
      | none=>trivial
      | some y =>
        rw [q] at w
        cases y with
        | no=>trivial
        | v d=>exact w
        | o d=>obtain ⟨c,w1,w2,w3,w4⟩:=w; exact ⟨c,w1,w2,w3,w4.at (zaH (oth j c ee (by rw [q]; rfl) w1))⟩
        | l d=>obtain ⟨c,w1,w2,w3,w4⟩:=w; exact ⟨c,w1,w2,w3,w4.at (zaH (oth j c ee (by rw [q]; rfl) w1))⟩
        | p l2=>exact absurd (t5 j l2 q).symm ee
  · have ow:∀ k2:Nat,Sl.own (δ.set i (.p (ll.set k row)))[k2]?=true→Sl.own δ[k2]?=true:=by
      intro k2 h
      by_cases ee:i=k2
      · subst ee; rw [hx]; rfl
      · rw [List.getElem?_set_ne ee] at h; exact h
    exact I.dist j k2 c hjk (ow j g1) (ow k2 g2) g3 g4
  · obtain ⟨⟨d2,g1⟩,g2,g3⟩:=I.lent y hy
    have ne:i ≠ y.1:=by
      intro ee
      rw [← ee,hx] at g1
      cases g1
    exact ⟨⟨d2,by rw [List.getElem?_set_ne ne]; exact g1⟩,g2,by rw [zaH (oth y.1 y.2.1 ne (by rw [g1]; rfl) g2)]; exact g3⟩
  · have ji:j=i:=by
      by_cases ee:i=j
      · exact ee.symm
      · rw [List.getElem?_set_ne ee] at g1; exact t5 j l2 g1
    subst ji
    rw [ha] at g2; cases g2
    rw [zaH (show a ≠ b from fun z=>nd.1 (z ▸ bm)),t.top] at g3; cases g3
    refine ⟨fun k2 c hk ho hs hc=>?_,fun k2 l3 hk=>?_⟩
    · rw [List.getElem?_set_ne (Ne.symm hk)] at ho
      exact t4 k2 c hk ho hs (List.mem_cons_of_mem _ (refs_mem.mp hc))
    · by_cases ee:j=k2
      · exact ee.symm
      · rw [List.getElem?_set_ne ee] at hk; exact t5 k2 l3 hk
def zgs (i:Nat) (mk mj me:En→R D) (δ:En):O:=match δ[i]? with
  | some (.p ll)=>(me δ).toO δ fun v=>(mk δ).toO δ fun k=>match v,k with
    | .int v,.int k=>(match ixN ll.length k with
      | some k'=>(match ll[k']? with
        | some row=>(mj δ).toO δ fun j=>(match j with
          | .int j=>(match ixN row.length j with | some j'=>.nx (δ.set i (.p (ll.set k' (row.set j' v)))) | none=>.no)
          | _=>.no)
        | none=>.no)
      | none=>.no)
    | _,_=>.no
  | _=>.no
theorem zio {i:Nat} {tk tj:TE} {mk mj:En→R D} (h1:SE K XO E tk mk) (h2:SE K XO E tj mj) (h:SE K XO E te me):SS K XO E (tAsg te (gSub (tOp (rIxL K.f) (tVar i) tk) tj zpB)) (zgs i mk mj me):=by
  intro Λ F0 H0 F H σ δ Dn I a
  unfold zgs at a
  split at a
  · rename_i ll q
    obtain ⟨p,bs,s1,s2,s3,_⟩:=I.tab q
    refine h Λ F0 H0 F H σ δ _ I ((AftS.of I a).imp fun v F1 H1 e c x rx=>⟨_,s1,?_⟩)
    refine h1 Λ F0 H0 F1 H1 σ δ _ (I.grow e) ((AftS.of (I.grow e) c).imp fun k F2 H2 e2 c2 y ry=>?_)
    have I2:=(I.grow e).grow e2
    have tt:=(s2.mono e.hh).mono e2.hh
    split at c2
    · rename_i v k
      simp only [Rep] at ry rx
      subst ry rx
      cases z:ixN ll.length k with
      | none=>rw [z] at c2; exact c2.elim
      | some k' =>
        rw [z] at c2
        dsimp only at c2
        cases z2:ll[k']? with
        | none=>rw [z2] at c2; exact c2.elim
        | some row =>
          rw [z2] at c2
          dsimp only at c2
          have kl:k' < bs.length:=by rw [s2.len]; exact (List.getElem?_eq_some_iff.mp z2).1
          have gb:bs[k']?=some bs[k']:=List.getElem?_eq_getElem kl
          refine ⟨p,bs.map .ref,k,.ref bs[k'],rfl,rfl,.inl (.inl tt.top),?_,?_⟩
          · unfold atI
            rw [List.length_map,s2.len,z]
            show (bs.map V.ref)[k']?=_
            rw [List.getElem?_map,gb]; rfl
          · refine h2 Λ F0 H0 F2 H2 σ δ _ I2 ((AftS.of I2 c2).imp fun j F3 H3 e3 c3 u ru=>?_)
            have I3:=I2.grow e3
            have t3:=tt.mono e3.hh
            split at c3
            · rename_i j
              simp only [Rep] at ru
              subst ru
              cases z3:ixN row.length j with
              | none=>rw [z3] at c3; exact c3.elim
              | some j' =>
                rw [z3] at c3
                dsimp only at c3
                refine ⟨bs[k'],row.map .int,j,j',rfl,rfl,t3.row k' _ row gb z2,by rw [List.length_map]; exact z3,?_⟩
                rw [← List.map_set]
                exact c3 σ F3 _ (I3.chgP q s1 t3 gb)
            · exact c3.elim
    · exact c2.elim
  · exact a.elim
def zoz (i:Nat) (δ:En):O:=match δ[i]? with | some (.p ll)=>.ro (tabD ll) | _=>.no
open Classical in
def zhs (F H:Hp) (bs:List Addr):Hp:=fun b=>if b ∈ bs then H b else F b
theorem zoT {i:Nat}:SS K XO E (tRet (tVar i)) (zoz i):=by
  intro Λ F0 H0 F H σ δ Dn I a
  unfold zoz at a
  split at a
  · rename_i ll q
    obtain ⟨p,bs,s1,s2,s3,_⟩:=I.tab q
    have nd:=List.nodup_cons.mp s2.nd
    have ff:Same F (zhs F H bs):=fun b o h=>by
      unfold zhs
      rw [if_neg fun z=>by rw [(s3 b (List.mem_cons_of_mem _ z)).2] at h; cases h]
      exact h
    have fh:Same (zhs F H bs) H:=fun b o h=>by
      unfold zhs at h
      split at h
      · exact h
      · exact I.same b o h
    have fp:zhs F H bs p=none:=by
      unfold zhs
      rw [if_neg nd.1]
      exact (s3 p (by simp)).2
    refine ⟨_,s1,a p (zhs F H bs) H ⟨I.ext.ff.trans ff,I.ext.hh,fh,fun b o h1 h2=>?_⟩ fp (s3 p (by simp)).1 ?_⟩
    · unfold zhs
      rw [if_neg fun z=>by rw [(s3 b (List.mem_cons_of_mem _ z)).1] at h2; cases h2]
      exact I.ext.nw b o h1 h2
    · refine ⟨bs.map .ref,s2.top,?_⟩
      have hb:∀ b ∈ bs,zhs F H bs b=H b:=fun b hb=>by unfold zhs; rw [if_pos hb]
      have key:∀ (cs:List Addr) (l2:List (List Int)),cs.length=l2.length→(∀ b ∈ cs,b ∈ bs)→(∀ (i:Nat) (b:Addr) (l:List Int),cs[i]?=some b→l2[i]?=some l→H b=some (.lst (l.map .int)))→RepL K (zhs F H bs) (l2.map iL) (cs.map .ref):=by
        intro cs
        induction cs with
        | nil=>intro l2 h _ _; cases l2 with | nil=>exact .nil | cons _ _=>simp at h
        | cons b cs ih =>
          intro l2 h hm hr
          cases l2 with
          | nil=>simp at h
          | cons l l2 =>
            refine .cons ?_ (ih l2 (by simpa using h) (fun c hc=>hm c (by simp [hc])) fun i b' l' h1 h2=>hr (i + 1) b' l' (by simpa using h1) (by simpa using h2))
            unfold iL
            simp only [Rep]
            exact ⟨b,l.map .int,rfl,.inl (by rw [hb b (hm b (by simp))]; exact hr 0 b l rfl rfl),RepL.ints⟩
      exact key bs ll s2.len (fun b hb=>hb) s2.row
  · exact a.elim
end
end PM
namespace L2
open PySem PySem.Spec PyProof.Rows
def zpe (K:PySem.W.Frag) (D':Addr) (tb:(St→XK)→TS) (th:TS):TS:=fun D σ H =>
  tb (fun σ' cls _ H'=>∃ C,cls = .ref C∧PySem.W.kitCls K (.ref C) (.ref D')=some true∧th D σ' H') D σ H
section
variable {X:Cx} {x:Str} {np hpos pos:Pos} {body:List Stmt} {b₀:Stmt} {suite:List Stmt} {D':Addr} {tb:(St→XK)→TS} {th:TS}
theorem zor (hst:X.stack=X.env :: X.outer) (hfr:X.env.frame=some X.env.locals) (hg:Gl X x) (hmx:X.mg x=some (.ref D')) (hD:PySem.W.mroIn X.K D' (.type "BaseException")=some true)
    (hb:∀ (E:St→XK) (pl:List (Addr × Obj)) (xe:Value→Shared→Prop),ziC (CX1 X.prog X.w) (X.guard pl xe) E→PSs (X.guard pl xe) body (tb E)) (hh:∀ ea,PSs (X.suite ea) (b₀ :: suite) th) (hdb:(x == ("__debug__" : Str))=false:=by decide) :
    PS X (.Try body [.ExceptHandler (some (.Name x np)) none (b₀ :: suite) hpos] [] [] pos) (zpe X.K D' tb th):=by
  intro pins s σ H D I h
  have ok:=I.ok
  refine wpAny_Try_except ?_
  refine wpAny_mono (hb _ (X.pn ++ pins) (fun e s₁=>wpAny (model X.prog X.w) X.A (noteFrame e X.env) (fun _ s₂=>wpAny (model X.prog X.w) X.A (setFlight e none) (fun _ s₃=>wpAny (model X.prog X.w) X.A (handleBy e X.env [.ExceptHandler (some (.Name x np)) none (b₀ :: suite) hpos]) (SP X pins D) X.xe s₃) X.xe s₂) X.xe s₁) ?_ [] s σ H D (I.guard _) h) (fun f s1 q=>?_) fun _ _ q=>q
  · intro pins' σ' H1 s1 e s2 I1 hcx
    obtain ⟨ea,C,dct,H',rfl,F,C',hC',hm,hth⟩:=hcx
    cases hC'
    have J1:Inv X pins σ' H1 s1:=I1.unguard ok
    have F':Fly X.prog X.w (X.env :: X.outer) H1 s1 ea (.ref C) dct H' s2:=by
      rw [← hst]
      exact F
    obtain ⟨Fos,Fbare,Fun,B,fl,hok,third⟩:=F'
    have fr2:X.A.frames=some (X.env :: X.outer):=by rw [← hst]; exact ok.frames
    have land:∀ h' ,FlyD B (X.env :: X.outer) ea (.ref C) dct .none h'→s2.heap.UpToSlots h'→Inv X pins σ' H' { s2 with heap:=h' }:=fun h' F' up=>by
      obtain ⟨u,_⟩:=zkn (fs:=frs (X.env :: X.outer)) (fr:=frs (X.env :: X.outer)) (h0:=s1.heap) (h1:=s1.heap) (h3:=h') (B:=B) (L:=s1.heap.objs.size) Un.refl Fun (Nat.le_refl _) (fun b hb=>List.mem_cons_of_mem _ hb) (fun b hb=>hb)
        (fun b hb=>J1.stkFree b (by rw [hst]; exact hb)) (fun b hb o e=>by
          obtain ⟨_,o',ho',hn'⟩:=fl.fun'.mem hb
          rw [e] at ho'
          cases ho'
          exact hn') up F'.stays third
      obtain ⟨hh2,g2,d2,t2,os2⟩:=s2
      obtain rfl:os2=s1.os:=Fos
      show Inv X pins σ' H' { s1 with heap:=h',gens:=g2,drawn:=d2,toks:=t2 }
      exact J1.call (h':=h') (g':=g2) (d':=d2) (t':=t2) (ch:=[]) (by rw [hst]; exact u) (hok.fly F'.stays) Fbare fun b z=>absurd z (by simp)
    show wpAny (model X.prog X.w) X.A (noteFrame (.ref ea) X.env) _ _ s2
    refine zlJ fr2 hfr fl fun h1 F1 up1=>?_
    refine zlx F1 fun h2 F2 up2=>?_
    have J2:=land h2 F2 (up1.trans up2)
    obtain ⟨T,_,⟨oe,vs,_,_,he,hc,hdc,hd,_⟩,_⟩:=F2.tr
    refine wpAny_handleBy_cons (codeAny_handlers_test (zfZ (X:=X.suite ea) (J2.suite ea) hg hmx ?_ hdb)) (by intro z; cases z)
    refine zi6 (K:=X.K) J2.kIn he hc hm hD ?_
    refine codeAny_handlers_suite ?_
    refine zlx F2 fun h3 F3 up3=>?_
    have J3:=land h3 F3 ((up1.trans up2).trans up3)
    refine wpAny_mono (hh ea pins _ _ _ _ (J3.suite ea) hth) (fun f s6 q6=>?_) fun _ _ z=>z.elim
    cases f with
    | next =>
      obtain ⟨σ6,H6,I6,q6⟩:=q6
      exact ⟨_,_,I6.unsuite ok,q6⟩
    | brk =>
      obtain ⟨σ6,H6,I6,q6⟩:=q6
      exact ⟨_,_,I6.unsuite ok,q6⟩
    | cont =>
      obtain ⟨σ6,H6,I6,q6⟩:=q6
      exact ⟨_,_,I6.unsuite ok,q6⟩
    | ret v =>
      obtain ⟨v6,σ6,H6,I6,r6,q6⟩:=q6
      exact ⟨v6,_,_,I6.unsuite ok,r6,q6⟩
  · cases f with
    | next =>
      obtain ⟨σ6,H6,I6,q6⟩:=q
      exact wpAny_execs_nil ⟨σ6,H6,I6.unguard ok,q6⟩
    | brk =>
      obtain ⟨σ6,H6,I6,q6⟩:=q
      exact ⟨σ6,H6,I6.unguard ok,q6⟩
    | cont =>
      obtain ⟨σ6,H6,I6,q6⟩:=q
      exact ⟨σ6,H6,I6.unguard ok,q6⟩
    | ret v =>
      obtain ⟨v6,σ6,H6,I6,r6,q6⟩:=q
      exact ⟨v6,σ6,H6,I6.unguard ok,r6,q6⟩
end
end L2
namespace PM
open PySem L2
section
variable {K:Kx} {E:L2.St→XK}
def zmZ (mb:En→O) (sub:Nat→Bool) (mh:En→O) (δ:En):O:=match mb δ with
  | .ex δ' x=>if sub x.c=true then (match mh δ' with | .ex _ _=>.no | r=>r) else .no
  | r=>r
theorem zon {D':Addr} {tb:(L2.St→XK)→TS} {th:TS} {mb mh:En→O} {sub:Nat→Bool} (hsub:∀ c,sub c=true→PySem.W.kitCls K.f (.ref (K.ca c)) (.ref D')=some true)
    (hb:∀ E',SS K (xoK K) E' (tb E') mb) (hh:SS K (xoK K) EN th mh):SS K (xoK K) E (zpe K.f D' tb th) (zmZ mb sub mh):=by
  intro Λ F0 H0 F H σ δ Dn I a
  refine hb _ Λ F0 H0 F H σ δ Dn I ?_
  unfold zmZ at a
  cases q:mb δ with
  | no=>rw [q] at a; exact a
  | nx δ'=>rw [q] at a; exact a
  | rt d=>rw [q] at a; exact a
  | ro d=>rw [q] at a; exact a
  | bk δ'=>rw [q] at a; exact a
  | ct δ'=>rw [q] at a; exact a
  | ex δ' x =>
    rw [q] at a
    simp only at a
    split at a
    · rename_i hs
      rintro σ1 F1 H1 C dct I1 ⟨rfl,_⟩
      refine ⟨_,rfl,hsub _ hs,?_⟩
      refine hh Λ F0 H0 _ _ σ1 δ' _ I1 ?_
      cases qh:mh δ' with
      | no=>rw [qh] at a; exact a
      | rt d=>rw [qh] at a; exact a
      | ro d=>rw [qh] at a; exact a
      | ex _ _=>rw [qh] at a; exact a.elim
      | nx δ2=>rw [qh] at a; exact a
      | bk δ2=>rw [qh] at a; exact a
      | ct δ2=>rw [qh] at a; exact a
    · exact a.elim
end
end PM
namespace PM
end PM
namespace L2
open PySem PySem.Spec PyProof.Rows
section
variable {prog:Program} {w:World} {A:Around} {E:Value→Shared→Prop} {s:Shared}
end
section
variable {prog:Program} {w:World} {A:Around} {R:Result→Shared→Prop} {I S:Addr} {fp wr:List Addr} {n:Nat} {P:Nat→Value→Prop} {St:Nat→Heap→Prop} {bt:Nat→Nat→Bool}
end
section
variable {prog:Program} {w:World} {A:Around} {E:Value→Shared→Prop} {s:Shared}
end
section
variable {X:Cx}
end
end L2
namespace PM
open PySem L2
section
variable {K:Kx}
end
end PM
namespace L2
open PySem PySem.Spec PyProof.Rows
section
variable {X:Cx}
end
end L2
namespace PM
open PySem L2
section
variable {K:Kx} {XO:XOT} {E:L2.St→XK}
end
end PM
namespace L2
open PySem PySem.Spec PyProof.Rows
section
variable {X:Cx} {a b c:Expr} {ta tb tc:TE} {pos:Pos}
def rAll:List V→Hp→VK→Prop:=fun xs H Q=>∃ (p:Addr) (bs:List Bool),xs = [.ref p]∧Rd H p (.lst (bs.map V.bl))∧Q (.bl (bs.all id)) H
theorem zmJ {bs:List Bool} {its:List Value} (rv:Vals (bs.map V.bl) its):its=bs.map Value.bool:=by
  induction bs generalizing its with
  | nil=>cases rv; rfl
  | cons a l ih =>
    cases rv with
    | cons h t =>
      have:_=Value.bool a:=h
      rw [this,ih t]; rfl
theorem zjl:∀ (bs:List Bool),((List.range bs.length).all fun i=>bs.getD i false)=bs.all id
  | []=>rfl
  | b :: bs=>by
    rw [List.length_cons,List.range_succ_eq_map,List.all_cons,List.all_map,List.all_cons,← zjl bs]
    rfl
theorem zm1 (hc:X.calm=true):ze0 X (.builtin "all") rAll:=by
  intro pins s σ H xs us Q I r h
  obtain ⟨p,bs,rfl,hq,q⟩:=h
  obtain ⟨u,rfl,rx⟩:=zhh r
  cases rx
  obtain ⟨z,its,n,rv,e⟩:=hq.ok I.hok
  have ei:=zmJ rv
  subst ei
  have isl:s.heap.IsList p (bs.map Value.bool).toArray:=⟨_,e,rfl,n,rfl⟩
  have plt:p < s.heap.objs.size:=Heap.lt_size e
  refine call_all_walk (wpAny_pyIter_list isl ?_)
  refine ⟨s.heap.objs.size,[s.heap.objs.size,p],[s.heap.objs.size],(bs.map Value.bool).toArray.size,_,_,(fun i=>bs.getD i false),rfl,Walks.list (A:=X.A.in1) (I.ok.hd hc) s.heap.objs.size p (Nat.ne_of_lt plt) (bs.map Value.bool).toArray,⟨⟨_,Heap.get?_push_size _ rfl,rfl,rfl⟩,isl.push _⟩,?_,?_⟩
  · intro i v s' Q' E' hi hQ
    have hi':(bs.map Value.bool).toArray[i]?=some v:=hi
    rw [List.getElem?_toArray,List.getElem?_map] at hi'
    cases z:bs[i]? with
    | none=>rw [z] at hi'; cases hi'
    | some b =>
      rw [z] at hi'
      cases hi'
      refine wpAny_truthy_bool ?_
      have:bs.getD i false=b:=by rw [List.getD_eq_getElem?_getD,z]; rfl
      have hQ':Q' (bs.getD i false) s':=hQ
      rw [this] at hQ'
      exact hQ'
  · intro h' tk hk
    rw [List.size_toArray,List.length_map,zjl]
    refine ⟨.bl _,H,I.kept (t':=tk) (fun b o eo=>hk b o (fun hm=>?_) (Heap.get?_push_of_some _ eo)),rfl,q⟩
    rw [List.mem_singleton.mp hm] at eo
    exact absurd (Heap.lt_size eo) (Nat.lt_irrefl _)
end
end L2
namespace PM
open PySem L2
section
variable {K:Kx} {XO:XOT} {E:L2.St→XK} {ta tb tc:TE} {ma mb mc:En→R D}
def zjG (o1 o2:D→D→Option D) (ma mb mc:En→R D) (δ:En):R D:=(ma δ).bind fun x=>(mb δ).bind fun y=>match o1 x y with
  | some (.bl true)=>(mc δ).bind fun z=>R.of (o2 y z)
  | some (.bl false)=>.ok (.bl false)
  | _=>.no
theorem znw {r1 r2:R2} {o1 o2:D→D→Option D} (h1:SR K r1 o1) (h2:SR K r2 o2) (ha:SEr K XO E ta ma) (hb:SEr K XO E tb mb) (hc:SEr K XO E tc mc):SE K XO E (zn9 r1 r2 ta tb tc) (zjG o1 o2 ma mb mc):=by
  intro Λ F0 H0 F H σ δ Q I a
  refine ha Λ F0 H0 F H σ δ _ I (a.bind.imp fun dx F1 H1 e1 a1 x rx=>?_)
  refine hb Λ F0 H0 F1 H1 σ δ _ (I.grow e1) (a1.bind.imp fun dy F2 H2 e2 a2 y ry=>?_)
  cases q:o1 dx dy with
  | none=>rw [q] at a2; exact a2.elim
  | some d =>
    rw [q] at a2
    have fin:∀ t:Bool,d = .bl t→r1 x y H2 fun k H3=>∃ t:Bool,k = .bl t∧if t=true then tc σ H3 fun z H4=>r2 y z H4 Q else Q (.bl false) H3:=by
      rintro t rfl
      refine h1 F2 H2 x y dx dy (.bl t) _ e2.fh (rx.mono e2.ff e2.hh) ry q fun v F3 H3 e3 rv=>?_
      simp only [Rep] at rv
      refine ⟨t,rv,?_⟩
      cases t with
      | false =>
        rw [if_neg (by decide)]
        exact a2 F3 H3 e3 (.bl false) (by simp only [Rep])
      | true =>
        rw [if_pos rfl]
        have a3:Aft E XO σ F2 H2 _ (mc δ):=Aft.bind a2
        refine hc Λ F0 H0 F3 H3 σ δ _ (((I.grow e1).grow e2).grow e3) ((Aft.mono e3 a3).imp fun dz F4 H4 e4 a4 z rz=>?_)
        cases q2:o2 dy dz with
        | none=>rw [q2] at a4; exact a4.elim
        | some d' =>
          rw [q2] at a4
          exact h2 F4 H4 y z dy dz d' Q e4.fh ((ry.mono e3.ff e3.hh).mono e4.ff e4.hh) rz q2 fun v F' H' e r=>a4 F' H' e v r
    cases d with
    | bl t=>exact fin t rfl
    | _=>exact a2.elim
def asBs:List D→Option (List Bool)
  | []=>some []
  | .bl b :: l=>(asBs l).map fun bs=>b :: bs
  | _ :: _=>none
theorem zja:∀ {l:List D} {bs:List Bool},asBs l=some bs→l=bs.map .bl
  | [],_,h=>by cases h; rfl
  | d :: l,bs,h=>by
    cases d with
    | bl b =>
      unfold asBs at h
      cases q:asBs l with
      | none=>rw [q] at h; cases h
      | some r=>rw [q] at h; cases h; rw [zja q]; rfl
    | _=>unfold asBs at h; cases h
theorem znj (bs:List Bool):asBs (bs.map .bl)=some bs:=by
  induction bs with
  | nil=>rfl
  | cons b bs ih=>simp [asBs,ih]
def fAll:List D→Option D
  | [.lst l]=>(asBs l).map fun bs=>.bl (bs.all id)
  | _=>none
theorem zib {F:Hp}:∀ {bs:List Bool} {vs:List V},RepL K F (bs.map .bl) vs→vs=bs.map V.bl
  | [],vs,h=>h
  | b :: bs,vs,h=>by
    obtain ⟨v,r,rfl,h1,h2⟩:=h
    have:v = .bl b:=h1
    rw [this,zib h2]; rfl
theorem zoV:SC K rAll fAll:=by
  intro F H vs ds d Q s r e q
  unfold fAll at e
  split at e
  · rename_i l
    cases q2:asBs l with
    | none=>rw [q2] at e; cases e
    | some bs =>
      rw [q2] at e
      cases e
      cases r with
      | cons r r' =>
        cases r'
        obtain ⟨p,xs,rfl,h1,h2⟩:=r
        rw [zja q2] at h2
        have:=zib h2
        subst this
        exact ⟨p,bs,rfl,h1,q _ F H (.refl s) (by simp only [Rep])⟩
  · cases e
end
end PM
namespace L2
open PySem PySem.Spec PyProof.Rows
section
variable {X:Cx} {e st:Expr} {te ts:TE} {p2 pos:Pos}
end
end L2
namespace PM
open PySem L2
section
variable {K:Kx} {XO:XOT} {E:L2.St→XK} {te ts:TE} {me ms:En→R D}
theorem RepL.append' {F:Hp}:∀ {l m:List D} {vs ws:List V},RepL K F l vs→RepL K F m ws→RepL K F (l ++ m) (vs ++ ws)
  | [],_,vs,_,h,k=>by
    have:vs = []:=h
    subst this
    exact k
  | d :: l,m,vs,ws,h,k=>by
    obtain ⟨v,r,rfl,h1,h2⟩:=h
    exact ⟨v,r ++ ws,rfl,h1,RepL.append' h2 k⟩
theorem RepL.reverse {F:Hp}:∀ {l:List D} {vs:List V},RepL K F l vs→RepL K F l.reverse vs.reverse
  | [],vs,h=>by
    have:vs = []:=h
    subst this
    exact h
  | d :: l,vs,h=>by
    obtain ⟨v,r,rfl,h1,h2⟩:=h
    rw [List.reverse_cons,List.reverse_cons]
    exact RepL.append' (RepL.reverse h2) ⟨v,[],rfl,h1,rfl⟩
end
end PM
namespace L2
open PySem PySem.Spec PyProof.Rows
theorem znN:typeLookup (.type "list_reverseiterator") "__len__"=pure none:=by rw [typeLookup_type,builtinLookup_eq_fast]; kernel_rfl
theorem zoi:typeLookup (.type "list_reverseiterator") "__length_hint__"=pure (some (.builtin "list_reverseiterator.__length_hint__")):=by rw [typeLookup_type,builtinLookup_eq_fast]; kernel_rfl
section
variable {prog:Program} {w:World} {A:Around} {E:Value→Shared→Prop} {s:Shared}
theorem zlo {R:Result→Shared→Prop} {S I l:Addr} {items:Array Value} {c₀:Nat} {res:Value} (hh:A.handled=none) (hne:l ≠ I) (hSI:S ≠ I) (hSl:S ≠ l) (hit:s.heap.IsRevIter I l ((items.size:Int) - 1)) (hl:s.heap.IsList l items) (hS:s.heap.get? S=some { cls:=.type "list",data:=.seq #[] c₀ }) (hz:items.size ≤ sizeLine)
    (hR:∀ h' tk acc' c',(∀ b o,b ≠ S→b ≠ I→s.heap.get? b=some o→h'.get? b=some o)→h'.get? S=some { cls:=.type "list",dict:=none,data:=.seq acc' c',slots:=#[] } →
      ItemsOf (fun i v=>items[items.size - 1 - i]?=some v) acc' items.size→R (.ok (.ret res)) { s with heap:=h',toks:=tk }) :
    wpAny (model prog w) A.in1 (Builtin.List.listExtendWith (.ref S) (.ref I) res)
      (fun fin s'=>match fin with | .done f=>R (.ok f) s' | .again c'=>c'.quiet=true∧codeAny (model prog w) A c' R s') (fun e s'=>R (.error e) s') s:=by
  have W:=(Walks.listRev (prog:=prog) (w:=w) (A:=A.in1) hh I l hne items).toS
  have hSf:S ∉ [I,l]:=by simp [hSI,hSl]
  have h1:Builtin.List.listSameRef (.ref S) (.ref I)=false:=by simp [Builtin.List.listSameRef,hSI]
  unfold Builtin.List.listExtendWith
  refine wpAny_bind (wpAny_typeOf hit.typeIs ?_)
  have h2:(Value.type "list_reverseiterator" == Value.type "list")=false:=by decide
  have h3:(Value.type "list_reverseiterator" == Value.type "tuple")=false:=by decide
  simp only [h1,h2,h3,Bool.or_false,Bool.false_eq_true,if_false]
  refine wpAny_bind (wpAny_pyIter_revIter hit ?_)
  refine wpAny_bind (wpAny_holding ?_)
  unfold Builtin.List.listLengthHint
  refine wpAny_bind (wpAny_specialOf hit.typeIs znN ?_)
  show wpAny _ A.in1 (specialOf (Value.ref I) (Str.ofString "__length_hint__") >>= _) _ _ _
  refine wpAny_bind (wpAny_specialOf hit.typeIs zoi ?_)
  generalize hid:("list_reverseiterator.__length_hint__" : String)=id0
  wp_delta
  rw [show splitId id0=some ("list_reverseiterator","__length_hint__") from by subst hid; decide +kernel]
  subst hid
  refine wpAny_bind (wpAny_isInstance (b:=true) hit.typeIs (by rw [isSubtype_type]; kernel_rfl) ?_)
  refine wpAny_pure ?_
  rw [if_neg (by decide)]
  refine wpAny_pure ⟨plainId_quiet F.plain_extend_loop _,codeAny_extend_loopS W hz S hSf res items.size 0 _ #[] c₀ rfl (Nat.zero_le _) ?_ hS (ItemsOf.nil _) fun s' acc' c' hm hS' hacc=>?_⟩
  · exact ⟨Nat.zero_le _,by simpa using hit,hl⟩
  · rw [Moved.eq_with hm]
    refine hR s'.heap s'.toks acc' c' (fun b o hb hbI e=>hm.heap b o (fun hmem=>?_) e) hS' hacc
    rcases List.mem_cons.mp hmem with e' | hmem
    · exact hb e'
    · exact hbI (List.mem_singleton.mp hmem)
end
section
variable {prog:Program} {w:World} {A:Around} {E:Value→Shared→Prop} {s:Shared}
theorem ziJ {Q:Value→Shared→Prop} {I l:Addr} {items:Array Value} (hh:A.handled=none) (hne:l ≠ I) (hit:s.heap.IsRevIter I l ((items.size:Int) - 1)) (hl:s.heap.IsList l items) (hz:items.size ≤ sizeLine)
    (hQ:∀ h' tk acc' c',(∀ b o,b ≠ I→s.heap.get? b=some o→h'.get? b=some o)→h'.get? s.heap.objs.size=some { cls:=.type "list",dict:=none,data:=.seq acc' c',slots:=#[] } →
      ItemsOf (fun i v=>items[items.size - 1 - i]?=some v) acc' items.size→Q (.ref s.heap.objs.size) { s with heap:=h',toks:=tk }) :
    wpAny (model prog w) A (call (.type "list") [.ref I]) Q E s:=by
  refine callType_codes (Q₁:=fun obj s₁=>obj = .ref s.heap.objs.size∧s₁ = { s with heap:=s.heap.push { cls:=.type "list",data:=.seq #[] } }) F.called_list (F.typeCall_list_1 _) F.entry_list_init
    (code_list_new _ ⟨rfl,rfl⟩) fun obj s₁ h₁=>?_
  obtain ⟨rfl,rfl⟩:=h₁
  have hS:(s.heap.push { cls:=.type "list",data:=.seq #[] }).get? s.heap.objs.size=some { cls:=.type "list",data:=.seq #[] }:=Heap.get?_push_size _ rfl
  have Ilt:I < s.heap.objs.size:=by obtain ⟨o,e,_⟩:=hit; exact Heap.lt_size e
  have llt:l < s.heap.objs.size:=by obtain ⟨o,e,_⟩:=hl; exact Heap.lt_size e
  refine ⟨⟨_,hS,rfl⟩,F.args_list_init_2 _ _,?_⟩
  show wpAny _ _ (do let old ← Builtin.List.listItems (.ref s.heap.objs.size); Builtin.List.listUpdate (.ref s.heap.objs.size) (fun _=>#[]); letGo old.toList.reverse; Builtin.List.listExtendWith (.ref s.heap.objs.size) (.ref I) .none) _ _ _
  refine wpAny_bind ?_
  unfold Builtin.List.listItems
  refine wpAny_bind (wpAny_seqItems hS rfl (wpAny_pure ?_))
  show wpAny _ _ (updateSeq s.heap.objs.size (fun _=>#[]) >>= fun _=>letGo (#[]:Array Value).toList.reverse >>= fun _=>Builtin.List.listExtendWith (.ref s.heap.objs.size) (.ref I) .none) _ _ _
  refine wpAny_bind (wpAny_updateSeq hS rfl ?_)
  have hS₂:=Heap.get?_update_self (Obj.mapSeq (fun _=>(#[]:Array Value))) hS rfl
  have oth:∀ b o,b ≠ s.heap.objs.size→s.heap.get? b=some o→((s.heap.push { cls:=.type "list",data:=.seq #[] }).update s.heap.objs.size (Obj.mapSeq (fun _=>(#[]:Array Value)))).get? b=some o :=
    fun b o hb e=>(Heap.get?_update_other _ _ (Ne.symm hb)).trans (Heap.get?_push_of_some _ e)
  refine wpAny_bind (wpAny_letGo ?_)
  refine zlo (A:=A.in1) hh hne (Nat.ne_of_gt Ilt) (Nat.ne_of_gt llt) (hit.at fun o e=>oth I o (Nat.ne_of_lt Ilt) e) (hl.at fun o e=>oth l o (Nat.ne_of_lt llt) e) hS₂ hz fun h' tk acc' c' hk hS' hacc=>?_
  exact ⟨rfl,hQ h' tk acc' c' (fun b o hb e=>hk b o (Nat.ne_of_lt (Heap.lt_size e)) hb (oth b o (Nat.ne_of_lt (Heap.lt_size e)) e)) hS' hacc⟩
end
section
variable {X:Cx} {l:Expr} {tl:TE}
def zkm (K:PySem.W.Frag) (tl:TE):TE:=fun σ H Q=>tl σ H fun x H1=>∃ a xs,x = .ref a∧SqL K H1 a xs∧∀ p,H1 p=none→Q (.ref p) (upd H1 p (.lst xs.reverse))
theorem zli {p p' pos pos':Pos} (hc:X.calm=true) (hg:Gl X "list") (hm:X.mg "list"=none) (hg':Gl X "reversed") (hm':X.mg "reversed"=none) (hl:PE X l tl) (hs:starEach [l] X.env = [(false,eval l X.env)]:=by rfl) :
    PE X (.Call (.Name "list" p) [.Call (.Name "reversed" p') [l] [] pos'] [] pos) (zkm X.K tl):=by
  intro pins s σ H Q I h
  refine Call_ (zgi I hg hm boot_list (PyProof.Rows.callWith_type1 ?_ rfl rfl))
  show wpAny _ _ (spliced ((false,eval (.Call (.Name "reversed" p') [l] [] pos') X.env) :: backTo pos (starEach [] X.env))) _ _ s
  refine Calls.spliced_cons ?_
  refine Call_ (zgi I hg' hm' boot_reversed (PyProof.Rows.callWith_type1 ?_ hs rfl))
  rw [hs]
  show wpAny _ _ (spliced ((false,eval l X.env) :: backTo pos' (starEach [] X.env))) _ _ s
  refine Calls.spliced_cons (thn (hl pins s σ H _ I h) fun u s1 ⟨x,H1,I1,r1,q1⟩=>?_)
  refine Calls.spliced_nil ?_
  obtain ⟨a,xs,rfl,hx,q⟩:=q1
  cases r1
  obtain ⟨its,r,ht,hz⟩:=I1.list hx
  have hlen:=r.length
  refine call_reversed_list ht.isList ?_
  refine Calls.spliced_nil ?_
  have alt:a < s1.heap.objs.size:=by obtain ⟨o,e,_⟩:=ht.isList; exact Heap.lt_size e
  refine ziJ (l:=a) (items:=its.toArray) (I1.ok.hd hc) (Nat.ne_of_lt alt) ⟨_,Heap.get?_push_size _ rfl,rfl,rfl⟩ (ht.isList.push _) (by rw [List.size_toArray]; omega) fun h' tk acc' c' hk hS' hacc=>?_
  have ea:acc'=its.reverse.toArray:=by
    have e2:=hacc.2
    have e1:acc'.size=its.length:=by have:=hacc.1; rw [List.size_toArray] at this; exact this
    apply Array.ext'
    apply List.ext_getElem?
    intro i
    by_cases hi:i < its.length
    · have hj:i < acc'.size:=by omega
      have:=e2 i acc'[i] (by rw [Array.getElem?_eq_getElem hj])
      rw [List.size_toArray,List.getElem?_toArray] at this
      rw [Array.getElem?_toList,Array.getElem?_eq_getElem hj,List.getElem?_reverse hi,← this]
    · rw [List.getElem?_eq_none_iff.mpr (by simpa using by omega),List.getElem?_eq_none_iff.mpr (by simpa using by omega)]
  subst ea
  refine ⟨.ref _,_,I1.laid (t':=tk) (o:=.lst xs.reverse) (fun b ob e=>hk b ob (Nat.ne_of_lt (Heap.lt_size e)) (Heap.get?_push_of_some _ e)) ?_ ⟨by rw [List.length_reverse]; exact hz,_,c',r.reverse,hS'⟩,rfl,q _ (I1.hok.fresh ?_)⟩
  · show s1.heap.objs.size ≤ (s1.heap.push _).objs.size
    rw [Heap.size_push]; omega
  · show s1.heap.objs.size ≤ (s1.heap.push _).objs.size
    rw [Heap.size_push]; omega
end
end L2
namespace PM
open PySem L2
section
variable {K:Kx} {XO:XOT} {E:L2.St→XK} {te:TE} {me:En→R D}
def zeT (me:En→R D) (δ:En):R D:=(me δ).bind fun d=>match d with | .lst l=>.ok (.lst l.reverse) | _=>.no
theorem zjM (h:SEr K XO E te me):SEo K XO E (zkm K.f te) (zeT me):=by
  intro Λ F0 H0 F H σ δ Q I a
  refine h Λ F0 H0 F H σ δ _ I (a.bind.imp fun d F1 H1 e1 a1 v r=>?_)
  cases d with
  | lst l =>
    obtain ⟨p,vs,rfl,h1,h2⟩:=r
    refine ⟨p,vs,rfl,.inl h1,fun q hq=>a1 F1 _ (.newO e1.fh hq) q (e1.fh.free hq) (e1.hh.free hq) ⟨_,zaY,RepL.reverse h2⟩⟩
  | _=>exact a1.elim
end
end PM
namespace My
open PySem L2 PM
def zek:Nat→Bool
  | 1=>true
  | 2=>true
  | _=>false
def zdB (c:Nat):Bool:=zek (c % 16)
def ze7:Nat→Bool
  | 1=>false
  | 2=>true
  | _=>false
def zeh (c:Nat):Bool:=ze7 (c % 16)
def zgj:Nat→Option Bool
  | 1=>some true
  | 2=>some false
  | _=>none
def zg3 (c:Nat):Option Bool:=zgj (c % 16)
def zgf:Nat→Option Bool
  | 1=>some false
  | 2=>some false
  | _=>none
def zhg (c:Nat):Option Bool:=zgf (c % 16)
def zf9:Nat→Option Bool
  | 1=>some false
  | 2=>some false
  | _=>none
def zgY (c:Nat):Option Bool:=zf9 (c % 16)
def zg7:Nat→Option Bool
  | 1=>some false
  | 2=>some false
  | _=>none
def zhR (c:Nat):Option Bool:=zg7 (c % 16)
def zhc:Nat→Option Bool
  | 1=>some false
  | 2=>some false
  | _=>none
def zh2 (c:Nat):Option Bool:=zhc (c % 16)
def zeD:Nat→Option Bool
  | 1=>some true
  | 2=>some true
  | _=>none
def ze5 (c:Nat):Option Bool:=zeD (c % 16)
def znu:Nat→Bool
  | _=>false
def zpO (c:Nat):Bool:=znu (c % 16)
def zlB:Nat→Bool
  | _=>false
def zpM (c:Nat):Bool:=zlB (c % 16)
def zew:En→O:=(mRet (m2 oMod (m2 oMul (m2 oAdd (m2 oAdd (m2 oMod (mRd 0) (m2 oPow (mC (.int 10)) (mC (.int 20)))) (m2 oMul (mRd 1) (mRd 1))) (mC (.int 1))) (m2 oAdd (mC (.int 48271)) (m2 oMul (mC (.int 2)) (mRd 1)))) (mC (.int 2147483647))))
def zaN:List D→R D:=runF 2 0 zew
def zgm:En→O:=(mSeq (mAsg (zaj zaN (zaa (mVar 0) (zaa (mVar 1) mNil))) (zap 2))
  (mSeq (mIfS (zal (m2 oEq (m2 oMod (mRd 2) (mC (.int 3))) (mC (.int 0))))
  (mRet (m2 oMod (m2 oDiv (mRd 2) (mC (.int 3))) (mC (.int 4))))
  zaM)
  (mSeq (mIfS (zal (m2 oEq (m2 oMod (mRd 2) (mC (.int 3))) (mC (.int 1))))
  (mRet (m2 oMod (m2 oDiv (mRd 2) (mC (.int 3))) (mC (.int 30))))
  zaM)
  (mRet (m2 oMod (m2 oAdd (m2 oMul (m2 oMod (mRd 0) (m2 oPow (mC (.int 10)) (mC (.int 20)))) (mC (.int 6364136223846793005))) (mRd 2)) (m2 oAdd (m2 oPow (mC (.int 10)) (mC (.int 18))) (mC (.int 1))))))))
def zbw:List D→R D:=runF 2 1 zgm
def zdg:En→O:=(mSeq (mIfS (zal (m2 oLt (mRd 1) (mCB fLen (zaa (mRd 0) mNil))))
  (mRet (m2 oIxL (mRd 0) (mRd 1)))
  zaM)
  (mRet (mC (.int 0))))
def zat:List D→R D:=runF 2 0 zdg
def zg2:En→R D:=zc1 (mItL (mSl (mRd 0) mNoP (zbF (m2 oMod (mRd 1) (mC (.int 7)))))) [] 1 (za0 0) none (m2 oIxT (mRd 0) (mC (.int 1)))
def zh8:En→O:=(mSeq (mIfS (zal (m2 oEq (m2 oMod (mRd 1) (mC (.int 9))) (mC (.int 1))))
  (mRet (mC (.int 0)))
  zaM)
  (mRet (mCB zih (zaa (m2 oPow (mC (.int 10)) (mC (.int 18))) (zaa (m2 oAdd (mCB fSum (zaa zg2 mNil)) (zaj zbw (zaa (mVar 1) (zaa (mC (.int 3)) mNil)))) mNil)))))
def zdo:List D→R D:=runF 2 0 zh8
def zfK:En→O:=(mSeq (mIfS (zal (m2 oEq (mRd 1) (mRd 2)))
  (mRet (mC (.int 0)))
  zaM)
  (mSeq (mAsg (mCB zih (zaa (mRd 1) (zaa (mRd 2) mNil))) (zap 4))
  (mSeq (mAsg (mCB zjd (zaa (mRd 1) (zaa (mRd 2) mNil))) (zap 5))
  (mSeq (mAsg (m2 oAdd (m2 oAdd (m2 oIxT (m2 oIxL (mRd 0) (mRd 4)) (mC (.int 1))) (m2 oMul (mC (.int 7)) (m2 oIxT (m2 oIxL (mRd 0) (mRd 5)) (mC (.int 0))))) (m2 oMul (mRd 4) (mRd 5))) (zap 6))
  (mRet (m2 oAdd (mRd 3) (m2 oMod (mRd 6) (m2 oAdd (mRd 3) (mC (.int 1))))))))))
def zcG:List D→R D:=runF 4 3 zfK
def zer:En→O:=(mSeq (mAsg (zaj zaN (zaa (zaj zat (zaa (mVar 0) (zaa (mVar 4) mNil))) (zaa (m2 oAdd (mRd 4) (mC (.int 300))) mNil))) (zap 5))
  (mSeq (mAsg (m2 oIxL (mLst (zaa (mC (.int 3)) (zaa (mC (.int 50)) (zaa (m2 oPow (mC (.int 10)) (mC (.int 8))) (zaa (m2 oPow (mC (.int 10)) (mC (.int 17))) mNil))))) (m2 oMod (mRd 5) (mC (.int 4)))) (zap 6))
  (zc6 3 (mTup (zaa (m2 oMod (m2 oMul (m2 oDiv (mRd 5) (mC (.int 4))) (mC (.int 48271))) (mRd 6)) (zaa (m2 oMod (m2 oMul (m2 oMod (m2 oMul (m2 oDiv (mRd 5) (mC (.int 4))) (mC (.int 69621))) (mC (.int 2147483629))) (mC (.int 40692))) (mRd 6)) mNil))))))
def zfa:En→O:=mFor (mRng (zaa (mVar 1) mNil)) (zap 4) zer
def ze3:En→R D:=zc1 (mRng (zaa (mVar 2) mNil)) [0,3,1] 1 (za0 3) none (ziS zcG (zaa (mRd 0) (zaa (mVar 1) (zaa (mVar 3) (zaa (mVar 2) mNil)))))
def zdT:En→R D:=zc1 (mRng (zaa (mVar 1) mNil)) [3,7,1] 1 (za0 3) none ze3
def ze1:En→R D:=zc1 (mItL (mRd 0)) [1] 1 (za0 1) none (m2 oAdd (mCB fAbs (zaa (m2 oSub (m2 oIxT (mRd 0) (mC (.int 0))) (m2 oIxT (mRd 1) (mC (.int 0)))) mNil)) (mCB fAbs (zaa (m2 oSub (m2 oIxT (mRd 0) (mC (.int 1))) (m2 oIxT (mRd 1) (mC (.int 1)))) mNil)))
def ze6:En→R D:=zc1 (mItL (mRd 3)) [3] 1 (za0 1) none ze1
def zfo:En→O:=(mSeq (mAsg (mLst mNil) (bNew 3))
  (mSeq zfa
  (mSeq (mIfS (zal (m2 oEq (m2 oMod (mRd 2) (mC (.int 3))) (mC (.int 0))))
  (mSeq (mAsg (m2 oAdd (mC (.int 1)) (m2 oIxT (m2 oIxL (mRd 3) (mC (.int 0))) (mC (.int 0)))) (zap 7))
  (zen zdT))
  zaM)
  (zen ze6))))
def zbP:List D→R D:=runO 3 5 zfo
def zda:En→R D:=zc1 (zhO (zaa (mRd 1) mNil)) [0] 2 (bTup 2 (zcu (za0 1) (zcu (za0 2) bNil))) (some (zal (m2 oLe (m2 oIxT (mRd 2) (mC (.int 1))) (mRd 0)))) (mVar 1)
def zet:En→O:=(zen zda)
def zbj:List D→R D:=runO 2 0 zet
def zcW:En→R Bool:=(zal (m2 oGt (mRd 3) (mC (.int 0))))
def zcQ:En→O:=(mSeq (mAsg (m2 oMod (mRd 2) (mRd 3)) (zap 4))
  (mSeq (mAsg (mVar 3) (zap 2))
  (mAsg (mVar 4) (zap 3))))
def zel:En→O:=zfw zcW zcQ
def zdu:En→O:=(mSeq (mAsg (mCB fAbs (zaa (mRd 0) mNil)) (zap 2))
  (mSeq (mAsg (mCB fAbs (zaa (mRd 1) mNil)) (zap 3))
  (mSeq zel
  (mRet (mVar 2)))))
def zca:List D→R D:=runF 2 3 zdu
def zkf:En→O:=(mSeq (mIfS (zal (m2 oEq (mRd 1) (mC (.int 0))))
  (zhj 1 (zaa (mC (.str "no fraction has nought for its bottom")) mNil))
  zaM)
  (mSeq (mAsg (zaj zca (zaa (mVar 0) (zaa (mVar 1) mNil))) (zap 2))
  (mSeq (mIfS (zal (m2 oLt (mRd 1) (mC (.int 0))))
  (mAsg (m1 oNeg (mRd 2)) (zap 2))
  zaM)
  (mRet (mTup (zaa (m2 oDiv (mRd 0) (mRd 2)) (zaa (m2 oDiv (mRd 1) (mRd 2)) mNil)))))))
def zc8:List D→R D:=runF 2 1 zkf
def zjr:En→O:=(mRet (zbf zc8 (zaa (m2 oIxT (mRd 0) (mC (.int 0))) (zaa (m2 oIxT (mRd 0) (mC (.int 1))) mNil))))
def zcY:List D→R D:=runF 1 0 zjr
def zmr:En→O:=(mRet (m2 oLt (m2 oMul (m2 oIxT (mRd 0) (mC (.int 0))) (m2 oIxT (mRd 1) (mC (.int 1)))) (m2 oMul (m2 oIxT (mRd 1) (mC (.int 0))) (m2 oIxT (mRd 0) (mC (.int 1))))))
def zc4:List D→R D:=runF 2 0 zmr
def zd7:En→R Bool:=(mAnd (zal (m2 oGt (mRd 4) (mC (.int 0)))) (zal (zaj zc4 (zaa (zbf zcY (zaa (m2 oIxL (mRd 1) (m2 oIxL (mRd 2) (m2 oSub (mRd 4) (mC (.int 1))))) mNil)) (zaa (zbf zcY (zaa (m2 oIxL (mRd 1) (mRd 3)) mNil)) mNil)))))
def zfc:En→O:=(mAug (fun i j=>i - j) 4 (mC (.int 1)))
def zh1:En→O:=zfw zd7 zfc
def zhd:En→O:=(mSeq (mAsg (mCB fLen (zaa (mRd 2) mNil)) (zap 4))
  (mSeq zh1
  (zhq 2 (mVar 4) (mVar 3))))
def zhY:En→O:=mFor (mItL (zaj zbj (zaa (mVar 0) (zaa (mVar 1) mNil)))) (zap 3) zhd
def zjF:En→O:=(mSeq (mAsg (mLst mNil) (bNew 2))
  (mSeq zhY
  (zns 2)))
def zeJ:List D→R D:=runO 2 3 zjF
def zeX:En→O:=(mIfS (zal (m2 oLe (m2 oIxT (m2 oIxL (mRd 1) (mRd 5)) (mC (.int 1))) (mRd 2)))
  (mSeq (mAug (fun i j=>i - j) 2 (m2 oIxT (m2 oIxL (mRd 1) (mRd 5)) (mC (.int 1))))
  (zc6 3 (mVar 5)))
  (zc6 4 (mVar 5)))
def ziN:En→O:=mFor (mItL (zbf zeJ (zaa (mVar 0) (zaa (mVar 1) mNil)))) (zap 5) zeX
def zkv:En→O:=(mSeq (mAsg (mVar 0) (zap 2))
  (mSeq (mAsg (mLst mNil) (bNew 3))
  (mSeq (mAsg (mLst mNil) (bNew 4))
  (mSeq ziN
  (mFrz 3 (mFrz 4 (mRet (mTup (zaa (mVar 3) (zaa (mVar 4) mNil))))))))))
def zcp:List D→R D:=runF 2 4 zkv
def zeu:En→R D:=zc1 (mItL (mRd 2)) [1] 1 (za0 1) none (m2 oIxT (m2 oIxL (mRd 0) (mRd 1)) (mC (.int 0)))
def zdh:En→O:=(mIfS (zal (m2 oGt (m2 oIxT (m2 oIxL (mRd 1) (mRd 5)) (mC (.int 0))) (mRd 3)))
  (mSeq (mAsg (mVar 5) (zap 4))
  (mAsg (m2 oIxT (m2 oIxL (mRd 1) (mRd 5)) (mC (.int 0))) (zap 3)))
  zaM)
def zf5:En→O:=mFor (mItL (zaj zbj (zaa (mVar 0) (zaa (mVar 1) mNil)))) (zap 5) zdh
def zgO:En→O:=(mSeq (mAsg (m2 oIxT (zbf zcp (zaa (mVar 0) (zaa (mVar 1) mNil))) (mC (.int 0))) (zap 2))
  (mSeq (mAsg (mCB fSum (zaa zeu mNil)) (zap 3))
  (mSeq (mAsg (mC .non) (zap 4))
  (mSeq zf5
  (mSeq (mIfS (zal (m2 oIs (mRd 4) (mC .non)))
  (zen (mCB zfl (zaa (mRd 2) mNil)))
  zaM)
  (zen (mLst (zaa (mVar 4) mNil))))))))
def zcv:List D→R D:=runO 2 4 zgO
def zh6:En→O:=(mSeq (mAsg (m2 oIxT (zbf zcp (zaa (mVar 0) (zaa (mVar 1) mNil))) (mC (.int 1))) (zap 2))
  (mSeq (mIfS (zal (m2 oEq (mCB fLen (zaa (mRd 2) mNil)) (mC (.int 0))))
  (mRet (mTup (zaa (mC (.int 0)) (zaa (mC (.int 1)) mNil))))
  zaM)
  (mRet (zbf zcY (zaa (m2 oIxL (mRd 1) (m2 oIxL (mRd 2) (mC (.int 0)))) mNil)))))
def zdn:List D→R D:=runF 2 1 zh6
def zfM:En→O:=(mSeq (mAsg (m2 oMod (m2 oDiv (mRd 1) (mC (.int 8))) (m2 oAdd (mCB fLen (zaa (mRd 0) mNil)) (mC (.int 1)))) (zap 3))
  (mSeq (mAsg (m2 oIxL (mLst (zaa (mVar 2) (zaa (m1 oNeg (mC (.int 1))) (zaa (m2 oMod (m2 oDiv (mRd 1) (mC (.int 64))) (mRd 2)) (zaa (mC (.int 0)) mNil))))) (m2 oMod (m2 oDiv (mRd 1) (mC (.int 4096))) (mC (.int 4)))) (zap 4))
  (mSeq (mIfS (mAnd (zal (m2 oEq (m2 oMod (m2 oDiv (mRd 1) (mC (.int 4096))) (mC (.int 4))) (mC (.int 3)))) (zal (m2 oNeD (mRd 0) (mLst mNil))))
  (mAsg (m2 oIxL (mRd 0) (m2 oMod (m2 oDiv (mRd 1) (mC (.int 64))) (mCB fLen (zaa (mRd 0) mNil)))) (zap 4))
  zaM)
  (mSeq (mIfS (zal (m2 oEq (m2 oMod (mRd 1) (mC (.int 8))) (mC (.int 0))))
  (mRet (m2 oCat (m2 oCat (mSl (mRd 0) mNoP (zbF (mVar 3))) (mLst (zaa (mVar 4) mNil))) (mSl (mRd 0) (zbF (mVar 3)) mNoP)))
  zaM)
  (mSeq (mIfS (zal (m2 oEq (m2 oMod (mRd 1) (mC (.int 8))) (mC (.int 1))))
  (mRet (m2 oCat (mSl (mRd 0) mNoP (zbF (mVar 3))) (mSl (mRd 0) (zbF (m2 oAdd (mRd 3) (mC (.int 1)))) mNoP)))
  zaM)
  (mSeq (mIfS (zal (m2 oLt (m2 oMod (mRd 1) (mC (.int 8))) (mC (.int 5))))
  (mRet (m2 oCat (m2 oCat (mSl (mRd 0) mNoP (zbF (mVar 3))) (mLst (zaa (mVar 4) mNil))) (mSl (mRd 0) (zbF (m2 oAdd (mRd 3) (mC (.int 1)))) mNoP)))
  zaM)
  (mRet (m2 oIxL (mLst (zaa (mVar 0) (zaa (zeT (mRd 0)) mNil))) (m2 oMod (m2 oDiv (mRd 1) (mC (.int 8))) (mC (.int 2)))))))))))
def zbd:List D→R D:=runF 3 2 zfM
def zdE:En→R Bool:=(zal (m2 oGt (mRd 1) (mC (.int 0))))
def zdt:En→O:=(mPar 0 1 (zaa (mVar 1) (zaa (m2 oMod (mRd 0) (mRd 1)) mNil)))
def ze2:En→O:=zfw zdE zdt
def zfG:En→O:=(mSeq ze2
  (mRet (mVar 0)))
def zch:List D→R D:=runF 2 0 zfG
def zd8:En→O:=(mSeq (mPar 1 2 (zaa (m2 oAdd (m2 oMul (mRd 1) (mRd 4)) (m2 oMul (mRd 3) (mRd 2))) (zaa (m2 oMul (mRd 2) (mRd 4)) mNil)))
  (mSeq (mAsg (zaj zch (zaa (mCB fAbs (zaa (mRd 1) mNil)) (zaa (mVar 2) mNil))) (zap 5))
  (mPar 1 2 (zaa (m2 oDiv (mRd 1) (mRd 5)) (zaa (m2 oDiv (mRd 2) (mRd 5)) mNil)))))
def zid:En→O:=mFor (mItL (mVar 0)) (bTup 2 (zcu (zap 3) (zcu (zap 4) bNil))) zd8
def zi5:En→O:=(mSeq (mAsg (mTup (zaa (mC (.int 0)) (zaa (mC (.int 1)) mNil))) (bTup 2 (zcu (zap 1) (zcu (zap 2) bNil))))
  (mSeq zid
  (mRet (mTup (zaa (mVar 1) (zaa (mVar 2) mNil))))))
def zbN:List D→R D:=runF 1 5 zi5
def zdw:En→O:=(mSeq (mAsg (m2 oMod (mRd 1) (mC (.int 6))) (zap 3))
  (mSeq (mAsg (mTup (zaa (m2 oAdd (mC (.int 1)) (m2 oMod (m2 oDiv (mRd 1) (mC (.int 6))) (mC (.int 1000)))) (zaa (m2 oAdd (mC (.int 1)) (m2 oMod (m2 oDiv (mRd 1) (mC (.int 6000))) (mC (.int 1000003)))) mNil))) (zap 4))
  (mSeq (mIfS (zal (m2 oEq (mRd 3) (mC (.int 0))))
  (mRet (zaj zbN (zaa (mLst (zaa (mVar 0) (zaa (mVar 4) mNil))) mNil)))
  zaM)
  (mSeq (mIfS (zal (m2 oEq (mRd 3) (mC (.int 1))))
  (mRet (zaj zbN (zaa (mLst (zaa (mVar 0) (zaa (mTup (zaa (m2 oSub (mC (.int 0)) (m2 oIxT (mRd 4) (mC (.int 0)))) (zaa (m2 oIxT (mRd 4) (mC (.int 1))) mNil))) mNil))) mNil)))
  zaM)
  (mSeq (mIfS (zal (m2 oEq (mRd 3) (mC (.int 2))))
  (mRet (mTup (zaa (mC (.int 0)) (zaa (mC (.int 1)) mNil))))
  zaM)
  (mSeq (mIfS (mAnd (zal (m2 oEq (mRd 3) (mC (.int 3)))) (zal (m2 oNeD (mRd 2) (mLst mNil))))
  (mRet (zaj zbN (zaa (mLst (zaa (m2 oIxL (mRd 2) (m2 oMod (m2 oDiv (mRd 1) (mC (.int 6))) (mCB fLen (zaa (mRd 2) mNil)))) mNil)) mNil)))
  zaM)
  (mRet (mVar 0))))))))
def za1:List D→R D:=runF 3 2 zdw
def zgc:En→R D:=zc1 (mItL (mRd 0)) [1] 1 (za0 1) none (zjG oLe oLt (mC (.int 0)) (mRd 1) (mRd 0))
def zhr:En→O:=(mRet (mCB fAll (zaa zgc mNil)))
def zcS:List D→R D:=runF 2 0 zhr
def ze4:En→O:=(mRet (zhP (zaj zcS (zaa (mVar 0) (zaa (mVar 1) mNil))) (m2 oEq (mCB zev (zaa (mRd 0) mNil)) (mCB fLen (zaa (mRd 0) mNil)))))
def zaX:List D→R D:=runF 2 0 ze4
def zm5:En→O:=(mRet (zbf zc8 (zaa (m2 oMul (m2 oIxT (mRd 0) (mC (.int 0))) (m2 oIxT (mRd 1) (mC (.int 0)))) (zaa (m2 oMul (m2 oIxT (mRd 0) (mC (.int 1))) (m2 oIxT (mRd 1) (mC (.int 1)))) mNil))))
def zeN:List D→R D:=runF 2 0 zm5
def zmo:En→O:=(mRet (zbf zc8 (zaa (m2 oSub (m2 oMul (m2 oIxT (mRd 0) (mC (.int 0))) (m2 oIxT (mRd 1) (mC (.int 1)))) (m2 oMul (m2 oIxT (mRd 1) (mC (.int 0))) (m2 oIxT (mRd 0) (mC (.int 1))))) (zaa (m2 oMul (m2 oIxT (mRd 0) (mC (.int 1))) (m2 oIxT (mRd 1) (mC (.int 1)))) mNil))))
def zfU:List D→R D:=runF 2 0 zmo
def znS:En→O:=(mRet (zbf zc8 (zaa (m2 oAdd (m2 oMul (m2 oIxT (mRd 0) (mC (.int 0))) (m2 oIxT (mRd 1) (mC (.int 1)))) (m2 oMul (m2 oIxT (mRd 1) (mC (.int 0))) (m2 oIxT (mRd 0) (mC (.int 1))))) (zaa (m2 oMul (m2 oIxT (mRd 0) (mC (.int 1))) (m2 oIxT (mRd 1) (mC (.int 1)))) mNil))))
def zi1:List D→R D:=runF 2 0 znS
def zgh:En→O:=(mSeq (mAsg (zbf zfU (zaa (mTup (zaa (m2 oIxT (m2 oIxL (mRd 1) (mRd 4)) (mC (.int 0))) (zaa (mC (.int 1)) mNil))) (zaa (zbf zeN (zaa (mVar 2) (zaa (mTup (zaa (m2 oIxT (m2 oIxL (mRd 1) (mRd 4)) (mC (.int 1))) (zaa (mC (.int 1)) mNil))) mNil))) mNil))) (zap 5))
  (mIfS (zal (zaj zc4 (zaa (mTup (zaa (mC (.int 0)) (zaa (mC (.int 1)) mNil))) (zaa (mVar 5) mNil))))
  (mAsg (zbf zi1 (zaa (mVar 3) (zaa (mVar 5) mNil))) (zap 3))
  zaM))
def zhe:En→O:=mFor (mItL (zaj zbj (zaa (mVar 0) (zaa (mVar 1) mNil)))) (zap 4) zgh
def zhT:En→O:=(mSeq (mAsg (zbf zeN (zaa (mVar 2) (zaa (mTup (zaa (mVar 0) (zaa (mC (.int 1)) mNil))) mNil))) (zap 3))
  (mSeq zhe
  (mRet (mVar 3))))
def zb3:List D→R D:=runF 3 3 zhT
def zdi:En→R D:=zc1 (mItL (mRd 2)) [1] 1 (za0 1) none (m2 oIxT (m2 oIxL (mRd 0) (mRd 1)) (mC (.int 1)))
def zee:En→R D:=zc1 (mItL (mRd 2)) [1] 1 (za0 1) none (m2 oIxT (m2 oIxL (mRd 0) (mRd 1)) (mC (.int 0)))
def zge:En→O:=(mSeq (mIfS (mNot (zal (zaj zaX (zaa (mVar 2) (zaa (mCB fLen (zaa (mRd 1) mNil)) mNil)))))
  (mRet (mC (.str "taken")))
  zaM)
  (mSeq (mIfS (zal (m2 oGt (mCB fSum (zaa zdi mNil)) (mRd 0)))
  (mRet (mC (.str "full")))
  zaM)
  (mSeq (mIfS (zal (m2 oLt (m2 oIxT (mRd 3) (mC (.int 0))) (mC (.int 0))))
  (mRet (mC (.str "price")))
  zaM)
  (mSeq (mAsg (mCB fSum (zaa zee mNil)) (zap 4))
  (mSeq (mIfS (zal (zaj zc4 (zaa (mTup (zaa (m2 oMul (mC (.int 2)) (mRd 4)) (zaa (mC (.int 1)) mNil))) (zaa (zbf zb3 (zaa (mVar 0) (zaa (mVar 1) (zaa (mVar 3) mNil)))) mNil))))
  (mRet (mC (.str "share")))
  zaM)
  (mRet (mC .non)))))))
def zcy:List D→R D:=runF 4 1 zge
def zbG:En→O:=(mSeq (mIfS (mOr (zal (m2 oLt (mRd 3) (mC (.int 0)))) (mOr (zal (m2 oGe (mRd 3) (mRd 1))) (zal (m2 oIn (mRd 3) (mRd 2)))))
  (mRet (mC (.bl false)))
  zaM)
  (zc6 2 (mVar 3)))
def zfL:En→O:=mFor (mItL (mVar 0)) (zap 3) zbG
def zgl:En→O:=(mSeq (mAsg (mLst mNil) (bNew 2))
  (mSeq zfL
  (mRet (mC (.bl true)))))
def za9:List D→R D:=runF 2 2 zgl
def zco:En→R D:=zc1 (mItL (mRd 2)) [1] 1 (za0 1) none (m2 oIxT (m2 oIxL (mRd 0) (mRd 1)) (mC (.int 1)))
def zcV:En→O:=(mIfS (mAnd (zal (m2 oLe (mRd 6) (mRd 0))) (zal (m2 oGt (m2 oMul (mRd 5) (m2 oIxT (mRd 3) (mC (.int 1)))) (m2 oMul (m2 oIxT (mRd 3) (mC (.int 0))) (mRd 6)))))
  (mAsg (m2 oSub (m2 oAdd (mRd 4) (m2 oMul (mRd 5) (m2 oIxT (mRd 3) (mC (.int 1))))) (m2 oMul (m2 oIxT (mRd 3) (mC (.int 0))) (mRd 6))) (zap 4))
  zaM)
def zem:En→O:=mFor (mItL (mVar 1)) (bTup 2 (zcu (zap 5) (zcu (zap 6) bNil))) zcV
def zcr:En→R D:=zc1 (mItL (mRd 2)) [1] 1 (za0 1) none (m2 oIxT (m2 oIxL (mRd 0) (mRd 1)) (mC (.int 0)))
def zex:En→O:=(mSeq (mIfS (mNot (zal (zaj za9 (zaa (mVar 2) (zaa (mCB fLen (zaa (mRd 1) mNil)) mNil)))))
  (mRet (mC (.str "taken")))
  zaM)
  (mSeq (mIfS (zal (m2 oGt (mCB fSum (zaa zco mNil)) (mRd 0)))
  (mRet (mC (.str "full")))
  zaM)
  (mSeq (mIfS (zal (m2 oLt (m2 oIxT (mRd 3) (mC (.int 0))) (mC (.int 0))))
  (mRet (mC (.str "price")))
  zaM)
  (mSeq (mAsg (m2 oMul (m2 oIxT (mRd 3) (mC (.int 0))) (mRd 0)) (zap 4))
  (mSeq zem
  (mSeq (mIfS (zal (m2 oLt (m2 oMul (m2 oMul (mC (.int 2)) (mCB fSum (zaa zcr mNil))) (m2 oIxT (mRd 3) (mC (.int 1)))) (mRd 4)))
  (mRet (mC (.str "share")))
  zaM)
  (mRet (mC .non))))))))
def zcf:List D→R D:=runF 4 3 zex
def zh0:En→O:=(mSeq (mIfS (zal (m2 oIs (mRd 1) (mC .non)))
  (mRet (m2 oIs (mRd 0) (mC .non)))
  zaM)
  (mRet (zhP (m1 (oIsi "str") (mRd 0)) (m2 oEq (mRd 0) (mRd 1)))))
def zcP:List D→R D:=runF 2 0 zh0
def zh9:En→O:=(mSeq (mAsg (zaj zcv (zaa (mVar 0) (zaa (mVar 1) mNil))) (zap 3))
  (mSeq (mAsg (zaj zdn (zaa (mVar 0) (zaa (mVar 1) mNil))) (zap 4))
  (mSeq (mIfS (zal (m2 oGt (m2 oMod (mRd 2) (mC (.int 3))) (mC (.int 0))))
  (mAsg (zaj zbd (zaa (mVar 3) (zaa (m2 oDiv (mRd 2) (mC (.int 3))) (zaa (mCB zjd (zaa (mC (.int 1)) (zaa (mCB fLen (zaa (mRd 1) mNil)) mNil))) mNil)))) (zap 3))
  zaM)
  (mSeq (mIfS (zal (m2 oNe (m2 oMod (mRd 2) (mC (.int 3))) (mC (.int 1))))
  (mAsg (zaj za1 (zaa (mVar 4) (zaa (zaj zaN (zaa (mVar 2) (zaa (mC (.int 8)) mNil))) (zaa (mVar 1) mNil)))) (zap 4))
  zaM)
  (mSeq (mAsg (mTup (zaa (mCB zd3 (zaa (mRd 1) mNil)) (zaa (mCB zd3 (zaa (mRd 3) mNil)) mNil))) (zap 5))
  (mSeq (mAsg (zaj zcy (zaa (mVar 0) (zaa (m2 oIxT (mRd 5) (mC (.int 0))) (zaa (m2 oIxT (mRd 5) (mC (.int 1))) (zaa (mVar 4) mNil))))) (zap 6))
  (mSeq (mIfS (zal (m2 oNeD (mRd 5) (mTup (zaa (mVar 1) (zaa (mVar 3) mNil)))))
  (mRet (mC (.bl false)))
  zaM)
  (mRet (zaj zcP (zaa (mVar 6) (zaa (zaj zcf (zaa (mVar 0) (zaa (mVar 1) (zaa (mVar 3) (zaa (mVar 4) mNil))))) mNil)))))))))))
def zcO:List D→R D:=runF 3 4 zh9
def zbY:En→O:=(mIfS (zal (m2 oNe (m2 oIxL (m2 oIxL (mRd 0) (mRd 2)) (mRd 2)) (mC (.int 0))))
  (zhj 2 (zaa (mC (.str "a place is away from itself")) mNil))
  zaM)
def zeS:En→O:=mFor (mRng (zaa (mVar 1) mNil)) (zap 2) zbY
def zbV:En→O:=(mIfS (zal (m2 oNe (m2 oIxL (m2 oIxL (mRd 0) (mRd 2)) (mRd 3)) (m2 oIxL (m2 oIxL (mRd 0) (mRd 3)) (mRd 2))))
  (zhj 2 (zaa (mC (.str "two places have two unlike lengths")) mNil))
  zaM)
def zlv:En→O:=mFor (mRng (zaa (mVar 2) mNil)) (zap 3) zbV
def zdI:En→O:=zlv
def zeU:En→O:=mFor (mRng (zaa (mVar 1) mNil)) (zap 2) zdI
def zbU:En→O:=(mIfS (zal (m2 oLt (m2 oAdd (m2 oIxL (m2 oIxL (mRd 0) (mRd 2)) (mRd 3)) (m2 oIxL (m2 oIxL (mRd 0) (mRd 3)) (mRd 4))) (m2 oIxL (m2 oIxL (mRd 0) (mRd 2)) (mRd 4))))
  (zhj 2 (zaa (mC (.str "a way by a third place is shorter than the straight one")) mNil))
  zaM)
def zlf:En→O:=mFor (mRng (zaa (mVar 1) mNil)) (zap 4) zbU
def zdy:En→O:=zlf
def zk1:En→O:=mFor (mRng (zaa (mVar 1) mNil)) (zap 3) zdy
def zdq:En→O:=zk1
def zeW:En→O:=mFor (mRng (zaa (mVar 1) mNil)) (zap 2) zdq
def zg6:En→O:=(mSeq (mAsg (mCB fLen (zaa (mRd 0) mNil)) (zap 1))
  (mSeq zeS
  (mSeq zeU
  zeW)))
def zbs:List D→R D:=runF 1 4 zg6
def zia:En→R D:=zc1 (mItL (mRd 2)) [0,1] 1 (za0 2) none (m2 oIxL (m2 oIxL (mRd 0) (mRd 1)) (mRd 2))
def ziZ:En→O:=(mRet (mCB (zep minI) (zaa zia mNil)))
def zce:List D→R D:=runF 3 0 ziZ
def zcd:En→O:=(mIfS (zal (m2 zg1 (mRd 4) (mRd 1)))
  (mSeq (mAsg (zaj zce (zaa (mVar 0) (zaa (mVar 4) (zaa (mVar 1) mNil)))) (zap 5))
  (mIfS (mOr (zal (m2 oIs (mRd 3) (mC .non))) (zal (m2 oGt (mRd 5) (mRd 3))))
  (mSeq (mAsg (mVar 4) (zap 2))
  (mAsg (mVar 5) (zap 3)))
  zaM))
  zaM)
def zhw:En→O:=mFor (mRng (zaa (mCB fLen (zaa (mRd 0) mNil)) mNil)) (zap 4) zcd
def zif:En→O:=(mSeq (mAsg (mC .non) (zap 2))
  (mSeq (mAsg (mC .non) (zap 3))
  (mSeq zhw
  (mRet (mVar 2)))))
def zcU:List D→R D:=runF 2 4 zif
def zf2:En→R Bool:=(zal (m2 oLt (mCB fLen (zaa (mRd 2) mNil)) (mRd 1)))
def zhU:En→O:=(zc6 2 (ziS zcU (zaa (mVar 0) (zaa (mRd 2) mNil))))
def zi0:En→O:=zfw zf2 zhU
def zkP:En→O:=(mSeq (mAsg (mLst (zaa (mC (.int 0)) mNil)) (bNew 2))
  (mSeq zi0
  (zns 2)))
def zdN:List D→R D:=runO 2 1 zkP
def zeM:En→O:=(mSeq (mDo (zbf zbs (zaa (mVar 0) mNil)))
  (zen (zaj zdN (zaa (mVar 0) (zaa (mVar 1) mNil)))))
def zbI:List D→R D:=runO 2 0 zeM
def zhl:En→O:=(mSeq (mDo (zbf zbs (zaa (mVar 0) mNil)))
  (zen (zaj zdN (zaa (mVar 0) (zaa (mCB zih (zaa (m2 oAdd (mRd 1) (mC (.int 1))) (zaa (mCB fLen (zaa (mRd 0) mNil)) mNil))) mNil)))))
def zcT:List D→R D:=runO 2 0 zhl
def zkt:En→R D:=zc1 (mRng (zaa (mCB fLen (zaa (mRd 0) mNil)) mNil)) [0,1] 1 (za0 2) none (zaj zce (zaa (mVar 0) (zaa (mVar 2) (zaa (mVar 1) mNil))))
def zmw:En→O:=(mRet (mCB (zep maxI) (zaa zkt mNil)))
def zfk:List D→R D:=runF 2 0 zmw
def ze8:En→R D:=zc1 (mRng (zaa (m2 oSub (mCB fLen (zaa (mRd 1) mNil)) (mC (.int 1))) mNil)) [0,1] 1 (za0 2) none (zaj zce (zaa (mVar 0) (zaa (m2 oIxL (mRd 1) (mRd 2)) (zaa (mSl (mRd 1) (zbF (m2 oAdd (mRd 2) (mC (.int 1)))) mNoP) mNil))))
def zfr:En→O:=(mRet (mCB (zep minI) (zaa ze8 mNil)))
def zbQ:List D→R D:=runF 2 0 zfr
def zdX:En→O:=(mSeq (mDo (zbf zbs (zaa (mVar 0) mNil)))
  (mSeq (mAsg (mCB fLen (zaa (mRd 0) mNil)) (zap 4))
  (mSeq (mIfS (mOr (zal (m2 oNe (mCB fLen (zaa (mRd 2) mNil)) (mRd 1))) (mNot (zal (zaj zaX (zaa (mVar 2) (zaa (mVar 4) mNil))))))
  (mRet (mC (.str "chosen")))
  zaM)
  (mSeq (mIfS (zal (m2 oLe (mRd 4) (mRd 1)))
  (mRet (mC .non))
  zaM)
  (mSeq (mIfS (mOr (zal (m2 oNe (mCB fLen (zaa (mRd 3) mNil)) (m2 oAdd (mRd 1) (mC (.int 1))))) (mNot (zal (zaj zaX (zaa (mVar 3) (zaa (mVar 4) mNil))))))
  (mRet (mC (.str "far")))
  zaM)
  (mSeq (mIfS (zal (m2 oGt (zaj zfk (zaa (mVar 0) (zaa (mVar 2) mNil))) (zaj zbQ (zaa (mVar 0) (zaa (mVar 3) mNil)))))
  (mRet (mC (.str "share")))
  zaM)
  (mRet (mC .non))))))))
def zaV:List D→R D:=runF 4 1 zdX
def zcA:En→R D:=zc1 (mItL (mRd 0)) [1] 1 (za0 1) none (m2 oIxL (mRd 0) (mRd 1))
def zcJ:En→R D:=zc1 (mItL (mRd 0)) [2] 1 (za0 1) none (mCB (zep minI) (zaa zcA mNil))
def zbA:En→O:=(mIfS (zal (m2 oGt (mRd 5) (m2 oIxL (m2 oIxL (mRd 0) (mRd 7)) (mRd 8))))
  (mRet (mC (.str "share")))
  zaM)
def zfs:En→O:=mFor (mItL (mSl (mRd 3) mNoP (zbF (mVar 6)))) (zap 8) zbA
def zbX:En→O:=zfs
def zdO:En→O:=mFor (zhO (zaa (mVar 3) mNil)) (bTup 2 (zcu (zap 6) (zcu (zap 7) bNil))) zbX
def zdY:En→O:=(mSeq (mAsg (mCB fLen (zaa (mRd 0) mNil)) (zap 4))
  (mSeq (mIfS (mOr (zal (m2 oNe (mCB fLen (zaa (mRd 2) mNil)) (mRd 1))) (mNot (zal (zaj za9 (zaa (mVar 2) (zaa (mVar 4) mNil))))))
  (mRet (mC (.str "chosen")))
  zaM)
  (mSeq (mIfS (zal (m2 oEq (mRd 1) (mRd 4)))
  (mRet (mC .non))
  zaM)
  (mSeq (mIfS (mOr (zal (m2 oNe (mCB fLen (zaa (mRd 3) mNil)) (m2 oAdd (mRd 1) (mC (.int 1))))) (mNot (zal (zaj za9 (zaa (mVar 3) (zaa (mVar 4) mNil))))))
  (mRet (mC (.str "far")))
  zaM)
  (mSeq (mAsg (mCB (zep maxI) (zaa zcJ mNil)) (zap 5))
  (mSeq zdO
  (mRet (mC .non))))))))
def zbJ:List D→R D:=runF 4 5 zdY
def zeb:En→R D:=zc1 (mItL (mRd 0)) [] 1 (za0 0) none (mCB zd3 (zaa (mRd 0) mNil))
def zga:En→O:=(mSeq (mAsg (zaj zbI (zaa (mVar 0) (zaa (mVar 1) mNil))) (zap 3))
  (mSeq (mAsg (zaj zcT (zaa (mVar 0) (zaa (mVar 1) mNil))) (zap 4))
  (mSeq (mIfS (zal (m2 oGt (m2 oMod (mRd 2) (mC (.int 3))) (mC (.int 0))))
  (mAsg (zaj zbd (zaa (mVar 3) (zaa (m2 oDiv (mRd 2) (mC (.int 3))) (zaa (mCB fLen (zaa (mRd 0) mNil)) mNil)))) (zap 3))
  zaM)
  (mSeq (mIfS (zal (m2 oNe (m2 oMod (mRd 2) (mC (.int 3))) (mC (.int 1))))
  (mAsg (zaj zbd (zaa (mVar 4) (zaa (zaj zaN (zaa (mVar 2) (zaa (mC (.int 9)) mNil))) (zaa (mCB fLen (zaa (mRd 0) mNil)) mNil)))) (zap 4))
  zaM)
  (mSeq (mAsg (mTup (zaa (mCB zd3 (zaa (mRd 3) mNil)) (zaa (mCB zd3 (zaa (mRd 4) mNil)) (zaa zeb mNil)))) (zap 5))
  (mSeq (mAsg (zaj zaV (zaa (m2 oIxT (mRd 5) (mC (.int 2))) (zaa (mVar 1) (zaa (m2 oIxT (mRd 5) (mC (.int 0))) (zaa (m2 oIxT (mRd 5) (mC (.int 1))) mNil))))) (zap 6))
  (mSeq (mIfS (zal (m2 oNeD (mRd 5) (mTup (zaa (mVar 3) (zaa (mVar 4) (zaa (mVar 0) mNil))))))
  (mRet (mC (.bl false)))
  zaM)
  (mRet (zaj zcP (zaa (mVar 6) (zaa (zaj zbJ (zaa (mVar 0) (zaa (mVar 1) (zaa (mVar 3) (zaa (mVar 4) mNil))))) mNil)))))))))))
def zcb:List D→R D:=runF 3 4 zga
def zdm:En→R (List (List Int)):=zmq (mItL (mRd 0)) [] 1 (za0 0) (mCB zd3 (zaa (mRd 0) mNil))
def zdk:En→R D:=zc1 (mItL (mRd 0)) [] 1 (za0 0) none (mCB (zep maxI) (zaa (mRd 0) mNil))
def zf7:En→O:=(mSeq (mAsg (mCB fLen (zaa (mRd 0) mNil)) (zap 2))
  (mSeq (znJ zdm 3)
  (mSeq (mAsg (m2 oMod (m2 oDiv (mRd 1) (mC (.int 3))) (mRd 2)) (zap 4))
  (mSeq (mAsg (m2 oMod (m2 oDiv (mRd 1) (mC (.int 30))) (mRd 2)) (zap 5))
  (mSeq (mIfS (zal (m2 oEq (mRd 4) (mRd 5)))
  (zgs 3 (mVar 4) (mVar 4) (m2 oAdd (mC (.int 1)) (m2 oMod (m2 oDiv (mRd 1) (mC (.int 300))) (mC (.int 9)))))
  (mIfS (mOr (zal (m2 oEq (m2 oMod (mRd 1) (mC (.int 3))) (mC (.int 0)))) (zal (m2 oEq (mRd 2) (mC (.int 2)))))
  (zgs 3 (mVar 4) (mVar 5) (zk0 (m2 oAdd (m2 oIxL (m2 oIxL (mRd 3) (mRd 4)) (mRd 5)) (mC (.int 1)))))
  (mSeq (mAsg (m2 oAdd (m2 oMul (mC (.int 3)) (mCB (zep maxI) (zaa zdk mNil))) (mC (.int 1))) (zap 6))
  (mSeq (zgs 3 (mVar 4) (mVar 5) (mVar 6))
  (zgs 3 (mVar 5) (mVar 4) (mVar 6))))))
  (zoz 3))))))
def zbO:List D→R D:=runO 2 5 zf7
def zft:En→O:=(mSeq (mAsg (mC .non) (zap 3))
  (mSeq (mTry (mDo (zbf zaV (zaa (mVar 0) (zaa (mVar 1) (zaa (mVar 2) (zaa (mLst mNil) mNil)))))) zeh 4 (mAsg (mVar 4) (zap 3)))
  (mSeq (mIfS (mOr (zal (m2 oIs (mRd 3) (mC .non))) (mOr (mNot (zal (m1 (zjn ze5) (mRd 3)))) (zal (m1 (zjn zg3) (mRd 3)))))
  (mRet (mC (.bl false)))
  zaM)
  (mSeq (mIfS (mOr (zal (m1 (zjn zhg) (mRd 3))) (zal (m1 (zjn zgY) (mRd 3))))
  (mRet (mC (.bl false)))
  zaM)
  (mRet (zhP (zoA (m1 (zjn zhR) (mRd 3))) (zoA (m1 (zjn zh2) (mRd 3)))))))))
def zbW:List D→R D:=runF 3 2 zft
def zdd:En→O:=(mSeq (zmZ (mDo (zbf zaV (zaa (mVar 0) (zaa (mVar 1) (zaa (mLst mNil) (zaa (mLst mNil) mNil)))))) zdB (mRet (mC (.bl true))))
  (mRet (mC (.bl false))))
def za8:List D→R D:=runF 2 0 zdd
def zl1:En→R D:=zc1 (zhO (zaa (mRd 1) mNil)) [] 2 (bTup 2 (zcu (za0 0) (zcu (za0 1) bNil))) none (m2 oAdd (mC (.int 1)) (m2 oMod (zaj zbw (zaa (mVar 1) (zaa (mVar 0) mNil))) (m2 oPow (mC (.int 10)) (mC (.int 18)))))
def zlG:En→R D:=zc1 (zhO (zaa (mRd 1) mNil)) [2] 2 (bTup 2 (zcu (za0 1) (zcu (za0 2) bNil))) none (mTup (zaa (zaj zbw (zaa (mVar 2) (zaa (m2 oAdd (mRd 1) (mC (.int 40))) mNil))) (zaa (m2 oIxL (mRd 0) (mRd 1)) mNil)))
def zmh:En→O:=(mSeq (mAsg (zaj zaN (zaa (m2 oAdd (zaj zat (zaa (mVar 0) (zaa (mVar 8) mNil))) (zaj zat (zaa (mVar 0) (zaa (mC (.int 6)) mNil)))) (zaa (m2 oMul (mC (.int 3)) (mRd 8)) mNil))) (zap 9))
  (mIfS (mOr (mNot (zal (zaj zcO (zaa (mVar 4) (zaa (mVar 3) (zaa (mVar 9) mNil)))))) (mNot (zal (zaj zcb (zaa (mVar 6) (zaa (mVar 7) (zaa (m2 oDiv (mRd 9) (mC (.int 5))) mNil)))))))
  (mRet (mC (.bl false)))
  zaM))
def zn5:En→O:=mFor (mRng (zaa (mC (.int 3)) (zaa (mC (.int 6)) mNil))) (zap 8) zmh
def zpz:En→O:=(mSeq (mAsg (mSl (mRd 0) (zbF (mC (.int 7))) (zbF (mC (.int 27)))) (zap 1))
  (mSeq (mAsg zl1 (zap 2))
  (mSeq (mAsg zlG (zap 3))
  (mSeq (mAsg (zaj zdo (zaa (mVar 3) (zaa (m2 oMod (zaj zat (zaa (mVar 0) (zaa (mC (.int 1)) mNil))) (m2 oPow (mC (.int 10)) (mC (.int 20)))) mNil))) (zap 4))
  (mSeq (mAsg (m2 oAdd (mC (.int 1)) (m2 oMod (zaj zat (zaa (mVar 0) (zaa (mC (.int 0)) mNil))) (mC (.int 8)))) (zap 5))
  (mSeq (mAsg (zaj zbP (zaa (mSl (mRd 0) (zbF (mC (.int 7))) mNoP) (zaa (mVar 5) (zaa (m2 oDiv (zaj zat (zaa (mVar 0) (zaa (mC (.int 0)) mNil))) (mC (.int 8))) mNil)))) (zap 6))
  (mSeq (mAsg (m2 oAdd (mC (.int 1)) (m2 oMod (zaj zat (zaa (mVar 0) (zaa (mC (.int 2)) mNil))) (mRd 5))) (zap 7))
  (mSeq zn5
  (mSeq (mIfS (zal (m2 oEq (m2 oMod (zaj zat (zaa (mVar 0) (zaa (mC (.int 6)) mNil))) (mC (.int 6))) (mC (.int 1))))
  (mSeq (mAsg (zaj zbO (zaa (mVar 6) (zaa (zaj zaN (zaa (zaj zat (zaa (mVar 0) (zaa (mC (.int 6)) mNil))) (zaa (mC (.int 4)) mNil))) mNil))) (zap 10))
  (mRet (zhP (zaj zbW (zaa (mVar 10) (zaa (mVar 7) (zaa (mLst (zaa (mC (.int 0)) (zaa (mC (.int 0)) mNil))) mNil)))) (zaj za8 (zaa (mVar 10) (zaa (mVar 7) mNil))))))
  zaM)
  (mRet (mC (.bl true))))))))))))
def zpj:List D→R D:=runF 1 10 zpz
end My
namespace My
open PySem L2 PM
abbrev Fr:=Int × Int
def encF (f:Fr):D:=.tup [.int f.1,.int f.2]
def lo1 (t b:Int):Int:=t / (Int.gcd t b:Int)
def lo2 (t b:Int):Int:=b / (Int.gcd t b:Int)
theorem zc7 {t b:Int} (h:0 < b):(0:Int) < Int.gcd t b:=by
  have:0 < Int.gcd t b:=Int.gcd_pos_of_ne_zero_right _ (by omega)
  omega
theorem zes {t b:Int}:lo1 t b * (Int.gcd t b:Int)=t:=Int.ediv_mul_cancel (Int.gcd_dvd_left ..)
theorem zdF {t b:Int}:lo2 t b * (Int.gcd t b:Int)=b:=Int.ediv_mul_cancel (Int.gcd_dvd_right ..)
theorem zgV {t b:Int} (h:0 < b):0 < lo2 t b:=by
  have h1:=zc7 (t:=t) h
  have h2:=zdF (t:=t) (b:=b)
  rcases Int.lt_trichotomy (lo2 t b) 0 with z | z | z
  · have:=Int.mul_neg_of_neg_of_pos z h1; omega
  · rw [z] at h2; omega
  · exact z
theorem zpP {a b c d:Int} (hb:0 < b) (hd:0 < d):lo1 a b * lo2 c d < lo1 c d * lo2 a b ↔ a * d < c * b:=by
  have g1:=zc7 (t:=a) hb
  have g2:=zc7 (t:=c) hd
  have e:a * d - c * b=(lo1 a b * lo2 c d - lo1 c d * lo2 a b) * ((Int.gcd a b:Int) * (Int.gcd c d:Int)):=by
    have e1:=zes (t:=a) (b:=b)
    have e2:=zdF (t:=a) (b:=b)
    have e3:=zes (t:=c) (b:=d)
    have e4:=zdF (t:=c) (b:=d)
    generalize (Int.gcd a b:Int)=g at *
    generalize (Int.gcd c d:Int)=h at *
    generalize lo1 a b=x1 at *
    generalize lo2 a b=x2 at *
    generalize lo1 c d=x3 at *
    generalize lo2 c d=x4 at *
    subst e1 e2 e3 e4
    grind
  have hg:0 < (Int.gcd a b:Int) * (Int.gcd c d:Int):=Int.mul_pos g1 g2
  generalize (Int.gcd a b:Int) * (Int.gcd c d:Int)=g at *
  constructor
  · intro h
    have:=Int.mul_neg_of_neg_of_pos (show lo1 a b * lo2 c d - lo1 c d * lo2 a b < 0 by omega) hg
    omega
  · intro h
    rcases Int.lt_or_le (lo1 a b * lo2 c d) (lo1 c d * lo2 a b) with z | z
    · exact z
    · have:=Int.mul_nonneg (show 0 ≤ lo1 a b * lo2 c d - lo1 c d * lo2 a b by omega) (Int.le_of_lt hg)
      omega
theorem zeG {t b:Int} (h:0 < b):(lo1 t b).natAbs ≤ t.natAbs:=by
  have h1:=zc7 (t:=t) h
  have e:=zes (t:=t) (b:=b)
  have:t.natAbs=(lo1 t b).natAbs * (Int.gcd t b):=by
    conv=>lhs; rw [← e]
    rw [Int.natAbs_mul]; simp
  rw [this]
  exact Nat.le_mul_of_pos_right _ (by omega)
theorem zeC {t b:Int} (h:0 < b):(lo2 t b).natAbs ≤ b.natAbs:=by
  have h1:=zc7 (t:=t) h
  have e:=zdF (t:=t) (b:=b)
  have:b.natAbs=(lo2 t b).natAbs * (Int.gcd t b):=by
    conv=>lhs; rw [← e]
    rw [Int.natAbs_mul]; simp
  rw [this]
  exact Nat.le_mul_of_pos_right _ (by omega)
theorem zgv (a b:Int):zca [.int a,.int b] = .ok (.int (Int.gcd a b)):=by
  have ab:∀ z:Int,(if z < 0 then -z else z)=(z.natAbs:Int):=fun z=>by split <;> omega
  let env:Nat × Nat × Option D→En:=fun p=>[.v (.int a),.v (.int b),.v (.int p.1),.v (.int p.2.1),sv p.2.2]
  obtain ⟨⟨x,y,r⟩,h1,h2,h3,_⟩:=zfy (c:=zcW) (m:=zcQ) env (fun p=>decide (0 < p.2.1)) (fun p=>(p.2.1,p.1 % p.2.1,some (.int ((p.1 % p.2.1:Nat):Int)))) (fun p=>Nat.gcd p.1 p.2.1=Int.gcd a b) (fun p=>p.2.1)
    (fun p _=>by simp [env,zcW,zal,mRd,mC]) (fun p hp hg=>by
      have hy:0 < p.2.1:=by simpa using hg
      refine ⟨?_,?_,Nat.mod_lt _ hy⟩
      · have e:oMod (.int (p.1:Int)) (.int (p.2.1:Int))=some (.int ((p.1 % p.2.1:Nat):Int)):=by rw [za6 (by omega)]; simp
        have b4:∀ d,zap 4 d (env p)=some ((env p).set 4 (.v d)):=fun d=>zaS rfl
        simp only [zcQ,mSeq,mAsg,zbZ,show mRd 2 (env p) = .ok (.int p.1) from rfl,show mRd 3 (env p) = .ok (.int p.2.1) from rfl,R.bind_ok,e,R.of_some,R.toO_ok,b4,O.of_some]
        rfl
      · rw [Nat.gcd_comm,← hp,Nat.gcd_comm p.1,Nat.gcd_rec p.2.1 p.1]) (a.natAbs,b.natAbs,none) rfl
  have y0:y=0:=by simpa using h2
  subst y0
  have ex:(x:Int)=Int.gcd a b:=by
    have:Nat.gcd x 0=Int.gcd a b:=h1
    rw [Nat.gcd_zero_right] at this
    omega
  refine za3 ?_
  have e3:zel [.v (.int a),.v (.int b),.v (.int a.natAbs),.v (.int b.natAbs),.no] = .nx [.v (.int a),.v (.int b),.v (.int x),.v (.int 0),sv r]:=h3
  simp [zdu,zcZ,mSeq,mAsg,mCB,zaa,mNil,mRd,fAbs,ab,zap,e3,mRet,mVar,ex]
theorem zgF {t b:Int} (hb:0 < b) (h1:b.natAbs ≤ 10 ^ 1000):zc8 [.int t,.int b] = .ok (.tup [.int (lo1 t b),.int (lo2 t b)]):=by
  have g:=zc7 (t:=t) hb
  have gl:Int.gcd t b ≤ b.natAbs:=Nat.le_of_dvd (by omega) (by
    have:=Int.gcd_dvd_right (a:=t) (b:=b)
    exact Int.natAbs_dvd_natAbs.mpr (by simpa using this))
  have f:Fit (Int.gcd t b:Int):=fitN (10 ^ 1000) (by rw [Int.natAbs_natCast]; omega)
  have c:=zgv t b
  have nb:¬ b=0:=by omega
  have nl:¬ b < 0:=by omega
  simp [zc8,runF,zcZ,zkf,mSeq,mIfS,zal,mRd,mC,nb,zaM,mAsg,zaj,zaa,mNil,mVar,c,zap,nl,mRet,mTup,zcx g f,sizeLine,lo1,lo2]
theorem zj7 {a b c d:Int} (fa:Fit a) (fb:Fit b) (fc:Fit c) (fd:Fit d):zc4 [.tup [.int a,.int b],.tup [.int c,.int d]] = .ok (.bl (decide (a * d < c * b))):=by
  simp [zc4,runF,zcZ,zmr,mRet,mRd,mC,zbv fa fd,zbv fc fb]
end My
namespace My
open PySem L2 PM
def upt (n:Nat):List Int:=(List.range n).map fun (k:Nat)=>(k:Int)
theorem mem_upt {n:Nat} {t:Int}:t ∈ upt n ↔ 0 ≤ t∧t < (n:Int):=by
  unfold upt
  rw [List.mem_map]
  constructor
  · rintro ⟨a,h,rfl⟩
    have:=List.mem_range.mp h
    omega
  · rintro ⟨h0,h1⟩
    exact ⟨t.toNat,List.mem_range.mpr (by omega),by omega⟩
theorem zbn {n:Nat}:(upt n).length=n:=by simp [upt]
theorem zi8 (n:Nat):(upt n).Nodup:=List.Pairwise.map _ (fun a b h e=>h (Int.ofNat.inj e)) List.nodup_range
theorem rngT {n:Nat} (h:n ≤ 1000):rng [.int (n:Int)]=some ((upt n).map .int):=by
  rw [rng1 (by omega) (by omega),Int.toNat_natCast,zol,upt,List.map_map]; rfl
def gA (L:List Int) (i:Int):Int:=L.getD i.toNat 0
theorem zn2 {L:List Int} {i:Int} (h:i.toNat < L.length):L[i.toNat]?=some (gA L i):=by simp [gA,List.getD_eq_getElem?_getD,h]
theorem zmt {α:Type} {f g:α→Int}:∀ {l:List α},(∀ x ∈ l,f x ≤ g x)→(l.map f).sum ≤ (l.map g).sum
  | [],_=>by simp
  | a :: l,h=>by
    have h1:=h a (by simp)
    have h2:=zmt (f:=f) (g:=g) (l:=l) fun x hx=>h x (by simp [hx])
    simp only [List.map_cons,List.sum_cons]; omega
theorem zkp {α:Type}:∀ {l:List α},(l.map fun _=>(0:Int)).sum=0
  | []=>by simp
  | a :: l=>by simp [zkp (l:=l)]
theorem zjA {α:Type} {c:Int}:∀ {l:List α},(l.map fun _=>c).sum=(l.length:Int) * c
  | []=>by simp
  | a :: l=>by
    rw [List.map_cons,List.sum_cons,zjA (l:=l),List.length_cons,Int.natCast_add,Int.add_mul]
    omega
theorem zm3 {α:Type} {f:D→R (Option D)} (enc:α→D) (p:α→Bool) (g:α→D) (l:List α) (h:∀ x ∈ l,f (enc x) = .ok (if p x=true then some (g x) else none)):zdJ f (l.map enc) = .ok ((l.filter p).map g):=by
  induction l with
  | nil=>rfl
  | cons a l ih =>
    have h1:=h a (by simp)
    have h2:=ih fun x hx=>h x (by simp [hx])
    rw [List.map_cons,zdJ,h1,R.bind_ok,h2,R.bind_ok]
    by_cases e:p a=true
    · simp [e]
    · simp [e]
theorem zmL (ns:List Int):fSum [iL ns]=some (.int ns.sum):=by simp [fSum,iL,zcE]
theorem zlZ {L:List Int} {k:Int} (h0:0 ≤ k) (h1:k.toNat < L.length):oIxL (iL L) (.int k)=some (.int (gA L k)) :=
  zdM h0 (by simp [zn2 h1])
theorem zeR {i:Nat} {me:En→R D} {δ:En} {L:List Int} {y:Int} (h:δ[i]?=some (.o (iL L))) (hy:me δ = .ok (.int y)) (hl:L.length ≤ 100000):zc6 i me δ = .nx (δ.set i (.o (iL (L ++ [y])))):=by
  unfold zc6
  rw [h]
  simp only [iL,hy,R.toO_ok]
  rw [zbr (by rw [List.length_map]; exact Nat.lt_of_le_of_lt hl (by decide))]
  simp
theorem zkN {α:Type} {f:α→Int} {l r:List α} (h:l.Perm r):(l.map f).sum=(r.map f).sum:=by
  induction h with
  | nil=>rfl
  | cons x _ ih=>simp only [List.map_cons,List.sum_cons,ih]
  | swap x y l=>simp only [List.map_cons,List.sum_cons]; omega
  | trans _ _ h1 h2=>exact h1.trans h2
theorem zkQ {α:Type} {f:α→Int} {l:List α} (h:∀ x ∈ l,0 ≤ f x):0 ≤ (l.map f).sum:=by
  have:=zmt (f:=fun _=>(0:Int)) (g:=f) (l:=l) h
  rw [zkp] at this; exact this
theorem zmQ {α:Type} {f:α→Int} {l:List α} {c:Int} (h:∀ x ∈ l,f x ≤ c):(l.map f).sum ≤ (l.length:Int) * c:=by
  have:=zmt (f:=f) (g:=fun _=>c) (l:=l) h
  rw [zjA] at this; exact this
end My
namespace My
open PySem L2 PM
theorem p20:oPow (.int 10) (.int 20)=some (.int 100000000000000000000):=zkF ⟨by decide,by decide,by decide⟩
theorem p18:oPow (.int 10) (.int 18)=some (.int 1000000000000000000):=zkF ⟨by decide,by decide,by decide⟩
theorem zd2 (ns:List Int) (k:Nat):zat [.scr ns,.int k] = .ok (.int (ns.getD k 0)):=by
  by_cases h:k < ns.length
  · have e:oIxL (.scr ns) (.int (k:Int))=some (.int (ns.getD k 0)):=by
      show (atI ns (k:Int)).map D.int=_
      rw [atI_nat (d:=ns.getD k 0) (by simp [h,List.getD_eq_getElem?_getD])]; rfl
    simp [zat,runF,zcZ,zdg,mSeq,mIfS,zal,mRet,mRd,mC,mCB,zaa,mNil,fLen,h,e]
  · have e:ns.getD k 0=0:=by simp [List.getD_eq_getElem?_getD,List.getElem?_eq_none_iff.mpr (Nat.le_of_not_lt h)]
    rw [e]
    simp [zat,runF,zcZ,zdg,mSeq,mIfS,zal,mRet,mRd,mC,mCB,zaa,mNil,fLen,h,zaM]
theorem zm4 (ns:List Int) {k:Int} (h:0 ≤ k):zat [.scr ns,.int k] = .ok (.int (ns.getD k.toNat 0)):=by
  have:=zd2 ns k.toNat
  rwa [show ((k.toNat:Nat):Int)=k by omega] at this
theorem zct {m n:En→O} {δ:En} {d:D} (h:m δ = .rt d):mSeq m n δ = .rt d:=by unfold mSeq; rw [h]
theorem zkh {i:Nat} {me:En→R D} {δ:En} {l:List D} {d:D} (h:δ[i]?=some (.o (.lst l))) (hy:me δ = .ok d) (hl:l.length ≤ 100000):zc6 i me δ = .nx (δ.set i (.o (.lst (l ++ [d])))):=by
  unfold zc6
  rw [h]
  simp only [hy,R.toO_ok]
  rw [zbr (Nat.lt_of_le_of_lt hl (by decide))]
theorem zcH (a:Int) {b:Int} (h:0 < b):0 ≤ a % b:=Int.emod_nonneg _ (by omega)
theorem zdf (a:Int) {b:Int} (h:0 < b):a % b < b:=Int.emod_lt_of_pos _ h
end My
namespace My
open PySem L2 PM
def okU (l:List Int) (c:Int):Bool:=decide ((∀ q ∈ l,0 ≤ q∧q < c)∧l.Nodup)
theorem znO {l:List Int}:(uniq l).length=l.length ↔ l.Nodup:=by
  have key:∀ (l acc:List Int),acc.Nodup→(l.foldl PyProof.Rows.step_dedup acc).length ≤ acc.length + l.length∧((l.foldl PyProof.Rows.step_dedup acc).length=acc.length + l.length ↔ (acc ++ l).Nodup):=by
    intro l
    induction l with
    | nil=>intro acc h; exact ⟨Nat.le_refl _,by simpa using h⟩
    | cons a l ih =>
      intro acc h
      by_cases ha:a ∈ acc
      · have e:PyProof.Rows.step_dedup acc a=acc:=by simp [PyProof.Rows.step_dedup,ha]
        rw [List.foldl_cons,e]
        obtain ⟨h1,_⟩:=ih acc h
        refine ⟨by simp; omega,fun z=>?_,fun z=>?_⟩
        · simp at z; omega
        · rw [List.nodup_append] at z
          exact absurd rfl (z.2.2 a ha a (by simp))
      · have e:PyProof.Rows.step_dedup acc a=acc ++ [a]:=by simp [PyProof.Rows.step_dedup,ha]
        rw [List.foldl_cons,e]
        have nd:(acc ++ [a]).Nodup:=by
          rw [List.nodup_append]
          exact ⟨h,by simp,fun x hx y hy exy=>ha (by rw [← List.mem_singleton.mp hy,← exy]; exact hx)⟩
        obtain ⟨h1,h2⟩:=ih (acc ++ [a]) nd
        rw [List.length_append] at h1 h2
        have ea:acc ++ a :: l=acc ++ [a] ++ l:=by simp
        refine ⟨by simp at h1 ⊢; omega,?_⟩
        rw [ea,← h2]
        simp only [List.length_cons,List.length_nil]
        omega
  have:=(key l [] (by simp)).2
  simpa [uniq] using this
theorem zjv {l:List Int} {c:Int} (hl:l.length ≤ 1000):zcS [iL l,.int c] = .ok (.bl (decide (∀ q ∈ l,0 ≤ q∧q < c))):=by
  have k:zgc [.v (iL l),.v (.int c)] = .ok (.lst ((l.map fun q=>decide (0 ≤ q∧q < c)).map .bl)):=by
    refine zbC (l:=l.map .int) (by simp [mItL,mRd]) (by rw [List.length_map]; omega) ?_
    rw [List.map_map]
    refine zbg .int _ _ fun q _=>?_
    have e:za2 [.v (iL l),.v (.int c)] [1] 1 = [.v (.int c),.no]:=rfl
    rw [e]
    by_cases h0:0 ≤ q
    · by_cases h1:q < c
      · simp [zcX,za0,zjG,mC,mRd,h0,h1]
      · simp [zcX,za0,zjG,mC,mRd,h0,h1]
    · simp [zcX,za0,zjG,mC,mRd,h0]
  have fa:fAll [.lst ((l.map fun q=>decide (0 ≤ q∧q < c)).map .bl)]=some (.bl (decide (∀ q ∈ l,0 ≤ q∧q < c))):=by
    simp only [fAll,znj,Option.map_some]
    congr 2
    rw [List.all_map]
    apply Bool.eq_iff_iff.mpr
    simp
  refine za3 ?_
  show mRet _ [.v (iL l),.v (.int c)]=_
  simp only [mRet,mCB,zaa,mNil,k,R.bind_ok,fa,R.of_some]; rfl
theorem zdA {l:List Int} {c:Int} (hl:l.length ≤ 1000):zaX [iL l,.int c] = .ok (.bl (okU l c)):=by
  have ls:zev [iL l]=some (.int (uniq l).length):=by
    unfold zev iL
    simp only [zcE,Option.bind]
    rw [zbr (by omega)]
  have ab:=zjv (c:=c) hl
  refine za3 ?_
  show mRet _ [.v (iL l),.v (.int c)]=_
  have a1:zaj zcS (zaa (mVar 0) (zaa (mVar 1) mNil)) [.v (iL l),.v (.int c)] = .ok (.bl (decide (∀ q ∈ l,0 ≤ q∧q < c))):=by simp [zaj,zaa,mNil,mVar,ab]
  have a2:m2 oEq (mCB zev (zaa (mRd 0) mNil)) (mCB fLen (zaa (mRd 0) mNil)) [.v (iL l),.v (.int c)] = .ok (.bl (decide (l.Nodup))):=by
    simp only [zbZ,mCB,zaa,mNil,mRd,List.getElem?_cons_zero,R.bind_ok,ls,zjY,R.of_some]
    have:oEq (.int ((uniq l).length:Int)) (.int (l.length:Int))=some (.bl (decide (((uniq l).length:Int)=l.length))):=by simp
    rw [this,R.of_some]
    congr 2
    apply decide_eq_decide.mpr
    rw [← znO]
    omega
  unfold okU
  by_cases c1:∀ q ∈ l,0 ≤ q∧q < c
  · rw [decide_eq_true c1] at a1
    have e:decide ((∀ q ∈ l,0 ≤ q∧q < c)∧l.Nodup)=decide l.Nodup:=decide_eq_decide.mpr ⟨fun z=>z.2,fun z=>⟨c1,z⟩⟩
    rw [e]
    simp only [mRet,zhP,a1,a2,R.bind_ok]; rfl
  · rw [decide_eq_false c1] at a1
    simp only [mRet,zhP,a1,R.bind_ok]
    rw [decide_eq_false (fun z=>c1 z.1)]; rfl
theorem zej {l:List Int} {c:Int} (hl:l.length ≤ 1000):za9 [iL l,.int c] = .ok (.bl (okU l c)):=by
  obtain ⟨A,eA⟩:∃ A,A=iL l:=⟨_,rfl⟩
  have key:∀ (post pre:List Int) (o3:Option D),l=pre ++ post→(∀ q ∈ pre,0 ≤ q∧q < c)→pre.Nodup →
      (okU l c=true→∃ p3:Option D,zcm (zap 3) zbG (post.map .int) [.v A,.v (.int c),.o (iL pre),sv o3] = .nx [.v A,.v (.int c),.o (iL l),sv p3]) ∧
      (okU l c=false→zcm (zap 3) zbG (post.map .int) [.v A,.v (.int c),.o (iL pre),sv o3] = .rt (.bl false)):=by
    intro post
    induction post with
    | nil =>
      intro pre o3 e hr hn
      rw [List.append_nil] at e
      subst e
      refine ⟨fun _=>⟨o3,rfl⟩,fun z=>?_⟩
      have:okU l c=true:=decide_eq_true ⟨hr,hn⟩
      rw [this] at z; cases z
    | cons q post ih =>
      intro pre o3 e hr hn
      have pl:pre.length ≤ 1000:=by
        have:=congrArg List.length e
        simp only [List.length_append,List.length_cons] at this
        omega
      rw [List.map_cons]
      unfold zcm
      have b1:zap 3 (.int q) [.v A,.v (.int c),.o (iL pre),sv o3]=some [.v A,.v (.int c),.o (iL pre),.v (.int q)]:=zaS rfl
      rw [b1]
      by_cases bad:q < 0∨c ≤ q∨q ∈ pre
      · have bd:zbG [.v A,.v (.int c),.o (iL pre),.v (.int q)] = .rt (.bl false):=by
          unfold zbG mSeq
          rw [za5]
          · rfl
          · by_cases c1:q < 0
            · simp [mOr,zal,mRd,mC,c1]
            · by_cases c2:c ≤ q
              · simp [mOr,zal,mRd,mC,c1,c2]
              · have c3:q ∈ pre:=by rcases bad with z | z | z; exact absurd z c1; exact absurd z c2; exact z
                simp [mOr,zal,mRd,mC,c1,c2,oIn,iL,zcE,c3]
        simp only [bd]
        refine ⟨fun z=>?_,fun _=>trivial⟩
        exfalso
        obtain ⟨z1,z2⟩:=of_decide_eq_true z
        have qm:=z1 q (by rw [e]; simp)
        rcases bad with w | w | w
        · omega
        · omega
        · rw [e,List.nodup_append] at z2
          exact z2.2.2 q w q (by simp) rfl
      · have c1:¬ q < 0:=fun z=>bad (.inl z)
        have c2:¬ c ≤ q:=fun z=>bad (.inr (.inl z))
        have c3:q ∉ pre:=fun z=>bad (.inr (.inr z))
        have bd:zbG [.v A,.v (.int c),.o (iL pre),.v (.int q)] = .nx [.v A,.v (.int c),.o (iL (pre ++ [q])),.v (.int q)]:=by
          have q1:mIfS (mOr (zal (m2 oLt (mRd 3) (mC (.int 0)))) (mOr (zal (m2 oGe (mRd 3) (mRd 1))) (zal (m2 oIn (mRd 3) (mRd 2))))) (mRet (mC (.bl false))) zaM [.v A,.v (.int c),.o (iL pre),.v (.int q)] = .nx [.v A,.v (.int c),.o (iL pre),.v (.int q)]:=by
            rw [zaZ (by simp [mOr,zal,mRd,mC,c1,c2,oIn,iL,zcE,c3])]; rfl
          exact (zam q1).trans (zeR (i:=2) (L:=pre) (y:=q) rfl rfl (by omega))
        simp only [bd]
        exact ih (pre ++ [q]) (some (.int q)) (by rw [e]; simp) (fun x hx=>by
          rcases List.mem_append.mp hx with z | z
          · exact hr x z
          · rw [List.mem_singleton.mp z]; omega) (by
          rw [List.nodup_append]
          exact ⟨hn,by simp,fun x hx y hy exy=>c3 (by rw [← List.mem_singleton.mp hy,← exy]; exact hx)⟩)
  obtain ⟨k1,k2⟩:=key l [] none rfl (fun _ h=>by cases h) (by simp)
  refine za3 ?_
  rw [← eA]
  show mSeq _ _ [.v A,.v (.int c),.no,.no]=_
  have q1:mAsg (mLst mNil) (bNew 2) [.v A,.v (.int c),.no,.no] = .nx [.v A,.v (.int c),.o (iL []),sv none]:=zaC (d:=iL []) (by simp [mLst,mNil,iL,sizeLine]) rfl
  have f:zfL [.v A,.v (.int c),.o (iL []),sv none]=zcm (zap 3) zbG (l.map .int) [.v A,.v (.int c),.o (iL []),sv none]:=zcR (by rw [eA]; rfl)
  refine (zam q1).trans ?_
  cases z:okU l c with
  | true =>
    obtain ⟨p3,h⟩:=k1 z
    exact (zam (f.trans h)).trans rfl
  | false =>
    have h:=k2 z
    unfold mSeq
    rw [f,h]
end My
namespace My
open PySem L2 PM
theorem zfQ {i:Nat} {δ:En} {l:List Int} {ml mh:En→R (Option Int)} {lo hi:Option Int} (h:δ[i]?=some (.v (iL l))) (h1:ml δ = .ok lo) (h2:mh δ = .ok hi):∃ cs:List Int,mSl (mRd i) ml mh δ = .ok (iL cs)∧cs.length ≤ l.length:=by
  obtain ⟨cs,e,hl⟩:=zik l lo hi
  refine ⟨cs,?_,hl⟩
  simp only [mSl,mRd,h,R.bind_ok,h1,h2,zmG,R.of_some,e]
  rfl
theorem ziP (l r:List Int) (h:l.length + r.length ≤ 100000):oCat (iL l) (iL r)=some (iL (l ++ r)):=by
  unfold oCat iL
  simp only
  rw [zbr (by rw [List.length_map,List.length_map]; exact Nat.le_trans h (by decide)),List.map_append]
theorem zf3 {l:List Int} {x c:Int} (hl:l.length ≤ 1000) (x0:0 ≤ x) (c0:0 < c):∃ l':List Int,zbd [iL l,.int x,.int c] = .ok (iL l')∧l'.length ≤ 2 * l.length + 1:=by
  have f8:Fit 8:=fitN 100 (by decide)
  have f64:Fit 64:=fitN 100 (by decide)
  have f4096:Fit 4096:=fitN 10000 (by decide)
  obtain ⟨A,eA⟩:∃ A,A=iL l:=⟨_,rfl⟩
  have lA:fLen [A]=some (.int l.length):=by rw [eA]; exact zjY l
  obtain ⟨t,et⟩:∃ t:Int,t=x / 8 % ((l.length:Int) + 1):=⟨_,rfl⟩
  have q1:mAsg (m2 oMod (m2 oDiv (mRd 1) (mC (.int 8))) (m2 oAdd (mCB fLen (zaa (mRd 0) mNil)) (mC (.int 1)))) (zap 3) [.v A,.v (.int x),.v (.int c),.no,.no] = .nx [.v A,.v (.int x),.v (.int c),.v (.int t),.no]:=by
    refine zaC (d:=.int t) ?_ rfl
    have:(0:Int) < (l.length:Int) + 1:=by omega
    simp [mRd,mC,mCB,zaa,mNil,lA,zcx (show (0:Int) < 8 by decide) f8,za6 this,et]
  obtain ⟨m4,e4,m0,m1'⟩:∃ m4:Int,m4=x / 4096 % 4∧0 ≤ m4∧m4 < 4:=⟨_,rfl,Int.emod_nonneg _ (by decide),Int.emod_lt_of_pos _ (by decide)⟩
  have v4:∀ s3 s4:Sl,m2 oMod (m2 oDiv (mRd 1) (mC (.int 4096))) (mC (.int 4)) [.v A,.v (.int x),.v (.int c),s3,s4] = .ok (.int m4):=fun s3 s4=>by
    simp [mRd,mC,zcx (show (0:Int) < 4096 by decide) f4096,za6 (show (0:Int) < 4 by decide),e4]
  obtain ⟨o1,q2⟩:∃ o1:Int,mAsg (m2 oIxL (mLst (zaa (mVar 2) (zaa (m1 oNeg (mC (.int 1))) (zaa (m2 oMod (m2 oDiv (mRd 1) (mC (.int 64))) (mRd 2)) (zaa (mC (.int 0)) mNil))))) (m2 oMod (m2 oDiv (mRd 1) (mC (.int 4096))) (mC (.int 4)))) (zap 4) [.v A,.v (.int x),.v (.int c),.v (.int t),.no] = .nx [.v A,.v (.int x),.v (.int c),.v (.int t),.v (.int o1)]:=by
    have l4:mLst (zaa (mVar 2) (zaa (m1 oNeg (mC (.int 1))) (zaa (m2 oMod (m2 oDiv (mRd 1) (mC (.int 64))) (mRd 2)) (zaa (mC (.int 0)) mNil)))) [.v A,.v (.int x),.v (.int c),.v (.int t),.no] = .ok (.lst [.int c,.int (-1),.int (x / 64 % c),.int 0]):=by
      simp [mLst,zaa,mNil,mVar,mC,mRd,zcx (show (0:Int) < 64 by decide) f64,za6 c0,sizeLine]
    obtain ⟨o1,ho⟩:∃ o1,oIxL (.lst [.int c,.int (-1),.int (x / 64 % c),.int 0]) (.int m4)=some (.int o1):=by
      rcases (show m4=0∨m4=1∨m4=2∨m4=3 by omega) with e | e | e | e <;> rw [e]
      · exact ⟨c,zdM (by decide) rfl⟩
      · exact ⟨-1,zdM (by decide) rfl⟩
      · exact ⟨_,zdM (by decide) rfl⟩
      · exact ⟨0,zdM (by decide) rfl⟩
    exact ⟨o1,zaC (d:=.int o1) (by simp only [zbZ] at v4 ⊢; simp only [l4,R.bind_ok,v4,ho,R.of_some]) rfl⟩
  obtain ⟨o,q3⟩:∃ o:Int,mIfS (mAnd (zal (m2 oEq (m2 oMod (m2 oDiv (mRd 1) (mC (.int 4096))) (mC (.int 4))) (mC (.int 3)))) (zal (m2 oNeD (mRd 0) (mLst mNil)))) (mAsg (m2 oIxL (mRd 0) (m2 oMod (m2 oDiv (mRd 1) (mC (.int 64))) (mCB fLen (zaa (mRd 0) mNil)))) (zap 4)) zaM [.v A,.v (.int x),.v (.int c),.v (.int t),.v (.int o1)] = .nx [.v A,.v (.int x),.v (.int c),.v (.int t),.v (.int o)]:=by
    have lv:∀ s3 s4:Sl,mLst mNil [.v A,.v (.int x),.v (.int c),s3,s4] = .ok (.lst []):=fun _ _=>by simp [mLst,mNil,sizeLine]
    have t1:zal (m2 oEq (m2 oMod (m2 oDiv (mRd 1) (mC (.int 4096))) (mC (.int 4))) (mC (.int 3))) [.v A,.v (.int x),.v (.int c),.v (.int t),.v (.int o1)] = .ok (decide (m4=3)):=by
      have v:=v4 (.v (.int t)) (.v (.int o1))
      simp only [zal,zbZ] at v ⊢
      rw [v]
      simp [mC]
    cases l with
    | nil =>
      have ne:oNeD A (.lst [])=some (.bl false):=by rw [eA]; exact ziq (zgH []) (zgH []) rfl
      have t2:zal (m2 oNeD (mRd 0) (mLst mNil)) [.v A,.v (.int x),.v (.int c),.v (.int t),.v (.int o1)] = .ok false:=by
        simp only [zal,zbZ,lv,mRd,List.getElem?_cons_zero,R.bind_ok,ne,R.of_some,zla]
      refine ⟨o1,?_⟩
      rw [zaZ]
      · rfl
      · by_cases e:m4=3
        · rw [decide_eq_true e] at t1
          simp only [mAnd,t1,t2,R.bind_ok]; rfl
        · rw [decide_eq_false e] at t1
          simp only [mAnd,t1,R.bind_ok]; rfl
    | cons a l =>
      have ne:oNeD A (.lst [])=some (.bl true):=by
        unfold oNeD
        rw [zbr ⟨by rw [eA]; exact zgH _,zgH []⟩]
        have:A ≠ .lst []:=by rw [eA]; intro z; cases z
        simp [this]
      have t2:zal (m2 oNeD (mRd 0) (mLst mNil)) [.v A,.v (.int x),.v (.int c),.v (.int t),.v (.int o1)] = .ok true:=by
        simp only [zal,zbZ,lv,mRd,List.getElem?_cons_zero,R.bind_ok,ne,R.of_some,zla]
      by_cases e:m4=3
      · rw [decide_eq_true e] at t1
        have lp:(0:Int) < ((a :: l).length:Int):=by rw [List.length_cons]; omega
        have a0:=Int.emod_nonneg (x / 64) (show ((a :: l).length:Int) ≠ 0 by omega)
        have a1:=Int.emod_lt_of_pos (x / 64) lp
        obtain ⟨o,ho⟩:∃ o,(a :: l)[(x / 64 % ((a :: l).length:Int)).toNat]?=some o:=⟨_,List.getElem?_eq_getElem (by omega)⟩
        have ix:oIxL A (.int (x / 64 % ((a :: l).length:Int)))=some (.int o):=by
          rw [eA]
          exact zdM a0 (by rw [List.getElem?_map,ho]; rfl)
        refine ⟨o,?_⟩
        rw [za5 (by simp only [mAnd,t1,t2,R.bind_ok]; rfl)]
        refine zaC (d:=.int o) ?_ rfl
        simp only [zbZ,mRd,mC,mCB,zaa,mNil,List.getElem?_cons_succ,List.getElem?_cons_zero,R.bind_ok,lA,R.of_some,zcx (show (0:Int) < 64 by decide) f64,za6 lp,ix]
      · rw [decide_eq_false e] at t1
        exact ⟨o1,by rw [zaZ (by simp only [mAnd,t1,R.bind_ok]; rfl)]; rfl⟩
  obtain ⟨m8,e8⟩:∃ m8:Int,m8=x % 8:=⟨_,rfl⟩
  obtain ⟨δ,eδ⟩:∃ δ:En,δ = [.v A,.v (.int x),.v (.int c),.v (.int t),.v (.int o)]:=⟨_,rfl⟩
  have g0:δ[0]?=some (.v (iL l)):=by rw [eδ,eA]; rfl
  have v8:m2 oMod (mRd 1) (mC (.int 8)) δ = .ok (.int m8):=by rw [eδ]; simp [mRd,mC,za6 (show (0:Int) < 8 by decide),e8]
  have te:∀ k:Int,zal (m2 oEq (m2 oMod (mRd 1) (mC (.int 8))) (mC (.int k))) δ = .ok (decide (m8=k)):=fun k=>by
    simp only [zal,zbZ] at v8 ⊢
    rw [v8]; simp [mC]
  have tl:zal (m2 oLt (m2 oMod (mRd 1) (mC (.int 8))) (mC (.int 5))) δ = .ok (decide (m8 < 5)):=by
    simp only [zal,zbZ] at v8 ⊢
    rw [v8]; simp [mC]
  have p3:zbF (mVar 3) δ = .ok (some t):=by rw [eδ]; rfl
  have p31:zbF (m2 oAdd (mRd 3) (mC (.int 1))) δ = .ok (some (t + 1)):=by rw [eδ]; simp [zbF,mRd,mC]
  have no:mNoP δ = .ok none:=rfl
  obtain ⟨c1,s1,h1⟩:=zfQ (ml:=mNoP) (mh:=zbF (mVar 3)) g0 no p3
  obtain ⟨c2,s2,h2⟩:=zfQ (ml:=zbF (mVar 3)) (mh:=mNoP) g0 p3 no
  obtain ⟨c3,s3,h3⟩:=zfQ (ml:=zbF (m2 oAdd (mRd 3) (mC (.int 1)))) (mh:=mNoP) g0 p31 no
  have one:mLst (zaa (mVar 4) mNil) δ = .ok (iL [o]):=by rw [eδ]; simp [mLst,zaa,mNil,mVar,sizeLine,iL]
  have fin:∀ l':List Int,(mSeq (mIfS (zal (m2 oEq (m2 oMod (mRd 1) (mC (.int 8))) (mC (.int 0)))) (mRet (m2 oCat (m2 oCat (mSl (mRd 0) mNoP (zbF (mVar 3))) (mLst (zaa (mVar 4) mNil))) (mSl (mRd 0) (zbF (mVar 3)) mNoP))) zaM)
      (mSeq (mIfS (zal (m2 oEq (m2 oMod (mRd 1) (mC (.int 8))) (mC (.int 1)))) (mRet (m2 oCat (mSl (mRd 0) mNoP (zbF (mVar 3))) (mSl (mRd 0) (zbF (m2 oAdd (mRd 3) (mC (.int 1)))) mNoP))) zaM)
      (mSeq (mIfS (zal (m2 oLt (m2 oMod (mRd 1) (mC (.int 8))) (mC (.int 5)))) (mRet (m2 oCat (m2 oCat (mSl (mRd 0) mNoP (zbF (mVar 3))) (mLst (zaa (mVar 4) mNil))) (mSl (mRd 0) (zbF (m2 oAdd (mRd 3) (mC (.int 1)))) mNoP))) zaM)
      (mRet (m2 oIxL (mLst (zaa (mVar 0) (zaa (zeT (mRd 0)) mNil))) (m2 oMod (m2 oDiv (mRd 1) (mC (.int 8))) (mC (.int 2)))))))) δ = .rt (iL l')→zbd [iL l,.int x,.int c] = .ok (iL l'):=fun l' q4=>by
    refine za3 ?_
    rw [← eA]
    show mSeq _ _ [.v A,.v (.int x),.v (.int c),.no,.no]=_
    rw [eδ] at q4
    exact (zam q1).trans ((zam q2).trans ((zam q3).trans q4))
  have seqR:∀ (m m':En→O) (d:D),m δ = .rt d→mSeq m m' δ = .rt d:=fun m m' d e=>by unfold mSeq; rw [e]
  by_cases k0:m8=0
  · refine ⟨c1 ++ [o] ++ c2,fin _ (seqR _ _ _ ?_),by simp; omega⟩
    rw [za5 (by rw [te,decide_eq_true k0])]
    simp only [mRet,zbZ,s1,s2,one,R.bind_ok,ziP c1 [o] (by simp; omega),ziP (c1 ++ [o]) c2 (by simp; omega),R.of_some]; rfl
  · have n0:mIfS (zal (m2 oEq (m2 oMod (mRd 1) (mC (.int 8))) (mC (.int 0)))) (mRet (m2 oCat (m2 oCat (mSl (mRd 0) mNoP (zbF (mVar 3))) (mLst (zaa (mVar 4) mNil))) (mSl (mRd 0) (zbF (mVar 3)) mNoP))) zaM δ = .nx δ:=by rw [zaZ (by rw [te,decide_eq_false k0])]; rfl
    by_cases k1:m8=1
    · refine ⟨c1 ++ c3,fin _ ((zam n0).trans (seqR _ _ _ ?_)),by simp; omega⟩
      rw [za5 (by rw [te,decide_eq_true k1])]
      simp only [mRet,zbZ,s1,s3,R.bind_ok,ziP c1 c3 (by omega),R.of_some]; rfl
    · have n1:mIfS (zal (m2 oEq (m2 oMod (mRd 1) (mC (.int 8))) (mC (.int 1)))) (mRet (m2 oCat (mSl (mRd 0) mNoP (zbF (mVar 3))) (mSl (mRd 0) (zbF (m2 oAdd (mRd 3) (mC (.int 1)))) mNoP))) zaM δ = .nx δ:=by rw [zaZ (by rw [te,decide_eq_false k1])]; rfl
      by_cases k5:m8 < 5
      · refine ⟨c1 ++ [o] ++ c3,fin _ ((zam n0).trans ((zam n1).trans (seqR _ _ _ ?_))),by simp; omega⟩
        rw [za5 (by rw [tl,decide_eq_true k5])]
        simp only [mRet,zbZ,s1,s3,one,R.bind_ok,ziP c1 [o] (by simp; omega),ziP (c1 ++ [o]) c3 (by simp; omega),R.of_some]; rfl
      · have n5:mIfS (zal (m2 oLt (m2 oMod (mRd 1) (mC (.int 8))) (mC (.int 5)))) (mRet (m2 oCat (m2 oCat (mSl (mRd 0) mNoP (zbF (mVar 3))) (mLst (zaa (mVar 4) mNil))) (mSl (mRd 0) (zbF (m2 oAdd (mRd 3) (mC (.int 1)))) mNoP))) zaM δ = .nx δ:=by rw [zaZ (by rw [tl,decide_eq_false k5])]; rfl
        have l2:mLst (zaa (mVar 0) (zaa (zeT (mRd 0)) mNil)) δ = .ok (.lst [iL l,iL l.reverse]):=by
          have rv:zeT (mRd 0) δ = .ok (iL l.reverse):=by
            unfold zeT
            simp only [mRd,g0,R.bind_ok]
            show R.ok (D.lst (l.map .int).reverse)=_
            rw [← List.map_reverse]; rfl
          have v0:mVar 0 δ = .ok (iL l):=by rw [eδ,eA]; rfl
          simp [mLst,zaa,mNil,v0,rv,sizeLine]
        have ix:m2 oMod (m2 oDiv (mRd 1) (mC (.int 8))) (mC (.int 2)) δ = .ok (.int (x / 8 % 2)):=by
          rw [eδ]; simp [mRd,mC,zcx (show (0:Int) < 8 by decide) f8,za6 (show (0:Int) < 2 by decide)]
        obtain ⟨l',hl',pk⟩:∃ l':List Int,l'.length ≤ 2 * l.length + 1∧oIxL (.lst [iL l,iL l.reverse]) (.int (x / 8 % 2))=some (iL l'):=by
          rcases (show x / 8 % 2=0∨x / 8 % 2=1 by omega) with e | e <;> rw [e]
          · exact ⟨l,by omega,zdM (by decide) rfl⟩
          · exact ⟨l.reverse,by rw [List.length_reverse]; omega,zdM (by decide) rfl⟩
        refine ⟨l',fin _ ((zam n0).trans ((zam n1).trans ((zam n5).trans ?_))),hl'⟩
        simp only [zbZ] at ix
        simp only [mRet,zbZ,l2,ix,R.bind_ok,pk,R.of_some]; rfl
end My
namespace My
open PySem L2 PM
structure ThOk (t:Fr):Prop where
  lo:0 ≤ t.1
  hi:t.1 ≤ 1000000000000000000
  g0:0 < t.2
  g1:t.2 ≤ 1000000000000000000
def zay (ts:List Fr):D:=.lst (ts.map encF)
def th (ts:List Fr) (k:Int):Fr:=ts.getD k.toNat (0,1)
theorem zm6 {ts:List Fr} {k:Int} (h:k.toNat < ts.length):ts[k.toNat]?=some (th ts k):=by simp [th,List.getD_eq_getElem?_getD,h]
theorem zgp {ts:List Fr} {k:Int} (h0:0 ≤ k) (h1:k < ts.length):oIxL (zay ts) (.int k)=some (encF (th ts k)) :=
  zdM h0 (by rw [List.getElem?_map,zm6 (by omega)]; rfl)
theorem zdK {ts:List Fr} {k:Int} (h0:0 ≤ k) (h1:k < ts.length):th ts k ∈ ts:=List.mem_of_getElem? (zm6 (by omega))
theorem zpd (ts:List Fr):ts.map encF=(upt ts.length).map fun k=>encF (th ts k):=by
  apply List.ext_getElem (by simp [upt])
  intro i h1 h2
  simp at h1
  simp [upt,th,h1]
theorem znL (ts:List Fr):ziM (ts.map encF)=(upt ts.length).map fun k=>D.tup [.int k,encF (th ts k)]:=by
  rw [zis]
  apply List.ext_getElem (by simp [upt])
  intro i h1 h2
  simp at h1
  simp [upt,th,h1]
def fitA (ts:List Fr) (r:Int):List Int:=(upt ts.length).filter fun k=>decide ((th ts k).2 ≤ r)
theorem fit_mem {ts:List Fr} {r k:Int}:k ∈ fitA ts r ↔ (0 ≤ k∧k < ts.length)∧(th ts k).2 ≤ r:=by
  unfold fitA; rw [List.mem_filter,mem_upt,decide_eq_true_eq]
theorem zfh (ts:List Fr) (r:Int):(fitA ts r).length ≤ ts.length:=by
  have:=List.length_filter_le (fun k=>decide ((th ts k).2 ≤ r)) (upt ts.length)
  rw [zbn] at this; exact this
theorem zoU (n:Nat):(upt n).Pairwise (· < ·):=by
  unfold upt
  exact List.Pairwise.map _ (fun a b h=>by omega) List.pairwise_lt_range
theorem zn7 (ts:List Fr) (r:Int):(fitA ts r).Pairwise (· < ·):=(zoU _).filter _
theorem zmj (ts:List Fr) (r:Int):(fitA ts r).Nodup:=(zi8 _).filter _
theorem zfX {ts:List Fr} {r:Int} (hn:ts.length ≤ 100):zbj [.int r,zay ts] = .ok (iL (fitA ts r)):=by
  refine zeI ?_
  have k:zda [.v (.int r),.v (zay ts)] = .ok (iL (fitA ts r)):=by
    refine zbC (l:=(upt ts.length).map fun k=>D.tup [.int k,encF (th ts k)]) (by simp [zhO,zaa,mNil,mRd,zay,zjS,asL',znL]) (by rw [List.length_map,zbn]; omega) ?_
    refine zm3 (fun k=>D.tup [.int k,encF (th ts k)]) _ .int _ fun k _=>?_
    by_cases c:(th ts k).2 ≤ r <;> simp [zcX,za2,zhK,bTup,zcu,bNil,za0,zal,mRd,mVar,mC,encF,c]
  show R.toO (zda [.v (.int r),.v (zay ts)]) _ _=_
  rw [k]; rfl
def rt (t:Fr):Fr:=(lo1 t.1 t.2,lo2 t.1 t.2)
theorem zgw {x:Int} (h0:0 ≤ x) (h1:x ≤ 1000000000000000000):x.natAbs ≤ 10 ^ 18:=by omega
theorem zkk {t:Fr} (h:ThOk t):zcY [encF t] = .ok (encF (rt t)):=by
  refine za3 ?_
  have s:=zgF (t:=t.1) h.g0 (Nat.le_trans (zgw (Int.le_of_lt h.g0) h.g1) (by decide +kernel))
  show mRet _ [.v (encF t)]=_
  simp [mRet,zaj,zbf,zaa,mNil,mRd,mC,encF,s,rt]
theorem zob {t:Fr} (h:ThOk t):Fit (rt t).1∧Fit (rt t).2 :=
  ⟨fitN (10 ^ 18) (Nat.le_trans (zeG h.g0) (zgw h.lo h.hi)),fitN (10 ^ 18) (Nat.le_trans (zeC h.g0) (zgw (Int.le_of_lt h.g0) h.g1))⟩
theorem zoG {s t:Fr} (h:ThOk s) (h':ThOk t):zc4 [encF (rt s),encF (rt t)] = .ok (.bl (decide (s.1 * t.2 < t.1 * s.2))):=by
  obtain ⟨f1,f2⟩:=zob h
  obtain ⟨f3,f4⟩:=zob h'
  have:=zj7 f1 f2 f3 f4
  rw [show (decide ((rt s).1 * (rt t).2 < (rt t).1 * (rt s).2))=decide (s.1 * t.2 < t.1 * s.2) from decide_eq_decide.mpr (zpP h.g0 h'.g0)] at this
  exact this
def Bef (ts:List Fr) (a b:Int):Prop:=(th ts b).1 * (th ts a).2 < (th ts a).1 * (th ts b).2∨((th ts b).1 * (th ts a).2=(th ts a).1 * (th ts b).2∧a < b)
theorem zpH {ts:List Fr} {a b:Int} (h:Bef ts a b):(th ts b).1 * (th ts a).2 ≤ (th ts a).1 * (th ts b).2:=by
  rcases h with h | h <;> omega
theorem zle {a b c:Fr} (ga:0 < a.2) (gb:0 < b.2) (gc:0 < c.2) (h1:b.1 * a.2 ≤ a.1 * b.2) (h2:c.1 * b.2 ≤ b.1 * c.2):c.1 * a.2 ≤ a.1 * c.2:=by
  have key:(a.1 * c.2 - c.1 * a.2) * b.2=(a.1 * b.2 - b.1 * a.2) * c.2 + (b.1 * c.2 - c.1 * b.2) * a.2:=by grind
  have p1:=Int.mul_nonneg (show 0 ≤ a.1 * b.2 - b.1 * a.2 by omega) (Int.le_of_lt gc)
  have p2:=Int.mul_nonneg (show 0 ≤ b.1 * c.2 - c.1 * b.2 by omega) (Int.le_of_lt ga)
  rcases Int.lt_or_le (a.1 * c.2 - c.1 * a.2) 0 with z | z
  · have:=Int.mul_neg_of_neg_of_pos z gb
    omega
  · omega
structure OrdOk (ts:List Fr) (pre o:List Int):Prop where
  perm:o.Perm pre
  srt:o.Pairwise (Bef ts)
theorem zpx {ts:List Fr} {pre o:List Int} {x:Int} {s:Nat} (I:OrdOk ts pre o) (hpos:∀ k ∈ o,0 < (th ts k).2) (hx:0 < (th ts x).2) (hlt:∀ k ∈ pre,k < x) (hs:s ≤ o.length)
    (hi:∀ k ∈ o.drop s,(th ts k).1 * (th ts x).2 < (th ts x).1 * (th ts k).2) (hlo:s=0∨∃ y,o[s - 1]?=some y∧¬ (th ts y).1 * (th ts x).2 < (th ts x).1 * (th ts y).2):OrdOk ts (pre ++ [x]) (o.take s ++ x :: o.drop s):=by
  constructor
  · have p1:(o.take s ++ x :: o.drop s).Perm (x :: (o.take s ++ o.drop s)):=List.perm_middle
    rw [List.take_append_drop] at p1
    exact p1.trans ((List.Perm.cons x I.perm).trans (List.perm_append_comm (l₁:=[x]) (l₂:=pre)))
  · have sp:=I.srt
    rw [← List.take_append_drop s o,List.pairwise_append] at sp
    obtain ⟨s1,s2,s3⟩:=sp
    rw [List.pairwise_append]
    refine ⟨s1,List.pairwise_cons.mpr ⟨fun y hy=>.inl (hi y hy),s2⟩,fun a ha b hb=>?_⟩
    rcases List.mem_cons.mp hb with rfl | hb
    · have ao:a ∈ o:=List.mem_of_mem_take ha
      have al:a < b:=hlt a (I.perm.mem_iff.mp ao)
      have key:(th ts b).1 * (th ts a).2 ≤ (th ts a).1 * (th ts b).2:=by
        rcases hlo with z | ⟨y,hy,hn⟩
        · subst z; simp at ha
        · have hy':(th ts b).1 * (th ts y).2 ≤ (th ts y).1 * (th ts b).2:=by omega
          by_cases e:a=y
          · subst e; exact hy'
          · have sl:s - 1 < o.length:=(List.getElem?_eq_some_iff.mp hy).1
            have s0:0 < s:=by
              rcases Nat.eq_zero_or_pos s with z | z
              · subst z; simp at ha
              · exact z
            have et:o.take s=o.take (s - 1) ++ [y]:=by
              have:=List.take_succ (l:=o) (i:=s - 1)
              rw [show s - 1 + 1=s by omega,hy] at this
              simpa using this
            have ha':a ∈ o.take (s - 1):=by
              rw [et] at ha
              rcases List.mem_append.mp ha with z | z
              · exact z
              · exact absurd (List.mem_singleton.mp z) e
            rw [et,List.pairwise_append] at s1
            have bf:=zpH (s1.2.2 a ha' y (by simp))
            exact zle (hpos a ao) (hpos y (List.mem_of_getElem? hy)) hx bf hy'
      rcases Int.lt_or_le ((th ts b).1 * (th ts a).2) ((th ts a).1 * (th ts b).2) with z | z
      · exact .inl z
      · exact .inr ⟨by omega,al⟩
    · exact s3 a ha b hb
theorem zk5 {ts:List Fr} {r:Int} (hn:ts.length ≤ 40) (ok:∀ t ∈ ts,ThOk t):∃ o:List Int,zeJ [.int r,zay ts] = .ok (iL o)∧OrdOk ts (fitA ts r) o:=by
  have fl:=zfh ts r
  obtain ⟨δ,h1,o,o3,o4,rfl,hI⟩:=zb8 (b:=zap 3) (m:=zhd) D.int (fun pre δ=>∃ (o:List Int) (o3 o4:Option D),δ = [.v (.int r),.v (zay ts),.o (iL o),sv o3,sv o4]∧OrdOk ts pre o) (fitA ts r)
    (by
      rintro pre x post δ hall ⟨o,o3,o4,rfl,hI⟩
      have xm:=fit_mem.mp (show x ∈ fitA ts r by rw [hall]; simp)
      have xk:=ok _ (zdK xm.1.1 xm.1.2)
      have pl:pre.length ≤ 40:=by rw [hall] at fl; simp at fl; omega
      have ol:o.length ≤ 40:=by rw [hI.perm.length_eq]; exact pl
      have om:∀ k ∈ o,(0 ≤ k∧k < ts.length):=fun k hk=>(fit_mem.mp (show k ∈ fitA ts r by rw [hall]; exact List.mem_append_left _ (hI.perm.mem_iff.mp hk))).1
      have oo:∀ k ∈ o,ThOk (th ts k):=fun k hk=>ok _ (zdK (om k hk).1 (om k hk).2)
      have lt:∀ k ∈ pre,k < x:=fun k hk=>by
        have:=zn7 ts r
        rw [hall,List.pairwise_append] at this
        exact this.2.2 k hk x (by simp)
      let env:Nat→En:=fun s=>[.v (.int r),.v (zay ts),.o (iL o),.v (.int x),.v (.int (s:Int))]
      let lst:Nat→Int:=fun s=>o.getD (s - 1) 0
      obtain ⟨s,⟨hs,hi⟩,h2,h3,_⟩:=zfy (c:=zd7) (m:=zfc) env (fun s=>decide (0 < s∧(th ts (lst s)).1 * (th ts x).2 < (th ts x).1 * (th ts (lst s)).2)) (fun s=>s - 1)
        (fun s=>s ≤ o.length∧∀ k ∈ o.drop s,(th ts k).1 * (th ts x).2 < (th ts x).1 * (th ts k).2) (fun s=>s)
        (fun s hs=>by
          by_cases s0:0 < s
          · have hl:s - 1 < o.length:=by omega
            have eg:o[s - 1]?=some (lst s):=by simp [lst,List.getD_eq_getElem?_getD,hl]
            have ym:=List.mem_of_getElem? eg
            have i1:oIxL (iL o) (.int ((s:Int) - 1))=some (.int (lst s)):=zdM (by omega) (by rw [show ((s:Int) - 1).toNat=s - 1 by omega,List.getElem?_map,eg]; rfl)
            have i2:=zgp (om _ ym).1 (om _ ym).2
            have i3:=zgp (ts:=ts) xm.1.1 xm.1.2
            have r1:=zkk (oo _ ym)
            have r2:=zkk xk
            have ls:=zoG (oo _ ym) xk
            simp [env,zd7,mAnd,zal,mRd,mC,zaj,zbf,zaa,mNil,i1,i2,i3,r1,r2,ls,s0]
          · have:s=0:=by omega
            subst this
            simp [env,zd7,mAnd,zal,mRd,mC])
        (fun s hs hg=>by
          have hg':=decide_eq_true_eq.mp hg
          have hl:s - 1 < o.length:=by omega
          have eg:o[s - 1]?=some (lst s):=by simp [lst,List.getD_eq_getElem?_getD,hl]
          refine ⟨?_,⟨by omega,fun k hk=>?_⟩,by omega⟩
          · have:((s - 1:Nat):Int)=(s:Int) - 1:=by omega
            simp [env,zfc,mAug,mC,this]
          · rw [List.drop_eq_getElem_cons hl] at hk
            rcases List.mem_cons.mp hk with z | z
            · have:k=lst s:=by rw [z]; rw [List.getElem?_eq_getElem hl] at eg; exact Option.some.inj eg
              rw [this]; exact hg'.2
            · rw [show s - 1 + 1=s by omega] at z
              exact hs.2 k z)
        o.length ⟨Nat.le_refl _,fun k hk=>by simp at hk⟩
      have h2':¬ (0 < s∧(th ts (lst s)).1 * (th ts x).2 < (th ts x).1 * (th ts (lst s)).2):=by simpa using h2
      have q1:mAsg (mCB fLen (zaa (mRd 2) mNil)) (zap 4) [.v (.int r),.v (zay ts),.o (iL o),.v (.int x),sv o4] = .nx (env o.length):=by
        refine zaC (d:=.int o.length) ?_ (zaS rfl)
        simp [mCB,zaa,mNil,mRd]
      have q2:zh1 (env o.length) = .nx (env s):=h3
      have q3:zhq 2 (mVar 4) (mVar 3) (env s) = .nx [.v (.int r),.v (zay ts),.o (iL (o.take s ++ x :: o.drop s)),.v (.int x),.v (.int (s:Int))]:=by
        have hc:(0 ≤ (s:Int)∧(s:Int).toNat ≤ (o.map D.int).length)∧(o.map D.int).length < sizeLine:=⟨⟨by omega,by simpa using hs⟩,by rw [List.length_map]; exact Nat.lt_of_le_of_lt ol (by decide)⟩
        simp only [zhq,env,iL,mVar,List.getElem?_cons_succ,List.getElem?_cons_zero,R.toO_ok]
        rw [zbr hc]
        simp
      refine ⟨[.v (.int r),.v (zay ts),.o (iL o),.v (.int x),sv o4],_,zaS rfl,.inl ((zam q1).trans ((zam q2).trans q3)),o.take s ++ x :: o.drop s,some (.int x),some (.int s),rfl,?_⟩
      refine zpx hI (fun k hk=>(oo k hk).g0) xk.g0 lt hs hi ?_
      rcases Nat.eq_zero_or_pos s with z | z
      · exact .inl z
      · have hl:s - 1 < o.length:=by omega
        exact .inr ⟨lst s,by simp [lst,List.getD_eq_getElem?_getD,hl],fun w=>h2' ⟨z,w⟩⟩)
    [.v (.int r),.v (zay ts),.o (iL []),.no,.no] ⟨[],none,none,rfl,.nil,.nil⟩
  refine ⟨o,zeI ?_,hI⟩
  show mSeq _ _ [.v (.int r),.v (zay ts),.no,.no,.no]=_
  have q1:mAsg (mLst mNil) (bNew 2) [.v (.int r),.v (zay ts),.no,.no,.no] = .nx [.v (.int r),.v (zay ts),.o (iL []),.no,.no]:=zaC (d:=iL []) (by simp [mLst,mNil,iL,sizeLine]) rfl
  have q2:zhY [.v (.int r),.v (zay ts),.o (iL []),.no,.no] = .nx [.v (.int r),.v (zay ts),.o (iL o),sv o3,sv o4]:=(zcR (l:=(fitA ts r).map .int) (by simp [mItL,zaj,zbf,zaa,mNil,mVar,zfX (show ts.length ≤ 100 by omega)])).trans h1
  exact (zam q1).trans ((zam q2).trans rfl)
end My
namespace My
open PySem L2 PM
structure TkSt where
  left:Int
  tk:List Int
  ps:List Int
def zfA (ts:List Fr) (s:TkSt) (k:Int):TkSt:=if (th ts k).2 ≤ s.left then ⟨s.left - (th ts k).2,s.tk ++ [k],s.ps⟩ else ⟨s.left,s.tk,s.ps ++ [k]⟩
def wgt (ts:List Fr) (l:List Int):Int:=(l.map fun k=>(th ts k).2).sum
def wrt (ts:List Fr) (l:List Int):Int:=(l.map fun k=>(th ts k).1).sum
theorem zoK (ts:List Fr) (l r:List Int):wgt ts (l ++ r)=wgt ts l + wgt ts r:=by simp [wgt,List.sum_append]
theorem zl4 (ts:List Fr) (k:Int):wgt ts [k]=(th ts k).2:=by simp [wgt]
structure TkOk (ts:List Fr) (r:Int) (pre:List Int) (s:TkSt):Prop where
  left:s.left=r - wgt ts s.tk
  nn:0 ≤ s.left
  sub:s.tk.Sublist pre
  none:s.ps = []→s.tk=pre
  some:∀ p l,s.ps=p :: l→∃ A B T,pre=A ++ p :: B∧s.tk=A ++ T∧r - wgt ts A < (th ts p).2
  len:s.ps.length ≤ pre.length
theorem zoD {ts:List Fr} {r:Int} {pre:List Int} {s:TkSt} {k:Int} (I:TkOk ts r pre s):TkOk ts r (pre ++ [k]) (zfA ts s k):=by
  have il:=I.left
  unfold zfA
  split
  · rename_i h
    refine ⟨?_,?_,?_,fun h=>?_,fun p l h=>?_,?_⟩
    · show s.left - _=r - wgt ts (s.tk ++ [k])
      rw [zoK,zl4]; omega
    · show 0 ≤ s.left - _; omega
    · exact I.sub.append_right [k] |>.trans (List.Sublist.refl _)
    · show s.tk ++ [k]=_; rw [I.none h]
    · obtain ⟨A,B,T,e1,e2,e3⟩:=I.some p l h
      exact ⟨A,B ++ [k],T ++ [k],by rw [e1]; simp,by show s.tk ++ [k]=_; rw [e2]; simp,e3⟩
    · have:=I.len; show s.ps.length ≤ _; simp; omega
  · rename_i h
    refine ⟨il,I.nn,I.sub.trans (List.sublist_append_left _ _),fun h=>?_,fun p l h2=>?_,by have:=I.len; simp; omega⟩
    · simp at h
    · have h2:s.ps ++ [k]=p :: l:=h2
      cases e:s.ps with
      | nil =>
        rw [e] at h2
        simp at h2
        refine ⟨pre,[],[],by rw [h2.1],by show s.tk=_; rw [I.none e]; simp,?_⟩
        rw [I.none e] at il
        rw [← h2.1]; omega
      | cons q m =>
        rw [e] at h2
        simp at h2
        obtain ⟨A,B,T,e1,e2,e3⟩:=I.some q m e
        exact ⟨A,B ++ [k],T,by rw [e1,h2.1]; simp,e2,by rw [← h2.1]; exact e3⟩
theorem zk6 {ts:List Fr} {r:Int} (hn:ts.length ≤ 40) (ok:∀ t ∈ ts,ThOk t) (hr:0 ≤ r):∃ (o:List Int) (s:TkSt),OrdOk ts (fitA ts r) o∧TkOk ts r o s∧zcp [.int r,zay ts] = .ok (.tup [iL s.tk,iL s.ps])∧s=o.foldl (zfA ts) ⟨r,[],[]⟩:=by
  obtain ⟨o,ho,hO⟩:=zk5 (r:=r) hn ok
  have ol:o.length ≤ 40:=by rw [hO.perm.length_eq]; exact Nat.le_trans (zfh ts r) hn
  obtain ⟨δ,h1,s,o5,rfl,hI,hS⟩:=zb8 (b:=zap 5) (m:=zeX) D.int (fun pre δ=>∃ (s:TkSt) (o5:Option D),δ = [.v (.int r),.v (zay ts),.v (.int s.left),.o (iL s.tk),.o (iL s.ps),sv o5]∧TkOk ts r pre s∧s=pre.foldl (zfA ts) ⟨r,[],[]⟩) o
    (by
      rintro pre x post δ hall ⟨s,o5,rfl,hI,hS⟩
      have xm:=(fit_mem.mp (hO.perm.mem_iff.mp (show x ∈ o by rw [hall]; simp))).1
      have pl:pre.length ≤ 40:=by rw [hall] at ol; simp at ol; omega
      have tl:s.tk.length ≤ 40:=Nat.le_trans hI.sub.length_le pl
      have sl:s.ps.length ≤ 40:=Nat.le_trans hI.len pl
      have ix:=zgp (ts:=ts) xm.1 xm.2
      refine ⟨[.v (.int r),.v (zay ts),.v (.int s.left),.o (iL s.tk),.o (iL s.ps),.v (.int x)],[.v (.int r),.v (zay ts),.v (.int (zfA ts s x).left),.o (iL (zfA ts s x).tk),.o (iL (zfA ts s x).ps),.v (.int x)],zaS rfl,.inl ?_,zfA ts s x,some _,rfl,zoD hI,by rw [List.foldl_append,← hS]; rfl⟩
      unfold zfA
      by_cases h:(th ts x).2 ≤ s.left
      · have q1:mAug (fun i j=>i - j) 2 (m2 oIxT (m2 oIxL (mRd 1) (mRd 5)) (mC (.int 1))) [.v (.int r),.v (zay ts),.v (.int s.left),.o (iL s.tk),.o (iL s.ps),.v (.int x)] = .nx [.v (.int r),.v (zay ts),.v (.int (s.left - (th ts x).2)),.o (iL s.tk),.o (iL s.ps),.v (.int x)]:=by
          simp [mAug,mRd,mC,ix,encF]
        have q2:=zeR (i:=3) (me:=mVar 5) (δ:=[.v (.int r),.v (zay ts),.v (.int (s.left - (th ts x).2)),.o (iL s.tk),.o (iL s.ps),.v (.int x)]) (y:=x) rfl rfl (by omega)
        rw [if_pos h]
        unfold zeX
        rw [za5 (by simp [zal,mRd,mC,ix,encF,h])]
        exact (zam q1).trans q2
      · have q2:=zeR (i:=4) (me:=mVar 5) (δ:=[.v (.int r),.v (zay ts),.v (.int s.left),.o (iL s.tk),.o (iL s.ps),.v (.int x)]) (y:=x) rfl rfl (by omega)
        rw [if_neg h]
        unfold zeX
        rw [zaZ (by simp [zal,mRd,mC,ix,encF,h])]
        exact q2)
    [.v (.int r),.v (zay ts),.v (.int r),.o (iL []),.o (iL []),.no] ⟨⟨r,[],[]⟩,none,rfl,⟨by simp [wgt],hr,List.Sublist.refl _,fun _=>rfl,fun p l h=>(by cases h),Nat.le_refl _⟩,rfl⟩
  refine ⟨o,s,hO,hI,za3 ?_,hS⟩
  show mSeq _ _ [.v (.int r),.v (zay ts),.no,.no,.no,.no]=_
  have q1:mAsg (mVar 0) (zap 2) [.v (.int r),.v (zay ts),.no,.no,.no,.no] = .nx [.v (.int r),.v (zay ts),.v (.int r),.no,.no,.no]:=rfl
  have q2:mAsg (mLst mNil) (bNew 3) [.v (.int r),.v (zay ts),.v (.int r),.no,.no,.no] = .nx [.v (.int r),.v (zay ts),.v (.int r),.o (iL []),.no,.no]:=zaC (d:=iL []) (by simp [mLst,mNil,iL,sizeLine]) rfl
  have q3:mAsg (mLst mNil) (bNew 4) [.v (.int r),.v (zay ts),.v (.int r),.o (iL []),.no,.no] = .nx [.v (.int r),.v (zay ts),.v (.int r),.o (iL []),.o (iL []),.no]:=zaC (d:=iL []) (by simp [mLst,mNil,iL,sizeLine]) rfl
  have q4:ziN [.v (.int r),.v (zay ts),.v (.int r),.o (iL []),.o (iL []),.no] = .nx [.v (.int r),.v (zay ts),.v (.int s.left),.o (iL s.tk),.o (iL s.ps),sv o5]:=(zcR (l:=o.map .int) (by simp [mItL,zaj,zbf,zaa,mNil,mVar,ho])).trans h1
  refine (zam q1).trans ((zam q2).trans ((zam q3).trans ((zam q4).trans ?_)))
  simp [mFrz,mRet,mTup,zaa,mNil,mVar,sizeLine]
theorem zl2 {ts:List Fr} {r:Int} (hn:ts.length ≤ 40) (ok:∀ t ∈ ts,ThOk t) (hr:0 ≤ r):∃ (o:List Int) (s:TkSt),OrdOk ts (fitA ts r) o∧TkOk ts r o s∧zcp [.int r,zay ts] = .ok (.tup [iL s.tk,iL s.ps]) :=
  let ⟨o,s,a,b,c,_⟩:=zk6 hn ok hr
  ⟨o,s,a,b,c⟩
structure FillOk (ts:List Fr) (r:Int) (tk f:List Int):Prop where
  lt:f.Pairwise (· < ·)
  mem:∀ k ∈ f,k ∈ fitA ts r
  wg:wgt ts f ≤ r
  w1:wrt ts tk ≤ wrt ts f
  w2:∀ k ∈ fitA ts r,(th ts k).1 ≤ wrt ts f
  kind:(f=tk.mergeSort (fun a b=>decide (a ≤ b))∧∀ k ∈ fitA ts r,(th ts k).1 ≤ wrt ts tk)∨∃ k ∈ fitA ts r,f = [k]∧wrt ts tk < (th ts k).1∧∀ j ∈ fitA ts r,(th ts j).1 < (th ts k).1∨((th ts j).1=(th ts k).1∧k ≤ j)
def sN (o:Option Int):D:=match o with | none=>.non | some k=>.int k
structure SgOk (ts:List Fr) (W:Int) (pre:List Int) (o:Option Int) (w:Int):Prop where
  none:o=none→w=W
  some:∀ k,o=some k→k ∈ pre∧w=(th ts k).1∧W < w∧∀ j ∈ pre,(th ts j).1=w→k ≤ j
  all:∀ j ∈ pre,(th ts j).1 ≤ w
theorem zi2 {ts:List Fr} {r:Int} (hn:ts.length ≤ 40) (ok:∀ t ∈ ts,ThOk t) {o:List Int} {s:TkSt} (hO:OrdOk ts (fitA ts r) o) (hT:TkOk ts r o s) (ht:zcp [.int r,zay ts] = .ok (.tup [iL s.tk,iL s.ps])) :
    ∃ f:List Int,zcv [.int r,zay ts] = .ok (iL f)∧FillOk ts r s.tk f:=by
  have tm:∀ k ∈ s.tk,k ∈ fitA ts r:=fun k hk=>hO.perm.mem_iff.mp (hT.sub.subset hk)
  have tr:∀ k ∈ s.tk,0 ≤ k∧k < ts.length:=fun k hk=>(fit_mem.mp (tm k hk)).1
  have tl:s.tk.length ≤ 40:=Nat.le_trans hT.sub.length_le (by rw [hO.perm.length_eq]; exact Nat.le_trans (zfh ts r) hn)
  have tn:s.tk.Nodup:=hT.sub.nodup (hO.perm.nodup_iff.mpr (zmj ts r))
  obtain ⟨W,eW⟩:∃ W,W=wrt ts s.tk:=⟨_,rfl⟩
  have fl:=zfh ts r
  obtain ⟨δ,h1,sg,w,o5,rfl,hI⟩:=zb8 (b:=zap 5) (m:=zdh) D.int (fun pre δ=>∃ (sg:Option Int) (w:Int) (o5:Option D),δ = [.v (.int r),.v (zay ts),.v (iL s.tk),.v (.int w),.v (sN sg),sv o5]∧SgOk ts W pre sg w) (fitA ts r)
    (by
      rintro pre x post δ hall ⟨sg,w,o5,rfl,hI⟩
      have xm:=(fit_mem.mp (show x ∈ fitA ts r by rw [hall]; simp)).1
      have lt:∀ k ∈ pre,k < x:=fun k hk=>by
        have:=zn7 ts r
        rw [hall,List.pairwise_append] at this
        exact this.2.2 k hk x (by simp)
      have ix:=zgp (ts:=ts) xm.1 xm.2
      by_cases h:w < (th ts x).1
      · refine ⟨[.v (.int r),.v (zay ts),.v (iL s.tk),.v (.int w),.v (sN sg),.v (.int x)],[.v (.int r),.v (zay ts),.v (iL s.tk),.v (.int (th ts x).1),.v (sN (some x)),.v (.int x)],zaS rfl,.inl ?_,some x,_,some _,rfl,fun z=>(by cases z),fun k hk=>?_,fun j hj=>?_⟩
        · unfold zdh
          rw [za5 (by simp [zal,mRd,mC,ix,encF,h])]
          simp [mSeq,mAsg,mVar,mRd,mC,ix,encF,zap,sN]
        · cases hk
          refine ⟨by simp,rfl,?_,fun j hj e=>?_⟩
          · rcases sg with _ | k
            · have:=hI.none rfl; omega
            · have:=(hI.some k rfl).2.2.1; omega
          · rcases List.mem_append.mp hj with z | z
            · have:=hI.all j z; omega
            · rw [List.mem_singleton.mp z]; exact Int.le_refl _
        · rcases List.mem_append.mp hj with z | z
          · have:=hI.all j z; omega
          · rw [List.mem_singleton.mp z]; exact Int.le_refl _
      · refine ⟨[.v (.int r),.v (zay ts),.v (iL s.tk),.v (.int w),.v (sN sg),.v (.int x)],[.v (.int r),.v (zay ts),.v (iL s.tk),.v (.int w),.v (sN sg),.v (.int x)],zaS rfl,.inl ?_,sg,w,some _,rfl,hI.none,fun k hk=>?_,fun j hj=>?_⟩
        · unfold zdh
          rw [zaZ (by simp [zal,mRd,mC,ix,encF,h])]
          rfl
        · obtain ⟨a,b,c,d⟩:=hI.some k hk
          refine ⟨List.mem_append_left _ a,b,c,fun j hj e=>?_⟩
          rcases List.mem_append.mp hj with z | z
          · exact d j z e
          · rw [List.mem_singleton.mp z]; exact Int.le_of_lt (lt k a)
        · rcases List.mem_append.mp hj with z | z
          · exact hI.all j z
          · rw [List.mem_singleton.mp z]; omega)
    [.v (.int r),.v (zay ts),.v (iL s.tk),.v (.int W),.v (sN none),.no] ⟨none,W,none,rfl,fun _=>rfl,fun k hk=>(by cases hk),fun j hj=>(by cases hj)⟩
  have k1:zeu [.v (.int r),.v (zay ts),.v (iL s.tk),.no,.no,.no] = .ok (iL (s.tk.map fun k=>(th ts k).1)):=by
    refine Eq.trans (zbC (l:=s.tk.map .int) (r:=s.tk.map fun k=>.int (th ts k).1) (by simp [mItL,mRd]) (by rw [List.length_map]; omega) ?_) (by simp [iL])
    refine zbg .int (fun k=>.int (th ts k).1) _ fun k hk=>?_
    have ix:=zgp (ts:=ts) (tr k hk).1 (tr k hk).2
    simp [zcX,za2,zhK,za0,mRd,mC,ix,encF]
  have q1:mAsg (m2 oIxT (zbf zcp (zaa (mVar 0) (zaa (mVar 1) mNil))) (mC (.int 0))) (zap 2) [.v (.int r),.v (zay ts),.no,.no,.no,.no] = .nx [.v (.int r),.v (zay ts),.v (iL s.tk),.no,.no,.no]:=by
    refine zaC (d:=iL s.tk) ?_ rfl
    simp [zaj,zbf,zaa,mNil,mVar,mC,ht]
  have q2:mAsg (mCB fSum (zaa zeu mNil)) (zap 3) [.v (.int r),.v (zay ts),.v (iL s.tk),.no,.no,.no] = .nx [.v (.int r),.v (zay ts),.v (iL s.tk),.v (.int W),.no,.no]:=by
    refine zaC (d:=.int W) ?_ rfl
    simp [mCB,zaa,mNil,k1,zmL,eW,wrt]
  have q3:mAsg (mC .non) (zap 4) [.v (.int r),.v (zay ts),.v (iL s.tk),.v (.int W),.no,.no] = .nx [.v (.int r),.v (zay ts),.v (iL s.tk),.v (.int W),.v (sN none),.no]:=rfl
  have q4:zf5 [.v (.int r),.v (zay ts),.v (iL s.tk),.v (.int W),.v (sN none),.no] = .nx [.v (.int r),.v (zay ts),.v (iL s.tk),.v (.int w),.v (sN sg),sv o5]:=(zcR (l:=(fitA ts r).map .int) (by simp [mItL,zaj,zbf,zaa,mNil,mVar,zfX (show ts.length ≤ 100 by omega)])).trans h1
  have run:∀ d,mSeq (mIfS (zal (m2 oIs (mRd 4) (mC .non))) (zen (mCB zfl (zaa (mRd 2) mNil))) zaM) (zen (mLst (zaa (mVar 4) mNil))) [.v (.int r),.v (zay ts),.v (iL s.tk),.v (.int w),.v (sN sg),sv o5] = .ro d→zcv [.int r,zay ts] = .ok d:=fun d h=>by
    refine zeI ?_
    show mSeq _ _ [.v (.int r),.v (zay ts),.no,.no,.no,.no]=_
    exact (zam q1).trans ((zam q2).trans ((zam q3).trans ((zam q4).trans h)))
  have wgl:wgt ts s.tk ≤ r:=by have:=hT.left; have:=hT.nn; omega
  rcases sg with _ | k
  · have ew:=hI.none rfl
    have pm:=List.mergeSort_perm s.tk (fun a b=>decide (a ≤ b))
    have sr:(s.tk.mergeSort fun a b=>decide (a ≤ b)).Pairwise (· ≤ ·):=by
      have:=List.pairwise_mergeSort (le:=fun a b:Int=>decide (a ≤ b)) (fun a b c h1 h2=>by simp at *; omega) (fun a b=>by simp; omega) s.tk
      exact this.imp fun h=>by simpa using h
    have nd:(s.tk.mergeSort fun a b=>decide (a ≤ b)).Nodup:=pm.nodup_iff.mpr tn
    have ew1:wrt ts (s.tk.mergeSort fun a b=>decide (a ≤ b))=wrt ts s.tk:=zkN pm
    have ew2:wgt ts (s.tk.mergeSort fun a b=>decide (a ≤ b))=wgt ts s.tk:=zkN pm
    refine ⟨_,run _ ?_,?_,fun k hk=>tm k (pm.mem_iff.mp hk),by rw [ew2]; exact wgl,by rw [ew1]; exact Int.le_refl _,fun k hk=>?_,.inl ⟨rfl,fun k hk=>?_⟩⟩
    · have fs:zfl [iL s.tk]=some (iL (s.tk.mergeSort fun a b=>decide (a ≤ b))):=by
        unfold zfl iL
        simp only [zcE,Option.bind]
        rw [zbr (by omega)]
      simp [mSeq,mIfS,zal,mRd,mC,sN,isN,zen,mCB,zaa,mNil,fs]
    · exact (List.pairwise_and_iff.mpr ⟨sr,nd⟩).imp fun ⟨a,b⟩=>by omega
    · rw [ew1,← eW,← ew]; exact hI.all k hk
    · rw [← eW,← ew]; exact hI.all k hk
  · obtain ⟨a,b,c,d⟩:=hI.some k rfl
    have km:=fit_mem.mp a
    have e1:wrt ts [k]=(th ts k).1:=by simp [wrt]
    refine ⟨[k],run _ ?_,by simp,fun j hj=>by rw [List.mem_singleton.mp hj]; exact a,by rw [zl4]; exact km.2,by rw [e1]; omega,fun j hj=>by rw [e1,← b]; exact hI.all j hj,.inr ⟨k,a,rfl,by omega,fun j hj=>?_⟩⟩
    · simp [mSeq,mIfS,zal,mRd,mC,sN,isN,zen,zaM,mLst,zaa,mNil,mVar,sizeLine,iL]
    · have:=hI.all j hj
      by_cases e:(th ts j).1=w
      · exact .inr ⟨by omega,d j hj e⟩
      · exact .inl (by omega)
def ziQ (ts:List Fr):List Int→Fr
  | []=>(0,1)
  | p :: _=>rt (th ts p)
theorem zj1 {ts:List Fr} {r:Int} (ok:∀ t ∈ ts,ThOk t) {o:List Int} {s:TkSt} (hO:OrdOk ts (fitA ts r) o) (hT:TkOk ts r o s) (ht:zcp [.int r,zay ts] = .ok (.tup [iL s.tk,iL s.ps])) :
    zdn [.int r,zay ts] = .ok (encF (ziQ ts s.ps)):=by
  refine za3 ?_
  show mSeq _ _ [.v (.int r),.v (zay ts),.no]=_
  have q1:mAsg (m2 oIxT (zbf zcp (zaa (mVar 0) (zaa (mVar 1) mNil))) (mC (.int 1))) (zap 2) [.v (.int r),.v (zay ts),.no] = .nx [.v (.int r),.v (zay ts),.v (iL s.ps)]:=by
    refine zaC (d:=iL s.ps) ?_ rfl
    simp [zaj,zbf,zaa,mNil,mVar,mC,ht]
  refine (zam q1).trans ?_
  cases e:s.ps with
  | nil=>simp [mSeq,mIfS,zal,mCB,zaa,mNil,mRd,mC,mRet,mTup,encF,sizeLine,ziQ]
  | cons p l =>
    obtain ⟨A,B,T,e1,e2,e3⟩:=hT.some p l e
    have pm:=(fit_mem.mp (hO.perm.mem_iff.mp (show p ∈ o by rw [e1]; simp))).1
    have ix:=zgp (ts:=ts) pm.1 pm.2
    have i0:oIxL (iL (p :: l)) (.int 0)=some (.int p):=zdM (by decide) (by simp)
    have nz:¬ ((l.length:Int) + 1=0):=by omega
    simp [mSeq,mIfS,zal,mCB,zaa,mNil,mRd,mC,zaM,mRet,zaj,zbf,i0,ix,zkk (ok _ (zdK pm.1 pm.2)),nz,ziQ]
end My
namespace My
open PySem L2 PM
theorem zkI {t b h:Int} (hb:0 < b) (hh:0 < h):lo1 (t * h) (b * h)=lo1 t b∧lo2 (t * h) (b * h)=lo2 t b:=by
  have e:(Int.gcd (t * h) (b * h):Int)=(Int.gcd t b:Int) * h:=by
    rw [Int.gcd_mul_right,Int.natCast_mul,show ((h.natAbs:Nat):Int)=h by omega]
  unfold lo1 lo2
  rw [e]
  exact ⟨Int.mul_ediv_mul_of_pos_left _ _ hh,Int.mul_ediv_mul_of_pos_left _ _ hh⟩
theorem zpD {t b u c h:Int} (hb:0 < b) (hc:0 < c) (hh:0 < h) (e1:u * h=t) (e2:c * h=b):(lo1 u c,lo2 u c)=(lo1 t b,lo2 t b):=by
  obtain ⟨a,d⟩:=zkI (t:=u) hc hh
  rw [e1,e2] at a d
  rw [a,d]
theorem zox {t b:Int} (hb:0 < b):0 < lo1 t b ↔ 0 < t:=by
  have g:=zc7 (t:=t) hb
  have e:=zes (t:=t) (b:=b)
  constructor
  · intro h
    have:=Int.mul_pos h g
    omega
  · intro h
    rcases Int.lt_or_le 0 (lo1 t b) with z | z
    · exact z
    · have:=Int.mul_nonpos_of_nonpos_of_nonneg z (Int.le_of_lt g)
      omega
theorem zjQ {x:Int} (h0:0 ≤ x) (h1:x ≤ 10000000000000000000000000):x.natAbs ≤ 10 ^ 25:=by omega
structure PcOk (f:Fr):Prop where
  lo:0 ≤ f.1
  hi:f.1 ≤ 10000000000000000000000000
  g0:0 < f.2
  g1:f.2 ≤ 10000000000000000000000000
def mor (ts:List Fr) (f:Fr) (k:Int):Int:=(th ts k).1 * f.2 - (th ts k).2 * f.1
def posA (ts:List Fr) (f:Fr) (k:Int):Int:=if 0 < mor ts f k then mor ts f k else 0
def bnd (ts:List Fr) (r:Int) (f:Fr) (l:List Int):Int:=f.1 * r + (l.map (posA ts f)).sum
theorem zpg (ts:List Fr) (f:Fr) (k:Int):0 ≤ posA ts f k:=by unfold posA; split <;> omega
theorem zo5 {ts:List Fr} {f:Fr} {k:Int} (h:ThOk (th ts k)) (p:PcOk f):posA ts f k ≤ 10 ^ 43:=by
  have h1:(th ts k).1 * f.2 ≤ 1000000000000000000 * 10000000000000000000000000:=Int.mul_le_mul h.hi p.g1 (Int.le_of_lt p.g0) (by decide)
  have h2:0 ≤ (th ts k).2 * f.1:=Int.mul_nonneg (Int.le_of_lt h.g0) p.lo
  unfold posA mor; split <;> omega
theorem zoX {ts:List Fr} {r:Int} {f:Fr} {l:List Int} (hr:0 ≤ r) (p:PcOk f):0 ≤ bnd ts r f l:=by
  have:=Int.mul_nonneg p.lo hr
  have:=zkQ (l:=l) (f:=posA ts f) fun k _=>zpg ts f k
  unfold bnd; omega
theorem zoc {ts:List Fr} {r:Int} {f:Fr} {l:List Int} (hr:0 ≤ r) (hr1:r ≤ 1000000000000000000) (p:PcOk f) (hl:∀ k ∈ l,ThOk (th ts k)) (hn:l.length ≤ 40):(bnd ts r f l).natAbs ≤ 10 ^ 47:=by
  have h1:f.1 * r ≤ 10000000000000000000000000 * 1000000000000000000:=Int.mul_le_mul p.hi hr1 hr (by decide)
  have h2:=zmQ (f:=posA ts f) (l:=l) fun k hk=>zo5 (hl k hk) p
  have h3:(l.length:Int) * 10 ^ 43 ≤ 40 * 10 ^ 43:=Int.mul_le_mul_of_nonneg_right (by omega) (by decide)
  have h4:=zoX (ts:=ts) (l:=l) hr p
  unfold bnd at *
  have:(10:Int) ^ 43=10000000000000000000000000000000000000000000:=by decide
  rw [this] at h2 h3
  have e:(10:Nat) ^ 47=100000000000000000000000000000000000000000000000:=by decide
  rw [e]
  omega
theorem zop {x:Int} (h:x.natAbs ≤ 10 ^ 47):Fit x:=fitN (10 ^ 47) h
theorem zh7 {a b:Int} {A B:Nat} (h1:a.natAbs ≤ A) (h2:b.natAbs ≤ B):(a * b).natAbs ≤ A * B:=by
  rw [Int.natAbs_mul]; exact Nat.mul_le_mul h1 h2
theorem zkw {f:Fr} {x:Int} (p:PcOk f) (h0:0 ≤ x) (h1:x ≤ 1000000000000000000):zeN [encF f,encF (x,1)] = .ok (encF (lo1 (f.1 * x) f.2,lo2 (f.1 * x) f.2)):=by
  refine za3 ?_
  have f1:Fit f.1:=fitN (10 ^ 25) (zjQ p.lo p.hi)
  have f2:Fit f.2:=fitN (10 ^ 25) (zjQ (Int.le_of_lt p.g0) p.g1)
  have fx:Fit x:=fitN (10 ^ 18) (zgw h0 h1)
  have fo:Fit 1:=fitN 10 (by decide)
  have s:=zgF (t:=f.1 * x) p.g0 (Nat.le_trans (zjQ (Int.le_of_lt p.g0) p.g1) (by decide +kernel))
  show mRet _ [.v (encF f),.v (encF (x,1))]=_
  simp [mRet,zaj,zbf,zaa,mNil,mRd,mC,encF,zbv f1 fx,zbv f2 fo,s]
theorem znC {f:Fr} {x g:Int} (p:PcOk f) (h0:0 ≤ x) (h1:x ≤ 1000000000000000000) (g0:0 ≤ g) (g1:g ≤ 1000000000000000000) :
    zfU [encF (x,1),encF (lo1 (f.1 * g) f.2,lo2 (f.1 * g) f.2)] = .ok (encF (lo1 (x * f.2 - g * f.1) f.2,lo2 (x * f.2 - g * f.1) f.2)):=by
  refine za3 ?_
  have fa:(f.1 * g).natAbs ≤ 10 ^ 43:=Nat.le_trans (zh7 (zjQ p.lo p.hi) (zgw g0 g1)) (by decide)
  have f1:Fit (lo1 (f.1 * g) f.2):=fitN (10 ^ 43) (Nat.le_trans (zeG p.g0) fa)
  have b2:(lo2 (f.1 * g) f.2).natAbs ≤ 10 ^ 25:=Nat.le_trans (zeC p.g0) (zjQ (Int.le_of_lt p.g0) p.g1)
  have f2:Fit (lo2 (f.1 * g) f.2):=fitN (10 ^ 25) b2
  have fx:Fit x:=fitN (10 ^ 18) (zgw h0 h1)
  have fo:Fit 1:=fitN 10 (by decide)
  have lp:=zgV (t:=f.1 * g) p.g0
  have s:=zgF (t:=x * lo2 (f.1 * g) f.2 - lo1 (f.1 * g) f.2) lp (Nat.le_trans b2 (by decide +kernel))
  have e:=zpD (t:=x * f.2 - g * f.1) (u:=x * lo2 (f.1 * g) f.2 - lo1 (f.1 * g) f.2) (h:=(Int.gcd (f.1 * g) f.2:Int)) p.g0 lp (zc7 p.g0) (by
    rw [Int.sub_mul,zes,Int.mul_assoc,zdF,Int.mul_comm f.1 g]) zdF
  have e1:=congrArg Prod.fst e
  have e2:=congrArg Prod.snd e
  dsimp only at e1 e2
  show mRet _ [.v (encF (x,1)),.v (encF (lo1 (f.1 * g) f.2,lo2 (f.1 * g) f.2))]=_
  simp [mRet,zaj,zbf,zaa,mNil,mRd,mC,encF,zbv fx f2,zbv f1 fo,zbv fo f2,s,e1,e2]
theorem zoy {t u b:Int} (hb:0 < b) (h1:b ≤ 10000000000000000000000000) (ht:t.natAbs ≤ 10 ^ 47) (hu:u.natAbs ≤ 10 ^ 47):zi1 [encF (lo1 t b,lo2 t b),encF (lo1 u b,lo2 u b)] = .ok (encF (lo1 (t + u) b,lo2 (t + u) b)):=by
  refine za3 ?_
  have bb:=zjQ (Int.le_of_lt hb) h1
  have f1:Fit (lo1 t b):=zop (Nat.le_trans (zeG hb) ht)
  have f3:Fit (lo1 u b):=zop (Nat.le_trans (zeG hb) hu)
  have b2:(lo2 t b).natAbs ≤ 10 ^ 25:=Nat.le_trans (zeC hb) bb
  have b4:(lo2 u b).natAbs ≤ 10 ^ 25:=Nat.le_trans (zeC hb) bb
  have f2:Fit (lo2 t b):=fitN (10 ^ 25) b2
  have f4:Fit (lo2 u b):=fitN (10 ^ 25) b4
  have p2:=zgV (t:=t) hb
  have p4:=zgV (t:=u) hb
  have g1:=zc7 (t:=t) hb
  have g2:=zc7 (t:=u) hb
  have pp:=Int.mul_pos p2 p4
  have s:=zgF (t:=lo1 t b * lo2 u b + lo1 u b * lo2 t b) pp (Nat.le_trans (zh7 b2 b4) (by decide +kernel))
  have e:=zpD (t:=(t + u) * b) (b:=b * b) (u:=lo1 t b * lo2 u b + lo1 u b * lo2 t b) (c:=lo2 t b * lo2 u b) (h:=(Int.gcd t b:Int) * (Int.gcd u b:Int)) (Int.mul_pos hb hb) pp (Int.mul_pos g1 g2) (by
    have a1:=zes (t:=t) (b:=b)
    have a2:=zdF (t:=t) (b:=b)
    have a3:=zes (t:=u) (b:=b)
    have a4:=zdF (t:=u) (b:=b)
    generalize (Int.gcd t b:Int)=x at *
    generalize (Int.gcd u b:Int)=y at *
    generalize lo1 t b=p at *
    generalize lo2 t b=q at *
    generalize lo1 u b=p' at *
    generalize lo2 u b=q' at *
    have:(p * q' + p' * q) * (x * y)=(p * x) * (q' * y) + (p' * y) * (q * x):=by grind
    rw [this,a1,a2,a3,a4,Int.add_mul]) (by
    have a2:=zdF (t:=t) (b:=b)
    have a4:=zdF (t:=u) (b:=b)
    generalize (Int.gcd t b:Int)=x at *
    generalize (Int.gcd u b:Int)=y at *
    generalize lo2 t b=q at *
    generalize lo2 u b=q' at *
    have:q * q' * (x * y)=(q * x) * (q' * y):=by grind
    rw [this,a2,a4])
  have e':=zkI (t:=t + u) hb hb
  have e1:=(congrArg Prod.fst e).trans e'.1
  have e2:=(congrArg Prod.snd e).trans e'.2
  dsimp only at e1 e2
  show mRet _ [.v (encF (lo1 t b,lo2 t b)),.v (encF (lo1 u b,lo2 u b))]=_
  simp [mRet,zaj,zbf,zaa,mNil,mRd,mC,encF,zbv f1 f4,zbv f3 f2,zbv f2 f4,s,e1,e2]
theorem zjU {ts:List Fr} {r:Int} {f:Fr} (hn:ts.length ≤ 40) (ok:∀ t ∈ ts,ThOk t) (h0:0 ≤ r) (h1:r ≤ 1000000000000000000) (p:PcOk f) :
    zb3 [.int r,zay ts,encF f] = .ok (encF (lo1 (bnd ts r f (fitA ts r)) f.2,lo2 (bnd ts r f (fitA ts r)) f.2)):=by
  have fl:=zfh ts r
  obtain ⟨δ,hl,o4,o5,rfl⟩:=zb8 (b:=zap 4) (m:=zgh) D.int (fun pre δ=>∃ o4 o5,δ = [.v (.int r),.v (zay ts),.v (encF f),.v (encF (lo1 (bnd ts r f pre) f.2,lo2 (bnd ts r f pre) f.2)),sv o4,sv o5]) (fitA ts r)
    (by
      rintro pre x post δ hall ⟨o4,o5,rfl⟩
      have pm:∀ k ∈ pre,ThOk (th ts k):=fun k hk=>by
        have:=fit_mem.mp (show k ∈ fitA ts r by rw [hall]; exact List.mem_append_left _ hk)
        exact ok _ (zdK this.1.1 this.1.2)
      have pl:pre.length ≤ 40:=by rw [hall] at fl; simp at fl; omega
      have xm:=(fit_mem.mp (show x ∈ fitA ts r by rw [hall]; simp)).1
      have xk:=ok _ (zdK xm.1 xm.2)
      have ix:=zgp (ts:=ts) xm.1 xm.2
      have e1:=zkw p (Int.le_of_lt xk.g0) xk.g1
      have e2:=znC p xk.lo xk.hi (Int.le_of_lt xk.g0) xk.g1
      obtain ⟨m,em⟩:∃ m,m=mor ts f x:=⟨_,rfl⟩
      rw [show (th ts x).1 * f.2 - (th ts x).2 * f.1=m from em.symm] at e2
      have mb:m.natAbs ≤ 10 ^ 47:=by
        have h1:(th ts x).1 * f.2 ≤ 1000000000000000000 * 10000000000000000000000000:=Int.mul_le_mul xk.hi p.g1 (Int.le_of_lt p.g0) (by decide)
        have h2:0 ≤ (th ts x).2 * f.1:=Int.mul_nonneg (Int.le_of_lt xk.g0) p.lo
        have h3:(th ts x).2 * f.1 ≤ 1000000000000000000 * 10000000000000000000000000:=Int.mul_le_mul xk.g1 p.hi p.lo (by decide)
        have h4:0 ≤ (th ts x).1 * f.2:=Int.mul_nonneg xk.lo (Int.le_of_lt p.g0)
        have e:(10:Nat) ^ 47=100000000000000000000000000000000000000000000000:=by decide
        rw [em,e]; unfold mor; omega
      have fo:Fit 1:=fitN 10 (by decide)
      have fz:Fit 0:=fitN 10 (by decide)
      have fm1:Fit (lo1 m f.2):=zop (Nat.le_trans (zeG p.g0) mb)
      have fm2:Fit (lo2 m f.2):=fitN (10 ^ 25) (Nat.le_trans (zeC p.g0) (zjQ (Int.le_of_lt p.g0) p.g1))
      have ls:=zj7 fz fo fm1 fm2
      have q1:mAsg (zbf zfU (zaa (mTup (zaa (m2 oIxT (m2 oIxL (mRd 1) (mRd 4)) (mC (.int 0))) (zaa (mC (.int 1)) mNil))) (zaa (zbf zeN (zaa (mVar 2) (zaa (mTup (zaa (m2 oIxT (m2 oIxL (mRd 1) (mRd 4)) (mC (.int 1))) (zaa (mC (.int 1)) mNil))) mNil))) mNil))) (zap 5) [.v (.int r),.v (zay ts),.v (encF f),.v (encF (lo1 (bnd ts r f pre) f.2,lo2 (bnd ts r f pre) f.2)),.v (.int x),sv o5] = .nx [.v (.int r),.v (zay ts),.v (encF f),.v (encF (lo1 (bnd ts r f pre) f.2,lo2 (bnd ts r f pre) f.2)),.v (.int x),.v (encF (lo1 m f.2,lo2 m f.2))]:=by
        refine zaC (d:=encF (lo1 m f.2,lo2 m f.2)) ?_ (zaS rfl)
        simp only [zaj,zbf,zaa,mNil,mTup,mVar,mRd,mC,zbZ,List.getElem?_cons_succ,List.getElem?_cons_zero,R.bind_ok,ix,R.of_some]
        simp only [show oIxT (encF (th ts x)) (.int 0)=some (.int (th ts x).1) from rfl,show oIxT (encF (th ts x)) (.int 1)=some (.int (th ts x).2) from rfl,R.of_some,R.bind_ok,List.length_cons,List.length_nil]
        rw [zbr (by decide),zbr (by decide)]
        simp only [R.bind_ok]
        rw [show D.tup [.int (th ts x).2,.int 1]=encF ((th ts x).2,1) from rfl,e1]
        simp only [R.nev_ok,R.bind_ok]
        rw [show D.tup [.int (th ts x).1,.int 1]=encF ((th ts x).1,1) from rfl,e2]
        try rfl
      refine ⟨[.v (.int r),.v (zay ts),.v (encF f),.v (encF (lo1 (bnd ts r f pre) f.2,lo2 (bnd ts r f pre) f.2)),.v (.int x),sv o5],[.v (.int r),.v (zay ts),.v (encF f),.v (encF (lo1 (bnd ts r f (pre ++ [x])) f.2,lo2 (bnd ts r f (pre ++ [x])) f.2)),.v (.int x),.v (encF (lo1 m f.2,lo2 m f.2))],zaS rfl,.inl ((zam q1).trans ?_),some _,some _,rfl⟩
      have eb:bnd ts r f (pre ++ [x])=bnd ts r f pre + posA ts f x:=by simp [bnd,List.sum_append]; omega
      rw [eb]
      have lsd:zc4 [.tup [.int 0,.int 1],encF (lo1 m f.2,lo2 m f.2)] = .ok (.bl (decide (0 < m))):=by
        have:=ls
        rw [show decide (0 * lo2 m f.2 < lo1 m f.2 * 1)=decide (0 < m) from decide_eq_decide.mpr (by rw [Int.zero_mul,Int.mul_one]; exact zox p.g0)] at this
        exact this
      have t1:zal (zaj zc4 (zaa (mTup (zaa (mC (.int 0)) (zaa (mC (.int 1)) mNil))) (zaa (mVar 5) mNil))) [.v (.int r),.v (zay ts),.v (encF f),.v (encF (lo1 (bnd ts r f pre) f.2,lo2 (bnd ts r f pre) f.2)),.v (.int x),.v (encF (lo1 m f.2,lo2 m f.2))] = .ok (decide (0 < m)):=by
        simp only [zal,zaj,zbf,zaa,mNil,mTup,mC,mVar,List.getElem?_cons_succ,List.getElem?_cons_zero,R.bind_ok,List.length_cons,List.length_nil]
        rw [zbr (by decide)]
        simp only [R.bind_ok,lsd,R.nev_ok,zla,R.of_some]
      by_cases hm:0 < m
      · rw [za5 (t1.trans (by rw [decide_eq_true hm]))]
        have ep:posA ts f x=m:=by unfold posA; rw [← em,if_pos hm]
        rw [ep]
        have pl:=zoy (t:=bnd ts r f pre) (u:=m) p.g0 p.g1 (zoc h0 h1 p pm pl) mb
        refine zaC (d:=encF (lo1 (bnd ts r f pre + m) f.2,lo2 (bnd ts r f pre + m) f.2)) ?_ rfl
        simp [zaj,zbf,zaa,mNil,mVar,pl]
      · rw [zaZ (t1.trans (by rw [decide_eq_false hm]))]
        have ep:posA ts f x=0:=by unfold posA; rw [← em,if_neg hm]
        rw [ep,Int.add_zero]
        rfl)
    [.v (.int r),.v (zay ts),.v (encF f),.v (encF (lo1 (bnd ts r f []) f.2,lo2 (bnd ts r f []) f.2)),.no,.no] ⟨none,none,rfl⟩
  refine za3 ?_
  show mSeq _ _ [.v (.int r),.v (zay ts),.v (encF f),.no,.no,.no]=_
  have q1:mAsg (zbf zeN (zaa (mVar 2) (zaa (mTup (zaa (mVar 0) (zaa (mC (.int 1)) mNil))) mNil))) (zap 3) [.v (.int r),.v (zay ts),.v (encF f),.no,.no,.no] = .nx [.v (.int r),.v (zay ts),.v (encF f),.v (encF (lo1 (bnd ts r f []) f.2,lo2 (bnd ts r f []) f.2)),.no,.no]:=by
    refine zaC (d:=encF (lo1 (bnd ts r f []) f.2,lo2 (bnd ts r f []) f.2)) ?_ rfl
    have e0:bnd ts r f []=f.1 * r:=by simp [bnd]
    rw [e0]
    simp only [zaj,zbf,zaa,mNil,mTup,mVar,mC,List.getElem?_cons_succ,List.getElem?_cons_zero,R.bind_ok,List.length_cons,List.length_nil]
    rw [zbr (by decide)]
    simp only [R.bind_ok]
    rw [show D.tup [.int r,.int 1]=encF (r,1) from rfl,zkw p h0 h1]
    try rfl
  have q2:zhe [.v (.int r),.v (zay ts),.v (encF f),.v (encF (lo1 (bnd ts r f []) f.2,lo2 (bnd ts r f []) f.2)),.no,.no] = .nx [.v (.int r),.v (zay ts),.v (encF f),.v (encF (lo1 (bnd ts r f (fitA ts r)) f.2,lo2 (bnd ts r f (fitA ts r)) f.2)),sv o4,sv o5]:=(zcR (l:=(fitA ts r).map .int) (by simp [mItL,zaj,zbf,zaa,mNil,mVar,zfX (show ts.length ≤ 100 by omega)])).trans hl
  exact (zam q1).trans ((zam q2).trans rfl)
end My
namespace My
open PySem L2 PM
theorem zlm {a b:Int} (ha:0 ≤ a) (hb:0 ≤ b):zch [.int a,.int b] = .ok (.int (Int.gcd a b)):=by
  let env:Nat × Nat→En:=fun p=>[.v (.int (p.1:Int)),.v (.int (p.2:Int))]
  obtain ⟨⟨x,y⟩,h1,h2,h3,_⟩:=zfy (c:=zdE) (m:=zdt) env (fun p=>decide (0 < p.2)) (fun p=>(p.2,p.1 % p.2)) (fun p=>Nat.gcd p.1 p.2=Int.gcd a b) (fun p=>p.2)
    (fun p _=>by
      simp only [env,zdE,zal,zbZ,mRd,mC,List.getElem?_cons_succ,List.getElem?_cons_zero,R.bind_ok,zpN,R.of_some,zla]
      congr 1
      exact decide_eq_decide.mpr (by omega))
    (fun p hp hg=>by
      have hy:0 < p.2:=by simpa using hg
      refine ⟨?_,?_,Nat.mod_lt _ hy⟩
      · simp only [env,zdt,mPar,zaa,mNil,mVar,zbZ,mRd,List.getElem?_cons_succ,List.getElem?_cons_zero,R.bind_ok,za6 (show (0:Int) < p.2 by omega),R.of_some,R.toO_ok]
        rw [← Int.natCast_emod]; rfl
      · show Nat.gcd p.2 (p.1 % p.2)=_
        rw [← hp,Nat.gcd_comm p.2,← Nat.gcd_rec,Nat.gcd_comm])
    (a.toNat,b.toNat) (by
      show Nat.gcd a.toNat b.toNat=Nat.gcd a.natAbs b.natAbs
      rw [show a.natAbs=a.toNat by omega,show b.natAbs=b.toNat by omega])
  have y0:y=0:=by
    have:¬ 0 < y:=by simpa using h2
    omega
  subst y0
  have ex:(x:Int)=Int.gcd a b:=by
    have:Nat.gcd x 0=Int.gcd a b:=h1
    rw [Nat.gcd_zero_right] at this
    omega
  refine za3 ?_
  have e3:ze2 [.v (.int a),.v (.int b)] = .nx [.v (.int (x:Int)),.v (.int 0)]:=by
    have:=h3
    simp only [env] at this
    rw [show (a.toNat:Int)=a by omega,show (b.toNat:Int)=b by omega] at this
    exact this
  show mSeq _ _ [.v (.int a),.v (.int b)]=_
  rw [zam e3,ex]; rfl
theorem znD {A:D} {t b a u:Int} {o3 o4 o5:Option D} (hb:0 < b) (hu:0 < u) (ft:Fit t) (fb:Fit b) (fa:Fit a) (fu:Fit u) (ff:b * u ≤ 10 ^ 100) :
    zd8 [.v A,.v (.int t),.v (.int b),.v (.int a),.v (.int u),sv o5] = .nx [.v A,.v (.int (lo1 (t * u + a * b) (b * u))),.v (.int (lo2 (t * u + a * b) (b * u))),.v (.int a),.v (.int u),.v (.int (Int.gcd (t * u + a * b) (b * u)))]:=by
  have bu:0 < b * u:=Int.mul_pos hb hu
  have g:=zc7 (t:=t * u + a * b) bu
  have gl:((Int.gcd (t * u + a * b) (b * u):Nat):Int) ≤ b * u:=Int.le_of_dvd bu (Int.gcd_dvd_right ..)
  have fg:Fit (Int.gcd (t * u + a * b) (b * u)):=fitN (10 ^ 100) (by omega)
  have q1:mPar 1 2 (zaa (m2 oAdd (m2 oMul (mRd 1) (mRd 4)) (m2 oMul (mRd 3) (mRd 2))) (zaa (m2 oMul (mRd 2) (mRd 4)) mNil)) [.v A,.v (.int t),.v (.int b),.v (.int a),.v (.int u),sv o5] = .nx [.v A,.v (.int (t * u + a * b)),.v (.int (b * u)),.v (.int a),.v (.int u),sv o5]:=by
    simp only [mPar,zaa,mNil,zbZ,mRd,List.getElem?_cons_succ,List.getElem?_cons_zero,R.bind_ok,zbv ft fu,zbv fa fb,zbv fb fu,zh4,R.of_some,R.toO_ok]; rfl
  have dv:=zlm (a:=((t * u + a * b).natAbs:Int)) (b:=b * u) (by omega) (Int.le_of_lt bu)
  have eg:Int.gcd ((t * u + a * b).natAbs:Int) (b * u)=Int.gcd (t * u + a * b) (b * u):=by unfold Int.gcd; rw [Int.natAbs_natCast]
  rw [eg] at dv
  have ab:fAbs [.int (t * u + a * b)]=some (.int ((t * u + a * b).natAbs:Int)):=by
    show some (D.int (if t * u + a * b < 0 then -(t * u + a * b) else t * u + a * b))=_
    congr 2
    split <;> omega
  have q2:mAsg (zaj zch (zaa (mCB fAbs (zaa (mRd 1) mNil)) (zaa (mVar 2) mNil))) (zap 5) [.v A,.v (.int (t * u + a * b)),.v (.int (b * u)),.v (.int a),.v (.int u),sv o5] = .nx [.v A,.v (.int (t * u + a * b)),.v (.int (b * u)),.v (.int a),.v (.int u),.v (.int (Int.gcd (t * u + a * b) (b * u)))]:=by
    refine zaC (d:=.int (Int.gcd (t * u + a * b) (b * u))) ?_ (zaS rfl)
    simp only [zaj,zaa,mNil,mCB,mRd,mVar,List.getElem?_cons_succ,List.getElem?_cons_zero,R.bind_ok,ab,R.of_some,dv]; rfl
  refine (zam q1).trans ((zam q2).trans ?_)
  simp only [mPar,zaa,mNil,zbZ,mRd,List.getElem?_cons_succ,List.getElem?_cons_zero,R.bind_ok,zcx g fg,R.of_some,R.toO_ok]; rfl
end My
namespace My
open PySem L2 PM
def adF (f p:Fr):Fr:=(lo1 (f.1 * p.2 + p.1 * f.2) (f.2 * p.2),lo2 (f.1 * p.2 + p.1 * f.2) (f.2 * p.2))
structure FrB (M:Nat) (f:Fr):Prop where
  t:f.1.natAbs ≤ M
  b:f.2.natAbs ≤ M
  g0:0 < f.2
theorem zkX {M K:Nat} {f p:Fr} (hf:FrB M f) (hp:FrB K p):FrB (2 * (M * K)) (adF f p):=by
  have bu:0 < f.2 * p.2:=Int.mul_pos hf.g0 hp.g0
  have h1:(f.1 * p.2).natAbs ≤ M * K:=by rw [Int.natAbs_mul]; exact Nat.mul_le_mul hf.t hp.b
  have h2:(p.1 * f.2).natAbs ≤ M * K:=by rw [Int.natAbs_mul,Nat.mul_comm]; exact Nat.mul_le_mul hf.b hp.t
  have h3:(f.2 * p.2).natAbs ≤ M * K:=by rw [Int.natAbs_mul]; exact Nat.mul_le_mul hf.b hp.b
  have h4:(f.1 * p.2 + p.1 * f.2).natAbs ≤ 2 * (M * K):=Nat.le_trans (Int.natAbs_add_le _ _) (by omega)
  exact ⟨Nat.le_trans (zeG bu) h4,Nat.le_trans (zeC bu) (by omega),zgV bu⟩
theorem zie:∀ (ps:List Fr),ps.length ≤ 2→(∀ p ∈ ps,FrB (10 ^ 20) p)→zbN [.lst (ps.map encF)] = .ok (encF (ps.foldl adF (0,1))):=by
  intro ps hl hp
  obtain ⟨A,eA⟩:∃ A,A=D.lst (ps.map encF):=⟨_,rfl⟩
  have st:∀ (f p:Fr) (o3 o4 o5:Option D),FrB (10 ^ 43) f→FrB (10 ^ 20) p→∃ q5:Option D,bTup 2 (zcu (zap 3) (zcu (zap 4) bNil)) (encF p) [.v A,.v (.int f.1),.v (.int f.2),sv o3,sv o4,sv o5]=some [.v A,.v (.int f.1),.v (.int f.2),.v (.int p.1),.v (.int p.2),sv o5]∧zd8 [.v A,.v (.int f.1),.v (.int f.2),.v (.int p.1),.v (.int p.2),sv o5] = .nx [.v A,.v (.int (adF f p).1),.v (.int (adF f p).2),.v (.int p.1),.v (.int p.2),sv q5]:=fun f p o3 o4 o5 hf hp=>by
    refine ⟨some _,?_,znD (o3:=none) (o4:=none) hf.g0 hp.g0 (fitN _ hf.t) (fitN _ hf.b) (fitN _ hp.t) (fitN _ hp.b) ?_⟩
    · rcases o3 with _ | o3 <;> rcases o4 with _ | o4 <;> rfl
    · have h3:(f.2 * p.2).natAbs ≤ 10 ^ 43 * 10 ^ 20:=by rw [Int.natAbs_mul]; exact Nat.mul_le_mul hf.b hp.b
      have e:(10:Nat) ^ 43 * 10 ^ 20=10 ^ 63:=by decide
      rw [e] at h3
      have e2:(10:Nat) ^ 63 ≤ 10 ^ 100:=by decide +kernel
      have e3:((10 ^ 100:Nat):Int)=(10:Int) ^ 100:=by norm_cast
      omega
  have run:∀ (qs:List Fr) (f:Fr) (M:Nat) (o3 o4 o5:Option D),(∀ p ∈ qs,FrB (10 ^ 20) p)→FrB M f→M * (2 * 10 ^ 20) ^ qs.length ≤ 10 ^ 43→∃ p3 p4 p5:Option D,zcm (bTup 2 (zcu (zap 3) (zcu (zap 4) bNil))) zd8 (qs.map encF) [.v A,.v (.int f.1),.v (.int f.2),sv o3,sv o4,sv o5] = .nx [.v A,.v (.int (qs.foldl adF f).1),.v (.int (qs.foldl adF f).2),sv p3,sv p4,sv p5]:=by
    intro qs
    induction qs with
    | nil=>intro f M o3 o4 o5 _ _ _; exact ⟨o3,o4,o5,rfl⟩
    | cons p qs ih =>
      intro f M o3 o4 o5 hq hf hM
      have pos:1 ≤ (2 * 10 ^ 20) ^ qs.length:=Nat.one_le_pow _ _ (by decide)
      have eM:M * (2 * 10 ^ 20) ^ (p :: qs).length=2 * (M * 10 ^ 20) * (2 * 10 ^ 20) ^ qs.length:=by
        rw [List.length_cons,Nat.pow_succ]
        generalize (2 * 10 ^ 20) ^ qs.length=X
        rw [Nat.mul_comm X,← Nat.mul_assoc]
        congr 1
        omega
      rw [eM] at hM
      have hM2:M ≤ 10 ^ 43:=by
        have a1:2 * (M * 10 ^ 20) * 1 ≤ 2 * (M * 10 ^ 20) * (2 * 10 ^ 20) ^ qs.length:=Nat.mul_le_mul_left _ pos
        omega
      have hf':FrB (10 ^ 43) f:=⟨Nat.le_trans hf.t hM2,Nat.le_trans hf.b hM2,hf.g0⟩
      obtain ⟨q5,b1,b2⟩:=st f p o3 o4 o5 hf' (hq p (by simp))
      obtain ⟨p3,p4,p5,hh⟩:=ih (adF f p) (2 * (M * 10 ^ 20)) (some (.int p.1)) (some (.int p.2)) q5 (fun q hqq=>hq q (List.mem_cons_of_mem _ hqq)) (zkX hf (hq p (by simp))) hM
      refine ⟨p3,p4,p5,?_⟩
      rw [List.map_cons]
      unfold zcm
      rw [b1]
      simp only [b2]
      exact hh
  obtain ⟨p3,p4,p5,h1⟩:=run ps (0,1) 1 none none none hp ⟨by decide,by decide,by decide⟩ (by
    have:(2 * 10 ^ 20) ^ ps.length ≤ (2 * 10 ^ 20) ^ 2:=Nat.pow_le_pow_right (by decide) hl
    exact Nat.le_trans (by rw [Nat.one_mul]; exact this) (by decide))
  refine za3 ?_
  rw [← eA]
  show mSeq _ _ [.v A,.no,.no,.no,.no,.no]=_
  have q1:mAsg (mTup (zaa (mC (.int 0)) (zaa (mC (.int 1)) mNil))) (bTup 2 (zcu (zap 1) (zcu (zap 2) bNil))) [.v A,.no,.no,.no,.no,.no] = .nx [.v A,.v (.int 0),.v (.int 1),sv none,sv none,sv none]:=zaC (d:=.tup [.int 0,.int 1]) (by simp [mTup,zaa,mNil,mC,sizeLine]) rfl
  have q2:zid [.v A,.v (.int 0),.v (.int 1),sv none,sv none,sv none]=_:=(zcR (l:=ps.map encF) (by rw [eA]; rfl)).trans h1
  refine (zam q1).trans ((zam q2).trans ?_)
  simp [mRet,mTup,zaa,mNil,mVar,sizeLine,encF]
end My
namespace My
open PySem L2 PM
theorem FrB.up {M K:Nat} {f:Fr} (h:FrB M f) (hk:M ≤ K):FrB K f:=⟨Nat.le_trans h.t hk,Nat.le_trans h.b hk,h.g0⟩
theorem zgz {ts:List Fr} {f:Fr} {x:Int} (hn:ts.length ≤ 100) (ok:∀ t ∈ ts,FrB (10 ^ 18) t) (hf:FrB (10 ^ 18) f) (x0:0 ≤ x):∃ g:Fr,za1 [encF f,.int x,zay ts] = .ok (encF g)∧FrB (10 ^ 25) g:=by
  have f6:Fit 6:=fitN 100 (by decide)
  have f6000:Fit 6000:=fitN 10000 (by decide)
  obtain ⟨P,eP⟩:∃ P,P=encF f:=⟨_,rfl⟩
  obtain ⟨T,eT⟩:∃ T,T=zay ts:=⟨_,rfl⟩
  obtain ⟨w,ew⟩:∃ w:Int,w=x % 6:=⟨_,rfl⟩
  obtain ⟨s1,es1⟩:∃ s1:Int,s1=1 + x / 6 % 1000:=⟨_,rfl⟩
  obtain ⟨s2,es2⟩:∃ s2:Int,s2=1 + x / 6000 % 1000003:=⟨_,rfl⟩
  have b1:0 < s1∧s1 ≤ 1000:=by omega
  have b2:0 < s2∧s2 ≤ 1000003:=by omega
  have q1:mAsg (m2 oMod (mRd 1) (mC (.int 6))) (zap 3) [.v P,.v (.int x),.v T,.no,.no] = .nx [.v P,.v (.int x),.v T,.v (.int w),.no]:=zaC (d:=.int w) (by simp [mRd,mC,za6 (show (0:Int) < 6 by decide),ew]) rfl
  have q2:mAsg (mTup (zaa (m2 oAdd (mC (.int 1)) (m2 oMod (m2 oDiv (mRd 1) (mC (.int 6))) (mC (.int 1000)))) (zaa (m2 oAdd (mC (.int 1)) (m2 oMod (m2 oDiv (mRd 1) (mC (.int 6000))) (mC (.int 1000003)))) mNil))) (zap 4) [.v P,.v (.int x),.v T,.v (.int w),.no] = .nx [.v P,.v (.int x),.v T,.v (.int w),.v (encF (s1,s2))]:=by
    refine zaC (d:=encF (s1,s2)) ?_ rfl
    simp [mTup,zaa,mNil,mRd,mC,zcx (show (0:Int) < 6 by decide) f6,zcx (show (0:Int) < 6000 by decide) f6000,za6 (show (0:Int) < 1000 by decide),za6 (show (0:Int) < 1000003 by decide),sizeLine,encF,← es1,← es2]
  obtain ⟨δ,eδ⟩:∃ δ:En,δ = [.v P,.v (.int x),.v T,.v (.int w),.v (encF (s1,s2))]:=⟨_,rfl⟩
  have te:∀ k:Int,zal (m2 oEq (mRd 3) (mC (.int k))) δ = .ok (decide (w=k)):=fun k=>by rw [eδ]; simp [zal,mRd,mC]
  have fs:FrB 1000003 (s1,s2):=⟨by show s1.natAbs ≤ _; omega,by show s2.natAbs ≤ _; omega,b2.1⟩
  have fm:FrB 1000003 (0 - s1,s2):=⟨by show (0 - s1).natAbs ≤ _; omega,by show s2.natAbs ≤ _; omega,b2.1⟩
  have z1:FrB 1 ((0,1):Fr):=⟨by decide,by decide,by decide⟩
  have up20:∀ g:Fr,FrB 1000003 g→FrB (10 ^ 20) g:=fun g h=>h.up (by decide)
  have hf20:FrB (10 ^ 20) f:=hf.up (by decide)
  have sm:∀ g:Fr,FrB 1000003 g→zbN [.lst [encF f,encF g]] = .ok (encF (adF (adF (0,1) f) g))∧FrB (10 ^ 25) (adF (adF (0,1) f) g):=fun g hg=>by
    refine ⟨zie [f,g] (by simp) (fun p hp=>?_),(zkX (zkX z1 hf) hg).up (by decide)⟩
    rcases List.mem_cons.mp hp with e | e
    · rw [e]; exact hf20
    · rw [List.mem_singleton.mp e]; exact up20 g hg
  have fin:∀ g:Fr,mSeq (mIfS (zal (m2 oEq (mRd 3) (mC (.int 0)))) (mRet (zaj zbN (zaa (mLst (zaa (mVar 0) (zaa (mVar 4) mNil))) mNil))) zaM) (mSeq (mIfS (zal (m2 oEq (mRd 3) (mC (.int 1)))) (mRet (zaj zbN (zaa (mLst (zaa (mVar 0) (zaa (mTup (zaa (m2 oSub (mC (.int 0)) (m2 oIxT (mRd 4) (mC (.int 0)))) (zaa (m2 oIxT (mRd 4) (mC (.int 1))) mNil))) mNil))) mNil))) zaM) (mSeq (mIfS (zal (m2 oEq (mRd 3) (mC (.int 2)))) (mRet (mTup (zaa (mC (.int 0)) (zaa (mC (.int 1)) mNil)))) zaM) (mSeq (mIfS (mAnd (zal (m2 oEq (mRd 3) (mC (.int 3)))) (zal (m2 oNeD (mRd 2) (mLst mNil)))) (mRet (zaj zbN (zaa (mLst (zaa (m2 oIxL (mRd 2) (m2 oMod (m2 oDiv (mRd 1) (mC (.int 6))) (mCB fLen (zaa (mRd 2) mNil)))) mNil)) mNil))) zaM) (mRet (mVar 0))))) δ = .rt (encF g)→za1 [encF f,.int x,zay ts] = .ok (encF g):=fun g q=>by
    refine za3 ?_
    rw [← eP,← eT]
    show mSeq _ _ [.v P,.v (.int x),.v T,.no,.no]=_
    rw [eδ] at q
    exact (zam q1).trans ((zam q2).trans q)
  have seqR:∀ (m m':En→O) (d:D),m δ = .rt d→mSeq m m' δ = .rt d:=fun m m' d e=>by unfold mSeq; rw [e]
  have nxt:∀ (k:Int) (m:En→O),w ≠ k→mIfS (zal (m2 oEq (mRd 3) (mC (.int k)))) m zaM δ = .nx δ:=fun k m h=>by rw [zaZ (by rw [te,decide_eq_false h])]; rfl
  have v0:mVar 0 δ = .ok (encF f):=by rw [eδ,eP]; rfl
  have v4:mVar 4 δ = .ok (encF (s1,s2)):=by rw [eδ]; rfl
  by_cases w0:w=0
  · obtain ⟨h1,h2⟩:=sm _ fs
    refine ⟨_,fin _ (seqR _ _ _ ?_),h2⟩
    rw [za5 (by rw [te,decide_eq_true w0])]
    have l:mLst (zaa (mVar 0) (zaa (mVar 4) mNil)) δ = .ok (.lst [encF f,encF (s1,s2)]):=by simp [mLst,zaa,mNil,v0,v4,sizeLine]
    simp only [mRet,zaj,zaa,mNil] at l ⊢
    simp only [l,R.bind_ok,h1]; rfl
  · by_cases w1:w=1
    · obtain ⟨h1,h2⟩:=sm _ fm
      refine ⟨_,fin _ ((zam (nxt 0 _ w0)).trans (seqR _ _ _ ?_)),h2⟩
      rw [za5 (by rw [te,decide_eq_true w1])]
      have l:mLst (zaa (mVar 0) (zaa (mTup (zaa (m2 oSub (mC (.int 0)) (m2 oIxT (mRd 4) (mC (.int 0)))) (zaa (m2 oIxT (mRd 4) (mC (.int 1))) mNil))) mNil)) δ = .ok (.lst [encF f,encF (0 - s1,s2)]):=by
        rw [eδ,eP]
        simp [mLst,mTup,zaa,mNil,mVar,mRd,mC,encF,sizeLine]
      simp only [mRet,zaj,zaa,mNil] at l ⊢
      simp only [l,R.bind_ok,h1]; rfl
    · by_cases w2:w=2
      · refine ⟨(0,1),fin _ ((zam (nxt 0 _ w0)).trans ((zam (nxt 1 _ w1)).trans (seqR _ _ _ ?_))),⟨by decide,by decide,by decide⟩⟩
        rw [za5 (by rw [te,decide_eq_true w2])]
        simp [mRet,mTup,zaa,mNil,mC,sizeLine,encF]
      · have last:∀ g:Fr,mSeq (mIfS (mAnd (zal (m2 oEq (mRd 3) (mC (.int 3)))) (zal (m2 oNeD (mRd 2) (mLst mNil)))) (mRet (zaj zbN (zaa (mLst (zaa (m2 oIxL (mRd 2) (m2 oMod (m2 oDiv (mRd 1) (mC (.int 6))) (mCB fLen (zaa (mRd 2) mNil)))) mNil)) mNil))) zaM) (mRet (mVar 0)) δ = .rt (encF g)→za1 [encF f,.int x,zay ts] = .ok (encF g):=fun g q=>fin _ ((zam (nxt 0 _ w0)).trans ((zam (nxt 1 _ w1)).trans ((zam (nxt 2 _ w2)).trans q)))
        have lv:mLst mNil δ = .ok (.lst []):=by simp [mLst,mNil,sizeLine]
        have stay:mAnd (zal (m2 oEq (mRd 3) (mC (.int 3)))) (zal (m2 oNeD (mRd 2) (mLst mNil))) δ = .ok false→∃ g:Fr,za1 [encF f,.int x,zay ts] = .ok (encF g)∧FrB (10 ^ 25) g:=fun h=>by
          refine ⟨f,last _ ?_,hf.up (by decide)⟩
          have n3:(mIfS (mAnd (zal (m2 oEq (mRd 3) (mC (.int 3)))) (zal (m2 oNeD (mRd 2) (mLst mNil)))) (mRet (zaj zbN (zaa (mLst (zaa (m2 oIxL (mRd 2) (m2 oMod (m2 oDiv (mRd 1) (mC (.int 6))) (mCB fLen (zaa (mRd 2) mNil)))) mNil)) mNil))) zaM) δ = .nx δ:=by rw [zaZ h]; rfl
          refine (zam n3).trans ?_
          simp only [mRet,v0]; rfl
        by_cases w3:w=3
        · cases ts with
          | nil =>
            refine stay ?_
            have ne:oNeD T (.lst [])=some (.bl false):=by rw [eT]; exact ziq rfl rfl rfl
            have t2:zal (m2 oNeD (mRd 2) (mLst mNil)) δ = .ok false:=by
              simp only [zal,zbZ,lv]
              rw [eδ]
              simp [mRd,ne]
            simp only [mAnd,te,decide_eq_true w3,t2,R.bind_ok]; rfl
          | cons a ts =>
            have pl:∀ l:List Fr,zbx 8 (zay l)=true:=fun l=>by
              unfold zay
              simp [zbx,encF]
            have ne:oNeD T (.lst [])=some (.bl true):=by
              unfold oNeD
              rw [zbr ⟨by rw [eT]; exact pl _,rfl⟩]
              have:T ≠ .lst []:=by rw [eT]; intro z; cases z
              simp [this]
            have t2:zal (m2 oNeD (mRd 2) (mLst mNil)) δ = .ok true:=by
              simp only [zal,zbZ,lv]
              rw [eδ]
              simp [mRd,ne]
            have lp:(0:Int) < ((a :: ts).length:Int):=by rw [List.length_cons]; omega
            have a0:=Int.emod_nonneg (x / 6) (show ((a :: ts).length:Int) ≠ 0 by omega)
            have a1:=Int.emod_lt_of_pos (x / 6) lp
            have ix:=zgp (ts:=a :: ts) a0 a1
            have lT:fLen [T]=some (.int (a :: ts).length):=by rw [eT]; simp [zay,fLen]
            have tm:=ok _ (zdK (ts:=a :: ts) a0 a1)
            rw [← eT] at ix
            have l:mLst (zaa (m2 oIxL (mRd 2) (m2 oMod (m2 oDiv (mRd 1) (mC (.int 6))) (mCB fLen (zaa (mRd 2) mNil)))) mNil) δ = .ok (.lst [encF (th (a :: ts) (x / 6 % ((a :: ts).length:Int)))]):=by
              have v:m2 oIxL (mRd 2) (m2 oMod (m2 oDiv (mRd 1) (mC (.int 6))) (mCB fLen (zaa (mRd 2) mNil))) δ = .ok (encF (th (a :: ts) (x / 6 % ((a :: ts).length:Int)))):=by
                rw [eδ]
                simp only [zbZ,mRd,mC,mCB,zaa,mNil,List.getElem?_cons_succ,List.getElem?_cons_zero,R.bind_ok,zcx (show (0:Int) < 6 by decide) f6,lT,R.of_some,za6 lp,ix]
              simp only [mLst,zaa,mNil,v,R.bind_ok]
              rw [zbr (by show 1 ≤ sizeLine; decide)]
            have sm1:=zie [th (a :: ts) (x / 6 % ((a :: ts).length:Int))] (by simp) (fun p hp=>by rw [List.mem_singleton.mp hp]; exact tm.up (by decide))
            refine ⟨_,last _ (seqR _ _ _ ?_),(zkX z1 tm).up (by decide)⟩
            rw [za5 (by simp only [mAnd,te,decide_eq_true w3,t2,R.bind_ok]; rfl)]
            simp only [mRet,zaj,zaa,mNil] at l ⊢
            simp only [l,R.bind_ok]
            rw [show [encF (th (a :: ts) (x / 6 % ((a :: ts).length:Int)))] = [th (a :: ts) (x / 6 % ((a :: ts).length:Int))].map encF from rfl,sm1]; rfl
        · exact stay (by simp only [mAnd,te,decide_eq_false w3,R.bind_ok]; rfl)
end My
namespace My
open PySem L2 PM
def zjh (ts:List Fr) (r:Int) (tk:List Int) (f:Fr):D :=
  if okU tk ts.length=false then .str "taken" else if r < wgt ts tk then .str "full" else if f.1 < 0 then .str "price" else if 2 * wrt ts tk * f.2 < bnd ts r f (fitA ts r) then .str "share" else .non
theorem znq {w t b:Int} (hb:0 < b):w * lo2 t b < lo1 t b * 1 ↔ w * b < t:=by
  have g:=zc7 (t:=t) hb
  have e1:=zes (t:=t) (b:=b)
  have e2:=zdF (t:=t) (b:=b)
  rw [Int.mul_one]
  have k1:w * b=w * lo2 t b * (Int.gcd t b:Int):=by rw [Int.mul_assoc,e2]
  rw [k1]
  conv=>rhs; rw [← e1]
  exact ⟨fun h=>by
    have:=Int.mul_lt_mul_of_pos_right h g
    rw [e1]
    rw [e1] at this
    exact this,fun h=>by
    rw [e1] at h
    have h':w * lo2 t b * (Int.gcd t b:Int) < lo1 t b * (Int.gcd t b:Int):=by rw [e1]; exact h
    exact Int.lt_of_mul_lt_mul_right h' (Int.le_of_lt g)⟩
theorem zlY (d:D) (h:d = .non∨∃ x,d = .str x):zcP [d,d] = .ok (.bl true):=by
  refine za3 ?_
  show mSeq _ _ [.v d,.v d]=_
  rcases h with rfl | ⟨x,rfl⟩
  · rfl
  · have i:oIsi "str" (.str x)=some (.bl true):=rfl
    have q1:mIfS (zal (m2 oIs (mRd 1) (mC .non))) (mRet (m2 oIs (mRd 0) (mC .non))) zaM [.v (.str x),.v (.str x)] = .nx [.v (.str x),.v (.str x)]:=by
      rw [zaZ (by simp [zal,mRd,mC,isN])]; rfl
    refine (zam q1).trans ?_
    have eq:oEq (.str x) (.str x)=some (.bl true):=by
      show (if scal (.str x) (.str x)=true then some (D.bl (decide (V.str x=V.str x))) else none)=_
      rw [if_pos (show scal (.str x) (.str x)=true from rfl),decide_eq_true rfl]
    simp [mRet,zhP,mRd,i,eq]
theorem zll (ts:List Fr) (r:Int) (tk:List Int) (f:Fr):zjh ts r tk f = .non∨∃ x,zjh ts r tk f = .str x:=by
  unfold zjh
  (repeat' split)
  all_goals first | exact .inl rfl | exact .inr ⟨_,rfl⟩
theorem znH {δ:En} {ts:List Fr} {l:List Int} {mi:En→R (List D)} {g:Fr→Int} {j:Int} (h1:mi δ = .ok (l.map .int)) (hl:l.length ≤ 1000) (hd:za2 δ [1] 1 = [.v (zay ts),.no]) (hm:∀ k ∈ l,0 ≤ k∧k < ts.length) (hg:∀ f,oIxT (encF f) (.int j)=some (.int (g f))) :
    mCB fSum (zaa (zc1 mi [1] 1 (za0 1) none (m2 oIxT (m2 oIxL (mRd 0) (mRd 1)) (mC (.int j)))) mNil) δ = .ok (.int (l.map fun k=>g (th ts k)).sum):=by
  have k:zc1 mi [1] 1 (za0 1) none (m2 oIxT (m2 oIxL (mRd 0) (mRd 1)) (mC (.int j))) δ = .ok (.lst ((l.map fun k=>g (th ts k)).map .int)):=by
    refine zbC h1 (by rw [List.length_map]; omega) ?_
    rw [hd,List.map_map]
    refine zbg .int _ _ fun q hq=>?_
    have ix:=zgp (ts:=ts) (hm q hq).1 (hm q hq).2
    simp [zcX,za0,mRd,mC,ix,hg]
  have fs:fSum [.lst ((l.map fun k=>g (th ts k)).map .int)]=some (.int (l.map fun k=>g (th ts k)).sum):=by simp only [fSum,zcE]; rfl
  simp only [mCB,zaa,mNil,k,R.bind_ok,fs,R.of_some]
end My
namespace My
open PySem L2 PM
theorem zfO {l:List Int} {c:Int} (h:okU l c=true):∀ q ∈ l,0 ≤ q∧q < c:=(of_decide_eq_true h).1
theorem ziF {ts:List Fr} {r:Int} {f:Fr} {tk:List Int} (hn:ts.length ≤ 40) (ok:∀ t ∈ ts,ThOk t) (r0:0 ≤ r) (r1:r ≤ 1000000000000000000) (hl:tk.length ≤ 1000) (hf:FrB (10 ^ 25) f) :
    zcy [.int r,zay ts,iL tk,encF f] = .ok (zjh ts r tk f):=by
  obtain ⟨T,eT⟩:∃ T,T=zay ts:=⟨_,rfl⟩
  have lT:fLen [T]=some (.int ts.length):=by rw [eT]; simp [zay,fLen]
  have ub:=zdA (c:=(ts.length:Int)) hl
  have t1:zal (zaj zaX (zaa (mVar 2) (zaa (mCB fLen (zaa (mRd 1) mNil)) mNil))) [.v (.int r),.v T,.v (iL tk),.v (encF f),.no] = .ok (okU tk ts.length):=by
    simp [zal,zaj,zaa,mNil,mVar,mCB,mRd,lT,ub]
  refine za3 ?_
  rw [← eT]
  show mSeq _ _ [.v (.int r),.v T,.v (iL tk),.v (encF f),.no]=_
  obtain ⟨δ,eδ⟩:∃ δ:En,δ = [.v (.int r),.v T,.v (iL tk),.v (encF f),.no]:=⟨_,rfl⟩
  rw [← eδ] at t1 ⊢
  have seqR:∀ (m m':En→O) (d:D),m δ = .rt d→mSeq m m' δ = .rt d:=fun m m' d e=>by unfold mSeq; rw [e]
  unfold zjh
  by_cases c1:okU tk ts.length=false
  · rw [if_pos c1]
    refine seqR _ _ _ ?_
    rw [za5 (by simp only [mNot,t1,R.bind_ok,c1]; rfl)]; rfl
  · rw [if_neg c1]
    have o1:okU tk ts.length=true:=by cases z:okU tk ts.length; exact absurd z c1; rfl
    have tm:=zfO o1
    have n1:mIfS (mNot (zal (zaj zaX (zaa (mVar 2) (zaa (mCB fLen (zaa (mRd 1) mNil)) mNil))))) (mRet (mC (.str "taken"))) zaM δ = .nx δ:=by
      rw [zaZ (by simp only [mNot,t1,R.bind_ok,o1]; rfl)]; rfl
    refine (zam n1).trans ?_
    have sw:mCB fSum (zaa zdi mNil) δ = .ok (.int (wgt ts tk)):=znH (mi:=mItL (mRd 2)) (g:=fun f=>f.2) (by rw [eδ]; simp [mItL,mRd]) hl (by rw [eδ,eT]; rfl) tm fun f=>rfl
    have sv':mCB fSum (zaa zee mNil) δ = .ok (.int (wrt ts tk)):=znH (mi:=mItL (mRd 2)) (g:=fun f=>f.1) (by rw [eδ]; simp [mItL,mRd]) hl (by rw [eδ,eT]; rfl) tm fun f=>rfl
    have t2:zal (m2 oGt (mCB fSum (zaa zdi mNil)) (mRd 0)) δ = .ok (decide (r < wgt ts tk)):=by
      have:mRd 0 δ = .ok (.int r):=by rw [eδ]; rfl
      simp only [zal,zbZ,sw,this,R.bind_ok]; simp
    by_cases c2:r < wgt ts tk
    · rw [if_pos c2]
      refine seqR _ _ _ ?_
      rw [za5 (by rw [t2,decide_eq_true c2])]; rfl
    · rw [if_neg c2]
      have n2:mIfS (zal (m2 oGt (mCB fSum (zaa zdi mNil)) (mRd 0))) (mRet (mC (.str "full"))) zaM δ = .nx δ:=by rw [zaZ (by rw [t2,decide_eq_false c2])]; rfl
      refine (zam n2).trans ?_
      have t3:zal (m2 oLt (m2 oIxT (mRd 3) (mC (.int 0))) (mC (.int 0))) δ = .ok (decide (f.1 < 0)):=by rw [eδ]; simp [zal,mRd,mC,encF]
      by_cases c3:f.1 < 0
      · rw [if_pos c3]
        refine seqR _ _ _ ?_
        rw [za5 (by rw [t3,decide_eq_true c3])]; rfl
      · rw [if_neg c3]
        have n3:mIfS (zal (m2 oLt (m2 oIxT (mRd 3) (mC (.int 0))) (mC (.int 0)))) (mRet (mC (.str "price"))) zaM δ = .nx δ:=by rw [zaZ (by rw [t3,decide_eq_false c3])]; rfl
        refine (zam n3).trans ?_
        have pc:PcOk f:=⟨by omega,by have:=hf.t; omega,hf.g0,by have:=hf.b; have:=hf.g0; omega⟩
        have bo:=zjU (f:=f) hn ok r0 r1 pc
        rw [← eT] at bo
        have q4:mAsg (mCB fSum (zaa zee mNil)) (zap 4) δ = .nx [.v (.int r),.v T,.v (iL tk),.v (encF f),.v (.int (wrt ts tk))]:=zaC sv' (by rw [eδ]; rfl)
        refine (zam q4).trans ?_
        have tk2:∀ k ∈ tk,ThOk (th ts k):=fun k hk=>ok _ (zdK (tm k hk).1 (tm k hk).2)
        have w0:0 ≤ wrt ts tk:=zkQ fun k hk=>(tk2 k hk).lo
        have w1:wrt ts tk ≤ (tk.length:Int) * 1000000000000000000:=zmQ (f:=fun k=>(th ts k).1) fun k hk=>(tk2 k hk).hi
        have w2:wrt ts tk ≤ 1000000000000000000000:=by omega
        obtain ⟨w,ew⟩:∃ w,w=wrt ts tk:=⟨_,rfl⟩
        rw [← ew] at w0 w2 ⊢
        have f2:Fit 2:=fitN 10 (by decide)
        have fw:Fit w:=fitN (10 ^ 21) (by omega)
        have f2w:Fit (2 * w):=fitN (10 ^ 22) (by omega)
        have fo:Fit 1:=fitN 10 (by decide)
        have bh:=zoc (ts:=ts) (l:=fitA ts r) r0 r1 pc (fun k hk=>by
          have:=fit_mem.mp hk
          exact ok _ (zdK this.1.1 this.1.2)) (Nat.le_trans (zfh ts r) hn)
        have l1:Fit (lo1 (bnd ts r f (fitA ts r)) f.2):=fitN (10 ^ 47) (Nat.le_trans (zeG hf.g0) bh)
        have l2:Fit (lo2 (bnd ts r f (fitA ts r)) f.2):=fitN (10 ^ 25) (Nat.le_trans (zeC hf.g0) hf.b)
        have ls:=zj7 f2w fo l1 l2
        rw [show decide (2 * w * lo2 (bnd ts r f (fitA ts r)) f.2 < lo1 (bnd ts r f (fitA ts r)) f.2 * 1)=decide (2 * w * f.2 < bnd ts r f (fitA ts r)) from decide_eq_decide.mpr (znq hf.g0)] at ls
        have t5:zal (zaj zc4 (zaa (mTup (zaa (m2 oMul (mC (.int 2)) (mRd 4)) (zaa (mC (.int 1)) mNil))) (zaa (zbf zb3 (zaa (mVar 0) (zaa (mVar 1) (zaa (mVar 3) mNil)))) mNil))) [.v (.int r),.v T,.v (iL tk),.v (encF f),.v (.int w)] = .ok (decide (2 * w * f.2 < bnd ts r f (fitA ts r))):=by
          have a1:mTup (zaa (m2 oMul (mC (.int 2)) (mRd 4)) (zaa (mC (.int 1)) mNil)) [.v (.int r),.v T,.v (iL tk),.v (encF f),.v (.int w)] = .ok (.tup [.int (2 * w),.int 1]):=by
            simp [mTup,zaa,mNil,mC,mRd,zbv f2 fw,sizeLine]
          have a2:zbf zb3 (zaa (mVar 0) (zaa (mVar 1) (zaa (mVar 3) mNil))) [.v (.int r),.v T,.v (iL tk),.v (encF f),.v (.int w)] = .ok (encF (lo1 (bnd ts r f (fitA ts r)) f.2,lo2 (bnd ts r f (fitA ts r)) f.2)):=by
            simp [zbf,zaa,mNil,mVar,bo]
          have a3:zaj zc4 (zaa (mTup (zaa (m2 oMul (mC (.int 2)) (mRd 4)) (zaa (mC (.int 1)) mNil))) (zaa (zbf zb3 (zaa (mVar 0) (zaa (mVar 1) (zaa (mVar 3) mNil)))) mNil)) [.v (.int r),.v T,.v (iL tk),.v (encF f),.v (.int w)] = .ok (.bl (decide (2 * w * f.2 < bnd ts r f (fitA ts r)))):=by
            unfold zaj
            have:zaa (mTup (zaa (m2 oMul (mC (.int 2)) (mRd 4)) (zaa (mC (.int 1)) mNil))) (zaa (zbf zb3 (zaa (mVar 0) (zaa (mVar 1) (zaa (mVar 3) mNil)))) mNil) [.v (.int r),.v T,.v (iL tk),.v (encF f),.v (.int w)] = .ok [.tup [.int (2 * w),.int 1],encF (lo1 (bnd ts r f (fitA ts r)) f.2,lo2 (bnd ts r f (fitA ts r)) f.2)]:=by
              show (mTup _ _).bind _=_
              rw [a1,R.bind_ok]
              show ((zbf _ _ _).bind _).bind _=_
              rw [a2]; rfl
            rw [this,R.bind_ok]
            show (zc4 [.tup [.int (2 * w),.int 1],.tup [.int (lo1 (bnd ts r f (fitA ts r)) f.2),.int (lo2 (bnd ts r f (fitA ts r)) f.2)]]).nev=_
            rw [ls]; rfl
          simp only [zal,a3,R.bind_ok]; rfl
        by_cases c5:2 * w * f.2 < bnd ts r f (fitA ts r)
        · rw [if_pos c5]
          unfold mSeq
          rw [za5 (by rw [t5,decide_eq_true c5])]; rfl
        · rw [if_neg c5]
          have n5:mIfS (zal (zaj zc4 (zaa (mTup (zaa (m2 oMul (mC (.int 2)) (mRd 4)) (zaa (mC (.int 1)) mNil))) (zaa (zbf zb3 (zaa (mVar 0) (zaa (mVar 1) (zaa (mVar 3) mNil)))) mNil)))) (mRet (mC (.str "share"))) zaM [.v (.int r),.v T,.v (iL tk),.v (encF f),.v (.int w)] = .nx [.v (.int r),.v T,.v (iL tk),.v (encF f),.v (.int w)]:=by rw [zaZ (by rw [t5,decide_eq_false c5])]; rfl
          exact (zam n5).trans rfl
end My
namespace My
open PySem L2 PM
theorem zjy {ts:List Fr} {r:Int} {f:Fr} {tk:List Int} (hn:ts.length ≤ 40) (ok:∀ t ∈ ts,ThOk t) (r0:0 ≤ r) (r1:r ≤ 1000000000000000000) (hl:tk.length ≤ 1000) (hf:FrB (10 ^ 25) f) :
    zcf [.int r,zay ts,iL tk,encF f] = .ok (zjh ts r tk f):=by
  obtain ⟨T,eT⟩:∃ T,T=zay ts:=⟨_,rfl⟩
  have lT:fLen [T]=some (.int ts.length):=by rw [eT]; simp [zay,fLen]
  have ub:=zej (c:=(ts.length:Int)) hl
  have fr:Fit r:=fitN (10 ^ 18) (by omega)
  have ff1:Fit f.1:=fitN _ hf.t
  have ff2:Fit f.2:=fitN _ hf.b
  have t1:zal (zaj za9 (zaa (mVar 2) (zaa (mCB fLen (zaa (mRd 1) mNil)) mNil))) [.v (.int r),.v T,.v (iL tk),.v (encF f),.no,.no,.no] = .ok (okU tk ts.length):=by
    simp [zal,zaj,zaa,mNil,mVar,mCB,mRd,lT,ub]
  refine za3 ?_
  rw [← eT]
  show mSeq _ _ [.v (.int r),.v T,.v (iL tk),.v (encF f),.no,.no,.no]=_
  obtain ⟨δ,eδ⟩:∃ δ:En,δ = [.v (.int r),.v T,.v (iL tk),.v (encF f),.no,.no,.no]:=⟨_,rfl⟩
  rw [← eδ] at t1 ⊢
  have seqR:∀ (m m':En→O) (d:D),m δ = .rt d→mSeq m m' δ = .rt d:=fun m m' d e=>by unfold mSeq; rw [e]
  unfold zjh
  by_cases c1:okU tk ts.length=false
  · rw [if_pos c1]
    refine seqR _ _ _ ?_
    rw [za5 (by simp only [mNot,t1,R.bind_ok,c1]; rfl)]; rfl
  · rw [if_neg c1]
    have o1:okU tk ts.length=true:=by cases z:okU tk ts.length; exact absurd z c1; rfl
    have tm:=zfO o1
    have n1:mIfS (mNot (zal (zaj za9 (zaa (mVar 2) (zaa (mCB fLen (zaa (mRd 1) mNil)) mNil))))) (mRet (mC (.str "taken"))) zaM δ = .nx δ:=by
      rw [zaZ (by simp only [mNot,t1,R.bind_ok,o1]; rfl)]; rfl
    refine (zam n1).trans ?_
    have sw:mCB fSum (zaa zco mNil) δ = .ok (.int (wgt ts tk)):=znH (mi:=mItL (mRd 2)) (g:=fun f=>f.2) (by rw [eδ]; simp [mItL,mRd]) hl (by rw [eδ,eT]; rfl) tm fun f=>rfl
    have t2:zal (m2 oGt (mCB fSum (zaa zco mNil)) (mRd 0)) δ = .ok (decide (r < wgt ts tk)):=by
      have:mRd 0 δ = .ok (.int r):=by rw [eδ]; rfl
      simp only [zal,zbZ,sw,this,R.bind_ok]; simp
    by_cases c2:r < wgt ts tk
    · rw [if_pos c2]
      refine seqR _ _ _ ?_
      rw [za5 (by rw [t2,decide_eq_true c2])]; rfl
    · rw [if_neg c2]
      have n2:mIfS (zal (m2 oGt (mCB fSum (zaa zco mNil)) (mRd 0))) (mRet (mC (.str "full"))) zaM δ = .nx δ:=by rw [zaZ (by rw [t2,decide_eq_false c2])]; rfl
      refine (zam n2).trans ?_
      have t3:zal (m2 oLt (m2 oIxT (mRd 3) (mC (.int 0))) (mC (.int 0))) δ = .ok (decide (f.1 < 0)):=by rw [eδ]; simp [zal,mRd,mC,encF]
      by_cases c3:f.1 < 0
      · rw [if_pos c3]
        refine seqR _ _ _ ?_
        rw [za5 (by rw [t3,decide_eq_true c3])]; rfl
      · rw [if_neg c3]
        have n3:mIfS (zal (m2 oLt (m2 oIxT (mRd 3) (mC (.int 0))) (mC (.int 0)))) (mRet (mC (.str "price"))) zaM δ = .nx δ:=by rw [zaZ (by rw [t3,decide_eq_false c3])]; rfl
        refine (zam n3).trans ?_
        have q4:mAsg (m2 oMul (m2 oIxT (mRd 3) (mC (.int 0))) (mRd 0)) (zap 4) δ = .nx [.v (.int r),.v T,.v (iL tk),.v (encF f),.v (.int (f.1 * r)),.no,.no]:=by
          rw [eδ]
          exact zaC (d:=.int (f.1 * r)) (by simp [mRd,mC,encF,zbv ff1 fr]) rfl
        refine (zam q4).trans ?_
        obtain ⟨δ2,h1,o5,o6,rfl⟩:=zb8 (b:=bTup 2 (zcu (zap 5) (zcu (zap 6) bNil))) (m:=zcV) (fun k:Int=>encF (th ts k)) (fun pre δ=>∃ o5 o6:Option D,δ = [.v (.int r),.v T,.v (iL tk),.v (encF f),.v (.int (f.1 * r + ((pre.filter fun k=>decide ((th ts k).2 ≤ r)).map (posA ts f)).sum)),sv o5,sv o6]) (upt ts.length)
          (by
            rintro pre x post δ hall ⟨o5,o6,rfl⟩
            obtain ⟨x0,x1⟩:=mem_upt.mp (show x ∈ upt ts.length by rw [hall]; simp)
            have xk:=ok _ (zdK x0 x1)
            have fx1:Fit (th ts x).1:=fitN (10 ^ 18) (zgw xk.lo xk.hi)
            have fx2:Fit (th ts x).2:=fitN (10 ^ 18) (zgw (Int.le_of_lt xk.g0) xk.g1)
            obtain ⟨S,eS⟩:∃ S,S=f.1 * r + ((pre.filter fun k=>decide ((th ts k).2 ≤ r)).map (posA ts f)).sum:=⟨_,rfl⟩
            rw [← eS]
            refine ⟨[.v (.int r),.v T,.v (iL tk),.v (encF f),.v (.int S),.v (.int (th ts x).1),.v (.int (th ts x).2)],[.v (.int r),.v T,.v (iL tk),.v (encF f),.v (.int (f.1 * r + (((pre ++ [x]).filter fun k=>decide ((th ts k).2 ≤ r)).map (posA ts f)).sum)),.v (.int (th ts x).1),.v (.int (th ts x).2)],?_,.inl ?_,some _,some _,rfl⟩
            · rcases o5 with _ | o5 <;> rcases o6 with _ | o6 <;> rfl
            · unfold zcV
              by_cases d1:(th ts x).2 ≤ r
              · have es:f.1 * r + (((pre ++ [x]).filter fun k=>decide ((th ts k).2 ≤ r)).map (posA ts f)).sum=S + posA ts f x:=by
                  rw [List.filter_append,List.filter_cons_of_pos (by simpa using d1),List.filter_nil,List.map_append,List.sum_append,eS]
                  simp; omega
                rw [es]
                by_cases d2:f.1 * (th ts x).2 < (th ts x).1 * f.2
                · have ep:posA ts f x=(th ts x).1 * f.2 - f.1 * (th ts x).2:=by
                    unfold posA mor
                    rw [if_pos (by rw [Int.mul_comm (th ts x).2]; omega),Int.mul_comm (th ts x).2]
                  rw [za5 (by simp [mAnd,zal,mRd,mC,encF,zbv fx1 ff2,zbv ff1 fx2,d1,d2])]
                  refine zaC (d:=.int (S + posA ts f x)) ?_ rfl
                  rw [ep]
                  simp [mRd,mC,encF,zbv fx1 ff2,zbv ff1 fx2]
                  omega
                · have ep:posA ts f x=0:=by
                    unfold posA mor
                    rw [if_neg (by rw [Int.mul_comm (th ts x).2]; omega)]
                  rw [zaZ (by simp [mAnd,zal,mRd,mC,encF,zbv fx1 ff2,zbv ff1 fx2,d1,d2]),ep,Int.add_zero]; rfl
              · have es:f.1 * r + (((pre ++ [x]).filter fun k=>decide ((th ts k).2 ≤ r)).map (posA ts f)).sum=S:=by
                  rw [List.filter_append,List.filter_cons_of_neg (by simpa using d1),List.filter_nil,List.append_nil,eS]
                rw [es,zaZ (by simp [mAnd,zal,mRd,d1])]; rfl)
          [.v (.int r),.v T,.v (iL tk),.v (encF f),.v (.int (f.1 * r)),.no,.no] ⟨none,none,by simp⟩
        have q5:zem [.v (.int r),.v T,.v (iL tk),.v (encF f),.v (.int (f.1 * r)),.no,.no]=_:=(zcR (l:=(upt ts.length).map fun k=>encF (th ts k)) (by rw [eT,← zpd]; rfl)).trans h1
        refine (zam q5).trans ?_
        have eb:f.1 * r + (((upt ts.length).filter fun k=>decide ((th ts k).2 ≤ r)).map (posA ts f)).sum=bnd ts r f (fitA ts r):=rfl
        rw [eb]
        have tk2:∀ k ∈ tk,ThOk (th ts k):=fun k hk=>ok _ (zdK (tm k hk).1 (tm k hk).2)
        have w0:0 ≤ wrt ts tk:=zkQ fun k hk=>(tk2 k hk).lo
        have w1:wrt ts tk ≤ (tk.length:Int) * 1000000000000000000:=zmQ (f:=fun k=>(th ts k).1) fun k hk=>(tk2 k hk).hi
        have w2:wrt ts tk ≤ 1000000000000000000000:=by omega
        obtain ⟨δ3,eδ3⟩:∃ δ3:En,δ3 = [.v (.int r),.v T,.v (iL tk),.v (encF f),.v (.int (bnd ts r f (fitA ts r))),sv o5,sv o6]:=⟨_,rfl⟩
        have sv':mCB fSum (zaa zcr mNil) δ3 = .ok (.int (wrt ts tk)):=znH (mi:=mItL (mRd 2)) (g:=fun f=>f.1) (by rw [eδ3]; simp [mItL,mRd]) hl (by rw [eδ3,eT]; rfl) tm fun f=>rfl
        obtain ⟨w,ew⟩:∃ w,w=wrt ts tk:=⟨_,rfl⟩
        rw [← eδ3]
        rw [← ew] at w0 w2 sv' ⊢
        have f2:Fit 2:=fitN 10 (by decide)
        have fw:Fit w:=fitN (10 ^ 21) (by omega)
        have f2w:Fit (2 * w):=fitN (10 ^ 22) (by omega)
        have t5:zal (m2 oLt (m2 oMul (m2 oMul (mC (.int 2)) (mCB fSum (zaa zcr mNil))) (m2 oIxT (mRd 3) (mC (.int 1)))) (mRd 4)) δ3 = .ok (decide (2 * w * f.2 < bnd ts r f (fitA ts r))):=by
          have r3:mRd 3 δ3 = .ok (encF f):=by rw [eδ3]; rfl
          have r4:mRd 4 δ3 = .ok (.int (bnd ts r f (fitA ts r))):=by rw [eδ3]; rfl
          simp only [zal,zbZ,sv',r3,r4,mC,R.bind_ok,zbv f2 fw,R.of_some,show oIxT (encF f) (.int 1)=some (.int f.2) from rfl,zbv f2w ff2,zo7,zla]
        by_cases c5:2 * w * f.2 < bnd ts r f (fitA ts r)
        · rw [if_pos c5]
          unfold mSeq
          rw [za5 (by rw [t5,decide_eq_true c5])]; rfl
        · rw [if_neg c5]
          have n5:mIfS (zal (m2 oLt (m2 oMul (m2 oMul (mC (.int 2)) (mCB fSum (zaa zcr mNil))) (m2 oIxT (mRd 3) (mC (.int 1)))) (mRd 4))) (mRet (mC (.str "share"))) zaM δ3 = .nx δ3:=by rw [zaZ (by rw [t5,decide_eq_false c5])]; rfl
          exact (zam n5).trans rfl
end My
namespace My
open PySem L2 PM
def tabF (n:Nat) (d:Int→Int→Int):List (List Int):=(upt n).map fun a=>(upt n).map (d a)
theorem zey {m k:Nat} (h:k < m):(upt m)[k]?=some (k:Int):=by
  unfold upt; rw [List.getElem?_map,List.getElem?_range h]; rfl
theorem zde {n:Nat} {f:Int→Int} {b:Int} (h0:0 ≤ b) (h1:b < n):oIxL (iL ((upt n).map f)) (.int b)=some (.int (f b)):=by
  refine zdM h0 ?_
  rw [List.getElem?_map,List.getElem?_map,zey (show b.toNat < n by omega)]
  simp [show ((b.toNat:Nat):Int)=b by omega]
theorem zjp {n:Nat} {d:Int→Int→Int} {a:Int} (h0:0 ≤ a) (h1:a < n):oIxL (tabD (tabF n d)) (.int a)=some (iL ((upt n).map (d a))):=by
  unfold tabD tabF
  refine zdM h0 ?_
  rw [List.getElem?_map,List.getElem?_map,zey (show a.toNat < n by omega)]
  simp [show ((a.toNat:Nat):Int)=a by omega]
theorem zeH {n:Nat} {d:Int→Int→Int}:fLen [tabD (tabF n d)]=some (.int n):=by
  simp [tabD,tabF,zbn]
def upd2 (d:Int→Int→Int) (a b v:Int):Int→Int→Int:=fun x y=>if x=a∧y=b then v else d x y
theorem zoQ {n:Nat} {f:Int→Int} {b v:Int} (h0:0 ≤ b) (h1:b < n):((upt n).map f).set b.toNat v=(upt n).map fun y=>if y=b then v else f y:=by
  apply List.ext_getElem?
  intro i
  by_cases hi:i < n
  · rw [List.getElem?_map,zey hi]
    by_cases e:b.toNat=i
    · rw [e,List.getElem?_set_self (by rw [List.length_map,zbn]; exact hi)]
      have:(i:Int)=b:=by omega
      simp [this]
    · rw [List.getElem?_set_ne e,List.getElem?_map,zey hi]
      have:¬ (i:Int)=b:=by omega
      simp [this]
  · rw [List.getElem?_eq_none_iff.mpr (by rw [List.length_set,List.length_map,zbn]; omega),List.getElem?_eq_none_iff.mpr (by rw [List.length_map,zbn]; omega)]
theorem zoI {n:Nat} {d:Int→Int→Int} {a b v:Int} (a0:0 ≤ a) (a1:a < n) (b0:0 ≤ b) (b1:b < n):(tabF n d).set a.toNat (((upt n).map (d a)).set b.toNat v)=tabF n (upd2 d a b v):=by
  rw [zoQ b0 b1]
  unfold tabF
  apply List.ext_getElem?
  intro i
  by_cases hi:i < n
  · rw [List.getElem?_map,zey hi]
    by_cases e:a.toNat=i
    · rw [e,List.getElem?_set_self (by rw [List.length_map,zbn]; exact hi)]
      have:(i:Int)=a:=by omega
      simp [upd2,this]
    · rw [List.getElem?_set_ne e,List.getElem?_map,zey hi]
      have:¬ (i:Int)=a:=by omega
      simp [upd2,this]
  · rw [List.getElem?_eq_none_iff.mpr (by rw [List.length_set,List.length_map,zbn]; omega),List.getElem?_eq_none_iff.mpr (by rw [List.length_map,zbn]; omega)]
theorem zfJ {i:Nat} {mk mj me:En→R D} {δ:En} {n:Nat} {d:Int→Int→Int} {a b v:Int} (h:δ[i]?=some (.p (tabF n d))) (hk:mk δ = .ok (.int a)) (hj:mj δ = .ok (.int b)) (hv:me δ = .ok (.int v)) (a0:0 ≤ a) (a1:a < n) (b0:0 ≤ b) (b1:b < n) :
    zgs i mk mj me δ = .nx (δ.set i (.p (tabF n (upd2 d a b v)))):=by
  have l1:(tabF n d).length=n:=by simp [tabF,zbn]
  have e1:ixN (tabF n d).length a=some a.toNat:=by unfold ixN; rw [if_pos a0,l1,if_pos a1]
  have e2:(tabF n d)[a.toNat]?=some ((upt n).map (d a)):=by
    unfold tabF
    rw [List.getElem?_map,zey (show a.toNat < n by omega)]
    simp [show ((a.toNat:Nat):Int)=a by omega]
  have e3:ixN ((upt n).map (d a)).length b=some b.toNat:=by unfold ixN; rw [if_pos b0,List.length_map,zbn,if_pos b1]
  unfold zgs
  rw [h]
  simp only [hv,hk,hj,R.toO_ok,e1,e2,e3,zoI a0 a1 b0 b1]
structure LenOk (n:Nat) (B:Int) (d:Int→Int→Int):Prop where
  nn:∀ a b:Int,0 ≤ a→a < n→0 ≤ b→b < n→0 ≤ d a b∧d a b ≤ B
  self:∀ a:Int,0 ≤ a→a < n→d a a=0
  sym:∀ a b:Int,0 ≤ a→a < n→0 ≤ b→b < n→d a b=d b a
  tri:∀ a b c:Int,0 ≤ a→a < n→0 ≤ b→b < n→0 ≤ c→c < n→d a c ≤ d a b + d b c
theorem zcq {mi:En→R (List D)} {b:D→En→Option En} {m:En→O} {δ:En} {n:Nat} (h:mi δ = .ok ((upt n).map .int)):mFor mi b m δ=zcm b m ((upt n).map .int) δ:=zcR h
theorem zic {n:Nat} {B:Int} {d:Int→Int→Int} (hn:n ≤ 100) (ok:LenOk n B d):zbs [tabD (tabF n d)] = .ok .non:=by
  obtain ⟨T,eT⟩:∃ T,T=tabD (tabF n d):=⟨_,rfl⟩
  have tix:∀ a:Int,0 ≤ a→a < n→oIxL T (.int a)=some (iL ((upt n).map (d a))):=fun a h0 h1=>by rw [eT]; exact zjp h0 h1
  rw [← eT]
  have rn:=rngT (show n ≤ 1000 by omega)
  have l1:∀ o2 o3 o4:Option D,∃ p2,zeS [.v T,.v (.int n),sv o2,sv o3,sv o4] = .nx [.v T,.v (.int n),sv p2,sv o3,sv o4]:=fun o2 o3 o4=>by
    obtain ⟨δ,h1,p2,rfl⟩:=zb8 (b:=zap 2) (m:=zbY) D.int (fun _ δ=>∃ p2,δ = [.v T,.v (.int n),sv p2,sv o3,sv o4]) (upt n)
      (by
        rintro pre a post δ hall ⟨p2,rfl⟩
        obtain ⟨a0,a1⟩:=mem_upt.mp (show a ∈ upt n by rw [hall]; simp)
        have r:=zde (n:=n) (f:=d a) a0 a1
        rw [ok.self a a0 a1] at r
        refine ⟨[.v T,.v (.int n),.v (.int a),sv o3,sv o4],[.v T,.v (.int n),.v (.int a),sv o3,sv o4],zaS rfl,.inl ?_,some _,rfl⟩
        unfold zbY
        rw [zaZ (by simp [zal,mRd,mC,tix a a0 a1,r])]; rfl)
      [.v T,.v (.int n),sv o2,sv o3,sv o4] ⟨o2,rfl⟩
    exact ⟨p2,(zcq (by simp [mRng,zaa,mNil,mVar,rn])).trans h1⟩
  have l3:∀ o2 o3 o4:Option D,∃ p2 p3,zeU [.v T,.v (.int n),sv o2,sv o3,sv o4] = .nx [.v T,.v (.int n),sv p2,sv p3,sv o4]:=fun o2 o3 o4=>by
    obtain ⟨δ,h1,p2,p3,rfl⟩:=zb8 (b:=zap 2) (m:=zdI) D.int (fun _ δ=>∃ p2 p3,δ = [.v T,.v (.int n),sv p2,sv p3,sv o4]) (upt n)
      (by
        rintro pre a post δ hall ⟨p2,p3,rfl⟩
        obtain ⟨a0,a1⟩:=mem_upt.mp (show a ∈ upt n by rw [hall]; simp)
        obtain ⟨δ2,g1,r3,rfl⟩:=zb8 (b:=zap 3) (m:=zbV) D.int (fun _ δ=>∃ r3,δ = [.v T,.v (.int n),.v (.int a),sv r3,sv o4]) (upt a.toNat)
          (by
            rintro pre2 b post2 δ hall2 ⟨r3,rfl⟩
            obtain ⟨b0,b1⟩:=mem_upt.mp (show b ∈ upt a.toNat by rw [hall2]; simp)
            have r1:=zde (n:=n) (f:=d a) b0 (by omega)
            have r2:=zde (n:=n) (f:=d b) a0 a1
            rw [ok.sym a b a0 a1 b0 (by omega)] at r1
            refine ⟨[.v T,.v (.int n),.v (.int a),.v (.int b),sv o4],[.v T,.v (.int n),.v (.int a),.v (.int b),sv o4],zaS rfl,.inl ?_,some _,rfl⟩
            unfold zbV
            rw [zaZ (by simp [zal,mRd,mC,tix a a0 a1,tix b b0 (by omega),r1,r2])]; rfl)
          [.v T,.v (.int n),.v (.int a),sv p3,sv o4] ⟨p3,rfl⟩
        refine ⟨[.v T,.v (.int n),.v (.int a),sv p3,sv o4],[.v T,.v (.int n),.v (.int a),sv r3,sv o4],zaS rfl,.inl ?_,some _,r3,rfl⟩
        have ra:=rngT (show a.toNat ≤ 1000 by omega)
        rw [show ((a.toNat:Nat):Int)=a by omega] at ra
        exact (zcq (n:=a.toNat) (by simp [mRng,zaa,mNil,mVar,ra])).trans g1)
      [.v T,.v (.int n),sv o2,sv o3,sv o4] ⟨o2,o3,rfl⟩
    exact ⟨p2,p3,(zcq (by simp [mRng,zaa,mNil,mVar,rn])).trans h1⟩
  have l6:∀ o2 o3 o4:Option D,∃ p2 p3 p4,zeW [.v T,.v (.int n),sv o2,sv o3,sv o4] = .nx [.v T,.v (.int n),sv p2,sv p3,sv p4]:=fun o2 o3 o4=>by
    obtain ⟨δ,h1,p2,p3,p4,rfl⟩:=zb8 (b:=zap 2) (m:=zdq) D.int (fun _ δ=>∃ p2 p3 p4,δ = [.v T,.v (.int n),sv p2,sv p3,sv p4]) (upt n)
      (by
        rintro pre a post δ hall ⟨p2,p3,p4,rfl⟩
        obtain ⟨a0,a1⟩:=mem_upt.mp (show a ∈ upt n by rw [hall]; simp)
        obtain ⟨δ2,g1,r3,r4,rfl⟩:=zb8 (b:=zap 3) (m:=zdy) D.int (fun _ δ=>∃ r3 r4,δ = [.v T,.v (.int n),.v (.int a),sv r3,sv r4]) (upt n)
          (by
            rintro pre2 b post2 δ hall2 ⟨r3,r4,rfl⟩
            obtain ⟨b0,b1⟩:=mem_upt.mp (show b ∈ upt n by rw [hall2]; simp)
            obtain ⟨δ3,k1,t4,rfl⟩:=zb8 (b:=zap 4) (m:=zbU) D.int (fun _ δ=>∃ t4,δ = [.v T,.v (.int n),.v (.int a),.v (.int b),sv t4]) (upt n)
              (by
                rintro pre3 c post3 δ hall3 ⟨t4,rfl⟩
                obtain ⟨c0,c1⟩:=mem_upt.mp (show c ∈ upt n by rw [hall3]; simp)
                have r1:=zde (n:=n) (f:=d a) b0 b1
                have r2:=zde (n:=n) (f:=d b) c0 c1
                have r5:=zde (n:=n) (f:=d a) c0 c1
                have tr:¬ d a b + d b c < d a c:=by have:=ok.tri a b c a0 a1 b0 b1 c0 c1; omega
                refine ⟨[.v T,.v (.int n),.v (.int a),.v (.int b),.v (.int c)],[.v T,.v (.int n),.v (.int a),.v (.int b),.v (.int c)],zaS rfl,.inl ?_,some _,rfl⟩
                unfold zbU
                rw [zaZ (by simp [zal,mRd,mC,tix a a0 a1,tix b b0 b1,r1,r2,r5,tr])]; rfl)
              [.v T,.v (.int n),.v (.int a),.v (.int b),sv r4] ⟨r4,rfl⟩
            refine ⟨[.v T,.v (.int n),.v (.int a),.v (.int b),sv r4],[.v T,.v (.int n),.v (.int a),.v (.int b),sv t4],zaS rfl,.inl ?_,some _,t4,rfl⟩
            exact (zcq (by simp [mRng,zaa,mNil,mVar,rn])).trans k1)
          [.v T,.v (.int n),.v (.int a),sv p3,sv p4] ⟨p3,p4,rfl⟩
        refine ⟨[.v T,.v (.int n),.v (.int a),sv p3,sv p4],[.v T,.v (.int n),.v (.int a),sv r3,sv r4],zaS rfl,.inl ?_,some _,r3,r4,rfl⟩
        exact (zcq (by simp [mRng,zaa,mNil,mVar,rn])).trans g1)
      [.v T,.v (.int n),sv o2,sv o3,sv o4] ⟨o2,o3,o4,rfl⟩
    exact ⟨p2,p3,p4,(zcq (by simp [mRng,zaa,mNil,mVar,rn])).trans h1⟩
  have lT:fLen [T]=some (.int n):=by rw [eT]; exact zeH
  obtain ⟨p2,e1⟩:=l1 none none none
  obtain ⟨q2,q3,e2⟩:=l3 p2 none none
  obtain ⟨r2,r3,r4,e3⟩:=l6 q2 q3 none
  refine zoE (δ:=[.v T,.v (.int n),sv r2,sv r3,sv r4]) ?_
  show mSeq _ _ [.v T,.no,.no,.no,.no]=_
  have s1:mAsg (mCB fLen (zaa (mRd 0) mNil)) (zap 1) [.v T,.no,.no,.no,.no] = .nx [.v T,.v (.int n),sv none,sv none,sv none]:=zaC (d:=.int n) (by simp [mCB,zaa,mNil,mRd,lT]) rfl
  exact (zam s1).trans ((zam e1).trans ((zam e2).trans e3))
end My
namespace My
open PySem L2 PM
def mnL:List Int→Int
  | []=>0
  | a :: l=>minI l a
theorem zlT {S:List Int} (h:S ≠ []):mnL S ∈ S∧∀ x ∈ S,mnL S ≤ x:=by
  cases S with
  | nil=>exact absurd rfl h
  | cons a l =>
    obtain ⟨h1,h2,h3⟩:=L2.minI_le l a
    refine ⟨?_,fun b hb=>?_⟩
    · rcases h3 with z | z
      · show minI l a ∈ _; rw [z]; simp
      · exact List.mem_cons_of_mem _ z
    · rcases List.mem_cons.mp hb with z | z
      · rw [z]; exact h1
      · exact h2 b z
theorem zmK {S:List Int} (h:S ≠ []):zep minI [iL S]=some (.int (mnL S)):=by
  cases S with
  | nil=>exact absurd rfl h
  | cons a l=>simp [zep,iL,zcE,mnL]
def mxL:List Int→Int
  | []=>0
  | a :: l=>maxI l a
theorem zl0 {S:List Int} (h:S ≠ []):mxL S ∈ S∧∀ x ∈ S,x ≤ mxL S:=by
  cases S with
  | nil=>exact absurd rfl h
  | cons a l =>
    obtain ⟨h1,h2,h3⟩:=L2.maxI_ge l a
    refine ⟨?_,fun b hb=>?_⟩
    · rcases h3 with z | z
      · show maxI l a ∈ _; rw [z]; simp
      · exact List.mem_cons_of_mem _ z
    · rcases List.mem_cons.mp hb with z | z
      · rw [z]; exact h1
      · exact h2 b z
theorem zkK {S:List Int} (h:S ≠ []):zep maxI [iL S]=some (.int (mxL S)):=by
  cases S with
  | nil=>exact absurd rfl h
  | cons a l=>simp [zep,iL,zcE,mxL]
def near (d:Int→Int→Int) (p:Int) (s:List Int):Int:=mnL (s.map (d p))
def rad (n:Nat) (d:Int→Int→Int) (s:List Int):Int:=mxL ((upt n).map fun p=>near d p s)
theorem zoq {d:Int→Int→Int} {p:Int} {s:List Int} (h:s ≠ []):∃ q ∈ s,near d p s=d p q:=by
  have:=(zlT (S:=s.map (d p)) (by simpa using h)).1
  obtain ⟨q,hq,e⟩:=List.mem_map.mp this
  exact ⟨q,hq,e.symm⟩
theorem zoJ {d:Int→Int→Int} {p q:Int} {s:List Int} (hq:q ∈ s):near d p s ≤ d p q :=
  (zlT (S:=s.map (d p)) (by intro z; rw [List.map_eq_nil_iff.mp z] at hq; cases hq)).2 _ (List.mem_map.mpr ⟨q,hq,rfl⟩)
theorem zcw {n:Nat} (h:0 < n) {f:Int→Int}:(upt n).map f ≠ []:=fun e=>by
  have:=congrArg List.length e
  rw [List.length_map,zbn] at this; simp at this; omega
theorem zfP {n:Nat} {d:Int→Int→Int} {p:Int} {s:List Int} (p0:0 ≤ p) (p1:p < n) (hs:s ≠ []) (hl:s.length ≤ 1000) (hm:∀ q ∈ s,0 ≤ q∧q < n):zce [tabD (tabF n d),.int p,iL s] = .ok (.int (near d p s)):=by
  have k:zia [.v (tabD (tabF n d)),.v (.int p),.v (iL s)] = .ok (iL (s.map (d p))):=by
    refine Eq.trans (zbC (l:=s.map .int) (r:=s.map fun q=>.int (d p q)) (by simp [mItL,mRd]) (by rw [List.length_map]; omega) ?_) (by simp [iL])
    refine zbg .int (fun q=>.int (d p q)) _ fun q hq=>?_
    obtain ⟨q0,q1⟩:=hm q hq
    have t:=zjp (n:=n) (d:=d) p0 p1
    have r:=zde (n:=n) (f:=d p) q0 q1
    simp [zcX,za2,zhK,za0,mRd,t,r]
  refine za3 ?_
  show mRet _ [.v (tabD (tabF n d)),.v (.int p),.v (iL s)]=_
  simp [mRet,mCB,zaa,mNil,k,zmK (S:=s.map (d p)) (by simpa using hs),near]
theorem znG {n:Nat} {d:Int→Int→Int} {s:List Int} (hn0:0 < n) (hn:n ≤ 100) (hs:s ≠ []) (hl:s.length ≤ 1000) (hm:∀ q ∈ s,0 ≤ q∧q < n):zfk [tabD (tabF n d),iL s] = .ok (.int (rad n d s)):=by
  have k:zkt [.v (tabD (tabF n d)),.v (iL s)] = .ok (iL ((upt n).map fun p=>near d p s)):=by
    refine Eq.trans (zbC (l:=(upt n).map .int) (r:=(upt n).map fun p=>.int (near d p s)) (by simp [mRng,zaa,mNil,mCB,mRd,zeH,rngT (show n ≤ 1000 by omega)]) (by rw [List.length_map,zbn]; omega) ?_) (by simp [iL])
    refine zbg .int (fun p=>.int (near d p s)) _ fun p hp=>?_
    obtain ⟨p0,p1⟩:=mem_upt.mp hp
    simp [zcX,za2,zhK,za0,zaj,zaa,mNil,mVar,zfP (d:=d) p0 p1 hs hl hm]
  refine za3 ?_
  show mRet _ [.v (tabD (tabF n d)),.v (iL s)]=_
  simp [mRet,mCB,zaa,mNil,k,zkK (zcw (f:=fun p=>near d p s) hn0),rad]
def oN (o:Option Int):D:=match o with | none=>.non | some k=>.int k
theorem zkl {n:Nat} {d:Int→Int→Int} {s:List Int} (hn:n ≤ 100) (hs:s ≠ []) (hl:s.length < n) (hm:∀ q ∈ s,0 ≤ q∧q < n) :
    ∃ p:Int,zcU [tabD (tabF n d),iL s] = .ok (.int p)∧(0 ≤ p∧p < n)∧p ∉ s∧∀ q:Int,0 ≤ q→q < n→q ∉ s→near d q s ≤ near d p s:=by
  obtain ⟨T,eT⟩:∃ T,T=tabD (tabF n d):=⟨_,rfl⟩
  obtain ⟨δ,h1,b,m,o4,o5,rfl,hb,hnone⟩:=zb8 (b:=zap 4) (m:=zcd) D.int (fun pre δ=>∃ (b:Option Int) (m:Option Int) (o4 o5:Option D),δ = [.v T,.v (iL s),.v (oN b),.v (oN m),sv o4,sv o5]∧(∀ p,b=some p→m=some (near d p s)∧p ∈ pre∧p ∉ s∧∀ q ∈ pre,q ∉ s→near d q s ≤ near d p s)∧(b=none→m=none∧∀ q ∈ pre,q ∈ s)) (upt n)
    (by
      rintro pre x post δ hall ⟨b,m,o4,o5,rfl,hb,hnone⟩
      obtain ⟨x0,x1⟩:=mem_upt.mp (show x ∈ upt n by rw [hall]; simp)
      by_cases hx:x ∈ s
      · refine ⟨[.v T,.v (iL s),.v (oN b),.v (oN m),.v (.int x),sv o5],[.v T,.v (iL s),.v (oN b),.v (oN m),.v (.int x),sv o5],zaS rfl,.inl ?_,b,m,some _,o5,rfl,fun p hp=>?_,fun hp=>?_⟩
        · unfold zcd
          rw [zaZ (by simp [zal,mRd,zg1,iL,zcE,hx])]; rfl
        · obtain ⟨a1,a2,a3,a4⟩:=hb p hp
          refine ⟨a1,List.mem_append_left _ a2,a3,fun q hq hqs=>?_⟩
          rcases List.mem_append.mp hq with z | z
          · exact a4 q z hqs
          · rw [List.mem_singleton.mp z] at hqs; exact absurd hx hqs
        · obtain ⟨a1,a2⟩:=hnone hp
          refine ⟨a1,fun q hq=>?_⟩
          rcases List.mem_append.mp hq with z | z
          · exact a2 q z
          · rw [List.mem_singleton.mp z]; exact hx
      · have nr:=zfP (n:=n) (d:=d) x0 x1 hs (by omega) hm
        rw [← eT] at nr
        have q1:mAsg (zaj zce (zaa (mVar 0) (zaa (mVar 4) (zaa (mVar 1) mNil)))) (zap 5) [.v T,.v (iL s),.v (oN b),.v (oN m),.v (.int x),sv o5] = .nx [.v T,.v (iL s),.v (oN b),.v (oN m),.v (.int x),.v (.int (near d x s))]:=by
          refine zaC (d:=.int (near d x s)) ?_ (zaS rfl)
          simp [zaj,zaa,mNil,mVar,nr]
        have t0:zal (m2 zg1 (mRd 4) (mRd 1)) [.v T,.v (iL s),.v (oN b),.v (oN m),.v (.int x),sv o5] = .ok true:=by simp [zal,mRd,zg1,iL,zcE,hx]
        refine ⟨[.v T,.v (iL s),.v (oN b),.v (oN m),.v (.int x),sv o5],?_⟩
        have upd:(b=none∨∃ p,b=some p∧near d p s < near d x s)→∃ δ2,zap 4 (.int x) [.v T,.v (iL s),.v (oN b),.v (oN m),sv o4,sv o5]=some [.v T,.v (iL s),.v (oN b),.v (oN m),.v (.int x),sv o5]∧(zcd [.v T,.v (iL s),.v (oN b),.v (oN m),.v (.int x),sv o5] = .nx δ2∨zcd [.v T,.v (iL s),.v (oN b),.v (oN m),.v (.int x),sv o5] = .ct δ2) ∧
            ∃ (b':Option Int) (m':Option Int) (o4 o5:Option D),δ2 = [.v T,.v (iL s),.v (oN b'),.v (oN m'),sv o4,sv o5]∧(∀ p,b'=some p→m'=some (near d p s)∧p ∈ pre ++ [x]∧p ∉ s∧∀ q ∈ pre ++ [x],q ∉ s→near d q s ≤ near d p s)∧(b'=none→m'=none∧∀ q ∈ pre ++ [x],q ∈ s):=fun hc=>by
          refine ⟨[.v T,.v (iL s),.v (oN (some x)),.v (oN (some (near d x s))),.v (.int x),.v (.int (near d x s))],zaS rfl,.inl ?_,some x,some (near d x s),some (.int x),some (.int (near d x s)),rfl,fun p hp=>?_,fun hp=>(by cases hp)⟩
          · unfold zcd
            rw [za5 t0,zam q1,za5]
            · simp [mSeq,mAsg,mVar,zap,oN]
            · rcases hc with hc | ⟨p,hc,lt⟩
              · have:=(hnone hc).1
                subst this
                simp [mOr,zal,mRd,mC,oN,isN]
              · have:=(hb p hc).1
                subst this
                simp [mOr,zal,mRd,mC,oN,isN,lt]
          · cases hp
            refine ⟨rfl,by simp,hx,fun q hq hqs=>?_⟩
            rcases List.mem_append.mp hq with z | z
            · rcases hc with hc | ⟨p,hc,lt⟩
              · exact absurd ((hnone hc).2 q z) hqs
              · have:=(hb p hc).2.2.2 q z hqs; omega
            · rw [List.mem_singleton.mp z]; exact Int.le_refl _
        cases b with
        | none=>exact upd (.inl rfl)
        | some p =>
          by_cases lt:near d p s < near d x s
          · exact upd (.inr ⟨p,rfl,lt⟩)
          · obtain ⟨a1,a2,a3,a4⟩:=hb p rfl
            subst a1
            refine ⟨[.v T,.v (iL s),.v (oN (some p)),.v (oN (some (near d p s))),.v (.int x),.v (.int (near d x s))],zaS rfl,.inl ?_,some p,some (near d p s),some _,some _,rfl,fun p' hp=>?_,fun hp=>(by cases hp)⟩
            · unfold zcd
              rw [za5 t0,zam q1,zaZ]
              · rfl
              · simp [mOr,zal,mRd,mC,oN,isN,lt]
            · cases hp
              refine ⟨rfl,List.mem_append_left _ a2,a3,fun q hq hqs=>?_⟩
              rcases List.mem_append.mp hq with z | z
              · exact a4 q z hqs
              · rw [List.mem_singleton.mp z]; omega)
    [.v T,.v (iL s),.v (oN none),.v (oN none),.no,.no] ⟨none,none,none,none,rfl,fun p hp=>(by cases hp),fun _=>⟨rfl,fun q hq=>(by cases hq)⟩⟩
  cases b with
  | none =>
    exfalso
    have:=(hnone rfl).2
    have l:=List.Nodup.length_le_of_subset (l₂:=s) (zi8 n) (fun q hq=>this q hq)
    rw [zbn] at l; omega
  | some p =>
    obtain ⟨a1,a2,a3,a4⟩:=hb p rfl
    refine ⟨p,za3 ?_,mem_upt.mp a2,a3,fun q q0 q1 hq=>a4 q (mem_upt.mpr ⟨q0,q1⟩) hq⟩
    rw [← eT]
    show mSeq _ _ [.v T,.v (iL s),.no,.no,.no,.no]=_
    have lT:fLen [T]=some (.int n):=by rw [eT]; exact zeH
    have q1:mAsg (mC .non) (zap 2) [.v T,.v (iL s),.no,.no,.no,.no] = .nx [.v T,.v (iL s),.v (oN none),.no,.no,.no]:=rfl
    have q2:mAsg (mC .non) (zap 3) [.v T,.v (iL s),.v (oN none),.no,.no,.no] = .nx [.v T,.v (iL s),.v (oN none),.v (oN none),.no,.no]:=rfl
    have q3:zhw [.v T,.v (iL s),.v (oN none),.v (oN none),.no,.no] = .nx [.v T,.v (iL s),.v (oN (some p)),.v (oN m),sv o4,sv o5]:=(zcR (l:=(upt n).map .int) (by simp [mRng,zaa,mNil,mCB,mRd,lT,rngT (show n ≤ 1000 by omega)])).trans h1
    exact (zam q1).trans ((zam q2).trans ((zam q3).trans rfl))
end My
namespace My
open PySem L2 PM
def chs (G:List Int→Int):Nat→List Int
  | 0=>[0]
  | k + 1=>chs G k ++ [G (chs G k)]
theorem zfd (G:List Int→Int) (k:Nat):(chs G k).length=k + 1:=by
  induction k with
  | zero=>rfl
  | succ k ih=>simp [chs,ih]
structure Gr (n:Nat) (d:Int→Int→Int) (G:List Int→Int) (k:Nat):Prop where
  mem:∀ q ∈ chs G k,0 ≤ q∧q < n
  nd:(chs G k).Nodup
theorem zn6 (G:List Int→Int) (k:Nat):chs G k ≠ []:=fun e=>by
  have:=zfd G k
  rw [e] at this; simp at this
def Nx (n:Nat) (d:Int→Int→Int) (G:List Int→Int):Prop:=∀ s:List Int,s ≠ []→s.length < n→(∀ q ∈ s,0 ≤ q∧q < (n:Int))→zcU [tabD (tabF n d),iL s] = .ok (.int (G s))∧(0 ≤ G s∧G s < n)∧G s ∉ s∧∀ q:Int,0 ≤ q→q < n→q ∉ s→near d q s ≤ near d (G s) s
theorem zph {n:Nat} {d:Int→Int→Int} {G:List Int→Int} (hn:0 < n) (hG:Nx n d G):∀ k,k < n→Gr n d G k
  | 0,h=>⟨fun q hq=>by rw [List.mem_singleton.mp hq]; omega,by simp [chs]⟩
  | k + 1,h=>by
    have ih:=zph hn hG k (by omega)
    obtain ⟨_,g1,g2,_⟩:=hG (chs G k) (zn6 G k) (by rw [zfd]; omega) ih.mem
    refine ⟨fun q hq=>?_,?_⟩
    · rcases List.mem_append.mp hq with z | z
      · exact ih.mem q z
      · rw [List.mem_singleton.mp z]; exact g1
    · show (chs G k ++ [G (chs G k)]).Nodup
      rw [List.nodup_append]
      exact ⟨ih.nd,by simp,fun a ha b hb e=>g2 (by rw [← List.mem_singleton.mp hb,← e]; exact ha)⟩
theorem zlH {n:Nat} {d:Int→Int→Int} {G:List Int→Int} (hn0:0 < n) (hn:n ≤ 100) (hG:Nx n d G) {m:Nat} (m0:0 < m) (m1:m ≤ n):zdN [tabD (tabF n d),.int m] = .ok (iL (chs G (m - 1))):=by
  obtain ⟨T,eT⟩:∃ T,T=tabD (tabF n d):=⟨_,rfl⟩
  let env:Nat→En:=fun k=>[.v T,.v (.int m),.o (iL (chs G k))]
  obtain ⟨k,hk,h2,h3,_⟩:=zfy (c:=zf2) (m:=zhU) env (fun k=>decide (k + 1 < m)) (fun k=>k + 1) (fun k=>k < m) (fun k=>m - k)
    (fun k hk=>by
      have:(decide (((k + 1:Nat):Int) < (m:Int)))=decide (k + 1 < m):=decide_eq_decide.mpr (by omega)
      simp only [env,zf2,zal,zbZ,mCB,zaa,mNil,mRd,List.getElem?_cons_succ,List.getElem?_cons_zero,R.bind_ok,zjY,zfd,R.of_some,zo7,zla,this])
    (fun k hk hg=>by
      have hg':k + 1 < m:=by simpa using hg
      have g:=zph hn0 hG k (by omega)
      obtain ⟨g0,_⟩:=hG (chs G k) (zn6 G k) (by rw [zfd]; omega) g.mem
      rw [← eT] at g0
      refine ⟨?_,hg',by omega⟩
      refine (zeR (i:=2) (L:=chs G k) (y:=G (chs G k)) rfl ?_ (by rw [zfd]; omega)).trans rfl
      simp [env,ziS,zaa,mNil,mVar,mRd,g0,zfz])
    0 m0
  have hk2:¬ k + 1 < m:=by simpa using h2
  have ek:k=m - 1:=by omega
  subst ek
  refine zeI ?_
  rw [← eT]
  show mSeq _ _ [.v T,.v (.int m),.no]=_
  have q1:mAsg (mLst (zaa (mC (.int 0)) mNil)) (bNew 2) [.v T,.v (.int m),.no] = .nx (env 0):=zaC (d:=iL [0]) (by simp [mLst,zaa,mNil,mC,sizeLine,iL]) rfl
  have q2:zi0 (env 0) = .nx (env (m - 1)):=h3
  exact (zam q1).trans ((zam q2).trans rfl)
end My
namespace My
open PySem L2 PM
theorem zmO {np nv:Nat} {m:En→O} {ds:List D} {δ:En} {x:Xc} (h:m (zcZ nv ds) = .ex δ x) (hl:ds.length=np:=by rfl):runF np nv m ds = .ex x:=by unfold runF; rw [if_pos hl,h]
def Ex1 (o:O):Prop:=∃ δ,o = .ex δ ⟨2⟩
def Or3 (o:O) (P:En→Prop):Prop:=(∃ δ,o = .nx δ∧P δ)∨Ex1 o
theorem zff {b:D→En→Option En} {m:En→O} {P:En→Prop}:∀ (l:List Int) (_:∀ x ∈ l,∀ δ,P δ→∃ δ1,b (.int x) δ=some δ1∧Or3 (m δ1) P) (δ:En) (_:P δ),Or3 (zcm b m (l.map .int) δ) P
  | [],_,δ,h=>.inl ⟨δ,rfl,h⟩
  | x :: l,st,δ,h=>by
    obtain ⟨δ1,h1,h2⟩:=st x (by simp) δ h
    rw [List.map_cons]
    unfold zcm
    rw [h1]
    rcases h2 with ⟨δ2,e,p⟩ | ⟨δ2,e⟩
    · simp only [e]
      exact zff l (fun y hy=>st y (List.mem_cons_of_mem _ hy)) δ2 p
    · simp only [e]
      exact .inr ⟨δ2,rfl⟩
theorem zfe {b:D→En→Option En} {m:En→O} {P:En→Prop}:∀ (l:List Int) (_:∀ x ∈ l,∀ δ,P δ→∃ δ1,b (.int x) δ=some δ1∧Or3 (m δ1) P) (y:Int) (_:y ∈ l) (_:∀ δ,P δ→∃ δ1,b (.int y) δ=some δ1∧Ex1 (m δ1)) (δ:En) (_:P δ),Ex1 (zcm b m (l.map .int) δ)
  | [],_,_,hy,_,_,_=>(by cases hy)
  | x :: l,st,y,hy,bad,δ,h=>by
    rw [List.map_cons]
    unfold zcm
    by_cases e:x=y
    · subst e
      obtain ⟨δ1,h1,δ2,h2⟩:=bad δ h
      rw [h1]
      simp only [h2]
      exact ⟨δ2,rfl⟩
    · obtain ⟨δ1,h1,h2⟩:=st x (by simp) δ h
      rw [h1]
      rcases h2 with ⟨δ2,e2,p⟩ | ⟨δ2,e2⟩
      · simp only [e2]
        exact zfe l (fun y hy=>st y (List.mem_cons_of_mem _ hy)) y ((List.mem_cons.mp hy).elim (fun z=>absurd z.symm e) id) bad δ2 p
      · simp only [e2]
        exact ⟨δ2,rfl⟩
def PL (T:D) (n:Nat) (δ:En):Prop:=∃ o2 o3 o4:Option D,δ = [.v T,.v (.int n),sv o2,sv o3,sv o4]
theorem zmp {t:String} {δ:En}:zhj 2 (zaa (mC (.str t)) mNil) δ = .ex δ ⟨2⟩:=by
  simp [zhj,zaa,mNil,mC,zbr (show 1 ≤ sizeLine by decide)]
theorem zk7 {n:Nat} {d:Int→Int→Int} (hn:n ≤ 100)
    (h:(∃ a:Int,(0 ≤ a∧a < n)∧d a a ≠ 0)∨(∃ a b:Int,(0 ≤ b∧b < a∧a < n)∧d a b ≠ d b a)∨(∃ a b c:Int,(0 ≤ a∧a < n)∧(0 ≤ b∧b < n)∧(0 ≤ c∧c < n)∧d a b + d b c < d a c)) :
    zbs [tabD (tabF n d)] = .ex ⟨2⟩:=by
  obtain ⟨T,eT⟩:∃ T,T=tabD (tabF n d):=⟨_,rfl⟩
  have tix:∀ a:Int,0 ≤ a→a < n→oIxL T (.int a)=some (iL ((upt n).map (d a))):=fun a h0 h1=>by rw [eT]; exact zjp h0 h1
  have rn:=rngT (show n ≤ 1000 by omega)
  -- the bodies
  have b1:∀ (a:Int) (o3 o4:Option D),0 ≤ a→a < n→(d a a=0→zbY [.v T,.v (.int n),.v (.int a),sv o3,sv o4] = .nx [.v T,.v (.int n),.v (.int a),sv o3,sv o4])∧(d a a ≠ 0→Ex1 (zbY [.v T,.v (.int n),.v (.int a),sv o3,sv o4])):=fun a o3 o4 a0 a1=>by
    have r:=zde (n:=n) (f:=d a) a0 a1
    refine ⟨fun e=>?_,fun e=>?_⟩
    · unfold zbY
      rw [zaZ (by simp [zal,mRd,mC,tix a a0 a1,r,e])]; rfl
    · unfold zbY
      rw [za5 (by simp [zal,mRd,mC,tix a a0 a1,r,e]),zmp]
      exact ⟨_,rfl⟩
  have b2:∀ (a b:Int) (o4:Option D),0 ≤ a→a < n→0 ≤ b→b < n→(d a b=d b a→zbV [.v T,.v (.int n),.v (.int a),.v (.int b),sv o4] = .nx [.v T,.v (.int n),.v (.int a),.v (.int b),sv o4])∧(d a b ≠ d b a→Ex1 (zbV [.v T,.v (.int n),.v (.int a),.v (.int b),sv o4])):=fun a b o4 a0 a1 b0 b1=>by
    have r1:=zde (n:=n) (f:=d a) b0 b1
    have r2:=zde (n:=n) (f:=d b) a0 a1
    refine ⟨fun e=>?_,fun e=>?_⟩
    · unfold zbV
      rw [zaZ (by simp [zal,mRd,mC,tix a a0 a1,tix b b0 b1,r1,r2,e])]; rfl
    · unfold zbV
      rw [za5 (by simp [zal,mRd,mC,tix a a0 a1,tix b b0 b1,r1,r2,e]),zmp]
      exact ⟨_,rfl⟩
  have b4:∀ (a b c:Int),0 ≤ a→a < n→0 ≤ b→b < n→0 ≤ c→c < n→(¬ d a b + d b c < d a c→zbU [.v T,.v (.int n),.v (.int a),.v (.int b),.v (.int c)] = .nx [.v T,.v (.int n),.v (.int a),.v (.int b),.v (.int c)])∧(d a b + d b c < d a c→Ex1 (zbU [.v T,.v (.int n),.v (.int a),.v (.int b),.v (.int c)])):=fun a b c a0 a1 b0 b1 c0 c1=>by
    have r1:=zde (n:=n) (f:=d a) b0 b1
    have r2:=zde (n:=n) (f:=d b) c0 c1
    have r5:=zde (n:=n) (f:=d a) c0 c1
    refine ⟨fun e=>?_,fun e=>?_⟩
    · unfold zbU
      rw [zaZ (by simp [zal,mRd,mC,tix a a0 a1,tix b b0 b1,r1,r2,r5,e])]; rfl
    · unfold zbU
      rw [za5 (by simp [zal,mRd,mC,tix a a0 a1,tix b b0 b1,r1,r2,r5,e]),zmp]
      exact ⟨_,rfl⟩
  -- the turns
  have s1:∀ x ∈ upt n,∀ δ,PL T n δ→∃ δ1,zap 2 (.int x) δ=some δ1∧Or3 (zbY δ1) (PL T n):=by
    rintro x hx δ ⟨o2,o3,o4,rfl⟩
    obtain ⟨x0,x1⟩:=mem_upt.mp hx
    refine ⟨[.v T,.v (.int n),.v (.int x),sv o3,sv o4],zaS rfl,?_⟩
    by_cases e:d x x=0
    · exact .inl ⟨_,(b1 x o3 o4 x0 x1).1 e,some _,o3,o4,rfl⟩
    · exact .inr ((b1 x o3 o4 x0 x1).2 e)
  have s2:∀ a:Int,0 ≤ a→a < n→∀ x ∈ upt a.toNat,∀ δ,(∃ o3 o4:Option D,δ = [.v T,.v (.int n),.v (.int a),sv o3,sv o4])→∃ δ1,zap 3 (.int x) δ=some δ1∧Or3 (zbV δ1) (fun δ=>∃ o3 o4:Option D,δ = [.v T,.v (.int n),.v (.int a),sv o3,sv o4]):=by
    rintro a a0 a1 x hx δ ⟨o3,o4,rfl⟩
    obtain ⟨x0,x1⟩:=mem_upt.mp hx
    refine ⟨[.v T,.v (.int n),.v (.int a),.v (.int x),sv o4],zaS rfl,?_⟩
    by_cases e:d a x=d x a
    · exact .inl ⟨_,(b2 a x o4 a0 a1 x0 (by omega)).1 e,some _,o4,rfl⟩
    · exact .inr ((b2 a x o4 a0 a1 x0 (by omega)).2 e)
  have f2:∀ (a:Int) (o3 o4:Option D),0 ≤ a→a < n→zdI [.v T,.v (.int n),.v (.int a),sv o3,sv o4]=zcm (zap 3) zbV ((upt a.toNat).map .int) [.v T,.v (.int n),.v (.int a),sv o3,sv o4]:=fun a o3 o4 a0 a1=>by
    have ra:=rngT (show a.toNat ≤ 1000 by omega)
    rw [show ((a.toNat:Nat):Int)=a by omega] at ra
    exact zcq (n:=a.toNat) (by simp [mRng,zaa,mNil,mVar,ra])
  have s3:∀ x ∈ upt n,∀ δ,PL T n δ→∃ δ1,zap 2 (.int x) δ=some δ1∧Or3 (zdI δ1) (PL T n):=by
    rintro x hx δ ⟨o2,o3,o4,rfl⟩
    obtain ⟨x0,x1⟩:=mem_upt.mp hx
    refine ⟨[.v T,.v (.int n),.v (.int x),sv o3,sv o4],zaS rfl,?_⟩
    rw [f2 x o3 o4 x0 x1]
    rcases zff _ (s2 x x0 x1) [.v T,.v (.int n),.v (.int x),sv o3,sv o4] ⟨o3,o4,rfl⟩ with ⟨δ2,e,p3,p4,rfl⟩ | e
    · exact .inl ⟨_,e,some _,p3,p4,rfl⟩
    · exact .inr e
  have s4:∀ a b:Int,0 ≤ a→a < n→0 ≤ b→b < n→∀ x ∈ upt n,∀ δ,(∃ o4:Option D,δ = [.v T,.v (.int n),.v (.int a),.v (.int b),sv o4])→∃ δ1,zap 4 (.int x) δ=some δ1∧Or3 (zbU δ1) (fun δ=>∃ o4:Option D,δ = [.v T,.v (.int n),.v (.int a),.v (.int b),sv o4]):=by
    rintro a b a0 a1 b0 b1 x hx δ ⟨o4,rfl⟩
    obtain ⟨x0,x1⟩:=mem_upt.mp hx
    refine ⟨[.v T,.v (.int n),.v (.int a),.v (.int b),.v (.int x)],zaS rfl,?_⟩
    by_cases e:d a b + d b x < d a x
    · exact .inr ((b4 a b x a0 a1 b0 b1 x0 x1).2 e)
    · exact .inl ⟨_,(b4 a b x a0 a1 b0 b1 x0 x1).1 e,some _,rfl⟩
  have f4:∀ (a b:Int) (o4:Option D),zdy [.v T,.v (.int n),.v (.int a),.v (.int b),sv o4]=zcm (zap 4) zbU ((upt n).map .int) [.v T,.v (.int n),.v (.int a),.v (.int b),sv o4]:=fun a b o4=>zcq (by simp [mRng,zaa,mNil,mVar,rn])
  have s5:∀ a:Int,0 ≤ a→a < n→∀ x ∈ upt n,∀ δ,(∃ o3 o4:Option D,δ = [.v T,.v (.int n),.v (.int a),sv o3,sv o4])→∃ δ1,zap 3 (.int x) δ=some δ1∧Or3 (zdy δ1) (fun δ=>∃ o3 o4:Option D,δ = [.v T,.v (.int n),.v (.int a),sv o3,sv o4]):=by
    rintro a a0 a1 x hx δ ⟨o3,o4,rfl⟩
    obtain ⟨x0,x1⟩:=mem_upt.mp hx
    refine ⟨[.v T,.v (.int n),.v (.int a),.v (.int x),sv o4],zaS rfl,?_⟩
    rw [f4 a x o4]
    rcases zff _ (s4 a x a0 a1 x0 x1) [.v T,.v (.int n),.v (.int a),.v (.int x),sv o4] ⟨o4,rfl⟩ with ⟨δ2,e,p4,rfl⟩ | e
    · exact .inl ⟨_,e,some _,p4,rfl⟩
    · exact .inr e
  have f5:∀ (a:Int) (o3 o4:Option D),zdq [.v T,.v (.int n),.v (.int a),sv o3,sv o4]=zcm (zap 3) zdy ((upt n).map .int) [.v T,.v (.int n),.v (.int a),sv o3,sv o4]:=fun a o3 o4=>zcq (by simp [mRng,zaa,mNil,mVar,rn])
  have s6:∀ x ∈ upt n,∀ δ,PL T n δ→∃ δ1,zap 2 (.int x) δ=some δ1∧Or3 (zdq δ1) (PL T n):=by
    rintro x hx δ ⟨o2,o3,o4,rfl⟩
    obtain ⟨x0,x1⟩:=mem_upt.mp hx
    refine ⟨[.v T,.v (.int n),.v (.int x),sv o3,sv o4],zaS rfl,?_⟩
    rw [f5 x o3 o4]
    rcases zff _ (s5 x x0 x1) [.v T,.v (.int n),.v (.int x),sv o3,sv o4] ⟨o3,o4,rfl⟩ with ⟨δ2,e,p3,p4,rfl⟩ | e
    · exact .inl ⟨_,e,some _,p3,p4,rfl⟩
    · exact .inr e
  have g1:∀ δ,PL T n δ→zeS δ=zcm (zap 2) zbY ((upt n).map .int) δ:=by rintro δ ⟨o2,o3,o4,rfl⟩; exact zcq (by simp [mRng,zaa,mNil,mVar,rn])
  have g3:∀ δ,PL T n δ→zeU δ=zcm (zap 2) zdI ((upt n).map .int) δ:=by rintro δ ⟨o2,o3,o4,rfl⟩; exact zcq (by simp [mRng,zaa,mNil,mVar,rn])
  have g6:∀ δ,PL T n δ→zeW δ=zcm (zap 2) zdq ((upt n).map .int) δ:=by rintro δ ⟨o2,o3,o4,rfl⟩; exact zcq (by simp [mRng,zaa,mNil,mVar,rn])
  have lT:fLen [T]=some (.int n):=by rw [eT]; exact zeH
  have st:mAsg (mCB fLen (zaa (mRd 0) mNil)) (zap 1) [.v T,.no,.no,.no,.no] = .nx [.v T,.v (.int n),sv none,sv none,sv none]:=zaC (d:=.int n) (by simp [mCB,zaa,mNil,mRd,lT]) rfl
  have seq:∀ (m m':En→O) (δ:En),Or3 (m δ) (PL T n)→(∀ δ',PL T n δ'→Ex1 (m' δ'))→Ex1 (mSeq m m' δ):=fun m m' δ a k=>by
    rcases a with ⟨δ1,e,p⟩ | ⟨δ1,e⟩
    · rw [zam e]; exact k δ1 p
    · exact ⟨δ1,by unfold mSeq; rw [e]⟩
  have seqE:∀ (m m':En→O) (δ:En),Ex1 (m δ)→Ex1 (mSeq m m' δ):=fun m m' δ ⟨δ1,e⟩=>⟨δ1,by unfold mSeq; rw [e]⟩
  have pl:PL T n [.v T,.v (.int n),sv none,sv none,sv none]:=⟨none,none,none,rfl⟩
  have fin:Ex1 (mSeq zeS (mSeq zeU zeW) [.v T,.v (.int n),sv none,sv none,sv none]):=by
    rcases h with ⟨a,⟨a0,a1⟩,e⟩ | ⟨a,b,⟨b0,ba,a1⟩,e⟩ | ⟨a,b,c,⟨a0,a1⟩,⟨b0,b1⟩,⟨c0,c1⟩,e⟩
    · refine seqE _ _ _ ?_
      rw [g1 _ pl]
      refine zfe _ s1 a (mem_upt.mpr ⟨a0,a1⟩) ?_ _ pl
      rintro δ ⟨o2,o3,o4,rfl⟩
      exact ⟨[.v T,.v (.int n),.v (.int a),sv o3,sv o4],zaS rfl,(b1 a o3 o4 a0 a1).2 e⟩
    · refine seq _ _ _ (by rw [g1 _ pl]; exact zff _ s1 _ pl) fun δ p=>seqE _ _ _ ?_
      rw [g3 _ p]
      refine zfe _ s3 a (mem_upt.mpr ⟨by omega,a1⟩) ?_ _ p
      rintro δ ⟨o2,o3,o4,rfl⟩
      refine ⟨[.v T,.v (.int n),.v (.int a),sv o3,sv o4],zaS rfl,?_⟩
      rw [f2 a o3 o4 (by omega) a1]
      refine zfe _ (s2 a (by omega) a1) b (mem_upt.mpr ⟨b0,by omega⟩) ?_ _ ⟨o3,o4,rfl⟩
      rintro δ ⟨p3,p4,rfl⟩
      exact ⟨[.v T,.v (.int n),.v (.int a),.v (.int b),sv p4],zaS rfl,(b2 a b p4 (by omega) a1 b0 (by omega)).2 e⟩
    · refine seq _ _ _ (by rw [g1 _ pl]; exact zff _ s1 _ pl) fun δ p=>seq _ _ _ (by rw [g3 _ p]; exact zff _ s3 _ p) fun δ p=>?_
      rw [g6 _ p]
      refine zfe _ s6 a (mem_upt.mpr ⟨a0,a1⟩) ?_ _ p
      rintro δ ⟨o2,o3,o4,rfl⟩
      refine ⟨[.v T,.v (.int n),.v (.int a),sv o3,sv o4],zaS rfl,?_⟩
      rw [f5 a o3 o4]
      refine zfe _ (s5 a a0 a1) b (mem_upt.mpr ⟨b0,b1⟩) ?_ _ ⟨o3,o4,rfl⟩
      rintro δ ⟨p3,p4,rfl⟩
      refine ⟨[.v T,.v (.int n),.v (.int a),.v (.int b),sv p4],zaS rfl,?_⟩
      rw [f4 a b p4]
      refine zfe _ (s4 a b a0 a1 b0 b1) c (mem_upt.mpr ⟨c0,c1⟩) ?_ _ ⟨p4,rfl⟩
      rintro δ ⟨q4,rfl⟩
      exact ⟨[.v T,.v (.int n),.v (.int a),.v (.int b),.v (.int c)],zaS rfl,(b4 a b c a0 a1 b0 b1 c0 c1).2 e⟩
  obtain ⟨δ,ee⟩:=fin
  have all:zg6 [.v T,.no,.no,.no,.no] = .ex δ ⟨2⟩:=(zam st).trans ee
  rw [← eT]
  exact zmO all
end My
namespace My
open PySem L2 PM
def num (c k:Int):Int:=(c % 100000000000000000000 + k * k + 1) * (48271 + 2 * k) % 2147483647
theorem zd1 (c k:Int) (h0:0 ≤ k) (h1:k ≤ 1000):zaN [.int c,.int k] = .ok (.int (num c k)):=by
  have e1:=zcH c (show (0:Int) < 100000000000000000000 by decide)
  have e2:=zdf c (show (0:Int) < 100000000000000000000 by decide)
  have e3:0 ≤ k * k:=Int.mul_nonneg h0 h0
  have e4:k * k ≤ 1000 * 1000:=Int.mul_le_mul h1 h1 h0 (by decide)
  have f1:Fit k:=fitN 1000 (by omega)
  have f2:Fit 2:=fitN 1000 (by decide)
  have f3:Fit (c % 100000000000000000000 + k * k + 1):=fitN (10 ^ 21) (by omega)
  have f4:Fit (48271 + 2 * k):=fitN (10 ^ 21) (by omega)
  simp [zaN,runF,zcZ,zew,mRet,mRd,mC,p20,za6,zbv,f1,f2,f3,f4,num]
theorem zhZ (c k:Int):0 ≤ num c k:=zcH _ (by decide)
theorem znT (c k:Int):num c k < 2147483647:=zdf _ (by decide)
theorem zht (c k:Int) (h0:0 ≤ k) (h1:k ≤ 1000):∃ a:Int,(0 ≤ a∧a ≤ 1000000000000000000)∧zbw [.int c,.int k] = .ok (.int a):=by
  have nm:=zd1 c k h0 h1
  have n0:=zhZ c k
  have n1:=znT c k
  obtain ⟨n,en⟩:∃ n,n=num c k:=⟨_,rfl⟩
  rw [← en] at nm n0 n1
  have f3:Fit 3:=fitN 10 (by decide)
  have e1:=zcH c (show (0:Int) < 100000000000000000000 by decide)
  have e2:=zdf c (show (0:Int) < 100000000000000000000 by decide)
  have fc:Fit (c % 100000000000000000000):=fitN (10 ^ 20) (by omega)
  have fm:Fit 6364136223846793005:=fitN (10 ^ 20) (by decide)
  have q1:mAsg (zaj zaN (zaa (mVar 0) (zaa (mVar 1) mNil))) (zap 2) [.v (.int c),.v (.int k),.no] = .nx [.v (.int c),.v (.int k),.v (.int n)]:=zaC (d:=.int n) (by simp [zaj,zaa,mNil,mVar,nm]) rfl
  by_cases c1:n % 3=0
  · have a1:=zcH (n / 3) (show (0:Int) < 4 by decide)
    have a2:=zdf (n / 3) (show (0:Int) < 4 by decide)
    refine ⟨n / 3 % 4,⟨a1,by omega⟩,za3 ((zam q1).trans (zct ?_))⟩
    rw [za5 (by simp [zal,mRd,mC,za6,c1])]
    simp [mRet,mRd,mC,za6,zcx,f3]
  · have n1':mIfS (zal (m2 oEq (m2 oMod (mRd 2) (mC (.int 3))) (mC (.int 0)))) (mRet (m2 oMod (m2 oDiv (mRd 2) (mC (.int 3))) (mC (.int 4)))) zaM [.v (.int c),.v (.int k),.v (.int n)] = .nx [.v (.int c),.v (.int k),.v (.int n)]:=by
      rw [zaZ (by simp [zal,mRd,mC,za6,c1])]; rfl
    by_cases c2:n % 3=1
    · have a1:=zcH (n / 3) (show (0:Int) < 30 by decide)
      have a2:=zdf (n / 3) (show (0:Int) < 30 by decide)
      refine ⟨n / 3 % 30,⟨a1,by omega⟩,za3 ((zam q1).trans ((zam n1').trans (zct ?_)))⟩
      rw [za5 (by simp [zal,mRd,mC,za6,c2])]
      simp [mRet,mRd,mC,za6,zcx,f3]
    · have n2':mIfS (zal (m2 oEq (m2 oMod (mRd 2) (mC (.int 3))) (mC (.int 1)))) (mRet (m2 oMod (m2 oDiv (mRd 2) (mC (.int 3))) (mC (.int 30)))) zaM [.v (.int c),.v (.int k),.v (.int n)] = .nx [.v (.int c),.v (.int k),.v (.int n)]:=by
        rw [zaZ (by simp [zal,mRd,mC,za6,c2])]; rfl
      have a1:=zcH (c % 100000000000000000000 * 6364136223846793005 + n) (show (0:Int) < 1000000000000000001 by decide)
      have a2:=zdf (c % 100000000000000000000 * 6364136223846793005 + n) (show (0:Int) < 1000000000000000001 by decide)
      refine ⟨_,⟨a1,by omega⟩,za3 ((zam q1).trans ((zam n1').trans ((zam n2').trans ?_)))⟩
      simp [mRet,mRd,mC,za6,p20,p18,zbv fc fm]
theorem zoj {a b:Int}:zjd [.int a,.int b]=some (.int (if b > a then b else a)):=rfl
theorem zmn (ts:List Fr):zbx 7 (zay ts)=true:=by
  unfold zay encF
  simp [zbx]
theorem zhf (l:List Int):zbx 7 (iL l)=true:=by
  unfold iL
  simp [zbx]
theorem zpQ {t:Fr} (h:ThOk t):FrB (10 ^ 18) (rt t) :=
  ⟨Nat.le_trans (zeG h.g0) (zgw h.lo h.hi),Nat.le_trans (zeC h.g0) (zgw (Int.le_of_lt h.g0) h.g1),zgV h.g0⟩
theorem zjN {ts:List Fr} {r x:Int} (hn:ts.length ≤ 40) (ok:∀ t ∈ ts,ThOk t) (r0:0 ≤ r) (r1:r ≤ 1000000000000000000) (x0:0 ≤ x):zcO [.int r,zay ts,.int x] = .ok (.bl true):=by
  obtain ⟨o,s,hO,hT,ht⟩:=zl2 hn ok r0
  obtain ⟨f,hf,hF⟩:=zi2 hn ok hO hT ht
  have hw:=zj1 ok hO hT ht
  have fl:f.length ≤ 40:=by
    have:=List.Nodup.length_le_of_subset (l₂:=fitA ts r) (hF.lt.imp fun h=>by omega) hF.mem
    exact Nat.le_trans this (Nat.le_trans (zfh ts r) hn)
  have hp:FrB (10 ^ 18) (ziQ ts s.ps):=by
    cases e:s.ps with
    | nil=>exact (show FrB (10 ^ 18) ((0,1):Fr) from ⟨by decide,by decide,by decide⟩)
    | cons p l =>
      obtain ⟨A,B,T,e1,e2,e3⟩:=hT.some p l e
      have pm:=(fit_mem.mp (hO.perm.mem_iff.mp (show p ∈ o by rw [e1]; simp))).1
      exact zpQ (ok _ (zdK pm.1 pm.2))
  have okB:∀ t ∈ ts,FrB (10 ^ 18) t:=fun t h=>⟨zgw (ok t h).lo (ok t h).hi,zgw (Int.le_of_lt (ok t h).g0) (ok t h).g1,(ok t h).g0⟩
  obtain ⟨p,ep⟩:∃ p,p=ziQ ts s.ps:=⟨_,rfl⟩
  rw [← ep] at hw hp
  have f3:Fit 3:=fitN 10 (by decide)
  have x3:=zcH x (show (0:Int) < 3 by decide)
  obtain ⟨tk,htk,ltk⟩:∃ tk:List Int,(∀ (T P:D),fLen [T]=some (.int ts.length)→mIfS (zal (m2 oGt (m2 oMod (mRd 2) (mC (.int 3))) (mC (.int 0)))) (mAsg (zaj zbd (zaa (mVar 3) (zaa (m2 oDiv (mRd 2) (mC (.int 3))) (zaa (mCB zjd (zaa (mC (.int 1)) (zaa (mCB fLen (zaa (mRd 1) mNil)) mNil))) mNil)))) (zap 3)) zaM [.v (.int r),.v T,.v (.int x),.v (iL f),.v P,.no,.no] = .nx [.v (.int r),.v T,.v (.int x),.v (iL tk),.v P,.no,.no])∧tk.length ≤ 1000:=by
    by_cases c:0 < x % 3
    · obtain ⟨tk,h1,h2⟩:=zf3 (l:=f) (x:=x / 3) (c:=if (ts.length:Int) > 1 then ts.length else 1) (by omega) (by omega) (by split <;> omega)
      refine ⟨tk,fun T P lT=>?_,by omega⟩
      rw [za5 (by simp [zal,mRd,mC,za6,c])]
      refine zaC (d:=iL tk) ?_ rfl
      simp only [zaj,zaa,mNil,mVar,mCB,mRd,mC,zbZ,List.getElem?_cons_succ,List.getElem?_cons_zero,R.bind_ok,lT,R.of_some,zoj,zcx (show (0:Int) < 3 by decide) f3,h1,R.nev_ok]
    · refine ⟨f,fun T P lT=>?_,by omega⟩
      rw [zaZ (by simp [zal,mRd,mC,za6,c])]; rfl
  obtain ⟨g,hg,fg⟩:∃ g:Fr,(∀ T:D,T=zay ts→mIfS (zal (m2 oNe (m2 oMod (mRd 2) (mC (.int 3))) (mC (.int 1)))) (mAsg (zaj za1 (zaa (mVar 4) (zaa (zaj zaN (zaa (mVar 2) (zaa (mC (.int 8)) mNil))) (zaa (mVar 1) mNil)))) (zap 4)) zaM [.v (.int r),.v T,.v (.int x),.v (iL tk),.v (encF p),.no,.no] = .nx [.v (.int r),.v T,.v (.int x),.v (iL tk),.v (encF g),.no,.no])∧FrB (10 ^ 25) g:=by
    by_cases c:x % 3=1
    · refine ⟨p,fun T _=>?_,hp.up (by decide)⟩
      rw [zaZ (by simp [zal,mRd,mC,za6,c])]; rfl
    · obtain ⟨g,h1,h2⟩:=zgz (x:=num x 8) (show ts.length ≤ 100 by omega) okB hp (zhZ _ _)
      refine ⟨g,fun T eT=>?_,h2⟩
      rw [za5 (by simp [zal,mRd,mC,za6,c])]
      refine zaC (d:=encF g) ?_ rfl
      have nm:=zd1 x 8 (by decide) (by decide)
      simp only [zaj,zaa,mNil,mVar,mC,List.getElem?_cons_succ,List.getElem?_cons_zero,R.bind_ok,nm,R.nev_ok,eT,h1]
  have cs:=ziF (tk:=tk) (f:=g) hn ok r0 r1 ltk fg
  have sw:=zjy (tk:=tk) (f:=g) hn ok r0 r1 ltk fg
  have sm:=zlY _ (zll ts r tk g)
  obtain ⟨W,eW⟩:∃ W,W=zjh ts r tk g:=⟨_,rfl⟩
  rw [← eW] at cs sw sm
  obtain ⟨T,eT⟩:∃ T,T=zay ts:=⟨_,rfl⟩
  have lT:fLen [T]=some (.int ts.length):=by rw [eT]; simp [zay,fLen]
  have fT:zd3 [T]=some T:=by rw [eT]; rfl
  have pT:=zmn ts
  have hg':=hg T eT
  rw [← eT] at hf hw cs sw pT ⊢
  obtain ⟨K,eK⟩:∃ K,K=iL tk:=⟨_,rfl⟩
  have fK:zd3 [K]=some K:=by rw [eK]; rfl
  have pK:=zhf tk
  obtain ⟨P,eP⟩:∃ P,P=encF p:=⟨_,rfl⟩
  obtain ⟨Q,eQ⟩:∃ Q,Q=encF g:=⟨_,rfl⟩
  have htk':=htk T P lT
  rw [← eK] at htk' hg' cs sw pK
  rw [← eP] at hg' hw
  rw [← eQ] at hg' cs sw
  obtain ⟨H,eH⟩:∃ H,H=D.tup [T,K]:=⟨_,rfl⟩
  have h0:oIxT H (.int 0)=some T:=by rw [eH]; rfl
  have h1:oIxT H (.int 1)=some K:=by rw [eH]; rfl
  have pH:zbx 8 H=true:=by
    rw [eH]
    simp only [zbx,List.all_cons,List.all_nil,pT,pK,Bool.and_true]
  have neq:oNeD H (.tup [T,K])=some (.bl false):=ziq pH (by rw [← eH]; exact pH) eH
  refine za3 ?_
  show mSeq _ _ [.v (.int r),.v T,.v (.int x),.no,.no,.no,.no]=_
  have q1:mAsg (zaj zcv (zaa (mVar 0) (zaa (mVar 1) mNil))) (zap 3) [.v (.int r),.v T,.v (.int x),.no,.no,.no,.no] = .nx [.v (.int r),.v T,.v (.int x),.v (iL f),.no,.no,.no]:=zaC (d:=iL f) (by simp [zaj,zaa,mNil,mVar,hf]) rfl
  have q2:mAsg (zaj zdn (zaa (mVar 0) (zaa (mVar 1) mNil))) (zap 4) [.v (.int r),.v T,.v (.int x),.v (iL f),.no,.no,.no] = .nx [.v (.int r),.v T,.v (.int x),.v (iL f),.v P,.no,.no]:=zaC (d:=P) (by simp [zaj,zaa,mNil,mVar,hw]) rfl
  have q5:mAsg (mTup (zaa (mCB zd3 (zaa (mRd 1) mNil)) (zaa (mCB zd3 (zaa (mRd 3) mNil)) mNil))) (zap 5) [.v (.int r),.v T,.v (.int x),.v K,.v Q,.no,.no] = .nx [.v (.int r),.v T,.v (.int x),.v K,.v Q,.v H,.no]:=by
    refine zaC (d:=H) ?_ rfl
    rw [eH]
    simp [mTup,mCB,zaa,mNil,mRd,fT,fK,sizeLine]
  have q6:mAsg (zaj zcy (zaa (mVar 0) (zaa (m2 oIxT (mRd 5) (mC (.int 0))) (zaa (m2 oIxT (mRd 5) (mC (.int 1))) (zaa (mVar 4) mNil))))) (zap 6) [.v (.int r),.v T,.v (.int x),.v K,.v Q,.v H,.no] = .nx [.v (.int r),.v T,.v (.int x),.v K,.v Q,.v H,.v W]:=zaC (d:=W) (by simp [zaj,zaa,mNil,mVar,mRd,mC,h0,h1,cs]) rfl
  have q7:mIfS (zal (m2 oNeD (mRd 5) (mTup (zaa (mVar 1) (zaa (mVar 3) mNil))))) (mRet (mC (.bl false))) zaM [.v (.int r),.v T,.v (.int x),.v K,.v Q,.v H,.v W] = .nx [.v (.int r),.v T,.v (.int x),.v K,.v Q,.v H,.v W]:=by
    simp [mIfS,zal,mRd,mVar,mTup,zaa,mNil,sizeLine,neq,zaM]
  refine (zam q1).trans ((zam q2).trans ((zam htk').trans ((zam hg').trans ((zam q5).trans ((zam q6).trans ((zam q7).trans ?_))))))
  show mRet _ [.v (.int r),.v T,.v (.int x),.v K,.v Q,.v H,.v W]=_
  simp [mRet,zaj,zaa,mNil,mVar,sw,sm]
end My
namespace My
open PySem L2 PM
theorem zg9 {α:Type} {b:D→En→Option En} {m:En→O} {P:En→Prop} (enc:α→D) (bad:α→Bool) (r:D):∀ (l:List α) (_:∀ x ∈ l,∀ δ,P δ→∃ δ1,b (enc x) δ=some δ1∧(bad x=true→m δ1 = .rt r)∧(bad x=false→∃ δ2,m δ1 = .nx δ2∧P δ2)) (δ:En) (_:P δ),
    (l.any bad=true→zcm b m (l.map enc) δ = .rt r)∧(l.any bad=false→∃ δ2,zcm b m (l.map enc) δ = .nx δ2∧P δ2)
  | [],_,δ,h=>⟨fun z=>by simp at z,fun _=>⟨δ,rfl,h⟩⟩
  | x :: l,st,δ,h=>by
    obtain ⟨δ1,h1,h2,h3⟩:=st x (by simp) δ h
    rw [List.map_cons]
    unfold zcm
    rw [h1,List.any_cons]
    cases c:bad x with
    | true =>
      refine ⟨fun _=>?_,fun z=>by simp at z⟩
      simp only [h2 c]
    | false =>
      obtain ⟨δ2,e,p⟩:=h3 c
      simp only [e,Bool.false_or]
      exact zg9 enc bad r l (fun y hy=>st y (List.mem_cons_of_mem _ hy)) δ2 p
def lap (d:Int→Int→Int) (s:List Int):Int:=mnL ((upt (s.length - 1)).map fun k=>near d (gA s k) (s.drop (k.toNat + 1)))
def znc (d:Int→Int→Int) (s:List Int) (R:Int):Prop:=∃ i j:Nat,i < j∧j < s.length∧d (gA s i) (gA s j) < R
theorem zhW {s:List Int} {i:Nat} (h:i < s.length):gA s (i:Int)=s[i]:=by
  simp [gA,List.getD_eq_getElem?_getD,h]
theorem znU {d:Int→Int→Int} {s:List Int} {R:Int} (hs:2 ≤ s.length):lap d s < R ↔ znc d s R:=by
  have ne:((upt (s.length - 1)).map fun k=>near d (gA s k) (s.drop (k.toNat + 1))) ≠ []:=zcw (by omega)
  obtain ⟨m1,m2⟩:=zlT ne
  constructor
  · intro h
    obtain ⟨k,hk,ek⟩:=List.mem_map.mp m1
    obtain ⟨k0,k1⟩:=mem_upt.mp hk
    have dn:s.drop (k.toNat + 1) ≠ []:=fun e=>by
      have:=congrArg List.length e
      rw [List.length_drop] at this; simp at this; omega
    obtain ⟨q,hq,eq⟩:=zoq (d:=d) (p:=gA s k) dn
    obtain ⟨t,ht,et⟩:=List.mem_iff_getElem.mp hq
    rw [List.length_drop] at ht
    refine ⟨k.toNat,k.toNat + 1 + t,by omega,by omega,?_⟩
    have e1:((k.toNat:Nat):Int)=k:=by omega
    rw [e1,zhW (show k.toNat + 1 + t < s.length by omega)]
    rw [List.getElem_drop] at et
    rw [et,← eq]
    unfold lap at h
    rw [← ek] at h
    exact h
  · rintro ⟨i,j,hij,hj,h⟩
    have:near d (gA s (i:Int)) (s.drop ((i:Int).toNat + 1)) ∈ ((upt (s.length - 1)).map fun k=>near d (gA s k) (s.drop (k.toNat + 1))):=List.mem_map.mpr ⟨(i:Int),mem_upt.mpr ⟨by omega,by omega⟩,rfl⟩
    have h1:=m2 _ this
    have hm:s[j] ∈ s.drop ((i:Int).toNat + 1):=by
      rw [Int.toNat_natCast]
      refine List.mem_iff_getElem.mpr ⟨j - (i + 1),by rw [List.length_drop]; omega,?_⟩
      rw [List.getElem_drop]
      congr 1
      omega
    have h2:=zoJ (d:=d) (p:=gA s (i:Int)) hm
    rw [zhW hj] at h
    unfold lap
    omega
theorem zhA {n:Nat} {d:Int→Int→Int} {s:List Int} (h2:2 ≤ s.length) (hl:s.length ≤ 1000) (hm:∀ q ∈ s,0 ≤ q∧q < n):zbQ [tabD (tabF n d),iL s] = .ok (.int (lap d s)):=by
  obtain ⟨T,eT⟩:∃ T,T=tabD (tabF n d):=⟨_,rfl⟩
  have k:ze8 [.v T,.v (iL s)] = .ok (iL ((upt (s.length - 1)).map fun k=>near d (gA s k) (s.drop (k.toNat + 1)))):=by
    have r:=rngT (show s.length - 1 ≤ 1000 by omega)
    rw [show ((s.length - 1:Nat):Int)=(s.length:Int) - 1 by omega] at r
    refine Eq.trans (zbC (l:=(upt (s.length - 1)).map .int) (r:=(upt (s.length - 1)).map fun k=>.int (near d (gA s k) (s.drop (k.toNat + 1)))) (by simp [mRng,zaa,mNil,mCB,mRd,mC,r]) (by rw [List.length_map,zbn]; omega) ?_) (by simp [iL])
    refine zbg .int (fun k=>.int (near d (gA s k) (s.drop (k.toNat + 1)))) _ fun k hk=>?_
    obtain ⟨k0,k1⟩:=mem_upt.mp hk
    have ix:=zlZ (L:=s) k0 (by omega)
    have gm:gA s k ∈ s:=by
      have:=zn2 (L:=s) (i:=k) (by omega)
      exact List.mem_of_getElem? this
    have dn:s.drop (k.toNat + 1) ≠ []:=fun e=>by
      have:=congrArg List.length e
      rw [List.length_drop] at this; simp at this; omega
    have nr:=zfP (n:=n) (d:=d) (p:=gA s k) (s:=s.drop (k.toNat + 1)) (hm _ gm).1 (hm _ gm).2 dn (by rw [List.length_drop]; omega) (fun q hq=>hm q (List.mem_of_mem_drop hq))
    rw [← eT] at nr
    have e:za2 [.v T,.v (iL s)] [0,1] 1 = [.v T,.v (iL s),.no]:=rfl
    rw [e]
    have sl:mSl (mRd 1) (zbF (m2 oAdd (mRd 2) (mC (.int 1)))) mNoP [.v T,.v (iL s),.v (.int k)] = .ok (iL (s.drop (k.toNat + 1))):=by
      have c:=zne (l:=s.map D.int) (k:=k.toNat + 1) (by rw [List.length_map]; omega)
      rw [show ((k.toNat + 1:Nat):Int)=k + 1 by omega] at c
      simp only [mSl,mRd,zbF,mNoP,zbZ,mC,List.getElem?_cons_succ,List.getElem?_cons_zero,R.bind_ok,zh4,R.of_some,zme,zmG,c]
      rw [← List.map_drop]; rfl
    have cl:zaj zce (zaa (mVar 0) (zaa (m2 oIxL (mRd 1) (mRd 2)) (zaa (mSl (mRd 1) (zbF (m2 oAdd (mRd 2) (mC (.int 1)))) mNoP) mNil))) [.v T,.v (iL s),.v (.int k)] = .ok (.int (near d (gA s k) (s.drop (k.toNat + 1)))):=by
      simp only [zaj,zaa,mNil,sl,mVar,mRd,zbZ,List.getElem?_cons_succ,List.getElem?_cons_zero,R.bind_ok,ix,R.of_some,nr,R.nev_ok]
    simp [zcX,za0,cl]
  refine za3 ?_
  rw [← eT]
  show mRet _ [.v T,.v (iL s)]=_
  simp only [mRet,mCB,zaa,mNil,k,R.bind_ok,zmK (zcw (f:=fun k=>near d (gA s k) (s.drop (k.toNat + 1))) (show 0 < s.length - 1 by omega)),R.of_some]; rfl
open Classical in
def zf6 (n:Nat) (d:Int→Int→Int) (m:Nat) (ch fr:List Int):D :=
  if ch.length ≠ m∨okU ch n=false then .str "chosen" else if n ≤ m then .non else if fr.length ≠ m + 1∨okU fr n=false then .str "far" else if znc d fr (rad n d ch) then .str "share" else .non
theorem zjZ (n:Nat) (d:Int→Int→Int) (m:Nat) (ch fr:List Int):zf6 n d m ch fr = .non∨∃ x,zf6 n d m ch fr = .str x:=by
  unfold zf6
  (repeat' split)
  all_goals first | exact .inl rfl | exact .inr ⟨_,rfl⟩
theorem zho {n:Nat} {B:Int} {d:Int→Int→Int} (ok:LenOk n B d) (hn0:0 < n) (hn:n ≤ 100) {m:Nat} (m0:0 < m) {ch fr:List Int} (hc:ch.length ≤ 1000) (hf:fr.length ≤ 1000) :
    zaV [tabD (tabF n d),.int m,iL ch,iL fr] = .ok (zf6 n d m ch fr):=by
  obtain ⟨T,eT⟩:∃ T,T=tabD (tabF n d):=⟨_,rfl⟩
  have lT:fLen [T]=some (.int n):=by rw [eT]; exact zeH
  have look:=zic hn ok
  rw [← eT] at look
  refine za3 ?_
  rw [← eT]
  show mSeq _ _ [.v T,.v (.int m),.v (iL ch),.v (iL fr),.no]=_
  have q1:mDo (zbf zbs (zaa (mVar 0) mNil)) [.v T,.v (.int m),.v (iL ch),.v (iL fr),.no] = .nx [.v T,.v (.int m),.v (iL ch),.v (iL fr),.no]:=by simp [mDo,zbf,zaa,mNil,mVar,look]
  have q2:mAsg (mCB fLen (zaa (mRd 0) mNil)) (zap 4) [.v T,.v (.int m),.v (iL ch),.v (iL fr),.no] = .nx [.v T,.v (.int m),.v (iL ch),.v (iL fr),.v (.int n)]:=zaC (d:=.int n) (by simp [mCB,zaa,mNil,mRd,lT]) rfl
  refine (zam q1).trans ((zam q2).trans ?_)
  obtain ⟨δ,eδ⟩:∃ δ:En,δ = [.v T,.v (.int m),.v (iL ch),.v (iL fr),.v (.int n)]:=⟨_,rfl⟩
  have t1:zal (m2 oNe (mCB fLen (zaa (mRd 2) mNil)) (mRd 1)) δ = .ok (decide (ch.length ≠ m)):=by
    have:decide (((ch.length:Nat):Int) ≠ (m:Int))=decide (ch.length ≠ m):=decide_eq_decide.mpr (by omega)
    rw [← this,eδ]
    simp [zal,mCB,zaa,mNil,mRd]
  have t2:zal (zaj zaX (zaa (mVar 2) (zaa (mVar 4) mNil))) δ = .ok (okU ch n):=by
    rw [eδ]
    simp [zal,zaj,zaa,mNil,mVar,zdA (c:=(n:Int)) hc]
  have t3:zal (m2 oLe (mRd 4) (mRd 1)) δ = .ok (decide (n ≤ m)):=by
    have:decide (((n:Nat):Int) ≤ (m:Int))=decide (n ≤ m):=decide_eq_decide.mpr (by omega)
    rw [← this,eδ]
    simp [zal,mRd]
  have t4:zal (m2 oNe (mCB fLen (zaa (mRd 3) mNil)) (m2 oAdd (mRd 1) (mC (.int 1)))) δ = .ok (decide (fr.length ≠ m + 1)):=by
    have:decide (((fr.length:Nat):Int) ≠ (m:Int) + 1)=decide (fr.length ≠ m + 1):=decide_eq_decide.mpr (by omega)
    rw [← this,eδ]
    simp [zal,mCB,zaa,mNil,mRd,mC]
  have t5:zal (zaj zaX (zaa (mVar 3) (zaa (mVar 4) mNil))) δ = .ok (okU fr n):=by
    rw [eδ]
    simp [zal,zaj,zaa,mNil,mVar,zdA (c:=(n:Int)) hf]
  rw [← eδ]
  unfold zf6
  by_cases c1:ch.length ≠ m∨okU ch n=false
  · rw [if_pos c1]
    refine zct ?_
    rw [za5]
    · rfl
    · by_cases z:ch.length=m
      · have z2:okU ch n=false:=c1.resolve_left (fun k=>k z)
        simp [mOr,mNot,t1,t2,z,z2]
      · simp [mOr,t1,z]
  · rw [if_neg c1]
    have z1:ch.length=m:=Classical.byContradiction fun z=>c1 (.inl z)
    have z2:okU ch n=true:=by cases z:okU ch n; exact absurd (.inr z) c1; rfl
    have n1:mIfS (mOr (zal (m2 oNe (mCB fLen (zaa (mRd 2) mNil)) (mRd 1))) (mNot (zal (zaj zaX (zaa (mVar 2) (zaa (mVar 4) mNil)))))) (mRet (mC (.str "chosen"))) zaM δ = .nx δ:=by
      rw [zaZ (by simp [mOr,mNot,t1,t2,z1,z2])]; rfl
    refine (zam n1).trans ?_
    by_cases c2:n ≤ m
    · rw [if_pos c2]
      refine zct ?_
      rw [za5 (by rw [t3,decide_eq_true c2])]; rfl
    · rw [if_neg c2]
      have n2:mIfS (zal (m2 oLe (mRd 4) (mRd 1))) (mRet (mC .non)) zaM δ = .nx δ:=by rw [zaZ (by rw [t3,decide_eq_false c2])]; rfl
      refine (zam n2).trans ?_
      by_cases c3:fr.length ≠ m + 1∨okU fr n=false
      · rw [if_pos c3]
        refine zct ?_
        rw [za5]
        · rfl
        · by_cases z:fr.length=m + 1
          · have z3:okU fr n=false:=c3.resolve_left (fun k=>k z)
            simp [mOr,mNot,t4,t5,z,z3]
          · simp [mOr,t4,z]
      · rw [if_neg c3]
        have z3:fr.length=m + 1:=Classical.byContradiction fun z=>c3 (.inl z)
        have z4:okU fr n=true:=by cases z:okU fr n; exact absurd (.inr z) c3; rfl
        have n3:mIfS (mOr (zal (m2 oNe (mCB fLen (zaa (mRd 3) mNil)) (m2 oAdd (mRd 1) (mC (.int 1))))) (mNot (zal (zaj zaX (zaa (mVar 3) (zaa (mVar 4) mNil)))))) (mRet (mC (.str "far"))) zaM δ = .nx δ:=by
          rw [zaZ (by simp [mOr,mNot,t4,t5,z3,z4])]; rfl
        refine (zam n3).trans ?_
        have re:=znG (d:=d) (s:=ch) hn0 hn (by intro e; rw [e] at z1; simp at z1; omega) hc (zfO z2)
        have le:=zhA (d:=d) (s:=fr) (by omega) hf (zfO z4)
        rw [← eT] at re le
        have t6:zal (m2 oGt (zaj zfk (zaa (mVar 0) (zaa (mVar 2) mNil))) (zaj zbQ (zaa (mVar 0) (zaa (mVar 3) mNil)))) δ = .ok (decide (lap d fr < rad n d ch)):=by
          rw [eδ]
          simp [zal,zaj,zaa,mNil,mVar,re,le]
        by_cases c5:lap d fr < rad n d ch
        · rw [if_pos ((znU (by omega)).mp c5)]
          refine zct ?_
          rw [za5 (by rw [t6,decide_eq_true c5])]; rfl
        · rw [if_neg (fun z=>c5 ((znU (by omega)).mpr z))]
          have n5:mIfS (zal (m2 oGt (zaj zfk (zaa (mVar 0) (zaa (mVar 2) mNil))) (zaj zbQ (zaa (mVar 0) (zaa (mVar 3) mNil))))) (mRet (mC (.str "share"))) zaM δ = .nx δ:=by rw [zaZ (by rw [t6,decide_eq_false c5])]; rfl
          exact (zam n5).trans rfl
end My
namespace My
open PySem L2 PM
theorem zmg {d:Int→Int→Int} {s:List Int} {R:Int} (sy:∀ a ∈ s,∀ b ∈ s,d a b=d b a) :
    (s.zipIdx.any fun p=>(s.take p.2).any fun q=>decide (d p.1 q < R))=true ↔ znc d s R:=by
  rw [List.any_eq_true]
  constructor
  · rintro ⟨⟨x,j⟩,hp,h⟩
    have hg:=List.mk_mem_zipIdx_iff_getElem?.mp hp
    obtain ⟨hj,ej⟩:=List.getElem?_eq_some_iff.mp hg
    obtain ⟨q,hq,hd⟩:=List.any_eq_true.mp h
    obtain ⟨i,hi,ei⟩:=List.mem_iff_getElem.mp hq
    rw [List.length_take] at hi
    rw [List.getElem_take] at ei
    refine ⟨i,j,by omega,hj,?_⟩
    rw [zhW (show i < s.length by omega),zhW hj,ei,ej]
    have:d x q < R:=by simpa using hd
    rw [sy q (by rw [← ei]; exact List.getElem_mem _) x (by rw [← ej]; exact List.getElem_mem _)]
    exact this
  · rintro ⟨i,j,hij,hj,h⟩
    rw [zhW (show i < s.length by omega),zhW hj] at h
    refine ⟨(s[j],j),List.mk_mem_zipIdx_iff_getElem?.mpr (List.getElem?_eq_some_iff.mpr ⟨hj,rfl⟩),List.any_eq_true.mpr ⟨s[i],?_,?_⟩⟩
    · refine List.mem_iff_getElem.mpr ⟨i,by rw [List.length_take]; omega,?_⟩
      rw [List.getElem_take]
    · rw [sy s[j] (List.getElem_mem _) s[i] (List.getElem_mem _)]
      simpa using h
theorem zhz {n:Nat} {B:Int} {d:Int→Int→Int} (ok:LenOk n B d) (hn0:0 < n) (hn:n ≤ 100) {m:Nat} (m0:0 < m) (mn:m ≤ n) {ch fr:List Int} (hc:ch.length ≤ 1000) (hf:fr.length ≤ 1000) :
    zbJ [tabD (tabF n d),.int m,iL ch,iL fr] = .ok (zf6 n d m ch fr):=by
  obtain ⟨T,eT⟩:∃ T,T=tabD (tabF n d):=⟨_,rfl⟩
  have lT:fLen [T]=some (.int n):=by rw [eT]; exact zeH
  have tix:∀ a:Int,0 ≤ a→a < n→oIxL T (.int a)=some (iL ((upt n).map (d a))):=fun a h0 h1=>by rw [eT]; exact zjp h0 h1
  refine za3 ?_
  rw [← eT]
  show mSeq _ _ [.v T,.v (.int m),.v (iL ch),.v (iL fr),.no,.no,.no,.no,.no]=_
  have q2:mAsg (mCB fLen (zaa (mRd 0) mNil)) (zap 4) [.v T,.v (.int m),.v (iL ch),.v (iL fr),.no,.no,.no,.no,.no] = .nx [.v T,.v (.int m),.v (iL ch),.v (iL fr),.v (.int n),.no,.no,.no,.no]:=zaC (d:=.int n) (by simp [mCB,zaa,mNil,mRd,lT]) rfl
  refine (zam q2).trans ?_
  obtain ⟨δ,eδ⟩:∃ δ:En,δ = [.v T,.v (.int m),.v (iL ch),.v (iL fr),.v (.int n),.no,.no,.no,.no]:=⟨_,rfl⟩
  have t1:zal (m2 oNe (mCB fLen (zaa (mRd 2) mNil)) (mRd 1)) δ = .ok (decide (ch.length ≠ m)):=by
    have:decide (((ch.length:Nat):Int) ≠ (m:Int))=decide (ch.length ≠ m):=decide_eq_decide.mpr (by omega)
    rw [← this,eδ]
    simp [zal,mCB,zaa,mNil,mRd]
  have t2:zal (zaj za9 (zaa (mVar 2) (zaa (mVar 4) mNil))) δ = .ok (okU ch n):=by
    rw [eδ]
    simp [zal,zaj,zaa,mNil,mVar,zej (c:=(n:Int)) hc]
  have t3:zal (m2 oEq (mRd 1) (mRd 4)) δ = .ok (decide (n ≤ m)):=by
    have:decide ((m:Int)=(n:Int))=decide (n ≤ m):=decide_eq_decide.mpr (by omega)
    rw [← this,eδ]
    simp [zal,mRd]
  have t4:zal (m2 oNe (mCB fLen (zaa (mRd 3) mNil)) (m2 oAdd (mRd 1) (mC (.int 1)))) δ = .ok (decide (fr.length ≠ m + 1)):=by
    have:decide (((fr.length:Nat):Int) ≠ (m:Int) + 1)=decide (fr.length ≠ m + 1):=decide_eq_decide.mpr (by omega)
    rw [← this,eδ]
    simp [zal,mCB,zaa,mNil,mRd,mC]
  have t5:zal (zaj za9 (zaa (mVar 3) (zaa (mVar 4) mNil))) δ = .ok (okU fr n):=by
    rw [eδ]
    simp [zal,zaj,zaa,mNil,mVar,zej (c:=(n:Int)) hf]
  rw [← eδ]
  unfold zf6
  by_cases c1:ch.length ≠ m∨okU ch n=false
  · rw [if_pos c1]
    refine zct ?_
    rw [za5]
    · rfl
    · by_cases z:ch.length=m
      · have z2:okU ch n=false:=c1.resolve_left (fun k=>k z)
        simp [mOr,mNot,t1,t2,z,z2]
      · simp [mOr,t1,z]
  · rw [if_neg c1]
    have z1:ch.length=m:=Classical.byContradiction fun z=>c1 (.inl z)
    have z2:okU ch n=true:=by cases z:okU ch n; exact absurd (.inr z) c1; rfl
    have n1:mIfS (mOr (zal (m2 oNe (mCB fLen (zaa (mRd 2) mNil)) (mRd 1))) (mNot (zal (zaj za9 (zaa (mVar 2) (zaa (mVar 4) mNil)))))) (mRet (mC (.str "chosen"))) zaM δ = .nx δ:=by
      rw [zaZ (by simp [mOr,mNot,t1,t2,z1,z2])]; rfl
    refine (zam n1).trans ?_
    by_cases c2:n ≤ m
    · rw [if_pos c2]
      refine zct ?_
      rw [za5 (by rw [t3,decide_eq_true c2])]; rfl
    · rw [if_neg c2]
      have n2:mIfS (zal (m2 oEq (mRd 1) (mRd 4))) (mRet (mC .non)) zaM δ = .nx δ:=by rw [zaZ (by rw [t3,decide_eq_false c2])]; rfl
      refine (zam n2).trans ?_
      by_cases c3:fr.length ≠ m + 1∨okU fr n=false
      · rw [if_pos c3]
        refine zct ?_
        rw [za5]
        · rfl
        · by_cases z:fr.length=m + 1
          · have z3:okU fr n=false:=c3.resolve_left (fun k=>k z)
            simp [mOr,mNot,t4,t5,z,z3]
          · simp [mOr,t4,z]
      · rw [if_neg c3]
        have z3:fr.length=m + 1:=Classical.byContradiction fun z=>c3 (.inl z)
        have z4:okU fr n=true:=by cases z:okU fr n; exact absurd (.inr z) c3; rfl
        have n3:mIfS (mOr (zal (m2 oNe (mCB fLen (zaa (mRd 3) mNil)) (m2 oAdd (mRd 1) (mC (.int 1))))) (mNot (zal (zaj za9 (zaa (mVar 3) (zaa (mVar 4) mNil)))))) (mRet (mC (.str "far"))) zaM δ = .nx δ:=by
          rw [zaZ (by simp [mOr,mNot,t4,t5,z3,z4])]; rfl
        refine (zam n3).trans ?_
        have chm:=zfO z2
        have frm:=zfO z4
        have chn:ch ≠ []:=by intro e; rw [e] at z1; simp at z1; omega
        have k1:∀ p:Int,zcA [.v (iL ch),.v (iL ((upt n).map (d p)))] = .ok (iL (ch.map (d p))):=fun p=>by
          refine Eq.trans (zbC (l:=ch.map .int) (r:=ch.map fun q=>.int (d p q)) (by simp [mItL,mRd]) (by rw [List.length_map]; omega) ?_) (by simp [iL])
          refine zbg .int (fun q=>.int (d p q)) _ fun q hq=>?_
          have r:=zde (n:=n) (f:=d p) (chm q hq).1 (chm q hq).2
          obtain ⟨Rw,eR⟩:∃ Rw,Rw=iL ((upt n).map (d p)):=⟨_,rfl⟩
          rw [← eR] at r ⊢
          simp [zcX,za2,zhK,za0,mRd,r]
        have k2:zcJ δ = .ok (iL ((upt n).map fun p=>near d p ch)):=by
          refine Eq.trans (zbC (l:=(upt n).map fun p=>iL ((upt n).map (d p))) (r:=(upt n).map fun p=>.int (near d p ch)) (by rw [eδ,eT]; simp [mItL,mRd,tabD,tabF]) (by rw [List.length_map,zbn]; omega) ?_) (by simp [iL])
          refine zbg (fun p=>iL ((upt n).map (d p))) (fun p=>.int (near d p ch)) _ fun p _=>?_
          have e:za2 δ [2] 1 = [.v (iL ch),.no]:=by rw [eδ]; rfl
          rw [e]
          have kp:=k1 p
          obtain ⟨Rw,eR⟩:∃ Rw,Rw=iL ((upt n).map (d p)):=⟨_,rfl⟩
          rw [← eR] at kp ⊢
          have mn':=zmK (S:=ch.map (d p)) (by simpa using chn)
          have b1:za0 1 Rw [.v (iL ch),.no]=some [.v (iL ch),.v Rw]:=rfl
          have c1:mCB (zep minI) (zaa zcA mNil) [.v (iL ch),.v Rw] = .ok (.int (near d p ch)):=by
            simp only [mCB,zaa,mNil,kp,R.bind_ok,mn',R.of_some]; rfl
          simp [zcX,b1,c1]
        obtain ⟨Rd,eRd⟩:∃ Rd,Rd=rad n d ch:=⟨_,rfl⟩
        have q5:mAsg (mCB (zep maxI) (zaa zcJ mNil)) (zap 5) δ = .nx [.v T,.v (.int m),.v (iL ch),.v (iL fr),.v (.int n),.v (.int Rd),.no,.no,.no]:=by
          refine zaC (d:=.int Rd) ?_ (by rw [eδ]; rfl)
          simp only [mCB,zaa,mNil,k2,R.bind_ok,zkK (zcw (f:=fun p=>near d p ch) hn0),R.of_some,eRd]; rfl
        refine (zam q5).trans ?_
        rw [← eRd]
        let P:En→Prop:=fun δ=>∃ o6 o7 o8:Option D,δ = [.v T,.v (.int m),.v (iL ch),.v (iL fr),.v (.int n),.v (.int Rd),sv o6,sv o7,sv o8]
        obtain ⟨L1,L2⟩:=zg9 (b:=bTup 2 (zcu (zap 6) (zcu (zap 7) bNil))) (m:=zbX) (P:=P) (fun p:Int × Nat=>D.tup [.int (p.2:Int),.int p.1]) (fun p=>(fr.take p.2).any fun q=>decide (d p.1 q < Rd)) (.str "share") fr.zipIdx
          (by
            rintro ⟨x,j⟩ hp δ ⟨o6,o7,o8,rfl⟩
            have hg:=List.mk_mem_zipIdx_iff_getElem?.mp hp
            obtain ⟨hj,ej⟩:=List.getElem?_eq_some_iff.mp hg
            obtain ⟨x0,x1⟩:=frm x (by rw [← ej]; exact List.getElem_mem _)
            refine ⟨[.v T,.v (.int m),.v (iL ch),.v (iL fr),.v (.int n),.v (.int Rd),.v (.int (j:Int)),.v (.int x),sv o8],by rcases o6 with _ | o6 <;> rcases o7 with _ | o7 <;> rfl,?_⟩
            have sl:mItL (mSl (mRd 3) mNoP (zbF (mVar 6))) [.v T,.v (.int m),.v (iL ch),.v (iL fr),.v (.int n),.v (.int Rd),.v (.int (j:Int)),.v (.int x),sv o8] = .ok ((fr.take j).map .int):=by
              have c:=znF (l:=fr.map D.int) (k:=j) (by rw [List.length_map]; omega)
              simp only [mItL,mSl,mRd,zbF,mNoP,mVar,List.getElem?_cons_succ,List.getElem?_cons_zero,R.bind_ok,R.of_some,zme,zmG,c]
              rw [← List.map_take]; rfl
            have f:zbX [.v T,.v (.int m),.v (iL ch),.v (iL fr),.v (.int n),.v (.int Rd),.v (.int (j:Int)),.v (.int x),sv o8]=zcm (zap 8) zbA ((fr.take j).map .int) [.v T,.v (.int m),.v (iL ch),.v (iL fr),.v (.int n),.v (.int Rd),.v (.int (j:Int)),.v (.int x),sv o8]:=zcR sl
            obtain ⟨M1,M2⟩:=zg9 (b:=zap 8) (m:=zbA) (P:=fun δ=>∃ o8:Option D,δ = [.v T,.v (.int m),.v (iL ch),.v (iL fr),.v (.int n),.v (.int Rd),.v (.int (j:Int)),.v (.int x),sv o8]) D.int (fun q=>decide (d x q < Rd)) (.str "share") (fr.take j)
              (by
                rintro q hq δ ⟨o8,rfl⟩
                obtain ⟨y0,y1⟩:=frm q (List.mem_of_mem_take hq)
                have r:=zde (n:=n) (f:=d x) y0 y1
                refine ⟨[.v T,.v (.int m),.v (iL ch),.v (iL fr),.v (.int n),.v (.int Rd),.v (.int (j:Int)),.v (.int x),.v (.int q)],zaS rfl,fun z=>?_,fun z=>?_⟩
                · have z':d x q < Rd:=by simpa using z
                  unfold zbA
                  rw [za5 (by simp [zal,mRd,tix x x0 x1,r,z'])]; rfl
                · have z':¬ d x q < Rd:=by simpa using z
                  refine ⟨_,?_,some (.int q),rfl⟩
                  unfold zbA
                  rw [zaZ (by simp [zal,mRd,tix x x0 x1,r,z'])]; rfl)
              [.v T,.v (.int m),.v (iL ch),.v (iL fr),.v (.int n),.v (.int Rd),.v (.int (j:Int)),.v (.int x),sv o8] ⟨o8,rfl⟩
            refine ⟨fun z=>f.trans (M1 z),fun z=>?_⟩
            obtain ⟨δ2,e,p8,rfl⟩:=M2 z
            exact ⟨_,f.trans e,some _,some _,p8,rfl⟩)
          [.v T,.v (.int m),.v (iL ch),.v (iL fr),.v (.int n),.v (.int Rd),.no,.no,.no] ⟨none,none,none,rfl⟩
        have f2:zdO [.v T,.v (.int m),.v (iL ch),.v (iL fr),.v (.int n),.v (.int Rd),.no,.no,.no]=zcm (bTup 2 (zcu (zap 6) (zcu (zap 7) bNil))) zbX (fr.zipIdx.map fun p:Int × Nat=>D.tup [.int (p.2:Int),.int p.1]) [.v T,.v (.int m),.v (iL ch),.v (iL fr),.v (.int n),.v (.int Rd),.no,.no,.no]:=by
          refine zcR ?_
          have:zjS [iL fr]=some (ziM (fr.map .int)):=rfl
          simp only [zhO,zaa,mNil,mVar,List.getElem?_cons_succ,List.getElem?_cons_zero,R.bind_ok,this,R.of_some]
          rw [zis,List.zipIdx_map,List.map_map]; rfl
        have ca:=zmg (d:=d) (s:=fr) (R:=Rd) (fun a ha b hb=>ok.sym a b (frm a ha).1 (frm a ha).2 (frm b hb).1 (frm b hb).2)
        by_cases c5:znc d fr Rd
        · rw [if_pos c5]
          exact zct (f2.trans (L1 (ca.mpr c5)))
        · rw [if_neg c5]
          have z5:(fr.zipIdx.any fun p=>(fr.take p.2).any fun q=>decide (d p.1 q < Rd))=false:=by
            cases z:(fr.zipIdx.any fun p=>(fr.take p.2).any fun q=>decide (d p.1 q < Rd)) with
            | true=>exact absurd (ca.mp z) c5
            | false=>rfl
          obtain ⟨δ2,e,o6,o7,o8,rfl⟩:=L2 z5
          exact (zam (f2.trans e)).trans rfl
end My
namespace My
open PySem L2 PM
theorem zoh {m n:En→O} {δ:En} {d:D} (h:m δ = .ro d):mSeq m n δ = .ro d:=by unfold mSeq; rw [h]
theorem zoS (cs:List Int) {k:Int} (h0:0 ≤ k):∃ c:Int,zat [iL cs,.int k] = .ok (.int c):=by
  by_cases h:k < cs.length
  · refine ⟨gA cs k,za3 ?_⟩
    show mSeq _ _ [.v (iL cs),.v (.int k)]=_
    refine zct ?_
    rw [za5 (by simp [zal,mRd,mCB,zaa,mNil,h])]
    have:=zlZ (L:=cs) h0 (by omega)
    simp [mRet,mRd,this]
  · refine ⟨0,za3 ?_⟩
    show mSeq _ _ [.v (iL cs),.v (.int k)]=_
    have q:mIfS (zal (m2 oLt (mRd 1) (mCB fLen (zaa (mRd 0) mNil)))) (mRet (m2 oIxL (mRd 0) (mRd 1))) zaM [.v (iL cs),.v (.int k)] = .nx [.v (iL cs),.v (.int k)]:=by
      rw [zaZ (by simp [zal,mRd,mCB,zaa,mNil,h])]; rfl
    exact (zam q).trans rfl
theorem zpZ {a b c e:Int} {i:Int} (h0:0 ≤ i) (h1:i < 4):∃ x,(x=a∨x=b∨x=c∨x=e)∧oIxL (.lst [.int a,.int b,.int c,.int e]) (.int i)=some (.int x):=by
  rcases (show i=0∨i=1∨i=2∨i=3 by omega) with h | h | h | h <;> subst h
  · exact ⟨a,.inl rfl,rfl⟩
  · exact ⟨b,.inr (.inl rfl),rfl⟩
  · exact ⟨c,.inr (.inr (.inl rfl)),rfl⟩
  · exact ⟨e,.inr (.inr (.inr rfl)),rfl⟩
structure SpOk (p:Fr):Prop where
  l1:0 ≤ p.1
  h1:p.1 ≤ 100000000000000000
  l2:0 ≤ p.2
  h2:p.2 ≤ 100000000000000000
theorem p8:oPow (.int 10) (.int 8)=some (.int 100000000):=zkF ⟨by decide,by decide,by decide⟩
theorem p17:oPow (.int 10) (.int 17)=some (.int 100000000000000000):=zkF ⟨by decide,by decide,by decide⟩
theorem znn {α:Type} (ts:List Fr) (f:Fr→α):ts.map f=(upt ts.length).map fun k=>f (th ts k):=by
  apply List.ext_getElem?
  intro i
  by_cases hi:i < ts.length
  · rw [List.getElem?_map,List.getElem?_map,zey hi]
    have:=zm6 (ts:=ts) (k:=(i:Int)) (by omega)
    rw [Int.toNat_natCast] at this
    rw [this]; rfl
  · rw [List.getElem?_eq_none_iff.mpr (by rw [List.length_map]; omega),List.getElem?_eq_none_iff.mpr (by rw [List.length_map,zbn]; omega)]
def btw (sp:List Fr) (l a b:Int):Int:=if a=b then 0 else l + ((th sp (if b < a then b else a)).2 + 7 * (th sp (if b > a then b else a)).1 + (if b < a then b else a) * (if b > a then b else a)) % (l + 1)
def grd (sp:List Fr) (a b:Int):Int:=(if (th sp a).1 - (th sp b).1 < 0 then -((th sp a).1 - (th sp b).1) else (th sp a).1 - (th sp b).1) + (if (th sp a).2 - (th sp b).2 < 0 then -((th sp a).2 - (th sp b).2) else (th sp a).2 - (th sp b).2)
theorem zpJ {n:Nat} {sp:List Fr} {l:Int} (l0:0 < l) (l1:l ≤ 1000000000000000000):LenOk n 2000000000000000000 (btw sp l):=by
  have key:∀ a b:Int,a ≠ b→l ≤ btw sp l a b∧btw sp l a b ≤ 2 * l:=fun a b ne=>by
    unfold btw
    rw [if_neg ne]
    obtain ⟨X,eX⟩:∃ X,X=((th sp (if b < a then b else a)).2 + 7 * (th sp (if b > a then b else a)).1 + (if b < a then b else a) * (if b > a then b else a)):=⟨_,rfl⟩
    rw [← eX]
    have:=zcH X (show 0 < l + 1 by omega)
    have:=zdf X (show 0 < l + 1 by omega)
    omega
  have self:∀ a:Int,btw sp l a a=0:=fun a=>if_pos rfl
  have any:∀ a b:Int,0 ≤ btw sp l a b∧btw sp l a b ≤ 2 * l:=fun a b=>by
    by_cases e:a=b
    · rw [e,self]; omega
    · have:=key a b e; omega
  refine ⟨fun a b _ _ _ _=>by have:=any a b; omega,fun a _ _=>self a,fun a b _ _ _ _=>?_,fun a b c _ _ _ _ _ _=>?_⟩
  · by_cases e:a=b
    · rw [e]
    · have e1:(if b < a then b else a)=(if a < b then a else b):=by split <;> split <;> omega
      have e2:(if b > a then b else a)=(if a > b then a else b):=by split <;> split <;> omega
      unfold btw
      rw [if_neg e,e1,e2,if_neg (show ¬ b=a from fun z=>e z.symm)]
  · by_cases e1:a=b
    · rw [e1,self]; omega
    · by_cases e2:b=c
      · rw [e2,self]; omega
      · have h1:=key a b e1
        have h2:=key b c e2
        have h3:=any a c
        omega
theorem zo8 {sp:List Fr} (h:∀ p ∈ sp,SpOk p):LenOk sp.length 2000000000000000000 (grd sp):=by
  have hp:∀ a:Int,0 ≤ a→a < sp.length→SpOk (th sp a):=fun a a0 a1=>h _ (zdK a0 a1)
  refine ⟨fun a b a0 a1 b0 b1=>?_,fun a a0 a1=>?_,fun a b a0 a1 b0 b1=>?_,fun a b c a0 a1 b0 b1 c0 c1=>?_⟩
  · obtain ⟨x1,x2,x3,x4⟩:=hp a a0 a1
    obtain ⟨y1,y2,y3,y4⟩:=hp b b0 b1
    unfold grd
    (repeat' split) <;> omega
  · unfold grd
    (repeat' split) <;> omega
  · unfold grd
    (repeat' split) <;> omega
  · unfold grd
    (repeat' split) <;> omega
theorem zlh {sp:List Fr} {l a b:Int} (hl:sp.length ≤ 100) (l0:0 < l) (h:∀ p ∈ sp,SpOk p) (a0:0 ≤ a) (a1:a < sp.length) (b0:0 ≤ b) (b1:b < sp.length):zcG [zay sp,.int a,.int b,.int l] = .ok (.int (btw sp l a b)):=by
  refine za3 ?_
  show mSeq _ _ [.v (zay sp),.v (.int a),.v (.int b),.v (.int l),.no,.no,.no]=_
  unfold btw
  by_cases e:a=b
  · rw [if_pos e]
    refine zct ?_
    rw [za5 (by simp [zal,mRd,e])]; rfl
  · rw [if_neg e]
    have n1:mIfS (zal (m2 oEq (mRd 1) (mRd 2))) (mRet (mC (.int 0))) zaM [.v (zay sp),.v (.int a),.v (.int b),.v (.int l),.no,.no,.no] = .nx [.v (zay sp),.v (.int a),.v (.int b),.v (.int l),.no,.no,.no]:=by
      rw [zaZ (by simp [zal,mRd,e])]; rfl
    refine (zam n1).trans ?_
    obtain ⟨lo,elo⟩:∃ lo,lo=if b < a then b else a:=⟨_,rfl⟩
    obtain ⟨hi,ehi⟩:∃ hi,hi=if b > a then b else a:=⟨_,rfl⟩
    have mn:zih [.int a,.int b]=some (.int lo):=by rw [elo]; rfl
    have mx:zjd [.int a,.int b]=some (.int hi):=by rw [ehi]; rfl
    have lr:0 ≤ lo∧lo < sp.length:=by rw [elo]; split <;> omega
    have hr:0 ≤ hi∧hi < sp.length:=by rw [ehi]; split <;> omega
    rw [← elo,← ehi]
    have i1:=zgp (ts:=sp) lr.1 lr.2
    have i2:=zgp (ts:=sp) hr.1 hr.2
    have s1:=h _ (zdK lr.1 lr.2)
    have s2:=h _ (zdK hr.1 hr.2)
    obtain ⟨T,eT⟩:∃ T,T=zay sp:=⟨_,rfl⟩
    rw [← eT] at i1 i2 ⊢
    have q1:mAsg (mCB zih (zaa (mRd 1) (zaa (mRd 2) mNil))) (zap 4) [.v T,.v (.int a),.v (.int b),.v (.int l),.no,.no,.no] = .nx [.v T,.v (.int a),.v (.int b),.v (.int l),.v (.int lo),.no,.no]:=zaC (d:=.int lo) (by simp [mCB,zaa,mNil,mRd,mn]) rfl
    have q2:mAsg (mCB zjd (zaa (mRd 1) (zaa (mRd 2) mNil))) (zap 5) [.v T,.v (.int a),.v (.int b),.v (.int l),.v (.int lo),.no,.no] = .nx [.v T,.v (.int a),.v (.int b),.v (.int l),.v (.int lo),.v (.int hi),.no]:=zaC (d:=.int hi) (by simp [mCB,zaa,mNil,mRd,mx]) rfl
    have f7:Fit 7:=fitN 10 (by decide)
    have fh:Fit (th sp hi).1:=fitN (10 ^ 18) (by have:=s2.l1; have:=s2.h1; omega)
    have fl:Fit lo:=fitN 1000 (by omega)
    have fh2:Fit hi:=fitN 1000 (by omega)
    have q3:mAsg (m2 oAdd (m2 oAdd (m2 oIxT (m2 oIxL (mRd 0) (mRd 4)) (mC (.int 1))) (m2 oMul (mC (.int 7)) (m2 oIxT (m2 oIxL (mRd 0) (mRd 5)) (mC (.int 0))))) (m2 oMul (mRd 4) (mRd 5))) (zap 6) [.v T,.v (.int a),.v (.int b),.v (.int l),.v (.int lo),.v (.int hi),.no] = .nx [.v T,.v (.int a),.v (.int b),.v (.int l),.v (.int lo),.v (.int hi),.v (.int ((th sp lo).2 + 7 * (th sp hi).1 + lo * hi))]:=by
      refine zaC (d:=.int ((th sp lo).2 + 7 * (th sp hi).1 + lo * hi)) ?_ rfl
      simp [mRd,mC,i1,i2,encF,zbv f7 fh,zbv fl fh2]
    refine (zam q1).trans ((zam q2).trans ((zam q3).trans ?_))
    simp [mRet,mRd,mC,za6 (show 0 < l + 1 by omega)]
theorem zlp (cs:List Int) {n:Nat} (n0:0 < n) (n1:n ≤ 8) (w:Int):∃ d:Int→Int→Int,LenOk n 2000000000000000000 d∧zbP [iL cs,.int n,.int w] = .ok (tabD (tabF n d)):=by
  obtain ⟨C,eC⟩:∃ C,C=iL cs:=⟨_,rfl⟩
  have rn:=rngT (show n ≤ 1000 by omega)
  have f4:Fit 4:=fitN 10 (by decide)
  obtain ⟨δ,h1,sp,o4,o5,o6,rfl,hl,hs⟩:=zb8 (b:=zap 4) (m:=zer) D.int (fun pre δ=>∃ (sp:List Fr) (o4 o5 o6:Option D),δ = [.v C,.v (.int n),.v (.int w),.o (zay sp),sv o4,sv o5,sv o6,.no]∧sp.length=pre.length∧∀ p ∈ sp,SpOk p) (upt n)
    (by
      rintro pre x post δ hall ⟨sp,o4,o5,o6,rfl,hl,hs⟩
      obtain ⟨x0,x1⟩:=mem_upt.mp (show x ∈ upt n by rw [hall]; simp)
      have pl:pre.length ≤ 8:=by
        have:=congrArg List.length hall
        rw [zbn,List.length_append,List.length_cons] at this; omega
      obtain ⟨c,hc⟩:=zoS cs (k:=x) x0
      rw [← eC] at hc
      have nm:=zd1 c (x + 300) (by omega) (by omega)
      obtain ⟨z,ez⟩:∃ z,z=num c (x + 300):=⟨_,rfl⟩
      have z0:=zhZ c (x + 300)
      have z1:=znT c (x + 300)
      rw [← ez] at nm z0 z1
      obtain ⟨r,hr,ir⟩:=zpZ (a:=3) (b:=50) (c:=100000000) (e:=100000000000000000) (zcH z (show (0:Int) < 4 by decide)) (zdf z (show (0:Int) < 4 by decide))
      have r0:0 < r∧r ≤ 100000000000000000:=by omega
      have fz:Fit (z / 4):=fitN (10 ^ 10) (by omega)
      have fk:Fit 48271:=fitN (10 ^ 10) (by decide)
      have fk2:Fit 69621:=fitN (10 ^ 10) (by decide)
      have fk3:Fit 40692:=fitN (10 ^ 10) (by decide)
      obtain ⟨y,ey⟩:∃ y,y=z / 4 * 69621 % 2147483629:=⟨_,rfl⟩
      have y0:=zcH (z / 4 * 69621) (show (0:Int) < 2147483629 by decide)
      have y1:=zdf (z / 4 * 69621) (show (0:Int) < 2147483629 by decide)
      have fy:Fit y:=fitN (10 ^ 10) (by omega)
      have a1:=zcH (z / 4 * 48271) r0.1
      have a2:=zdf (z / 4 * 48271) r0.1
      have a3:=zcH (y * 40692) r0.1
      have a4:=zdf (y * 40692) r0.1
      have q1:mAsg (zaj zaN (zaa (zaj zat (zaa (mVar 0) (zaa (mVar 4) mNil))) (zaa (m2 oAdd (mRd 4) (mC (.int 300))) mNil))) (zap 5) [.v C,.v (.int n),.v (.int w),.o (zay sp),.v (.int x),sv o5,sv o6,.no] = .nx [.v C,.v (.int n),.v (.int w),.o (zay sp),.v (.int x),.v (.int z),sv o6,.no]:=zaC (d:=.int z) (by simp [zaj,zaa,mNil,mVar,mRd,mC,hc,nm]) (zaS rfl)
      have q2:mAsg (m2 oIxL (mLst (zaa (mC (.int 3)) (zaa (mC (.int 50)) (zaa (m2 oPow (mC (.int 10)) (mC (.int 8))) (zaa (m2 oPow (mC (.int 10)) (mC (.int 17))) mNil))))) (m2 oMod (mRd 5) (mC (.int 4)))) (zap 6) [.v C,.v (.int n),.v (.int w),.o (zay sp),.v (.int x),.v (.int z),sv o6,.no] = .nx [.v C,.v (.int n),.v (.int w),.o (zay sp),.v (.int x),.v (.int z),.v (.int r),.no]:=zaC (d:=.int r) (by simp [mLst,zaa,mNil,mRd,mC,p8,p17,sizeLine,za6,ir]) (zaS rfl)
      have q3:zc6 3 (mTup (zaa (m2 oMod (m2 oMul (m2 oDiv (mRd 5) (mC (.int 4))) (mC (.int 48271))) (mRd 6)) (zaa (m2 oMod (m2 oMul (m2 oMod (m2 oMul (m2 oDiv (mRd 5) (mC (.int 4))) (mC (.int 69621))) (mC (.int 2147483629))) (mC (.int 40692))) (mRd 6)) mNil))) [.v C,.v (.int n),.v (.int w),.o (zay sp),.v (.int x),.v (.int z),.v (.int r),.no] = .nx [.v C,.v (.int n),.v (.int w),.o (zay (sp ++ [(z / 4 * 48271 % r,y * 40692 % r)])),.v (.int x),.v (.int z),.v (.int r),.no]:=by
        refine (zkh (l:=sp.map encF) (d:=encF (z / 4 * 48271 % r,y * 40692 % r)) rfl ?_ (by rw [List.length_map]; omega)).trans ?_
        · rw [ey] at fy
          simp [mTup,zaa,mNil,mRd,mC,zcx,f4,zbv fz fk,zbv fz fk2,za6,zbv fy fk3,za6 r0.1,encF,sizeLine,ey]
        · simp [zay]
      refine ⟨[.v C,.v (.int n),.v (.int w),.o (zay sp),.v (.int x),sv o5,sv o6,.no],_,zaS rfl,.inl ((zam q1).trans ((zam q2).trans q3)),_,some (.int x),some (.int z),some (.int r),rfl,by simp [hl],fun p hp=>?_⟩
      rcases List.mem_append.mp hp with m | m
      · exact hs p m
      · rw [List.mem_singleton.mp m]
        exact ⟨a1,by show z / 4 * 48271 % r ≤ _; omega,a3,by show y * 40692 % r ≤ _; omega⟩)
    [.v C,.v (.int n),.v (.int w),.o (zay []),.no,.no,.no,.no] ⟨[],none,none,none,rfl,rfl,fun _ z=>by cases z⟩
  rw [zbn] at hl
  have st:mAsg (mLst mNil) (bNew 3) [.v C,.v (.int n),.v (.int w),.no,.no,.no,.no,.no] = .nx [.v C,.v (.int n),.v (.int w),.o (zay []),.no,.no,.no,.no]:=zaC (d:=zay []) (by simp [mLst,mNil,zay,sizeLine]) rfl
  have lp:zfa [.v C,.v (.int n),.v (.int w),.o (zay []),.no,.no,.no,.no]=_:=(zcR (l:=(upt n).map .int) (by simp [mRng,zaa,mNil,mVar,rn])).trans h1
  rw [← eC]
  have run:∀ X,_→zbP [C,.int n,.int w] = .ok X:=fun X hX=>zeI ((zam st).trans ((zam lp).trans hX))
  obtain ⟨TS,eTS⟩:∃ TS,TS=zay sp:=⟨_,rfl⟩
  by_cases c:w % 3=0
  · obtain ⟨l,el⟩:∃ l,l=1 + (th sp 0).1:=⟨_,rfl⟩
    have s0:=hs _ (zdK (ts:=sp) (k:=0) (by decide) (by omega))
    have i0:=zgp (ts:=sp) (k:=0) (by decide) (by omega)
    rw [← eTS] at i0
    have l0:0 < l:=by have:=s0.l1; omega
    have l1:l ≤ 1000000000000000000:=by have:=s0.h1; omega
    refine ⟨btw sp l,zpJ l0 l1,run _ ?_⟩
    refine zoh ?_
    rw [za5 (by simp [zal,mRd,mC,za6,c]),← eTS]
    have q1:mAsg (m2 oAdd (mC (.int 1)) (m2 oIxT (m2 oIxL (mRd 3) (mC (.int 0))) (mC (.int 0)))) (zap 7) [.v C,.v (.int n),.v (.int w),.o TS,sv o4,sv o5,sv o6,.no] = .nx [.v C,.v (.int n),.v (.int w),.o TS,sv o4,sv o5,sv o6,.v (.int l)]:=zaC (d:=.int l) (by simp [mRd,mC,i0,encF,el]) rfl
    refine (zam q1).trans ?_
    have k1:∀ a:Int,0 ≤ a→a < n→ze3 [.l TS,.v (.int l),.v (.int n),.v (.int a)] = .ok (iL ((upt n).map (btw sp l a))):=fun a a0 a1=>by
      refine Eq.trans (zbC (l:=(upt n).map .int) (r:=(upt n).map fun b=>.int (btw sp l a b)) (by simp [mRng,zaa,mNil,mVar,rn]) (by rw [List.length_map,zbn]; omega) ?_) (by simp [iL])
      refine zbg .int (fun b=>.int (btw sp l a b)) _ fun b hb=>?_
      obtain ⟨b0,b1⟩:=mem_upt.mp hb
      have bt:=zlh (sp:=sp) (l:=l) (by omega) l0 hs a0 (show a < sp.length by omega) b0 (show b < sp.length by omega)
      rw [← eTS] at bt
      have e:za2 [.l TS,.v (.int l),.v (.int n),.v (.int a)] [0,3,1] 1 = [.l TS,.v (.int a),.v (.int l),.no]:=rfl
      rw [e]
      simp [zcX,za0,ziS,zaa,mNil,mVar,mRd,bt,zfz]
    have k2:zdT [.v C,.v (.int n),.v (.int w),.o TS,sv o4,sv o5,sv o6,.v (.int l)] = .ok (tabD (tabF n (btw sp l))):=by
      refine Eq.trans (zbC (l:=(upt n).map .int) (r:=(upt n).map fun a=>iL ((upt n).map (btw sp l a))) (by simp [mRng,zaa,mNil,mVar,rn]) (by rw [List.length_map,zbn]; omega) ?_) (by simp [tabD,tabF])
      refine zbg .int (fun a=>iL ((upt n).map (btw sp l a))) _ fun a ha=>?_
      obtain ⟨a0,a1⟩:=mem_upt.mp ha
      have e:za2 [.v C,.v (.int n),.v (.int w),.o TS,sv o4,sv o5,sv o6,.v (.int l)] [3,7,1] 1 = [.l TS,.v (.int l),.v (.int n),.no]:=rfl
      rw [e]
      simp [zcX,za0,k1 a a0 a1]
    simp [zen,k2]
  · have n1':mIfS (zal (m2 oEq (m2 oMod (mRd 2) (mC (.int 3))) (mC (.int 0)))) (mSeq (mAsg (m2 oAdd (mC (.int 1)) (m2 oIxT (m2 oIxL (mRd 3) (mC (.int 0))) (mC (.int 0)))) (zap 7)) (zen zdT)) zaM [.v C,.v (.int n),.v (.int w),.o (zay sp),sv o4,sv o5,sv o6,.no] = .nx [.v C,.v (.int n),.v (.int w),.o (zay sp),sv o4,sv o5,sv o6,.no]:=by
      rw [zaZ (by simp [zal,mRd,mC,za6,c])]; rfl
    have gok:=zo8 hs
    rw [hl] at gok
    refine ⟨grd sp,gok,run _ ((zam n1').trans ?_)⟩
    have fab:∀ x:Int,fAbs [.int x]=some (.int (if x < 0 then -x else x)):=fun _=>rfl
    have lu:=znn sp encF
    rw [hl] at lu
    have k3:∀ a:Int,ze1 [.l (zay sp),.v (encF (th sp a))] = .ok (iL ((upt n).map (grd sp a))):=fun a=>by
      refine Eq.trans (zbC (l:=(upt n).map fun k=>encF (th sp k)) (r:=(upt n).map fun b=>.int (grd sp a b)) (by rw [← lu]; simp [mItL,mRd,zay]) (by rw [List.length_map,zbn]; omega) ?_) (by simp [iL])
      refine zbg (fun k=>encF (th sp k)) (fun b=>.int (grd sp a b)) _ fun b hb=>?_
      have e:za2 [.l (zay sp),.v (encF (th sp a))] [1] 1 = [.v (encF (th sp a)),.no]:=rfl
      rw [e]
      simp [zcX,za0,mCB,zaa,mNil,mRd,mC,encF,fab,grd]
    have k4:ze6 [.v C,.v (.int n),.v (.int w),.o (zay sp),sv o4,sv o5,sv o6,.no] = .ok (tabD (tabF n (grd sp))):=by
      refine Eq.trans (zbC (l:=(upt n).map fun k=>encF (th sp k)) (r:=(upt n).map fun a=>iL ((upt n).map (grd sp a))) (by rw [← lu]; simp [mItL,mRd,zay]) (by rw [List.length_map,zbn]; omega) ?_) (by simp [tabD,tabF])
      refine zbg (fun k=>encF (th sp k)) (fun a=>iL ((upt n).map (grd sp a))) _ fun a ha=>?_
      have e:za2 [.v C,.v (.int n),.v (.int w),.o (zay sp),sv o4,sv o5,sv o6,.no] [3] 1 = [.l (zay sp),.no]:=rfl
      rw [e]
      have b1:za0 1 (encF (th sp a)) [.l (zay sp),.no]=some [.l (zay sp),.v (encF (th sp a))]:=rfl
      simp [zcX,b1,k3 a]
    show zen _ _=_
    simp [zen,k4]
end My
namespace My
open PySem L2 PM
theorem zki (n:Nat) (d:Int→Int→Int):zbx 7 (tabD (tabF n d))=true:=by
  unfold tabD tabF
  simp only [zbx,List.map_map,List.all_map]
  simp [iL,zbx]
theorem zil {n:Nat} {B:Int} {d:Int→Int→Int} (ok:LenOk n B d) (hn0:0 < n) (hn:n ≤ 100) {m:Nat} (m0:0 < m) (m1':m ≤ n) {x:Int} (x0:0 ≤ x):zcb [tabD (tabF n d),.int m,.int x] = .ok (.bl true):=by
  obtain ⟨T,eT⟩:∃ T,T=tabD (tabF n d):=⟨_,rfl⟩
  have lT:fLen [T]=some (.int n):=by rw [eT]; exact zeH
  obtain ⟨G,hG'⟩:=Classical.axiomOfChoice (r:=fun (s:List Int) (p:Int)=>s ≠ []→s.length < n→(∀ q ∈ s,0 ≤ q∧q < (n:Int))→zcU [tabD (tabF n d),iL s] = .ok (.int p)∧(0 ≤ p∧p < n)∧p ∉ s∧∀ q:Int,0 ≤ q→q < n→q ∉ s→near d q s ≤ near d p s) (fun s=>by
    by_cases hs:s ≠ []∧s.length < n∧(∀ q ∈ s,0 ≤ q∧q < (n:Int))
    · obtain ⟨p,hp⟩:=zkl (d:=d) hn hs.1 hs.2.1 hs.2.2
      exact ⟨p,fun _ _ _=>hp⟩
    · exact ⟨0,fun a b c=>absurd ⟨a,b,c⟩ hs⟩)
  have hG:Nx n d G:=fun s a b c=>hG' s a b c
  have look:=zic hn ok
  rw [← eT] at look
  obtain ⟨fd,efd⟩:∃ fd,fd=chs G (m - 1):=⟨_,rfl⟩
  have fdl:fd.length=m:=by rw [efd,zfd]; omega
  have hch:∀ m:Nat,0 < m→m ≤ n→zdN [T,.int m] = .ok (iL (chs G (m - 1))):=fun m a b=>by rw [eT]; exact zlH hn0 hn hG a b
  have hfn:zbI [T,.int m] = .ok (iL fd):=by
    refine zeI ?_
    show mSeq _ _ [.v T,.v (.int m)]=_
    have q1:mDo (zbf zbs (zaa (mVar 0) mNil)) [.v T,.v (.int m)] = .nx [.v T,.v (.int m)]:=by simp [mDo,zbf,zaa,mNil,mVar,look]
    refine (zam q1).trans ?_
    simp [zen,zaj,zaa,mNil,mVar,hch m m0 m1',efd]
  obtain ⟨M,eM,M0,M1⟩:∃ M:Nat,(M:Int)=(if (m:Int) + 1 < n then (m:Int) + 1 else n)∧0 < M∧M ≤ n:=by
    by_cases c:(m:Int) + 1 < n
    · exact ⟨m + 1,by rw [if_pos c]; omega,by omega,by omega⟩
    · exact ⟨n,by rw [if_neg c],by omega,Nat.le_refl _⟩
  obtain ⟨fa,efa⟩:∃ fa,fa=chs G (M - 1):=⟨_,rfl⟩
  have fal:fa.length=M:=by rw [efa,zfd]; omega
  have min1:zih [.int ((m:Int) + 1),.int n]=some (.int M):=by
    show some (D.int (if (n:Int) < (m:Int) + 1 then (n:Int) else (m:Int) + 1))=_
    rw [eM]
    congr 2
    split <;> split <;> omega
  have hfa:zcT [T,.int m] = .ok (iL fa):=by
    refine zeI ?_
    show mSeq _ _ [.v T,.v (.int m)]=_
    have q1:mDo (zbf zbs (zaa (mVar 0) mNil)) [.v T,.v (.int m)] = .nx [.v T,.v (.int m)]:=by simp [mDo,zbf,zaa,mNil,mVar,look]
    refine (zam q1).trans ?_
    simp [zen,zaj,mCB,zaa,mNil,mVar,mRd,mC,lT,min1,hch M M0 M1,efa]
  have f3:Fit 3:=fitN 10 (by decide)
  have x3:=zcH x (show (0:Int) < 3 by decide)
  obtain ⟨ch,hch',lch⟩:∃ ch:List Int,mIfS (zal (m2 oGt (m2 oMod (mRd 2) (mC (.int 3))) (mC (.int 0)))) (mAsg (zaj zbd (zaa (mVar 3) (zaa (m2 oDiv (mRd 2) (mC (.int 3))) (zaa (mCB fLen (zaa (mRd 0) mNil)) mNil)))) (zap 3)) zaM [.v T,.v (.int m),.v (.int x),.v (iL fd),.v (iL fa),.no,.no] = .nx [.v T,.v (.int m),.v (.int x),.v (iL ch),.v (iL fa),.no,.no]∧ch.length ≤ 1000:=by
    by_cases c:0 < x % 3
    · obtain ⟨ch,h1,h2⟩:=zf3 (l:=fd) (x:=x / 3) (c:=n) (by omega) (by omega) (by omega)
      refine ⟨ch,?_,by omega⟩
      rw [za5 (by simp [zal,mRd,mC,za6,c])]
      refine zaC (d:=iL ch) ?_ rfl
      simp only [zaj,zaa,mNil,mVar,mCB,mRd,mC,zbZ,List.getElem?_cons_succ,List.getElem?_cons_zero,R.bind_ok,lT,R.of_some,zcx (show (0:Int) < 3 by decide) f3,h1,R.nev_ok]
    · refine ⟨fd,?_,by omega⟩
      rw [zaZ (by simp [zal,mRd,mC,za6,c])]; rfl
  obtain ⟨fr,hfr,lfr⟩:∃ fr:List Int,mIfS (zal (m2 oNe (m2 oMod (mRd 2) (mC (.int 3))) (mC (.int 1)))) (mAsg (zaj zbd (zaa (mVar 4) (zaa (zaj zaN (zaa (mVar 2) (zaa (mC (.int 9)) mNil))) (zaa (mCB fLen (zaa (mRd 0) mNil)) mNil)))) (zap 4)) zaM [.v T,.v (.int m),.v (.int x),.v (iL ch),.v (iL fa),.no,.no] = .nx [.v T,.v (.int m),.v (.int x),.v (iL ch),.v (iL fr),.no,.no]∧fr.length ≤ 1000:=by
    by_cases c:x % 3=1
    · refine ⟨fa,?_,by omega⟩
      rw [zaZ (by simp [zal,mRd,mC,za6,c])]; rfl
    · obtain ⟨fr,h1,h2⟩:=zf3 (l:=fa) (x:=num x 9) (c:=n) (by omega) (zhZ _ _) (by omega)
      refine ⟨fr,?_,by omega⟩
      rw [za5 (by simp [zal,mRd,mC,za6,c])]
      refine zaC (d:=iL fr) ?_ rfl
      have nm:=zd1 x 9 (by decide) (by decide)
      simp only [zaj,zaa,mNil,mVar,mCB,mRd,mC,List.getElem?_cons_succ,List.getElem?_cons_zero,R.bind_ok,nm,R.nev_ok,lT,R.of_some,h1]
  have cp:=zho ok hn0 hn m0 lch lfr
  have pw:=zhz ok hn0 hn m0 m1' lch lfr
  have sm:=zlY _ (zjZ n d m ch fr)
  have pT:=zki n d
  obtain ⟨W,eW⟩:∃ W,W=zf6 n d m ch fr:=⟨_,rfl⟩
  rw [← eW] at cp pw sm
  have k1:zeb [.v T,.v (.int m),.v (.int x),.v (iL ch),.v (iL fr),.no,.no] = .ok T:=by
    rw [eT]
    refine zbC (l:=(tabF n d).map iL) (r:=(tabF n d).map iL) (by simp [mItL,mRd,tabD]) (by simp [tabF,zbn]; omega) ?_
    refine zbg iL iL _ fun l _=>?_
    have:zd3 [iL l]=some (iL l):=rfl
    simp [zcX,za2,za0,mCB,zaa,mNil,mRd,this]
  rw [← eT] at cp pw pT ⊢
  obtain ⟨C,eC⟩:∃ C,C=iL ch:=⟨_,rfl⟩
  obtain ⟨F,eF⟩:∃ F,F=iL fr:=⟨_,rfl⟩
  have fC:zd3 [C]=some C:=by rw [eC]; rfl
  have fF:zd3 [F]=some F:=by rw [eF]; rfl
  have pC:=zhf ch
  have pF:=zhf fr
  rw [← eC] at hch' hfr cp pw k1 pC
  rw [← eF] at hfr cp pw k1 pF
  obtain ⟨H,eH⟩:∃ H,H=D.tup [C,F,T]:=⟨_,rfl⟩
  have h0:oIxT H (.int 0)=some C:=by rw [eH]; rfl
  have h1:oIxT H (.int 1)=some F:=by rw [eH]; rfl
  have h2:oIxT H (.int 2)=some T:=by rw [eH]; rfl
  have pH:zbx 8 H=true:=by
    rw [eH]
    simp only [zbx,List.all_cons,List.all_nil,pT,pC,pF,Bool.and_true]
  have neq:oNeD H (.tup [C,F,T])=some (.bl false):=ziq pH (by rw [← eH]; exact pH) eH
  refine za3 ?_
  show mSeq _ _ [.v T,.v (.int m),.v (.int x),.no,.no,.no,.no]=_
  have q1:mAsg (zaj zbI (zaa (mVar 0) (zaa (mVar 1) mNil))) (zap 3) [.v T,.v (.int m),.v (.int x),.no,.no,.no,.no] = .nx [.v T,.v (.int m),.v (.int x),.v (iL fd),.no,.no,.no]:=zaC (d:=iL fd) (by simp [zaj,zaa,mNil,mVar,hfn]) rfl
  have q2:mAsg (zaj zcT (zaa (mVar 0) (zaa (mVar 1) mNil))) (zap 4) [.v T,.v (.int m),.v (.int x),.v (iL fd),.no,.no,.no] = .nx [.v T,.v (.int m),.v (.int x),.v (iL fd),.v (iL fa),.no,.no]:=zaC (d:=iL fa) (by simp [zaj,zaa,mNil,mVar,hfa]) rfl
  have q5:mAsg (mTup (zaa (mCB zd3 (zaa (mRd 3) mNil)) (zaa (mCB zd3 (zaa (mRd 4) mNil)) (zaa zeb mNil)))) (zap 5) [.v T,.v (.int m),.v (.int x),.v C,.v F,.no,.no] = .nx [.v T,.v (.int m),.v (.int x),.v C,.v F,.v H,.no]:=by
    refine zaC (d:=H) ?_ rfl
    rw [eH]
    simp [mTup,mCB,zaa,mNil,mRd,fC,fF,k1,sizeLine]
  have q6:mAsg (zaj zaV (zaa (m2 oIxT (mRd 5) (mC (.int 2))) (zaa (mVar 1) (zaa (m2 oIxT (mRd 5) (mC (.int 0))) (zaa (m2 oIxT (mRd 5) (mC (.int 1))) mNil))))) (zap 6) [.v T,.v (.int m),.v (.int x),.v C,.v F,.v H,.no] = .nx [.v T,.v (.int m),.v (.int x),.v C,.v F,.v H,.v W]:=zaC (d:=W) (by simp [zaj,zaa,mNil,mVar,mRd,mC,h0,h1,h2,cp]) rfl
  have q7:mIfS (zal (m2 oNeD (mRd 5) (mTup (zaa (mVar 3) (zaa (mVar 4) (zaa (mVar 0) mNil)))))) (mRet (mC (.bl false))) zaM [.v T,.v (.int m),.v (.int x),.v C,.v F,.v H,.v W] = .nx [.v T,.v (.int m),.v (.int x),.v C,.v F,.v H,.v W]:=by
    simp [mIfS,zal,mRd,mVar,mTup,zaa,mNil,sizeLine,neq,zaM]
  refine (zam q1).trans ((zam q2).trans ((zam hch').trans ((zam hfr).trans ((zam q5).trans ((zam q6).trans ((zam q7).trans ?_))))))
  show mRet _ [.v T,.v (.int m),.v (.int x),.v C,.v F,.v H,.v W]=_
  simp [mRet,zaj,zaa,mNil,mVar,pw,sm]
theorem zjT {α:Type} {f:D→R (List Int)} (enc:α→D) (g:α→List Int) (l:List α) (h:∀ x ∈ l,f (enc x) = .ok (g x)):zc5 f (l.map enc) = .ok (l.map g):=by
  induction l with
  | nil=>rfl
  | cons a l ih=>rw [List.map_cons,zc5,h a (by simp),R.bind_ok,ih fun x hx=>h x (by simp [hx]),R.bind_ok]; rfl
def zoY (n:Nat) (d:Int→Int→Int):Prop:=(∃ a:Int,(0 ≤ a∧a < n)∧d a a ≠ 0)∨(∃ a b:Int,(0 ≤ b∧b < a∧a < n)∧d a b ≠ d b a)∨(∃ a b c:Int,(0 ≤ a∧a < n)∧(0 ≤ b∧b < n)∧(0 ≤ c∧c < n)∧d a b + d b c < d a c)
theorem zmu {n:Nat} {B:Int} {d:Int→Int→Int} (hB:B ≤ 2000000000000000000) (ok:LenOk n B d) (hn0:0 < n) (hn:n ≤ 100) {z:Int} (z0:0 ≤ z):∃ d2:Int→Int→Int,zoY n d2∧zbO [tabD (tabF n d),.int z] = .ok (tabD (tabF n d2)):=by
  obtain ⟨T,eT⟩:∃ T,T=tabD (tabF n d):=⟨_,rfl⟩
  have lT:fLen [T]=some (.int n):=by rw [eT]; exact zeH
  have fn:Fit (n:Int):=fitN 1000 (by omega)
  have f3:Fit 3:=fitN 1000 (by decide)
  have f30:Fit 30:=fitN 1000 (by decide)
  have f300:Fit 300:=fitN 1000 (by decide)
  have n0:(0:Int) < n:=by omega
  obtain ⟨x,ex⟩:∃ x,x=z / 3 % n:=⟨_,rfl⟩
  obtain ⟨y,ey⟩:∃ y,y=z / 30 % n:=⟨_,rfl⟩
  have x0:0 ≤ x:=by rw [ex]; exact zcH _ n0
  have x1:x < n:=by rw [ex]; exact zdf _ n0
  have y0:0 ≤ y:=by rw [ey]; exact zcH _ n0
  have y1:y < n:=by rw [ey]; exact zdf _ n0
  have k1:zdm [.v T,.v (.int z),.v (.int n),.no,.no,.no,.no] = .ok (tabF n d):=by
    unfold zdm zmq
    have r:mItL (mRd 0) [.v T,.v (.int z),.v (.int n),.no,.no,.no,.no] = .ok ((tabF n d).map iL):=by rw [eT]; simp [mItL,mRd,tabD]
    rw [r,R.bind_ok,zbr (by simp [tabF,zbn]; exact Nat.le_trans hn (by decide))]
    have g:zc5 (zjL (za0 0) (mCB zd3 (zaa (mRd 0) mNil)) (za2 [.v T,.v (.int z),.v (.int n),.no,.no,.no,.no] [] 1)) ((tabF n d).map iL) = .ok ((tabF n d).map id):=by
      refine zjT iL id _ fun l _=>?_
      have f:zd3 [iL l]=some (iL l):=rfl
      have al:asIl (iL l)=some l:=zcE _
      have e:za2 [.v T,.v (.int z),.v (.int n),.no,.no,.no,.no] [] 1 = [.no]:=rfl
      rw [e]
      simp [zjL,za0,mCB,zaa,mNil,mRd,f,al]
    rw [g,List.map_id]; rfl
  have q1:mAsg (mCB fLen (zaa (mRd 0) mNil)) (zap 2) [.v T,.v (.int z),.no,.no,.no,.no,.no] = .nx [.v T,.v (.int z),.v (.int n),.no,.no,.no,.no]:=zaC (d:=.int n) (by simp [mCB,zaa,mNil,mRd,lT]) rfl
  have q2:znJ zdm 3 [.v T,.v (.int z),.v (.int n),.no,.no,.no,.no] = .nx [.v T,.v (.int z),.v (.int n),.p (tabF n d),.no,.no,.no]:=by
    unfold znJ
    rw [k1]; rfl
  obtain ⟨TB,eTB⟩:∃ TB,TB=tabF n d:=⟨_,rfl⟩
  rw [← eTB] at q2
  have q3:mAsg (m2 oMod (m2 oDiv (mRd 1) (mC (.int 3))) (mRd 2)) (zap 4) [.v T,.v (.int z),.v (.int n),.p TB,.no,.no,.no] = .nx [.v T,.v (.int z),.v (.int n),.p TB,.v (.int x),.no,.no]:=zaC (d:=.int x) (by simp [mRd,mC,zcx,f3,za6 n0,ex]) rfl
  have q4:mAsg (m2 oMod (m2 oDiv (mRd 1) (mC (.int 30))) (mRd 2)) (zap 5) [.v T,.v (.int z),.v (.int n),.p TB,.v (.int x),.no,.no] = .nx [.v T,.v (.int z),.v (.int n),.p TB,.v (.int x),.v (.int y),.no]:=zaC (d:=.int y) (by simp [mRd,mC,zcx,f30,za6 n0,ey]) rfl
  have run:∀ d2 o6,mIfS (zal (m2 oEq (mRd 4) (mRd 5)))
      (zgs 3 (mVar 4) (mVar 4) (m2 oAdd (mC (.int 1)) (m2 oMod (m2 oDiv (mRd 1) (mC (.int 300))) (mC (.int 9)))))
      (mIfS (mOr (zal (m2 oEq (m2 oMod (mRd 1) (mC (.int 3))) (mC (.int 0)))) (zal (m2 oEq (mRd 2) (mC (.int 2)))))
      (zgs 3 (mVar 4) (mVar 5) (zk0 (m2 oAdd (m2 oIxL (m2 oIxL (mRd 3) (mRd 4)) (mRd 5)) (mC (.int 1)))))
      (mSeq (mAsg (m2 oAdd (m2 oMul (mC (.int 3)) (mCB (zep maxI) (zaa zdk mNil))) (mC (.int 1))) (zap 6))
      (mSeq (zgs 3 (mVar 4) (mVar 5) (mVar 6))
      (zgs 3 (mVar 5) (mVar 4) (mVar 6))))) [.v T,.v (.int z),.v (.int n),.p TB,.v (.int x),.v (.int y),.no] = .nx [.v T,.v (.int z),.v (.int n),.p (tabF n d2),.v (.int x),.v (.int y),o6]→zbO [T,.int z] = .ok (tabD (tabF n d2)):=fun d2 o6 h =>
    zeI ((zam q1).trans ((zam q2).trans ((zam q3).trans ((zam q4).trans ((zam h).trans rfl)))))
  rw [← eT]
  by_cases c1:x=y
  · obtain ⟨v,ev⟩:∃ v,v=1 + z / 300 % 9:=⟨_,rfl⟩
    have v0:=zcH (z / 300) (show (0:Int) < 9 by decide)
    have s1:=zfJ (i:=3) (mk:=mVar 4) (mj:=mVar 4) (me:=m2 oAdd (mC (.int 1)) (m2 oMod (m2 oDiv (mRd 1) (mC (.int 300))) (mC (.int 9)))) (δ:=[.v T,.v (.int z),.v (.int n),.p TB,.v (.int x),.v (.int y),.no]) (n:=n) (d:=d) (a:=x) (b:=x) (v:=v) (by rw [eTB]; rfl) rfl rfl (by simp [mRd,mC,zcx,f300,za6,ev]) x0 x1 x0 x1
    refine ⟨upd2 d x x v,.inl ⟨x,⟨x0,x1⟩,by simp [upd2]; omega⟩,run _ .no ?_⟩
    rw [za5 (by simp [zal,mRd,c1])]
    exact s1
  · have f1:∀ o,zal (m2 oEq (mRd 4) (mRd 5)) [.v T,.v (.int z),.v (.int n),.p TB,.v (.int x),.v (.int y),o] = .ok false:=fun o=>by simp [zal,mRd,c1]
    by_cases c2:z % 3=0∨n=2
    · have pv:zk0 (m2 oAdd (m2 oIxL (m2 oIxL (mRd 3) (mRd 4)) (mRd 5)) (mC (.int 1))) [.v T,.v (.int z),.v (.int n),.p TB,.v (.int x),.v (.int y),.no] = .ok (.int (d x y + 1)):=by
        have t:=zjp (n:=n) (d:=d) x0 x1
        rw [← eTB] at t
        have r:=zde (n:=n) (f:=d x) y0 y1
        unfold zk0
        simp [peek,zof,mRd,mC,t,r,zfz]
      have s1:=zfJ (i:=3) (mk:=mVar 4) (mj:=mVar 5) (δ:=[.v T,.v (.int z),.v (.int n),.p TB,.v (.int x),.v (.int y),.no]) (n:=n) (d:=d) (by rw [eTB]; rfl) rfl rfl pv x0 x1 y0 y1
      refine ⟨upd2 d x y (d x y + 1),.inr (.inl ?_),run _ .no ?_⟩
      · have sy:=ok.sym x y x0 x1 y0 y1
        have u1:upd2 d x y (d x y + 1) x y=d x y + 1:=by simp [upd2]
        have u2:upd2 d x y (d x y + 1) y x=d y x:=by simp [upd2]; intro e; exact absurd e.symm c1
        rcases Int.lt_or_gt_of_ne c1 with lt | lt
        · exact ⟨y,x,⟨x0,lt,y1⟩,by rw [u1,u2]; omega⟩
        · exact ⟨x,y,⟨y0,lt,x1⟩,by rw [u1,u2]; omega⟩
      · rw [zaZ (f1 _),za5]
        · exact s1
        · by_cases c3:z % 3=0
          · simp [mOr,zal,mRd,mC,za6,c3]
          · have c4:n=2:=c2.resolve_left c3
            simp [mOr,zal,mRd,mC,za6,c3,c4]
    · have c3:¬ z % 3=0:=fun e=>c2 (.inl e)
      have c4:¬ n=2:=fun e=>c2 (.inr e)
      have c5:¬ (n:Int)=2:=by omega
      obtain ⟨W,eW⟩:∃ W:List Int,W=(upt n).map fun a=>mxL ((upt n).map (d a)):=⟨_,rfl⟩
      have Wne:W ≠ []:=by rw [eW]; exact zcw hn0
      have k2:zdk [.v T,.v (.int z),.v (.int n),.p TB,.v (.int x),.v (.int y),.no] = .ok (iL W):=by
        refine Eq.trans (zbC (l:=(upt n).map fun p=>iL ((upt n).map (d p))) (r:=(upt n).map fun p=>.int (mxL ((upt n).map (d p)))) (by rw [eT]; simp [mItL,mRd,tabD,tabF]) (by rw [List.length_map,zbn]; omega) ?_) (by rw [eW]; simp [iL])
        refine zbg (fun p=>iL ((upt n).map (d p))) (fun p=>.int (mxL ((upt n).map (d p)))) _ fun p _=>?_
        have e:za2 [.v T,.v (.int z),.v (.int n),.p TB,.v (.int x),.v (.int y),.no] [] 1 = [.no]:=rfl
        rw [e]
        have mx:=zkK (zcw (f:=d p) hn0)
        obtain ⟨Rw,eR⟩:∃ Rw,Rw=iL ((upt n).map (d p)):=⟨_,rfl⟩
        rw [← eR] at mx ⊢
        simp [zcX,za0,mCB,zaa,mNil,mRd,mx]
      obtain ⟨mx1,mx2⟩:=zl0 Wne
      have all:∀ a b:Int,0 ≤ a→a < n→0 ≤ b→b < n→d a b ≤ mxL W:=fun a b a0 a1 b0 b1=>by
        have h1:=(zl0 (zcw (f:=d a) hn0)).2 (d a b) (List.mem_map.mpr ⟨b,mem_upt.mpr ⟨b0,b1⟩,rfl⟩)
        have h2:=mx2 (mxL ((upt n).map (d a))) (by rw [eW]; exact List.mem_map.mpr ⟨a,mem_upt.mpr ⟨a0,a1⟩,rfl⟩)
        omega
      have hi:0 ≤ mxL W∧mxL W ≤ B:=by
        rw [eW] at mx1
        obtain ⟨a,ha,ea⟩:=List.mem_map.mp mx1
        obtain ⟨a0,a1⟩:=mem_upt.mp ha
        obtain ⟨b,hb,eb⟩:=List.mem_map.mp (zl0 (zcw (f:=d a) hn0)).1
        obtain ⟨b0,b1⟩:=mem_upt.mp hb
        rw [← eW,← eb] at ea
        rw [← ea]
        exact ok.nn a b a0 a1 b0 b1
      have bw:=zkK Wne
      obtain ⟨w,ew⟩:∃ w:Int,w=3 * mxL W + 1:=⟨_,rfl⟩
      have fW:Fit (mxL W):=fitN (10 ^ 20) (by omega)
      have s1:mAsg (m2 oAdd (m2 oMul (mC (.int 3)) (mCB (zep maxI) (zaa zdk mNil))) (mC (.int 1))) (zap 6) [.v T,.v (.int z),.v (.int n),.p TB,.v (.int x),.v (.int y),.no] = .nx [.v T,.v (.int z),.v (.int n),.p TB,.v (.int x),.v (.int y),.v (.int w)]:=by
        refine zaC (d:=.int w) ?_ rfl
        simp [mCB,zaa,mNil,mC,k2,bw,zbv f3 fW,ew]
      have s2:=zfJ (i:=3) (mk:=mVar 4) (mj:=mVar 5) (me:=mVar 6) (δ:=[.v T,.v (.int z),.v (.int n),.p TB,.v (.int x),.v (.int y),.v (.int w)]) (n:=n) (d:=d) (by rw [eTB]; rfl) rfl rfl rfl x0 x1 y0 y1
      have s3:=zfJ (i:=3) (mk:=mVar 5) (mj:=mVar 4) (me:=mVar 6) (δ:=[.v T,.v (.int z),.v (.int n),.p (tabF n (upd2 d x y w)),.v (.int x),.v (.int y),.v (.int w)]) (n:=n) (d:=upd2 d x y w) rfl rfl rfl rfl y0 y1 x0 x1
      refine ⟨upd2 (upd2 d x y w) y x w,.inr (.inr ?_),run _ (.v (.int w)) ?_⟩
      · obtain ⟨a,a0,a1,ax,ay⟩:∃ a:Int,0 ≤ a∧a < n∧a ≠ x∧a ≠ y:=by
          have:3 ≤ n:=by omega
          by_cases h0:(0:Int) ≠ x∧(0:Int) ≠ y
          · exact ⟨0,by omega,by omega,h0.1,h0.2⟩
          · by_cases h1:(1:Int) ≠ x∧(1:Int) ≠ y
            · exact ⟨1,by omega,by omega,h1.1,h1.2⟩
            · exact ⟨2,by omega,by omega,by omega,by omega⟩
        have u1:upd2 (upd2 d x y w) y x w x a=d x a:=by simp [upd2,ax,ay]
        have u2:upd2 (upd2 d x y w) y x w a y=d a y:=by simp [upd2,ax,ay]
        have u3:upd2 (upd2 d x y w) y x w x y=w:=by simp [upd2]
        refine ⟨x,a,y,⟨x0,x1⟩,⟨a0,a1⟩,⟨y0,y1⟩,?_⟩
        rw [u1,u2,u3,ew]
        have:=all x a x0 x1 a0 a1
        have:=all a y a0 a1 y0 y1
        omega
      · rw [zaZ (f1 _),zaZ (by simp [mOr,zal,mRd,mC,za6,c3,c4,c5])]
        exact (zam s1).trans ((zam s2).trans s3)
theorem zkU {T:D} (h:zbs [T] = .ex ⟨2⟩) {a b c:D}:zaV [T,a,b,c] = .ex ⟨2⟩:=by
  have:zdX (zcZ 1 [T,a,b,c]) = .ex [.v T,.v a,.v b,.v c,.no] ⟨2⟩:=by
    show mSeq _ _ [.v T,.v a,.v b,.v c,.no]=_
    simp [mSeq,mDo,zbf,zaa,mNil,mVar,h,R.toO]
  exact zmO this
theorem zls {T:D} (h:zbs [T] = .ex ⟨2⟩) {k c:D}:zbW [T,k,c] = .ok (.bl true):=by
  have a:=zkU h (a:=k) (b:=c) (c:=.lst [])
  refine za3 ?_
  show mSeq _ _ [.v T,.v k,.v c,.no,.no]=_
  have q1:mAsg (mC .non) (zap 3) [.v T,.v k,.v c,.no,.no] = .nx [.v T,.v k,.v c,.v .non,.no]:=rfl
  have q2:mTry (mDo (zbf zaV (zaa (mVar 0) (zaa (mVar 1) (zaa (mVar 2) (zaa (mLst mNil) mNil)))))) zeh 4 (mAsg (mVar 4) (zap 3)) [.v T,.v k,.v c,.v .non,.no] = .nx [.v T,.v k,.v c,.v (.exc 2),.no]:=by
    have:mDo (zbf zaV (zaa (mVar 0) (zaa (mVar 1) (zaa (mVar 2) (zaa (mLst mNil) mNil))))) [.v T,.v k,.v c,.v .non,.no] = .ex [.v T,.v k,.v c,.v .non,.no] ⟨2⟩:=by
      simp [mDo,zbf,zaa,mNil,mVar,mLst,sizeLine,a,R.toO]
    unfold mTry
    rw [this]
    rfl
  refine (zam q1).trans ((zam q2).trans ?_)
  rfl
theorem zhI {T:D} (h:zbs [T] = .ex ⟨2⟩) {k:D}:za8 [T,k] = .ok (.bl true):=by
  have a:=zkU h (a:=k) (b:=.lst []) (c:=.lst [])
  refine za3 ?_
  show mSeq _ _ [.v T,.v k]=_
  have q2:zmZ (mDo (zbf zaV (zaa (mVar 0) (zaa (mVar 1) (zaa (mLst mNil) (zaa (mLst mNil) mNil)))))) zdB (mRet (mC (.bl true))) [.v T,.v k] = .rt (.bl true):=by
    have:mDo (zbf zaV (zaa (mVar 0) (zaa (mVar 1) (zaa (mLst mNil) (zaa (mLst mNil) mNil))))) [.v T,.v k] = .ex [.v T,.v k] ⟨2⟩:=by
      simp [mDo,zbf,zaa,mNil,mVar,mLst,sizeLine,a,R.toO]
    unfold zmZ
    rw [this]
    rfl
  exact zct q2
end My
namespace My
open PySem L2 PM
theorem zoL {ts:List Fr} {c:Int} (hn:ts.length ≤ 63) (ok:∀ t ∈ ts,ThOk t):∃ r:Int,(0 ≤ r∧r ≤ 1000000000000000000)∧zdo [zay ts,.int c] = .ok (.int r):=by
  by_cases h:c % 9=1
  · refine ⟨0,by decide,za3 ?_⟩
    show mSeq _ _ [.v (zay ts),.v (.int c)]=_
    refine zct ?_
    rw [za5 (by simp [zal,mRd,mC,za6,h])]; rfl
  · have n1:mIfS (zal (m2 oEq (m2 oMod (mRd 1) (mC (.int 9))) (mC (.int 1)))) (mRet (mC (.int 0))) zaM [.v (zay ts),.v (.int c)] = .nx [.v (zay ts),.v (.int c)]:=by
      rw [zaZ (by simp [zal,mRd,mC,za6,h])]; rfl
    obtain ⟨us,hus,hm,hl⟩:∃ us:List Fr,cutD (ts.map encF) none (some (c % 7))=us.map encF∧(∀ u ∈ us,u ∈ ts)∧us.length ≤ ts.length:=by
      refine ⟨(ts.drop (HT.sIx ts.length 0 none)).take (HT.sIx ts.length ts.length (some (c % 7)) - HT.sIx ts.length 0 none),?_,fun u hu=>List.mem_of_mem_drop (List.mem_of_mem_take hu),by rw [List.length_take,List.length_drop]; omega⟩
      unfold cutD
      rw [List.length_map,List.map_take,List.map_drop]
    obtain ⟨S,eS⟩:∃ S,S=(us.map (·.2)).sum:=⟨_,rfl⟩
    have S0:0 ≤ S:=by rw [eS]; exact zkQ fun t ht=>Int.le_of_lt (ok t (hm t ht)).g0
    have k1:zg2 [.v (zay ts),.v (.int c)] = .ok (iL (us.map (·.2))):=by
      refine Eq.trans (zbC (l:=us.map encF) (r:=us.map fun t=>.int t.2) ?_ (by rw [List.length_map]; omega) ?_) (by simp [iL])
      · have al:asL (zay ts)=some (ts.map encF):=rfl
        simp only [mItL,mSl,mRd,zbF,mNoP,zbZ,mC,List.getElem?_cons_succ,List.getElem?_cons_zero,R.bind_ok,R.of_some,za6 (show (0:Int) < 7 by decide),zme,al,hus]
        rfl
      · refine zbg encF (fun t:Fr=>.int t.2) _ fun t _=>?_
        simp [zcX,za2,za0,mRd,mC,encF]
    obtain ⟨a,⟨a0,a1⟩,ha⟩:=zht c 3 (by decide) (by decide)
    refine ⟨if S + a < 1000000000000000000 then S + a else 1000000000000000000,by split <;> omega,za3 ((zam n1).trans ?_)⟩
    have mn:zih [.int 1000000000000000000,.int (S + a)]=some (.int (if S + a < 1000000000000000000 then S + a else 1000000000000000000)):=rfl
    have su:fSum [iL (us.map (·.2))]=some (.int S):=by rw [eS]; exact zmL _
    simp only [mRet,mCB,zaa,mNil,zbZ,mC,k1,R.bind_ok,su,R.of_some,zaj,mVar,List.getElem?_cons_succ,List.getElem?_cons_zero,ha,R.nev_ok,zh4,p18,mn]
    rfl
theorem zm0 (cs:List Int) (hl:cs.length ≤ 40):∃ (ss:List Int) (ts:List Fr),ts.length=cs.length∧(∀ t ∈ ts,ThOk t) ∧
    (∀ δ,δ[1]?=some (.v (iL cs))→zl1 δ = .ok (iL ss))∧(∀ δ,δ[1]?=some (.v (iL cs))→δ[2]?=some (.v (iL ss))→zlG δ = .ok (zay ts)):=by
  obtain ⟨F,hF⟩:=Classical.axiomOfChoice (r:=fun (p:Int × Nat) (a:Int)=>p.2 ≤ 100→(0 ≤ a∧a ≤ 1000000000000000000)∧zbw [.int p.1,.int (p.2:Int)] = .ok (.int a)) (fun p=>by
    by_cases h:p.2 ≤ 100
    · obtain ⟨a,h1,h2⟩:=zht p.1 (p.2:Int) (by omega) (by omega)
      exact ⟨a,fun _=>⟨h1,h2⟩⟩
    · exact ⟨0,fun z=>absurd z h⟩)
  obtain ⟨G,hG⟩:=Classical.axiomOfChoice (r:=fun (p:Int × Nat) (a:Int)=>p.2 ≤ 100→(0 ≤ a∧a ≤ 1000000000000000000)∧zbw [.int p.1,.int ((p.2:Int) + 40)] = .ok (.int a)) (fun p=>by
    by_cases h:p.2 ≤ 100
    · obtain ⟨a,h1,h2⟩:=zht p.1 ((p.2:Int) + 40) (by omega) (by omega)
      exact ⟨a,fun _=>⟨h1,h2⟩⟩
    · exact ⟨0,fun z=>absurd z h⟩)
  have idx:∀ p ∈ cs.zipIdx,p.2 < cs.length:=fun p hp=>by
    have:=List.mk_mem_zipIdx_iff_getElem?.mp (show (p.1,p.2) ∈ cs.zipIdx from hp)
    exact (List.getElem?_eq_some_iff.mp this).1
  obtain ⟨S,eS⟩:∃ S:Int × Nat→Int,S=fun p=>1 + F p % 1000000000000000000:=⟨_,rfl⟩
  have en:∀ δ,δ[1]?=some (.v (iL cs))→zhO (zaa (mRd 1) mNil) δ = .ok (cs.zipIdx.map fun p:Int × Nat=>D.tup [.int (p.2:Int),.int p.1]):=fun δ h=>by
    have:zjS [iL cs]=some (ziM (cs.map .int)):=rfl
    simp only [zhO,zaa,mNil,mRd,h,R.bind_ok,this,R.of_some]
    rw [zis,List.zipIdx_map,List.map_map]; rfl
  have zl:cs.zipIdx.length=cs.length:=by simp
  refine ⟨cs.zipIdx.map S,cs.zipIdx.map fun p=>(G p,S p),by simp,fun t ht=>?_,fun δ h=>?_,fun δ h h2=>?_⟩
  · obtain ⟨p,hp,rfl⟩:=List.mem_map.mp ht
    have i:=idx p hp
    have g:=(hG p (by omega)).1
    have m1:=zcH (F p) (show (0:Int) < 1000000000000000000 by decide)
    have m2:=zdf (F p) (show (0:Int) < 1000000000000000000 by decide)
    exact ⟨g.1,g.2,by show 0 < S p; rw [eS]; show 0 < 1 + F p % 1000000000000000000; omega,by show S p ≤ _; rw [eS]; show 1 + F p % 1000000000000000000 ≤ _; omega⟩
  · refine Eq.trans (zbC (l:=_) (r:=cs.zipIdx.map fun p=>.int (S p)) (en δ h) (by rw [List.length_map,zl]; omega) ?_) (by simp [iL])
    refine zbg (fun p:Int × Nat=>D.tup [.int (p.2:Int),.int p.1]) (fun p=>.int (S p)) _ fun p hp=>?_
    have i:=idx p hp
    have:=(hF p (by omega)).2
    have e:za2 δ [] 2 = [.no,.no]:=rfl
    rw [e,eS]
    simp [zcX,bTup,zcu,bNil,za0,zaj,zaa,mNil,mVar,mC,this,p18,za6]
  · refine Eq.trans (zbC (l:=_) (r:=cs.zipIdx.map fun p=>encF (G p,S p)) (en δ h) (by rw [List.length_map,zl]; omega) ?_) (by simp [zay])
    refine zbg (fun p:Int × Nat=>D.tup [.int (p.2:Int),.int p.1]) (fun p=>encF (G p,S p)) _ fun p hp=>?_
    have i:=idx p hp
    have g:=(hG p (by omega)).2
    have e:za2 δ [2] 2 = [.v (iL (cs.zipIdx.map S)),.no,.no]:=by
      show [zhK (δ[2]?.getD .no),.no,.no]=_
      rw [h2]; rfl
    have hg:=List.mk_mem_zipIdx_iff_getElem?.mp (show (p.1,p.2) ∈ cs.zipIdx from hp)
    have ix:oIxL (iL (cs.zipIdx.map S)) (.int (p.2:Int))=some (.int (S p)):=by
      refine zdM (by omega) ?_
      rw [Int.toNat_natCast,List.getElem?_map,List.getElem?_map,List.getElem?_zipIdx,hg]
      simp
    rw [e]
    obtain ⟨A,eA⟩:∃ A,A=iL (cs.zipIdx.map S):=⟨_,rfl⟩
    rw [← eA] at ix ⊢
    simp [zcX,bTup,zcu,bNil,za0,mTup,zaj,zaa,mNil,mVar,mRd,mC,g,ix,encF,sizeLine]
theorem law_true (ns:List Int) (h:ns.length ≤ 63):zpj [.scr ns] = .ok (.bl true):=by
  obtain ⟨cs,hcut,hcl⟩:=zik ns (some 7) (some 27)
  have hcl2:cs.length ≤ 20:=by
    have:(cutD (ns.map .int) (some 7) (some 27)).length=cs.length:=by rw [hcut,List.length_map]
    rw [← this]
    unfold cutD
    rw [List.length_take,List.length_map]
    unfold HT.sIx
    simp
    omega
  obtain ⟨ds,hcut2,_⟩:=zik ns (some 7) none
  obtain ⟨ss,ts,htl,ok,hk1,hk2⟩:=zm0 cs (by omega)
  have hn:ts.length ≤ 40:=by omega
  obtain ⟨r,⟨r0,r1⟩,hroom⟩:=zoL (ts:=ts) (c:=ns.getD 1 0 % 100000000000000000000) (by omega) ok
  have m8:=zcH (ns.getD 0 0) (show (0:Int) < 8 by decide)
  have m8':=zdf (ns.getD 0 0) (show (0:Int) < 8 by decide)
  obtain ⟨n,en⟩:∃ n:Nat,(n:Int)=1 + ns.getD 0 0 % 8:=⟨(1 + ns.getD 0 0 % 8).toNat,by omega⟩
  have n0:0 < n:=by omega
  have n1:n ≤ 8:=by omega
  have nI:(0:Int) < n:=by omega
  obtain ⟨d,lok,hlen⟩:=zlp ds n0 n1 (ns.getD 0 0 / 8)
  obtain ⟨T,eT⟩:∃ T,T=tabD (tabF n d):=⟨_,rfl⟩
  have mm:=zcH (ns.getD 2 0) nI
  have mm':=zdf (ns.getD 2 0) nI
  obtain ⟨m,em⟩:∃ m:Nat,(m:Int)=1 + ns.getD 2 0 % n:=⟨(1 + ns.getD 2 0 % n).toNat,by omega⟩
  have c0:zat [.scr ns,.int 0] = .ok (.int (ns.getD 0 0)):=zd2 ns 0
  have c1:zat [.scr ns,.int 1] = .ok (.int (ns.getD 1 0)):=zd2 ns 1
  have c2:zat [.scr ns,.int 2] = .ok (.int (ns.getD 2 0)):=zd2 ns 2
  have c6:zat [.scr ns,.int 6] = .ok (.int (ns.getD 6 0)):=zd2 ns 6
  have f8:Fit 8:=fitN 10 (by decide)
  have f3:Fit 3:=fitN 10 (by decide)
  have f5:Fit 5:=fitN 10 (by decide)
  obtain ⟨Q,eQ⟩:∃ Q,Q=zay ts:=⟨_,rfl⟩
  obtain ⟨C,eC⟩:∃ C,C=iL cs:=⟨_,rfl⟩
  obtain ⟨S,eS⟩:∃ S,S=iL ss:=⟨_,rfl⟩
  have sack:∀ x:Int,0 ≤ x→zcO [.int r,Q,.int x] = .ok (.bl true):=fun x x0=>by rw [eQ]; exact zjN hn ok r0 r1 x0
  have plc:∀ x:Int,0 ≤ x→zcb [T,.int m,.int x] = .ok (.bl true):=fun x x0=>by rw [eT]; exact zil lok n0 (by omega) (by omega) (by omega) x0
  refine za3 ?_
  show mSeq _ _ [.v (.scr ns),.no,.no,.no,.no,.no,.no,.no,.no,.no,.no]=_
  have q1:mAsg (mSl (mRd 0) (zbF (mC (.int 7))) (zbF (mC (.int 27)))) (zap 1) [.v (.scr ns),.no,.no,.no,.no,.no,.no,.no,.no,.no,.no] = .nx [.v (.scr ns),.v C,.no,.no,.no,.no,.no,.no,.no,.no,.no]:=by
    refine zaC (d:=C) ?_ rfl
    rw [eC]
    simp only [mSl,mRd,zbF,mC,List.getElem?_cons_zero,R.bind_ok,zme,R.of_some,asL,hcut]
    rfl
  have q2:mAsg zl1 (zap 2) [.v (.scr ns),.v C,.no,.no,.no,.no,.no,.no,.no,.no,.no] = .nx [.v (.scr ns),.v C,.v S,.no,.no,.no,.no,.no,.no,.no,.no]:=zaC (d:=S) (by rw [eS]; exact hk1 _ (by rw [eC]; rfl)) rfl
  have q3:mAsg zlG (zap 3) [.v (.scr ns),.v C,.v S,.no,.no,.no,.no,.no,.no,.no,.no] = .nx [.v (.scr ns),.v C,.v S,.v Q,.no,.no,.no,.no,.no,.no,.no]:=zaC (d:=Q) (by rw [eQ]; exact hk2 _ (by rw [eC]; rfl) (by rw [eS]; rfl)) rfl
  rw [← eQ] at hroom
  rw [← eT] at hlen
  have q4:mAsg (zaj zdo (zaa (mVar 3) (zaa (m2 oMod (zaj zat (zaa (mVar 0) (zaa (mC (.int 1)) mNil))) (m2 oPow (mC (.int 10)) (mC (.int 20)))) mNil))) (zap 4) [.v (.scr ns),.v C,.v S,.v Q,.no,.no,.no,.no,.no,.no,.no] = .nx [.v (.scr ns),.v C,.v S,.v Q,.v (.int r),.no,.no,.no,.no,.no,.no]:=by
    refine zaC (d:=.int r) ?_ rfl
    simp only [zaj,zaa,mNil,mVar,mC,zbZ,List.getElem?_cons_succ,List.getElem?_cons_zero,R.bind_ok,c1,R.nev_ok,p20,R.of_some,za6 (show (0:Int) < 100000000000000000000 by decide),hroom]
  have q5:mAsg (m2 oAdd (mC (.int 1)) (m2 oMod (zaj zat (zaa (mVar 0) (zaa (mC (.int 0)) mNil))) (mC (.int 8)))) (zap 5) [.v (.scr ns),.v C,.v S,.v Q,.v (.int r),.no,.no,.no,.no,.no,.no] = .nx [.v (.scr ns),.v C,.v S,.v Q,.v (.int r),.v (.int n),.no,.no,.no,.no,.no]:=by
    refine zaC (d:=.int n) ?_ rfl
    simp only [zaj,zaa,mNil,mVar,mC,zbZ,List.getElem?_cons_succ,List.getElem?_cons_zero,R.bind_ok,c0,R.nev_ok,R.of_some,za6 (show (0:Int) < 8 by decide),zh4,en]
  have q6:mAsg (zaj zbP (zaa (mSl (mRd 0) (zbF (mC (.int 7))) mNoP) (zaa (mVar 5) (zaa (m2 oDiv (zaj zat (zaa (mVar 0) (zaa (mC (.int 0)) mNil))) (mC (.int 8))) mNil)))) (zap 6) [.v (.scr ns),.v C,.v S,.v Q,.v (.int r),.v (.int n),.no,.no,.no,.no,.no] = .nx [.v (.scr ns),.v C,.v S,.v Q,.v (.int r),.v (.int n),.v T,.no,.no,.no,.no]:=by
    refine zaC (d:=T) ?_ rfl
    have sl:mSl (mRd 0) (zbF (mC (.int 7))) mNoP [.v (.scr ns),.v C,.v S,.v Q,.v (.int r),.v (.int n),.no,.no,.no,.no,.no] = .ok (iL ds):=by
      simp only [mSl,mRd,zbF,mNoP,mC,List.getElem?_cons_zero,R.bind_ok,zme,R.of_some,asL,hcut2]
      rfl
    simp only [zaj,zaa,mNil,sl,mVar,mC,zbZ,List.getElem?_cons_succ,List.getElem?_cons_zero,R.bind_ok,c0,R.nev_ok,R.of_some,zcx (show (0:Int) < 8 by decide) f8,hlen]
  have q7:mAsg (m2 oAdd (mC (.int 1)) (m2 oMod (zaj zat (zaa (mVar 0) (zaa (mC (.int 2)) mNil))) (mRd 5))) (zap 7) [.v (.scr ns),.v C,.v S,.v Q,.v (.int r),.v (.int n),.v T,.no,.no,.no,.no] = .nx [.v (.scr ns),.v C,.v S,.v Q,.v (.int r),.v (.int n),.v T,.v (.int m),.no,.no,.no]:=by
    refine zaC (d:=.int m) ?_ rfl
    simp only [zaj,zaa,mNil,mVar,mRd,mC,zbZ,List.getElem?_cons_succ,List.getElem?_cons_zero,R.bind_ok,c2,R.nev_ok,R.of_some,za6 nI,zh4,em]
  obtain ⟨δ,h1,o8,o9,rfl⟩:=zb8 (b:=zap 8) (m:=zmh) D.int (fun _ δ=>∃ o8 o9:Option D,δ = [.v (.scr ns),.v C,.v S,.v Q,.v (.int r),.v (.int n),.v T,.v (.int m),sv o8,sv o9,.no]) [3,4,5]
    (by
      rintro pre k post δ hall ⟨o8,o9,rfl⟩
      have kr:0 ≤ k∧k ≤ 5:=by
        have:k ∈ [3,4,5]:=by rw [hall]; simp
        simp at this; omega
      have ck:=zm4 ns kr.1
      have nm:=zd1 (ns.getD k.toNat 0 + ns.getD 6 0) (3 * k) (by omega) (by omega)
      have z0:=zhZ (ns.getD k.toNat 0 + ns.getD 6 0) (3 * k)
      obtain ⟨z,ez⟩:∃ z,z=num (ns.getD k.toNat 0 + ns.getD 6 0) (3 * k):=⟨_,rfl⟩
      rw [← ez] at nm z0
      have fk:Fit k:=fitN 10 (by omega)
      refine ⟨[.v (.scr ns),.v C,.v S,.v Q,.v (.int r),.v (.int n),.v T,.v (.int m),.v (.int k),sv o9,.no],[.v (.scr ns),.v C,.v S,.v Q,.v (.int r),.v (.int n),.v T,.v (.int m),.v (.int k),.v (.int z),.no],zaS rfl,.inl ?_,some (.int k),some (.int z),rfl⟩
      have s1:mAsg (zaj zaN (zaa (m2 oAdd (zaj zat (zaa (mVar 0) (zaa (mVar 8) mNil))) (zaj zat (zaa (mVar 0) (zaa (mC (.int 6)) mNil)))) (zaa (m2 oMul (mC (.int 3)) (mRd 8)) mNil))) (zap 9) [.v (.scr ns),.v C,.v S,.v Q,.v (.int r),.v (.int n),.v T,.v (.int m),.v (.int k),sv o9,.no] = .nx [.v (.scr ns),.v C,.v S,.v Q,.v (.int r),.v (.int n),.v T,.v (.int m),.v (.int k),.v (.int z),.no]:=by
        refine zaC (d:=.int z) ?_ (zaS rfl)
        simp only [zaj,zaa,mNil,mVar,mRd,mC,zbZ,List.getElem?_cons_succ,List.getElem?_cons_zero,R.bind_ok,ck,c6,R.nev_ok,R.of_some,zh4,zbv f3 fk,nm]
      refine (zam s1).trans ?_
      have a1:=sack z z0
      have a2:=plc (z / 5) (by omega)
      have t1:zal (zaj zcO (zaa (mVar 4) (zaa (mVar 3) (zaa (mVar 9) mNil)))) [.v (.scr ns),.v C,.v S,.v Q,.v (.int r),.v (.int n),.v T,.v (.int m),.v (.int k),.v (.int z),.no] = .ok true:=by
        simp [zal,zaj,zaa,mNil,mVar,a1]
      have t2:zal (zaj zcb (zaa (mVar 6) (zaa (mVar 7) (zaa (m2 oDiv (mRd 9) (mC (.int 5))) mNil)))) [.v (.scr ns),.v C,.v S,.v Q,.v (.int r),.v (.int n),.v T,.v (.int m),.v (.int k),.v (.int z),.no] = .ok true:=by
        simp [zal,zaj,zaa,mNil,mVar,mRd,mC,zcx,f5,a2]
      rw [zaZ (by simp [mOr,mNot,t1,t2])]; rfl)
    [.v (.scr ns),.v C,.v S,.v Q,.v (.int r),.v (.int n),.v T,.v (.int m),.no,.no,.no] ⟨none,none,rfl⟩
  have q8:zn5 [.v (.scr ns),.v C,.v S,.v Q,.v (.int r),.v (.int n),.v T,.v (.int m),.no,.no,.no]=_:=(zcR (l:=[3,4,5].map .int) (by
    have:rng [.int 3,.int 6]=some ([3,4,5].map .int):=(rng2 (by decide) (by decide)).trans rfl
    simp only [mRng,zaa,mNil,mC,R.bind_ok,this,R.of_some])).trans h1
  refine (zam q1).trans ((zam q2).trans ((zam q3).trans ((zam q4).trans ((zam q5).trans ((zam q6).trans ((zam q7).trans ((zam q8).trans ?_)))))))
  obtain ⟨δ,eδ⟩:∃ δ:En,δ = [.v (.scr ns),.v C,.v S,.v Q,.v (.int r),.v (.int n),.v T,.v (.int m),sv o8,sv o9,.no]:=⟨_,rfl⟩
  have t9:zal (m2 oEq (m2 oMod (zaj zat (zaa (mVar 0) (zaa (mC (.int 6)) mNil))) (mC (.int 6))) (mC (.int 1))) δ = .ok (decide (ns.getD 6 0 % 6=1)):=by
    rw [eδ]
    simp only [zal,zaj,zaa,mNil,mVar,mC,zbZ,List.getElem?_cons_zero,R.bind_ok,c6,R.nev_ok,R.of_some,za6 (show (0:Int) < 6 by decide)]
    simp
  rw [← eδ]
  by_cases c:ns.getD 6 0 % 6=1
  · refine zct ?_
    rw [za5 (by rw [t9,decide_eq_true c]),eδ]
    obtain ⟨d2,bad,hb⟩:=zmu (Int.le_refl _) lok n0 (show n ≤ 100 by omega) (z:=num (ns.getD 6 0) 4) (zhZ _ _)
    have look:=zk7 (show n ≤ 100 by omega) bad
    obtain ⟨U,eU⟩:∃ U,U=tabD (tabF n d2):=⟨_,rfl⟩
    rw [← eU] at hb look
    rw [← eT] at hb
    have nm:=zd1 (ns.getD 6 0) 4 (by decide) (by decide)
    have q9:mAsg (zaj zbO (zaa (mVar 6) (zaa (zaj zaN (zaa (zaj zat (zaa (mVar 0) (zaa (mC (.int 6)) mNil))) (zaa (mC (.int 4)) mNil))) mNil))) (zap 10) [.v (.scr ns),.v C,.v S,.v Q,.v (.int r),.v (.int n),.v T,.v (.int m),sv o8,sv o9,.no] = .nx [.v (.scr ns),.v C,.v S,.v Q,.v (.int r),.v (.int n),.v T,.v (.int m),sv o8,sv o9,.v U]:=by
      refine zaC (d:=U) ?_ rfl
      simp only [zaj,zaa,mNil,mVar,mC,List.getElem?_cons_succ,List.getElem?_cons_zero,R.bind_ok,c6,R.nev_ok,nm,hb]
    refine (zam q9).trans ?_
    have r1:=zls look (k:=.int m) (c:=.lst [.int 0,.int 0])
    have r2:=zhI look (k:=.int m)
    have a1:zaj zbW (zaa (mVar 10) (zaa (mVar 7) (zaa (mLst (zaa (mC (.int 0)) (zaa (mC (.int 0)) mNil))) mNil))) [.v (.scr ns),.v C,.v S,.v Q,.v (.int r),.v (.int n),.v T,.v (.int m),sv o8,sv o9,.v U] = .ok (.bl true):=by
      simp [zaj,zaa,mNil,mVar,mLst,mC,sizeLine,r1]
    have a2:zaj za8 (zaa (mVar 10) (zaa (mVar 7) mNil)) [.v (.scr ns),.v C,.v S,.v Q,.v (.int r),.v (.int n),.v T,.v (.int m),sv o8,sv o9,.v U] = .ok (.bl true):=by
      simp [zaj,zaa,mNil,mVar,r2]
    simp only [mRet,zhP,a1,a2,R.bind_ok]; rfl
  · have n9:mIfS (zal (m2 oEq (m2 oMod (zaj zat (zaa (mVar 0) (zaa (mC (.int 6)) mNil))) (mC (.int 6))) (mC (.int 1)))) (mSeq (mAsg (zaj zbO (zaa (mVar 6) (zaa (zaj zaN (zaa (zaj zat (zaa (mVar 0) (zaa (mC (.int 6)) mNil))) (zaa (mC (.int 4)) mNil))) mNil))) (zap 10)) (mRet (zhP (zaj zbW (zaa (mVar 10) (zaa (mVar 7) (zaa (mLst (zaa (mC (.int 0)) (zaa (mC (.int 0)) mNil))) mNil)))) (zaj za8 (zaa (mVar 10) (zaa (mVar 7) mNil)))))) zaM δ = .nx δ:=by
      rw [zaZ (by rw [t9,decide_eq_false c])]; rfl
    exact (zam n9).trans rfl
end My
namespace My
open PySem L2 PM PyProof.Rows
def top (i:Nat):Stmt:=PySem.Challenge.pw_goodenough_k48_sacks_and_places_looked_a.main.body.getD i (.Pass ⟨0,0,0,0⟩)
abbrev XO0:XOT:=fun _ _ _ _ _=>False
structure Adr where
  EnoughError:Addr
  NoShare:Addr
  NoLengths:Addr
  TooMany:Addr
  NoCover:Addr
  NoRoom:Addr
  NoText:Addr
def caT (ad:Adr):Nat→Addr
  | 0=>ad.EnoughError
  | 1=>ad.NoShare
  | 2=>ad.NoLengths
  | 3=>ad.TooMany
  | 4=>ad.NoCover
  | 5=>ad.NoRoom
  | 6=>ad.NoText
  | _=>0
def caF (ad:Adr) (c:Nat):Addr:=caT ad (c % 16)
def anT:Nat→Str
  | _=>Str.empty
def anF (c:Nat):Str:=anT (c % 16)
abbrev KX (K:PySem.W.Frag) (ad:Adr):Kx:=⟨K,caF ad,anF⟩
def zkV (K:PySem.W.Frag):Sp:=fun vs H Q _=>∃ (a:Addr) (ns:List Int),vs = [.ref a]∧SqL K H a (ns.map V.int)∧ns.length ≤ 63∧∀ H',Q (.bl true) H'
structure Txt (K:PySem.W.Frag) (mg:Str→Option Value) (ad:Adr):Prop where
  len:mg "len"=none
  abs:mg "abs"=none
  isinstance:mg "isinstance"=none
  list:mg "list"=none
  sum:mg "sum"=none
  str:mg "str"=none
  range:mg "range"=none
  enumerate:mg "enumerate"=none
  reversed:mg "reversed"=none
  max:mg "max"=none
  min:mg "min"=none
  sorted:mg "sorted"=none
  set:mg "set"=none
  all:mg "all"=none
  ValueError:mg "ValueError"=none
  m_EnoughError:mg "EnoughError"=some (.ref ad.EnoughError)
  m_NoShare:mg "NoShare"=some (.ref ad.NoShare)
  m_NoLengths:mg "NoLengths"=some (.ref ad.NoLengths)
  m_TooMany:mg "TooMany"=some (.ref ad.TooMany)
  m_NoCover:mg "NoCover"=some (.ref ad.NoCover)
  m_NoRoom:mg "NoRoom"=some (.ref ad.NoRoom)
  m_NoText:mg "NoText"=some (.ref ad.NoText)
  e_NoShare:PySem.W.excIn K ad.NoShare [.type "ValueError",.type "Exception",.type "BaseException",.type "object"] "ValueError.__new__"=true
  e_NoLengths:PySem.W.excIn K ad.NoLengths [.type "ValueError",.type "Exception",.type "BaseException",.type "object"] "ValueError.__new__"=true
  b_EnoughError:PySem.W.mroIn K ad.EnoughError (.type "BaseException")=some true
  b_NoLengths:PySem.W.mroIn K ad.NoLengths (.type "BaseException")=some true
  z_NoShare:ExcCls K ad.NoShare
  kc_NoShare_EnoughError:PySem.W.kitCls K (.ref ad.NoShare) (.ref ad.EnoughError)=some true
  k_NoShare_NoShare:PySem.W.kitOne K (.ref ad.NoShare) (.ref ad.NoShare)=some true
  k_NoShare_TooMany:PySem.W.kitOne K (.ref ad.NoShare) (.ref ad.TooMany)=some false
  k_NoShare_NoCover:PySem.W.kitOne K (.ref ad.NoShare) (.ref ad.NoCover)=some false
  k_NoShare_NoRoom:PySem.W.kitOne K (.ref ad.NoShare) (.ref ad.NoRoom)=some false
  k_NoShare_NoText:PySem.W.kitOne K (.ref ad.NoShare) (.ref ad.NoText)=some false
  k_NoShare_ValueError:PySem.W.kitOne K (.ref ad.NoShare) (.type "ValueError")=some true
  z_NoLengths:ExcCls K ad.NoLengths
  kc_NoLengths_EnoughError:PySem.W.kitCls K (.ref ad.NoLengths) (.ref ad.EnoughError)=some true
  kc_NoLengths_NoLengths:PySem.W.kitCls K (.ref ad.NoLengths) (.ref ad.NoLengths)=some true
  k_NoLengths_NoShare:PySem.W.kitOne K (.ref ad.NoLengths) (.ref ad.NoShare)=some false
  k_NoLengths_TooMany:PySem.W.kitOne K (.ref ad.NoLengths) (.ref ad.TooMany)=some false
  k_NoLengths_NoCover:PySem.W.kitOne K (.ref ad.NoLengths) (.ref ad.NoCover)=some false
  k_NoLengths_NoRoom:PySem.W.kitOne K (.ref ad.NoLengths) (.ref ad.NoRoom)=some false
  k_NoLengths_NoText:PySem.W.kitOne K (.ref ad.NoLengths) (.ref ad.NoText)=some false
  k_NoLengths_ValueError:PySem.W.kitOne K (.ref ad.NoLengths) (.type "ValueError")=some true
section
variable {P:Program} {w:World} {K:PySem.W.Frag} {mg:Str→Option Value} {base:Heap} {ad:Adr}
theorem zhy (T:Txt K mg ad):∀ c,zdB c=true→PySem.W.kitCls (KX K ad).f (.ref ((KX K ad).ca c)) (.ref ad.EnoughError)=some true:=by
  have key:∀ r,zek r=true→PySem.W.kitCls K (.ref (caT ad r)) (.ref ad.EnoughError)=some true:=by
    intro c h
    match c,h with
    | 1,_=>exact T.kc_NoShare_EnoughError
    | 2,_=>exact T.kc_NoLengths_EnoughError
  exact fun c h=>key (c % 16) h
theorem ziY (T:Txt K mg ad):∀ c,zeh c=true→PySem.W.kitCls (KX K ad).f (.ref ((KX K ad).ca c)) (.ref ad.NoLengths)=some true:=by
  have key:∀ r,ze7 r=true→PySem.W.kitCls K (.ref (caT ad r)) (.ref ad.NoLengths)=some true:=by
    intro c h
    match c,h with
    | 2,_=>exact T.kc_NoLengths_NoLengths
  exact fun c h=>key (c % 16) h
theorem zlr (T:Txt K mg ad):∀ c b,zg3 c=some b→ExcCls (KX K ad).f ((KX K ad).ca c)∧PySem.W.kitOne (KX K ad).f (.ref ((KX K ad).ca c)) (.ref ad.NoShare)=some b:=by
  have key:∀ r b,zgj r=some b→ExcCls K (caT ad r)∧PySem.W.kitOne K (.ref (caT ad r)) (.ref ad.NoShare)=some b:=by
    intro c b h
    match c,h with
    | 1,h=>cases h; exact ⟨T.z_NoShare,T.k_NoShare_NoShare⟩
    | 2,h=>cases h; exact ⟨T.z_NoLengths,T.k_NoLengths_NoShare⟩
  exact fun c b h=>key (c % 16) b h
theorem zlg (T:Txt K mg ad):∀ c b,zhg c=some b→ExcCls (KX K ad).f ((KX K ad).ca c)∧PySem.W.kitOne (KX K ad).f (.ref ((KX K ad).ca c)) (.ref ad.TooMany)=some b:=by
  have key:∀ r b,zgf r=some b→ExcCls K (caT ad r)∧PySem.W.kitOne K (.ref (caT ad r)) (.ref ad.TooMany)=some b:=by
    intro c b h
    match c,h with
    | 1,h=>cases h; exact ⟨T.z_NoShare,T.k_NoShare_TooMany⟩
    | 2,h=>cases h; exact ⟨T.z_NoLengths,T.k_NoLengths_TooMany⟩
  exact fun c b h=>key (c % 16) b h
theorem zlb (T:Txt K mg ad):∀ c b,zgY c=some b→ExcCls (KX K ad).f ((KX K ad).ca c)∧PySem.W.kitOne (KX K ad).f (.ref ((KX K ad).ca c)) (.ref ad.NoCover)=some b:=by
  have key:∀ r b,zf9 r=some b→ExcCls K (caT ad r)∧PySem.W.kitOne K (.ref (caT ad r)) (.ref ad.NoCover)=some b:=by
    intro c b h
    match c,h with
    | 1,h=>cases h; exact ⟨T.z_NoShare,T.k_NoShare_NoCover⟩
    | 2,h=>cases h; exact ⟨T.z_NoLengths,T.k_NoLengths_NoCover⟩
  exact fun c b h=>key (c % 16) b h
theorem zmI (T:Txt K mg ad):∀ c b,zhR c=some b→ExcCls (KX K ad).f ((KX K ad).ca c)∧PySem.W.kitOne (KX K ad).f (.ref ((KX K ad).ca c)) (.ref ad.NoRoom)=some b:=by
  have key:∀ r b,zg7 r=some b→ExcCls K (caT ad r)∧PySem.W.kitOne K (.ref (caT ad r)) (.ref ad.NoRoom)=some b:=by
    intro c b h
    match c,h with
    | 1,h=>cases h; exact ⟨T.z_NoShare,T.k_NoShare_NoRoom⟩
    | 2,h=>cases h; exact ⟨T.z_NoLengths,T.k_NoLengths_NoRoom⟩
  exact fun c b h=>key (c % 16) b h
theorem zmS (T:Txt K mg ad):∀ c b,zh2 c=some b→ExcCls (KX K ad).f ((KX K ad).ca c)∧PySem.W.kitOne (KX K ad).f (.ref ((KX K ad).ca c)) (.ref ad.NoText)=some b:=by
  have key:∀ r b,zhc r=some b→ExcCls K (caT ad r)∧PySem.W.kitOne K (.ref (caT ad r)) (.ref ad.NoText)=some b:=by
    intro c b h
    match c,h with
    | 1,h=>cases h; exact ⟨T.z_NoShare,T.k_NoShare_NoText⟩
    | 2,h=>cases h; exact ⟨T.z_NoLengths,T.k_NoLengths_NoText⟩
  exact fun c b h=>key (c % 16) b h
theorem zir (T:Txt K mg ad):∀ c b,ze5 c=some b→ExcCls (KX K ad).f ((KX K ad).ca c)∧PySem.W.kitOne (KX K ad).f (.ref ((KX K ad).ca c)) (.type "ValueError")=some b:=by
  have key:∀ r b,zeD r=some b→ExcCls K (caT ad r)∧PySem.W.kitOne K (.ref (caT ad r)) (.type "ValueError")=some b:=by
    intro c b h
    match c,h with
    | 1,h=>cases h; exact ⟨T.z_NoShare,T.k_NoShare_ValueError⟩
    | 2,h=>cases h; exact ⟨T.z_NoLengths,T.k_NoLengths_ValueError⟩
  exact fun c b h=>key (c % 16) b h
abbrev zeB:Stmt:=top 40
theorem ziw:FnScope ["_law_cell","_law_k"] ["_law_cell","_law_k"] (zar zeB):=⟨rfl,rfl,rfl,by decide +kernel,rfl,by decide +kernel,by decide +kernel⟩
theorem zii {f:Addr} {fd:FuncData} (F:Fun K "_law_number" "_law_number" zeB f fd) (T:Txt K mg ad)  : FnOk P w K mg base CX0 1 f fd ["_law_cell","_law_k"] (spM (KX K ad) (xoK (KX K ad)) zaN):=by
  refine F.ok ziw (fun vs H Q E h=>za4 h) (fun cdv A outer s H vs Q E hr h=>?_)
  have hu:=zbD hr
  exact ⟨_,(zan (zaB (zav zba (zav zbc (zav zbp (zav zbp (zav zba (pv 0) (zav zf4 zaf zaf)) (zav zbc (pv 1) (pv 1))) zaf) (zav zbp zaf (zav zbc zaf (pv 1)))) zaf))),zb4 (K:=(KX K ad)) (XO:=(xoK (KX K ad))) (E:=E) (np:=2) (nv:=0) (m:=zew)
      (zaG (zai zbb ((zai zby ((zai zbo ((zai zbo ((zai zbb zac ((zai zgd (zae).r (zae).r)).r)).r ((zai zby zac zac)).r)).r (zae).r)).r ((zai zbo (zae).r ((zai zby (zae).r zac)).r)).r)).r (zae).r)) rfl h⟩
abbrev zez:Stmt:=top 41
theorem sc_law_amount:FnScope ["_law_cell","_law_k","_law_number_here"] ["_law_cell","_law_k"] (zar zez):=⟨rfl,rfl,rfl,by decide +kernel,rfl,by decide +kernel,by decide +kernel⟩
theorem ziI {f:Addr} {fd:FuncData} (F:Fun K "_law_amount" "_law_amount" zez f fd) (T:Txt K mg ad) (G_law_number:Has P w K mg base CX0 1 "_law_number" ["_law_cell","_law_k"] (spM (KX K ad) (xoK (KX K ad)) zaN)):FnOk P w K mg base CX0 2 f fd ["_law_cell","_law_k"] (spM (KX K ad) (xoK (KX K ad)) zbw):=by
  refine F.ok sc_law_amount (fun vs H Q E h=>za4 h) (fun cdv A outer s H vs Q E hr h=>?_)
  have hu:=zbD hr
  exact ⟨_,(zag (zaF (i:=2) sc_law_amount.nd rfl (by first | exact Or.inl rfl | exact Or.inr rfl) (zaP G_law_number (hr.mono (by decide)) (by rfl) zbi (zab (pv 0) (zab (pv 1) zah))))
      (zag (zbl (zaA zdS (zav zba (pv 2) zaf) zaf (zaQ _))
      (zan (zaB (zav zba (zav zbh (pv 2) zaf) zaf)))
      zaK)
      (zag (zbl (zaA zdS (zav zba (pv 2) zaf) zaf (zaQ _))
      (zan (zaB (zav zba (zav zbh (pv 2) zaf) zaf)))
      zaK)
      (zan (zaB (zav zba (zav zbp (zav zbc (zav zba (pv 0) (zav zf4 zaf zaf)) zaf) (pv 2)) (zav zbp (zav zf4 zaf zaf) zaf))))))),zb4 (K:=(KX K ad)) (XO:=(xoK (KX K ad))) (E:=E) (np:=2) (nv:=1) (m:=zgm)
      (zaq (zaL (zax (zad zak (zad zak zao))) zas)
      (zaq (zbk (zaz (zai zdR ((zai zbb zac (zae).r)).r (zae).r))
      (zaG (zai zbb ((zai zb7 zac (zae).r)).r (zae).r))
      zaJ)
      (zaq (zbk (zaz (zai zdR ((zai zbb zac (zae).r)).r (zae).r))
      (zaG (zai zbb ((zai zb7 zac (zae).r)).r (zae).r))
      zaJ)
      (zaG (zai zbb ((zai zbo ((zai zby ((zai zbb zac ((zai zgd (zae).r (zae).r)).r)).r (zae).r)).r zac)).r ((zai zbo ((zai zgd (zae).r (zae).r)).r (zae).r)).r))))) rfl h⟩
abbrev zeg:Stmt:=top 39
theorem zhM:FnScope ["_law_script","_law_k"] ["_law_script","_law_k"] (zar zeg):=⟨rfl,rfl,rfl,by decide +kernel,rfl,by decide +kernel,by decide +kernel⟩
theorem zhJ {f:Addr} {fd:FuncData} (F:Fun K "_law_cell_at" "_law_cell_at" zeg f fd) (T:Txt K mg ad)  : FnOk P w K mg base CX0 1 f fd ["_law_script","_law_k"] (spM (KX K ad) (xoK (KX K ad)) zat):=by
  refine F.ok zhM (fun vs H Q E h=>za4 h) (fun cdv A outer s H vs Q E hr h=>?_)
  have hu:=zbD hr
  exact ⟨_,(zag (zbl (zaA zha (pv 1) (zaw zaE (by rfl) T.len PySem.boot_len (zab (pv 0) zah)) (zaQ _))
      (zan (zaB (zaI zaO (pv 0) (pv 1) (fun _ _=>rfl))))
      zaK)
      (zan (zaB zaf))),zb4 (K:=(KX K ad)) (XO:=(xoK (KX K ad))) (E:=E) (np:=2) (nv:=0) (m:=zdg)
      (zaq (zbk (zaz (zai zhn zac ((zbu zb2 (zau zac zaD))).r))
      (zaG (zai za7 zac zac))
      zaJ)
      (zaG zae)) rfl h⟩
abbrev zeQ:Stmt:=top 58
theorem zjI:FnScope ["_law_things","_law_cell"] ["_law_things","_law_cell"] (zar zeQ):=⟨rfl,rfl,rfl,by decide +kernel,rfl,by decide +kernel,by decide +kernel⟩
theorem zjJ {f:Addr} {fd:FuncData} (F:Fun K "_law_room" "_law_room" zeQ f fd) (T:Txt K mg ad) (G_law_amount:Has P w K mg base CX0 2 "_law_amount" ["_law_cell","_law_k"] (spM (KX K ad) (xoK (KX K ad)) zbw)):FnOk P w K mg base CX0 3 f fd ["_law_things","_law_cell"] (spM (KX K ad) (xoK (KX K ad)) zdo):=by
  refine F.ok zjI (fun vs H Q E h=>za4 h) (fun cdv A outer s H vs Q E hr h=>?_)
  have hu:=zbD hr
  exact ⟨_,(zag (zbl (zaA zdS (zav zba (pv 1) zaf) zaf (zaQ _))
      (zan (zaB zaf))
      zaK)
      (zan (zaB (zaw (zhi rfl) (by rfl) T.min boot_min (zab (zav zf4 zaf zaf) (zab (zav zbp (zaw (zcg rfl) (by rfl) T.sum boot_sum (zab (zbL rfl (zbB (zcB zdp (pv 0) zdV (zdb (zav zba (pv 1) zaf)))) (zci (zar zeQ) ["_law_things","_law_cell"] ["_law_one"] [] 1 rfl rfl rfl (by decide +kernel) (by decide +kernel) (by decide +kernel) rfl (by decide +kernel) (fun cl C s H fp pins=>(zaR (i:=0) (show List.Nodup (["_law_one"]:List Str) by decide +kernel) rfl (Or.inl rfl))) (fun cl C s H fp pins=>(zaI zaT (pv 0) zaf (fun _ _=>rfl))) (Or.inl ⟨rfl,rfl⟩))) zah)) (zaP G_law_amount (hr.mono (by decide)) (by rfl) zbi (zab (pv 1) (zab zaf zah)))) zah)))))),zb4 (K:=(KX K ad)) (XO:=(xoK (KX K ad))) (E:=E) (np:=2) (nv:=0) (m:=zh8)
      (zaq (zbk (zaz (zai zdR ((zai zbb zac (zae).r)).r (zae).r))
      (zaG zae)
      zaJ)
      (zaG (zbu zkc (zau ((zai zgd (zae).r (zae).r)).r (zau ((zai zbo ((zbu zhS (zau ((zbm (zbS ((zcc zac zhN (zc9 (zai zbb zac (zae).r)))).e.r) (by decide) zbe zbq (Or.inl ⟨rfl,rfl⟩) (zai zaU zac (zae).r))).e.r zaD))).r ((zax (zad zak (zad zae zao)))).r)).r zaD))))) rfl h⟩
abbrev zd9:Stmt:=top 46
theorem sc_law_between:FnScope ["_law_spots","_law_one","_law_other","_law_least","_law_low","_law_high","_law_much"] ["_law_spots","_law_one","_law_other","_law_least"] (zar zd9):=⟨rfl,rfl,rfl,by decide +kernel,rfl,by decide +kernel,by decide +kernel⟩
theorem zhC {f:Addr} {fd:FuncData} (F:Fun K "_law_between" "_law_between" zd9 f fd) (T:Txt K mg ad)  : FnOk P w K mg base CX0 1 f fd ["_law_spots","_law_one","_law_other","_law_least"] (spM (KX K ad) (xoK (KX K ad)) zcG):=by
  refine F.ok sc_law_between (fun vs H Q E h=>za4 h) (fun cdv A outer s H vs Q E hr h=>?_)
  have hu:=zbD hr
  exact ⟨_,(zag (zbl (zaA zdS (pv 1) (pv 2) (zaQ _))
      (zan (zaB zaf))
      zaK)
      (zag (zaF (i:=4) sc_law_between.nd rfl (by first | exact Or.inl rfl | exact Or.inr rfl) (zaw (zhi rfl) (by rfl) T.min boot_min (zab (pv 1) (zab (pv 2) zah))))
      (zag (zaF (i:=5) sc_law_between.nd rfl (by first | exact Or.inl rfl | exact Or.inr rfl) (zaw (ziV rfl) (by rfl) T.max boot_max (zab (pv 1) (zab (pv 2) zah))))
      (zag (zaF (i:=6) sc_law_between.nd rfl (by first | exact Or.inl rfl | exact Or.inr rfl) (zav zbp (zav zbp (zaI zaT (zaI zaO (pv 0) (pv 4) (fun _ _=>rfl)) zaf (fun _ _=>rfl)) (zav zbc zaf (zaI zaT (zaI zaO (pv 0) (pv 5) (fun _ _=>rfl)) zaf (fun _ _=>rfl)))) (zav zbc (pv 4) (pv 5))))
      (zan (zaB (zav zbp (pv 3) (zav zba (pv 6) (zav zbp (pv 3) zaf))))))))),zb4 (K:=(KX K ad)) (XO:=(xoK (KX K ad))) (E:=E) (np:=4) (nv:=3) (m:=zfK)
      (zaq (zbk (zaz (zai zdR zac zac))
      (zaG zae)
      zaJ)
      (zaq (zaL (zbu zkc (zau zac (zau zac zaD))) zas)
      (zaq (zaL (zbu zmm (zau zac (zau zac zaD))) zas)
      (zaq (zaL (zai zbo ((zai zbo ((zai zaU ((zai za7 zac zac)).r (zae).r)).r ((zai zby (zae).r ((zai zaU ((zai za7 zac zac)).r (zae).r)).r)).r)).r ((zai zby zac zac)).r) zas)
      (zaG (zai zbo zac ((zai zbb zac ((zai zbo zac (zae).r)).r)).r)))))) rfl h⟩
abbrev zbR:Stmt:=top 45
theorem sc_law_lengths:FnScope ["_law_cells","_law_many","_law_way","_law_spots","_law_k","_law_number_here","_law_reach","_law_least"] ["_law_cells","_law_many","_law_way"] (zar zbR):=⟨rfl,rfl,rfl,by decide +kernel,rfl,by decide +kernel,by decide +kernel⟩
theorem zhE {f:Addr} {fd:FuncData} (F:Fun K "_law_lengths" "_law_lengths" zbR f fd) (T:Txt K mg ad) (G_law_number:Has P w K mg base CX0 1 "_law_number" ["_law_cell","_law_k"] (spM (KX K ad) (xoK (KX K ad)) zaN)) (G_law_cell_at:Has P w K mg base CX0 1 "_law_cell_at" ["_law_script","_law_k"] (spM (KX K ad) (xoK (KX K ad)) zat)) (G_law_between:Has P w K mg base CX0 1 "_law_between" ["_law_spots","_law_one","_law_other","_law_least"] (spM (KX K ad) (xoK (KX K ad)) zcG)):FnOk P w K mg base CX0 2 f fd ["_law_cells","_law_many","_law_way"] (spO (KX K ad) (xoK (KX K ad)) zbP):=by
  refine F.ok sc_law_lengths (fun vs H Q E h=>zeO h) (fun cdv A outer s H vs Q E hr h=>?_)
  have hu:=zbD hr
  exact ⟨_,(zag (zaF (i:=3) sc_law_lengths.nd rfl (by first | exact Or.inl rfl | exact Or.inr rfl) (zcn zah))
      (zag (zcM PassesOwn.never rfl (zb0 rfl T.range (zab (pv 1) zah)) (zaR (i:=4) sc_law_lengths.nd rfl (by first | exact Or.inl rfl | exact Or.inr rfl))
      (zag (zaF (i:=5) sc_law_lengths.nd rfl (by first | exact Or.inl rfl | exact Or.inr rfl) (zaP G_law_number (hr.mono (by decide)) (by rfl) zbi (zab (zaP G_law_cell_at (hr.mono (by decide)) (by rfl) zbi (zab (pv 0) (zab (pv 4) zah))) (zab (zav zbp (pv 4) zaf) zah))))
      (zag (zaF (i:=6) sc_law_lengths.nd rfl (by first | exact Or.inl rfl | exact Or.inr rfl) (zaI zaO (zcn (zab zaf (zab zaf (zab (zav zf4 zaf zaf) (zab (zav zf4 zaf zaf) zah))))) (zav zba (pv 5) zaf) (fun _ _=>rfl)))
      (zan (zds (zlw PySem.F.plainAttrs_list PySem.F.slot_list_append PySem.F.type_list_append zd0 (pv 3) (zab (zcF (zab (zav zba (zav zbc (zav zbh (pv 5) zaf) zaf) (pv 6)) (zab (zav zba (zav zbc (zav zba (zav zbc (zav zbh (pv 5) zaf) zaf) zaf) zaf) (pv 6)) zah))) zah)))))))
      (zag (zbl (zaA zdS (zav zba (pv 2) zaf) zaf (zaQ _))
      (zag (zaF (i:=7) sc_law_lengths.nd rfl (by first | exact Or.inl rfl | exact Or.inr rfl) (zav zbp zaf (zaI zaT (zaI zaO (pv 3) zaf (fun _ _=>rfl)) zaf (fun _ _=>rfl))))
      (zan (zaB (zbL rfl (zb0 rfl T.range (zab (pv 1) zah)) (zci (zar zbR) ["_law_cells","_law_many","_law_way","_law_spots","_law_k","_law_number_here","_law_reach","_law_least"] ["_law_spots","_law_least","_law_many","_law_one"] [3,7,1] 1 rfl rfl rfl (by decide +kernel) (by decide +kernel) (by decide +kernel) rfl (by decide +kernel) (fun cl C s H fp pins=>(zaR (i:=3) (show List.Nodup (["_law_spots","_law_least","_law_many","_law_one"]:List Str) by decide +kernel) rfl (by first | exact Or.inl rfl | exact Or.inr rfl))) (fun cl C s H fp pins=>(zbL rfl (zb0 (by rfl) (by exact T.range) (zab (pv 2) zah)) (zci (ziu _ (zar zbR)) ["_law_spots","_law_least","_law_many","_law_one"] ["_law_spots","_law_one","_law_least","_law_other"] [0,3,1] 1 rfl rfl rfl (by decide +kernel) (by decide +kernel) (by decide +kernel) rfl (by decide +kernel) (fun cl C s H fp pins=>(zaR (i:=3) (show List.Nodup (["_law_spots","_law_one","_law_least","_law_other"]:List Str) by decide +kernel) rfl (Or.inl rfl))) (fun cl C s H fp pins=>(zaP G_law_between (hr.mono (by decide)) (by rfl) zbi (zab (pv 0) (zab (pv 1) (zab (pv 3) (zab (pv 2) zah)))))) (Or.inl ⟨rfl,rfl⟩)))) (Or.inl ⟨rfl,rfl⟩))))))
      zaK)
      (zan (zaB (zbL rfl (zbB (pv 3)) (zci (zar zbR) ["_law_cells","_law_many","_law_way","_law_spots","_law_k","_law_number_here","_law_reach","_law_least"] ["_law_spots","_law_a"] [3] 1 rfl rfl rfl (by decide +kernel) (by decide +kernel) (by decide +kernel) rfl (by decide +kernel) (fun cl C s H fp pins=>(zaR (i:=1) (show List.Nodup (["_law_spots","_law_a"]:List Str) by decide +kernel) rfl (by first | exact Or.inl rfl | exact Or.inr rfl))) (fun cl C s H fp pins=>(zbL rfl (zbB (pv 0)) (zci (ziu _ (zar zbR)) ["_law_spots","_law_a"] ["_law_a","_law_b"] [1] 1 rfl rfl rfl (by decide +kernel) (by decide +kernel) (by decide +kernel) rfl (by decide +kernel) (fun cl C s H fp pins=>(zaR (i:=1) (show List.Nodup (["_law_a","_law_b"]:List Str) by decide +kernel) rfl (Or.inl rfl))) (fun cl C s H fp pins=>(zav zbp (zaw zfv (by rfl) (by exact T.abs) boot_abs (zab (zav zgR (zaI zaT (pv 0) zaf (fun _ _=>rfl)) (zaI zaT (pv 1) zaf (fun _ _=>rfl))) zah)) (zaw zfv (by rfl) (by exact T.abs) boot_abs (zab (zav zgR (zaI zaT (pv 0) zaf (fun _ _=>rfl)) (zaI zaT (pv 1) zaf (fun _ _=>rfl))) zah)))) (Or.inl ⟨rfl,rfl⟩)))) (Or.inl ⟨rfl,rfl⟩)))))))),zgb (K:=(KX K ad)) (XO:=(xoK (KX K ad))) (E:=E) (np:=3) (nv:=5) (m:=zfo)
      (zaq (zh3 (zbH zao))
      (zaq (zcN (zb1 len1 (zad zak zao)) zas
      (zaq (zaL (zax (zad (zax (zad zak (zad zak zao))) (zad (zai zbo zac (zae).r) zao))) zas)
      (zaq (zaL (zai za7 ((zbH (zad zae (zad zae (zad (zai zgd (zae).r (zae).r) (zad (zai zgd (zae).r (zae).r) zao)))))).e.r ((zai zbb zac (zae).r)).r) zas)
      (zeq (zcD (zad (zai zbb ((zai zby ((zai zb7 zac (zae).r)).r (zae).r)).r zac) (zad (zai zbb ((zai zby ((zai zbb ((zai zby ((zai zb7 zac (zae).r)).r (zae).r)).r (zae).r)).r (zae).r)).r zac) zao)))))))
      (zaq (zbk (zaz (zai zdR ((zai zbb zac (zae).r)).r (zae).r))
      (zaq (zaL (zai zbo (zae).r ((zai zaU ((zai za7 zac (zae).r)).r (zae).r)).r) zas)
      (zfb (zbm (zb1 len1 (zad zak zao)).c (by decide) zbe zbq (Or.inl ⟨rfl,rfl⟩) ((zbm (zb1 len1 (zad zak zao)).c (by decide) zbe zbq (Or.inl ⟨rfl,rfl⟩) (zkR (zly (zgE zak (zgE zak (zgE zak zlC))))))).e)))
      zaJ)
      (zfb (zbm (zbS zac) (by decide) zbe zbq (Or.inl ⟨rfl,rfl⟩) ((zbm (zbS zac) (by decide) zbe zbq (Or.inl ⟨rfl,rfl⟩) (zai zbo ((zbu zjs (zau ((zai zg0 ((zai zaU zac (zae).r)).r ((zai zaU zac (zae).r)).r)).r zaD))).r ((zbu zjs (zau ((zai zg0 ((zai zaU zac (zae).r)).r ((zai zaU zac (zae).r)).r)).r zaD))).r))).e))))) rfl h⟩
abbrev zcC:Stmt:=top 26
theorem zgt:FnScope ["room","things"] ["room","things"] (zar zcC):=⟨rfl,rfl,rfl,by decide +kernel,rfl,by decide +kernel,by decide +kernel⟩
theorem zgn {f:Addr} {fd:FuncData} (F:Fun K "fitting_alone" "fitting_alone" zcC f fd) (T:Txt K mg ad)  : FnOk P w K mg base CX0 1 f fd ["room","things"] (spO (KX K ad) (xoK (KX K ad)) zbj):=by
  refine F.ok zgt (fun vs H Q E h=>zeO h) (fun cdv A outer s H vs Q E hr h=>?_)
  have hu:=zbD hr
  exact ⟨_,(zan (zaB (zbL rfl (ziB rfl T.enumerate (zab (pv 1) zah)) (zci (zar zcC) ["room","things"] ["room","number","thing"] [0] 2 rfl rfl rfl (by decide +kernel) (by decide +kernel) (by decide +kernel) rfl (by decide +kernel) (fun cl C s H fp pins=>(zgZ rfl (zb6 (zaR (i:=1) (show List.Nodup (["room","number","thing"]:List Str) by decide +kernel) rfl (Or.inl rfl)) (zb6 (zaR (i:=2) (show List.Nodup (["room","number","thing"]:List Str) by decide +kernel) rfl (Or.inl rfl)) zfj)))) (fun cl C s H fp pins=>(pv 1)) (Or.inr ⟨_,_,rfl,rfl,fun cl C s H fp pins=>(zaA zmE (zaI zaT (pv 2) zaf (fun _ _=>rfl)) (pv 0) (zaQ _))⟩))))),zgb (K:=(KX K ad)) (XO:=(xoK (KX K ad))) (E:=E) (np:=2) (nv:=0) (m:=zet)
      (zfb (zbm (ziv (zau zac zaD)) (by decide) (zgN (zb5 zbe (zb5 zbe zfn))) (zmW (zeV zbq (zeV zbq zjP))) (Or.inr ⟨_,_,rfl,rfl,(zaz (zai zmF ((zai zaU zac (zae).r)).r zac))⟩) zak)) rfl h⟩
abbrev zdz:Stmt:=top 9
theorem sc_common_factor:FnScope ["one","other","great","small","rest"] ["one","other"] (zar zdz):=⟨rfl,rfl,rfl,by decide +kernel,rfl,by decide +kernel,by decide +kernel⟩
theorem zgu {f:Addr} {fd:FuncData} (F:Fun K "common_factor" "common_factor" zdz f fd) (T:Txt K mg ad)  : FnOk P w K mg base CX0 1 f fd ["one","other"] (spM (KX K ad) (xoK (KX K ad)) zca):=by
  refine F.ok sc_common_factor (fun vs H Q E h=>za4 h) (fun cdv A outer s H vs Q E hr h=>?_)
  have hu:=zbD hr
  exact ⟨_,(zag (zaF (i:=2) sc_common_factor.nd rfl (by first | exact Or.inl rfl | exact Or.inr rfl) (zaw zfv (by rfl) T.abs boot_abs (zab (pv 0) zah)))
      (zag (zaF (i:=3) sc_common_factor.nd rfl (by first | exact Or.inl rfl | exact Or.inr rfl) (zaw zfv (by rfl) T.abs boot_abs (zab (pv 1) zah)))
      (zag (zgK PassesOwn.never (zaA zgy (pv 3) zaf (zaQ _))
      (zag (zaF (i:=4) sc_common_factor.nd rfl (by first | exact Or.inl rfl | exact Or.inr rfl) (zav zba (pv 2) (pv 3)))
      (zag (zaF (i:=2) sc_common_factor.nd rfl (by first | exact Or.inl rfl | exact Or.inr rfl) (pv 3))
      (zan (zaF (i:=3) sc_common_factor.nd rfl (by first | exact Or.inl rfl | exact Or.inr rfl) (pv 4))))))
      (zan (zaB (pv 2)))))),zb4 (K:=(KX K ad)) (XO:=(xoK (KX K ad))) (E:=E) (np:=2) (nv:=3) (m:=zdu)
      (zaq (zaL (zbu zjs (zau zac zaD)) zas)
      (zaq (zaL (zbu zjs (zau zac zaD)) zas)
      (zaq (zgL (zaz (zai zgB zac (zae).r))
      (zaq (zaL (zai zbb zac zac) zas)
      (zaq (zaL zak zas)
      (zaL zak zas))))
      (zaG zak)))) rfl h⟩
abbrev zka:Stmt:=top 10
theorem sc_share:FnScope ["top","bottom","factor"] ["top","bottom"] (zar zka):=⟨rfl,rfl,rfl,by decide +kernel,rfl,by decide +kernel,by decide +kernel⟩
theorem znK {f:Addr} {fd:FuncData} (F:Fun K "share" "share" zka f fd) (T:Txt K mg ad) (G_common_factor:Has P w K mg base CX0 1 "common_factor" ["one","other"] (spM (KX K ad) (xoK (KX K ad)) zca)):FnOk P w K mg base (CX1 P w) 2 f fd ["top","bottom"] (spM (KX K ad) (xoK (KX K ad)) zc8):=by
  refine F.ok1 sc_share (fun vs H Q E h=>za4 h) (fun cdv A outer s H vs Q E hr h=>?_)
  have hu:=zbD hr
  exact ⟨_,(zag (zbl (zaA zdS (pv 1) zaf (zaQ _))
      (zan (zgD rfl (by rfl) T.m_NoShare T.e_NoShare PySem.F.excBase_ValueError (by decide +kernel) PySem.F.excBase_ValueError zny (zab zcL zah)))
      zaK)
      (zag (zaF (i:=2) sc_share.nd rfl (by first | exact Or.inl rfl | exact Or.inr rfl) (zaP G_common_factor (hr.mono (by decide)) (by rfl) zbi (zab (pv 0) (zab (pv 1) zah))))
      (zag (zbl (zaA zha (pv 1) zaf (zaQ _))
      (zan (zaF (i:=2) sc_share.nd rfl (by first | exact Or.inl rfl | exact Or.inr rfl) (zpp znR (pv 2))))
      zaK)
      (zan (zaB (zcF (zab (zav zbh (pv 0) (pv 2)) (zab (zav zbh (pv 1) (pv 2)) zah)))))))),zb4 (K:=(KX K ad)) (XO:=(xoK (KX K ad))) (E:=E) (np:=2) (nv:=1) (m:=zkf)
      (zaq (zbk (zaz (zai zdR zac (zae).r))
      (zgI (c:=1) rfl (by decide) (zad zcK zao))
      zaJ)
      (zaq (zaL (zax (zad zak (zad zak zao))) zas)
      (zaq (zbk (zaz (zai zhn zac (zae).r))
      (zaL (zpm znQ zac) zas)
      zaJ)
      (zaG (zcD (zad (zai zb7 zac zac) (zad (zai zb7 zac zac) zao))))))) rfl h⟩
abbrev zhk:Stmt:=top 27
theorem zlu:FnScope ["thing"] ["thing"] (zar zhk):=⟨rfl,rfl,rfl,by decide +kernel,rfl,by decide +kernel,by decide +kernel⟩
theorem zk9 {f:Addr} {fd:FuncData} (F:Fun K "rate_of" "rate_of" zhk f fd) (T:Txt K mg ad) (G_share:Has P w K mg base (CX1 P w) 2 "share" ["top","bottom"] (spM (KX K ad) (xoK (KX K ad)) zc8)):FnOk P w K mg base (CX1 P w) 3 f fd ["thing"] (spM (KX K ad) (xoK (KX K ad)) zcY):=by
  refine F.ok1 zlu (fun vs H Q E h=>za4 h) (fun cdv A outer s H vs Q E hr h=>?_)
  have hu:=zbD hr
  exact ⟨_,(zan (zaB (zbM G_share (hr.mono (by decide)) (by rfl) zeo (zab (zaI zaT (pv 0) zaf (fun _ _=>rfl)) (zab (zaI zaT (pv 0) zaf (fun _ _=>rfl)) zah))))),zb4 (K:=(KX K ad)) (XO:=(xoK (KX K ad))) (E:=E) (np:=1) (nv:=0) (m:=zjr)
      (zaG (zbt (zad (zai zaU zac (zae).r) (zad (zai zaU zac (zae).r) zao)))) rfl h⟩
abbrev zmU:Stmt:=top 14
theorem zok:FnScope ["one","other"] ["one","other"] (zar zmU):=⟨rfl,rfl,rfl,by decide +kernel,rfl,by decide +kernel,by decide +kernel⟩
theorem zoB {f:Addr} {fd:FuncData} (F:Fun K "less" "less" zmU f fd) (T:Txt K mg ad)  : FnOk P w K mg base CX0 1 f fd ["one","other"] (spM (KX K ad) (xoK (KX K ad)) zc4):=by
  refine F.ok zok (fun vs H Q E h=>za4 h) (fun cdv A outer s H vs Q E hr h=>?_)
  have hu:=zbD hr
  exact ⟨_,(zan (zaB (ziE zha (zav zbc (zaI zaT (pv 0) zaf (fun _ _=>rfl)) (zaI zaT (pv 1) zaf (fun _ _=>rfl))) (zav zbc (zaI zaT (pv 1) zaf (fun _ _=>rfl)) (zaI zaT (pv 0) zaf (fun _ _=>rfl))) (zaQ _)))),zb4 (K:=(KX K ad)) (XO:=(xoK (KX K ad))) (E:=E) (np:=2) (nv:=0) (m:=zmr)
      (zaG (zai zhn ((zai zby ((zai zaU zac (zae).r)).r ((zai zaU zac (zae).r)).r)).r ((zai zby ((zai zaU zac (zae).r)).r ((zai zaU zac (zae).r)).r)).r)) rfl h⟩
abbrev zgU:Stmt:=top 28
theorem sc_by_rate:FnScope ["room","things","order","number","spot"] ["room","things"] (zar zgU):=⟨rfl,rfl,rfl,by decide +kernel,rfl,by decide +kernel,by decide +kernel⟩
theorem zk2 {f:Addr} {fd:FuncData} (F:Fun K "by_rate" "by_rate" zgU f fd) (T:Txt K mg ad) (G_fitting_alone:Has P w K mg base CX0 1 "fitting_alone" ["room","things"] (spO (KX K ad) (xoK (KX K ad)) zbj)) (G_rate_of:Has P w K mg base (CX1 P w) 3 "rate_of" ["thing"] (spM (KX K ad) (xoK (KX K ad)) zcY)) (G_less:Has P w K mg base CX0 1 "less" ["one","other"] (spM (KX K ad) (xoK (KX K ad)) zc4)):FnOk P w K mg base (CX1 P w) 4 f fd ["room","things"] (spO (KX K ad) (xoK (KX K ad)) zeJ):=by
  refine F.ok1 sc_by_rate (fun vs H Q E h=>zeO h) (fun cdv A outer s H vs Q E hr h=>?_)
  have hu:=zbD hr
  exact ⟨_,(zag (zaF (i:=2) sc_by_rate.nd rfl (by first | exact Or.inl rfl | exact Or.inr rfl) (zcn zah))
      (zag (zcM PassesOwn.leaving rfl (zbB (zaP G_fitting_alone (hr.mono (by decide)) (by rfl) zbi (zab (pv 0) (zab (pv 1) zah)))) (zaR (i:=3) sc_by_rate.nd rfl (by first | exact Or.inl rfl | exact Or.inr rfl))
      (zag (zaF (i:=4) sc_by_rate.nd rfl (by first | exact Or.inl rfl | exact Or.inr rfl) (zaw zaE (by rfl) T.len PySem.boot_len (zab (pv 2) zah)))
      (zag (zgK PassesOwn.leaving ((zkT (zaA zgy (pv 4) zaf (zaQ _)) (ziz (zdG (zaP G_less (hr.mono (by decide)) (by rfl) zbi (zab (zbM G_rate_of (hr.mono (by decide)) (by rfl) zeo (zab (zaI zaO (pv 1) (zaI zaO (pv 2) (zav zgR (pv 4) zaf) (fun _ _=>rfl)) (fun _ _=>rfl)) zah)) (zab (zbM G_rate_of (hr.mono (by decide)) (by rfl) zeo (zab (zaI zaO (pv 1) (pv 3) (fun _ _=>rfl)) zah)) zah))))))).pt
      (zan (znY (i:=4) sc_by_rate.nd rfl (by first | exact Or.inl rfl | exact Or.inr rfl) zaf zoa)))
      (zan (zds (zlw PySem.F.plainAttrs_list PySem.F.slot_list_insert PySem.F.type_list_insert zlS (pv 2) (zab (pv 4) (zab (pv 3) zah))))))))
      (zan (zaB (pv 2))))),zgb (K:=(KX K ad)) (XO:=(xoK (KX K ad))) (E:=E) (np:=2) (nv:=3) (m:=zjF)
      (zaq (zh3 (zbH zao))
      (zaq (zcN (zeL ((zck (zad zak (zad zak zao)))).e) zas
      (zaq (zaL (zbu zb2 (zau zac zaD)) zas)
      (zaq (zgL (zkZ (zaz (zai zgB zac (zae).r)) (st_b (zax (zad (zbt (zad (zai za7 zac ((zai za7 zac ((zai zg0 zac (zae).r)).r)).r) zao)) (zad (zbt (zad (zai za7 zac zac) zao)) zao)))))
      (zn1 zae))
      (zmz zak zak))))
      zml)) rfl h⟩
abbrev zix:Stmt:=top 29
theorem sc_taking:FnScope ["room","things","left","taken","passed","number"] ["room","things"] (zar zix):=⟨rfl,rfl,rfl,by decide +kernel,rfl,by decide +kernel,by decide +kernel⟩
theorem zmx {f:Addr} {fd:FuncData} (F:Fun K "taking" "taking" zix f fd) (T:Txt K mg ad) (G_by_rate:Has P w K mg base (CX1 P w) 4 "by_rate" ["room","things"] (spO (KX K ad) (xoK (KX K ad)) zeJ)):FnOk P w K mg base (CX1 P w) 5 f fd ["room","things"] (spM (KX K ad) (xoK (KX K ad)) zcp):=by
  refine F.ok1 sc_taking (fun vs H Q E h=>za4 h) (fun cdv A outer s H vs Q E hr h=>?_)
  have hu:=zbD hr
  exact ⟨_,(zag (zaF (i:=2) sc_taking.nd rfl (by first | exact Or.inl rfl | exact Or.inr rfl) (pv 0))
      (zag (zaF (i:=3) sc_taking.nd rfl (by first | exact Or.inl rfl | exact Or.inr rfl) (zcn zah))
      (zag (zaF (i:=4) sc_taking.nd rfl (by first | exact Or.inl rfl | exact Or.inr rfl) (zcn zah))
      (zag (zcM PassesOwn.leaving rfl (zbB (zbM G_by_rate (hr.mono (by decide)) (by rfl) zeo (zab (pv 0) (zab (pv 1) zah)))) (zaR (i:=5) sc_taking.nd rfl (by first | exact Or.inl rfl | exact Or.inr rfl))
      (zan (zbl (zaA zmE (zaI zaT (zaI zaO (pv 1) (pv 5) (fun _ _=>rfl)) zaf (fun _ _=>rfl)) (pv 2) (zaQ _))
      (zag (znY (i:=2) sc_taking.nd rfl (by first | exact Or.inl rfl | exact Or.inr rfl) (zaI zaT (zaI zaO (pv 1) (pv 5) (fun _ _=>rfl)) zaf (fun _ _=>rfl)) zoa)
      (zan (zds (zlw PySem.F.plainAttrs_list PySem.F.slot_list_append PySem.F.type_list_append zd0 (pv 3) (zab (pv 5) zah)))))
      (zan (zds (zlw PySem.F.plainAttrs_list PySem.F.slot_list_append PySem.F.type_list_append zd0 (pv 4) (zab (pv 5) zah)))))))
      (zan (zaB (zcF (zab (pv 3) (zab (pv 4) zah))))))))),zb4 (K:=(KX K ad)) (XO:=(xoK (KX K ad))) (E:=E) (np:=2) (nv:=4) (m:=zkv)
      (zaq (zaL zak zas)
      (zaq (zh3 (zbH zao))
      (zaq (zh3 (zbH zao))
      (zaq (zcN (zeL ((zlU (zad zak (zad zak zao)))).e) zas
      (zbk (zaz (zai zmF ((zai zaU ((zai za7 zac zac)).r (zae).r)).r zac))
      (zaq (zn1 (zai zaU ((zai za7 zac zac)).r (zae).r))
      (zeq zak))
      (zeq zak)))
      (znW (i:=3) (znW (i:=4) (zaG (zcD (zad zak (zad zak zao)))))))))) rfl h⟩
abbrev zea:Stmt:=top 30
theorem sc_by_weight:FnScope ["room","things","taken","worth","single","number"] ["room","things"] (zar zea):=⟨rfl,rfl,rfl,by decide +kernel,rfl,by decide +kernel,by decide +kernel⟩
theorem zjH {f:Addr} {fd:FuncData} (F:Fun K "by_weight" "by_weight" zea f fd) (T:Txt K mg ad) (G_fitting_alone:Has P w K mg base CX0 1 "fitting_alone" ["room","things"] (spO (KX K ad) (xoK (KX K ad)) zbj)) (G_taking:Has P w K mg base (CX1 P w) 5 "taking" ["room","things"] (spM (KX K ad) (xoK (KX K ad)) zcp)):FnOk P w K mg base (CX1 P w) 6 f fd ["room","things"] (spO (KX K ad) (xoK (KX K ad)) zcv):=by
  refine F.ok1 sc_by_weight (fun vs H Q E h=>zeO h) (fun cdv A outer s H vs Q E hr h=>?_)
  have hu:=zbD hr
  exact ⟨_,(zag (zaF (i:=2) sc_by_weight.nd rfl (by first | exact Or.inl rfl | exact Or.inr rfl) (zaI zaT (zbM G_taking (hr.mono (by decide)) (by rfl) zeo (zab (pv 0) (zab (pv 1) zah))) zaf (fun _ _=>rfl)))
      (zag (zaF (i:=3) sc_by_weight.nd rfl (by first | exact Or.inl rfl | exact Or.inr rfl) (zaw (zcg rfl) (by rfl) T.sum boot_sum (zab (zbL rfl (zbB (pv 2)) (zci (zar zea) ["room","things","taken","worth","single","number"] ["things","number"] [1] 1 rfl rfl rfl (by decide +kernel) (by decide +kernel) (by decide +kernel) rfl (by decide +kernel) (fun cl C s H fp pins=>(zaR (i:=1) (show List.Nodup (["things","number"]:List Str) by decide +kernel) rfl (Or.inl rfl))) (fun cl C s H fp pins=>(zaI zaT (zaI zaO (pv 0) (pv 1) (fun _ _=>rfl)) zaf (fun _ _=>rfl))) (Or.inl ⟨rfl,rfl⟩))) zah)))
      (zag (zaF (i:=4) sc_by_weight.nd rfl (by first | exact Or.inl rfl | exact Or.inr rfl) zdD)
      (zag (zcM PassesOwn.leaving rfl (zbB (zaP G_fitting_alone (hr.mono (by decide)) (by rfl) zbi (zab (pv 0) (zab (pv 1) zah)))) (zaR (i:=5) sc_by_weight.nd rfl (by first | exact Or.inl rfl | exact Or.inr rfl))
      (zan (zbl (zaA zgy (zaI zaT (zaI zaO (pv 1) (pv 5) (fun _ _=>rfl)) zaf (fun _ _=>rfl)) (pv 3) (zaQ _))
      (zag (zaF (i:=4) sc_by_weight.nd rfl (by first | exact Or.inl rfl | exact Or.inr rfl) (pv 5))
      (zan (zaF (i:=3) sc_by_weight.nd rfl (by first | exact Or.inl rfl | exact Or.inr rfl) (zaI zaT (zaI zaO (pv 1) (pv 5) (fun _ _=>rfl)) zaf (fun _ _=>rfl)))))
      zaK)))
      (zag (zbl (zaA zjC (pv 4) zdD (zaQ _))
      (zan (zaB (zaw zjX (by rfl) T.sorted boot_sorted (zab (pv 2) zah))))
      zaK)
      (zan (zaB (zcn (zab (pv 4) zah))))))))),zgb (K:=(KX K ad)) (XO:=(xoK (KX K ad))) (E:=E) (np:=2) (nv:=4) (m:=zgO)
      (zaq (zaL (zai zaU ((zbt (zad zak (zad zak zao)))).r (zae).r) zas)
      (zaq (zaL (zbu zhS (zau ((zbm (zbS zac) (by decide) zbe zbq (Or.inl ⟨rfl,rfl⟩) (zai zaU ((zai za7 zac zac)).r (zae).r))).e.r zaD)) zas)
      (zaq (zaL zdx zas)
      (zaq (zcN (zeL ((zck (zad zak (zad zak zao)))).e) zas
      (zbk (zaz (zai zgB ((zai zaU ((zai za7 zac zac)).r (zae).r)).r zac))
      (zaq (zaL zak zas)
      (zaL (zai zaU ((zai za7 zac zac)).r (zae).r) zas))
      zaJ))
      (zaq (zbk (zaz (zai zmV zac (zdx).r))
      (zfb (zgX zl8 (zau zac zaD)))
      zaJ)
      (zfb (zbH (zad zak zao)))))))) rfl h⟩
abbrev zfY:Stmt:=top 31
theorem sc_weighing:FnScope ["room","things","passed"] ["room","things"] (zar zfY):=⟨rfl,rfl,rfl,by decide +kernel,rfl,by decide +kernel,by decide +kernel⟩
theorem zkd {f:Addr} {fd:FuncData} (F:Fun K "weighing" "weighing" zfY f fd) (T:Txt K mg ad) (G_rate_of:Has P w K mg base (CX1 P w) 3 "rate_of" ["thing"] (spM (KX K ad) (xoK (KX K ad)) zcY)) (G_taking:Has P w K mg base (CX1 P w) 5 "taking" ["room","things"] (spM (KX K ad) (xoK (KX K ad)) zcp)):FnOk P w K mg base (CX1 P w) 6 f fd ["room","things"] (spM (KX K ad) (xoK (KX K ad)) zdn):=by
  refine F.ok1 sc_weighing (fun vs H Q E h=>za4 h) (fun cdv A outer s H vs Q E hr h=>?_)
  have hu:=zbD hr
  exact ⟨_,(zag (zaF (i:=2) sc_weighing.nd rfl (by first | exact Or.inl rfl | exact Or.inr rfl) (zaI zaT (zbM G_taking (hr.mono (by decide)) (by rfl) zeo (zab (pv 0) (zab (pv 1) zah))) zaf (fun _ _=>rfl)))
      (zag (zbl (zaA zdS (zaw zaE (by rfl) T.len PySem.boot_len (zab (pv 2) zah)) zaf (zaQ _))
      (zan (zaB (zcF (zab zaf (zab zaf zah)))))
      zaK)
      (zan (zaB (zbM G_rate_of (hr.mono (by decide)) (by rfl) zeo (zab (zaI zaO (pv 1) (zaI zaO (pv 2) zaf (fun _ _=>rfl)) (fun _ _=>rfl)) zah)))))),zb4 (K:=(KX K ad)) (XO:=(xoK (KX K ad))) (E:=E) (np:=2) (nv:=1) (m:=zh6)
      (zaq (zaL (zai zaU ((zbt (zad zak (zad zak zao)))).r (zae).r) zas)
      (zaq (zbk (zaz (zai zdR ((zbu zb2 (zau zac zaD))).r (zae).r))
      (zaG (zcD (zad zae (zad zae zao))))
      zaJ)
      (zaG (zbt (zad (zai za7 zac ((zai za7 zac (zae).r)).r) zao))))) rfl h⟩
abbrev zd6:Stmt:=top 50
theorem sc_law_changed:FnScope ["_law_some","_law_number_here","_law_size","_law_at","_law_other"] ["_law_some","_law_number_here","_law_size"] (zar zd6):=⟨rfl,rfl,rfl,by decide +kernel,rfl,by decide +kernel,by decide +kernel⟩
theorem zhH {f:Addr} {fd:FuncData} (F:Fun K "_law_changed" "_law_changed" zd6 f fd) (T:Txt K mg ad)  : FnOk P w K mg base CX0 1 f fd ["_law_some","_law_number_here","_law_size"] (spM (KX K ad) (xoK (KX K ad)) zbd):=by
  refine F.ok sc_law_changed (fun vs H Q E h=>za4 h) (fun cdv A outer s H vs Q E hr h=>?_)
  have hu:=zbD hr
  exact ⟨_,(zag (zaF (i:=3) sc_law_changed.nd rfl (by first | exact Or.inl rfl | exact Or.inr rfl) (zav zba (zav zbh (pv 1) zaf) (zav zbp (zaw zaE (by rfl) T.len PySem.boot_len (zab (pv 0) zah)) zaf)))
      (zag (zaF (i:=4) sc_law_changed.nd rfl (by first | exact Or.inl rfl | exact Or.inr rfl) (zaI zaO (zcn (zab (pv 2) (zab (zpp znR zaf) (zab (zav zba (zav zbh (pv 1) zaf) (pv 2)) (zab zaf zah))))) (zav zba (zav zbh (pv 1) zaf) zaf) (fun _ _=>rfl)))
      (zag (zbl ((zkT (zaA zdS (zav zba (zav zbh (pv 1) zaf) zaf) zaf (zaQ _)) (ziz (zaA (zkC hr.units) (pv 0) (zcn zah) (zaQ _))))).pt
      (zan (zaF (i:=4) sc_law_changed.nd rfl (by first | exact Or.inl rfl | exact Or.inr rfl) (zaI zaO (pv 0) (zav zba (zav zbh (pv 1) zaf) (zaw zaE (by rfl) T.len PySem.boot_len (zab (pv 0) zah))) (fun _ _=>rfl))))
      zaK)
      (zag (zbl (zaA zdS (zav zba (pv 1) zaf) zaf (zaQ _))
      (zan (zaB (zav zgM (zav zgM (zcB zdp (pv 0) zdV (zdb (pv 3))) (zcn (zab (pv 4) zah))) (zcB zdp (pv 0) (zdb (pv 3)) zdV))))
      zaK)
      (zag (zbl (zaA zdS (zav zba (pv 1) zaf) zaf (zaQ _))
      (zan (zaB (zav zgM (zcB zdp (pv 0) zdV (zdb (pv 3))) (zcB zdp (pv 0) (zdb (zav zbp (pv 3) zaf)) zdV))))
      zaK)
      (zag (zbl (zaA zha (zav zba (pv 1) zaf) zaf (zaQ _))
      (zan (zaB (zav zgM (zav zgM (zcB zdp (pv 0) zdV (zdb (pv 3))) (zcn (zab (pv 4) zah))) (zcB zdp (pv 0) (zdb (zav zbp (pv 3) zaf)) zdV))))
      zaK)
      (zan (zaB (zaI zaO (zcn (zab (pv 0) (zab (zli rfl (by rfl) T.list (by rfl) T.reversed (pv 0)) zah))) (zav zba (zav zbh (pv 1) zaf) zaf) (fun _ _=>rfl)))))))))),zb4 (K:=(KX K ad)) (XO:=(xoK (KX K ad))) (E:=E) (np:=3) (nv:=2) (m:=zfM)
      (zaq (zaL (zai zbb ((zai zb7 zac (zae).r)).r ((zai zbo ((zbu zb2 (zau zac zaD))).r (zae).r)).r) zas)
      (zaq (zaL (zai za7 ((zbH (zad zak (zad (zpm znQ (zae).r) (zad (zai zbb ((zai zb7 zac (zae).r)).r zac) (zad zae zao)))))).e.r ((zai zbb ((zai zb7 zac (zae).r)).r (zae).r)).r) zas)
      (zaq (zbk (zkZ (zaz (zai zdR ((zai zbb ((zai zb7 zac (zae).r)).r (zae).r)).r (zae).r)) (zaz (zai zkz zac ((zbH zao)).e.r)))
      (zaL (zai za7 zac ((zai zbb ((zai zb7 zac (zae).r)).r ((zbu zb2 (zau zac zaD))).r)).r) zas)
      zaJ)
      (zaq (zbk (zaz (zai zdR ((zai zbb zac (zae).r)).r (zae).r))
      (zaG ((zjt zjE ((zjt zjE ((zcc zac zhN (zc9 zak))).e.r ((zbH (zad zak zao))).e.r)).e.r ((zcc zac (zc9 zak) zhN)).e.r)).e)
      zaJ)
      (zaq (zbk (zaz (zai zdR ((zai zbb zac (zae).r)).r (zae).r))
      (zaG ((zjt zjE ((zcc zac zhN (zc9 zak))).e.r ((zcc zac (zc9 (zai zbo zac (zae).r)) zhN)).e.r)).e)
      zaJ)
      (zaq (zbk (zaz (zai zhn ((zai zbb zac (zae).r)).r (zae).r))
      (zaG ((zjt zjE ((zjt zjE ((zcc zac zhN (zc9 zak))).e.r ((zbH (zad zak zao))).e.r)).e.r ((zcc zac (zc9 (zai zbo zac (zae).r)) zhN)).e.r)).e)
      zaJ)
      (zaG (zai za7 ((zbH (zad zak (zad ((zjM zac)).e zao)))).e.r ((zai zbb ((zai zb7 zac (zae).r)).r (zae).r)).r)))))))) rfl h⟩
abbrev zei:Stmt:=top 42
theorem sc_law_divisor:FnScope ["_law_one","_law_other"] ["_law_one","_law_other"] (zar zei):=⟨rfl,rfl,rfl,by decide +kernel,rfl,by decide +kernel,by decide +kernel⟩
theorem zhD {f:Addr} {fd:FuncData} (F:Fun K "_law_divisor" "_law_divisor" zei f fd) (T:Txt K mg ad)  : FnOk P w K mg base CX0 1 f fd ["_law_one","_law_other"] (spM (KX K ad) (xoK (KX K ad)) zch):=by
  refine F.ok sc_law_divisor (fun vs H Q E h=>za4 h) (fun cdv A outer s H vs Q E hr h=>?_)
  have hu:=zbD hr
  exact ⟨_,(zag (zgK PassesOwn.never (zaA zgy (pv 1) zaf (zaQ _))
      (zan (zlN (i:=0) (j:=1) rfl sc_law_divisor.nd rfl rfl (by decide) rfl rfl (zab (pv 1) (zab (zav zba (pv 0) (pv 1)) zah)) rfl)))
      (zan (zaB (pv 0)))),zb4 (K:=(KX K ad)) (XO:=(xoK (KX K ad))) (E:=E) (np:=2) (nv:=0) (m:=zfG)
      (zaq (zgL (zaz (zai zgB zac (zae).r))
      (zm8 (zad zak (zad (zai zbb zac zac) zao))))
      (zaG zak)) rfl h⟩
abbrev zgP:Stmt:=top 43
theorem sc_law_sum:FnScope ["_law_parts","_law_top","_law_bottom","_law_one","_law_under","_law_by"] ["_law_parts"] (zar zgP):=⟨rfl,rfl,rfl,by decide +kernel,rfl,by decide +kernel,by decide +kernel⟩
theorem zlc {f:Addr} {fd:FuncData} (F:Fun K "_law_sum" "_law_sum" zgP f fd) (T:Txt K mg ad) (G_law_divisor:Has P w K mg base CX0 1 "_law_divisor" ["_law_one","_law_other"] (spM (KX K ad) (xoK (KX K ad)) zch)):FnOk P w K mg base CX0 2 f fd ["_law_parts"] (spM (KX K ad) (xoK (KX K ad)) zbN):=by
  refine F.ok sc_law_sum (fun vs H Q E h=>za4 h) (fun cdv A outer s H vs Q E hr h=>?_)
  have hu:=zbD hr
  exact ⟨_,(zag (zjc (zcF (zab zaf (zab zaf zah))) (zgZ rfl (zb6 (zaR (i:=1) sc_law_sum.nd rfl (by first | exact Or.inl rfl | exact Or.inr rfl)) (zb6 (zaR (i:=2) sc_law_sum.nd rfl (by first | exact Or.inl rfl | exact Or.inr rfl)) zfj))))
      (zag (zcM PassesOwn.never rfl (zbB (pv 0)) (zgZ rfl (zb6 (zaR (i:=3) sc_law_sum.nd rfl (by first | exact Or.inl rfl | exact Or.inr rfl)) (zb6 (zaR (i:=4) sc_law_sum.nd rfl (by first | exact Or.inl rfl | exact Or.inr rfl)) zfj)))
      (zag (zlN (i:=1) (j:=2) rfl sc_law_sum.nd rfl rfl (by decide) rfl rfl (zab (zav zbp (zav zbc (pv 1) (pv 4)) (zav zbc (pv 3) (pv 2))) (zab (zav zbc (pv 2) (pv 4)) zah)) rfl)
      (zag (zaF (i:=5) sc_law_sum.nd rfl (by first | exact Or.inl rfl | exact Or.inr rfl) (zaP G_law_divisor (hr.mono (by decide)) (by rfl) zbi (zab (zaw zfv (by rfl) T.abs boot_abs (zab (pv 1) zah)) (zab (pv 2) zah))))
      (zan (zlN (i:=1) (j:=2) rfl sc_law_sum.nd rfl rfl (by decide) rfl rfl (zab (zav zbh (pv 1) (pv 5)) (zab (zav zbh (pv 2) (pv 5)) zah)) rfl)))))
      (zan (zaB (zcF (zab (pv 1) (zab (pv 2) zah))))))),zb4 (K:=(KX K ad)) (XO:=(xoK (KX K ad))) (E:=E) (np:=1) (nv:=5) (m:=zi5)
      (zaq (zaL (zcD (zad zae (zad zae zao))) (zgN (zb5 zas (zb5 zas zfn))))
      (zaq (zcN (zeL zak) (zgN (zb5 zas (zb5 zas zfn)))
      (zaq (zm8 (zad (zai zbo ((zai zby zac zac)).r ((zai zby zac zac)).r) (zad (zai zby zac zac) zao)))
      (zaq (zaL (zax (zad (zbu zjs (zau zac zaD)) (zad zak zao))) zas)
      (zm8 (zad (zai zb7 zac zac) (zad (zai zb7 zac zac) zao))))))
      (zaG (zcD (zad zak (zad zak zao)))))) rfl h⟩
abbrev zcs:Stmt:=top 51
theorem sc_law_price_changed:FnScope ["_law_price","_law_number_here","_law_things","_law_way","_law_step"] ["_law_price","_law_number_here","_law_things"] (zar zcs):=⟨rfl,rfl,rfl,by decide +kernel,rfl,by decide +kernel,by decide +kernel⟩
theorem zeY {f:Addr} {fd:FuncData} (F:Fun K "_law_price_changed" "_law_price_changed" zcs f fd) (T:Txt K mg ad) (G_law_sum:Has P w K mg base CX0 2 "_law_sum" ["_law_parts"] (spM (KX K ad) (xoK (KX K ad)) zbN)):FnOk P w K mg base CX0 3 f fd ["_law_price","_law_number_here","_law_things"] (spM (KX K ad) (xoK (KX K ad)) za1):=by
  refine F.ok sc_law_price_changed (fun vs H Q E h=>za4 h) (fun cdv A outer s H vs Q E hr h=>?_)
  have hu:=zbD hr
  exact ⟨_,(zag (zaF (i:=3) sc_law_price_changed.nd rfl (by first | exact Or.inl rfl | exact Or.inr rfl) (zav zba (pv 1) zaf))
      (zag (zaF (i:=4) sc_law_price_changed.nd rfl (by first | exact Or.inl rfl | exact Or.inr rfl) (zcF (zab (zav zbp zaf (zav zba (zav zbh (pv 1) zaf) zaf)) (zab (zav zbp zaf (zav zba (zav zbh (pv 1) zaf) zaf)) zah))))
      (zag (zbl (zaA zdS (pv 3) zaf (zaQ _))
      (zan (zaB (zaP G_law_sum (hr.mono (by decide)) (by rfl) zbi (zab (zcn (zab (pv 0) (zab (pv 4) zah))) zah))))
      zaK)
      (zag (zbl (zaA zdS (pv 3) zaf (zaQ _))
      (zan (zaB (zaP G_law_sum (hr.mono (by decide)) (by rfl) zbi (zab (zcn (zab (pv 0) (zab (zcF (zab (zav zgR zaf (zaI zaT (pv 4) zaf (fun _ _=>rfl))) (zab (zaI zaT (pv 4) zaf (fun _ _=>rfl)) zah))) zah))) zah))))
      zaK)
      (zag (zbl (zaA zdS (pv 3) zaf (zaQ _))
      (zan (zaB (zcF (zab zaf (zab zaf zah)))))
      zaK)
      (zag (zbl ((zkT (zaA zdS (pv 3) zaf (zaQ _)) (ziz (zaA (zkC hr.units) (pv 2) (zcn zah) (zaQ _))))).pt
      (zan (zaB (zaP G_law_sum (hr.mono (by decide)) (by rfl) zbi (zab (zcn (zab (zaI zaO (pv 2) (zav zba (zav zbh (pv 1) zaf) (zaw zaE (by rfl) T.len PySem.boot_len (zab (pv 2) zah))) (fun _ _=>rfl)) zah)) zah))))
      zaK)
      (zan (zaB (pv 0))))))))),zb4 (K:=(KX K ad)) (XO:=(xoK (KX K ad))) (E:=E) (np:=3) (nv:=2) (m:=zdw)
      (zaq (zaL (zai zbb zac (zae).r) zas)
      (zaq (zaL (zcD (zad (zai zbo (zae).r ((zai zbb ((zai zb7 zac (zae).r)).r (zae).r)).r) (zad (zai zbo (zae).r ((zai zbb ((zai zb7 zac (zae).r)).r (zae).r)).r) zao))) zas)
      (zaq (zbk (zaz (zai zdR zac (zae).r))
      (zaG (zax (zad ((zbH (zad zak (zad zak zao)))).e zao)))
      zaJ)
      (zaq (zbk (zaz (zai zdR zac (zae).r))
      (zaG (zax (zad ((zbH (zad zak (zad (zcD (zad (zai zg0 (zae).r ((zai zaU zac (zae).r)).r) (zad (zai zaU zac (zae).r) zao))) zao)))).e zao)))
      zaJ)
      (zaq (zbk (zaz (zai zdR zac (zae).r))
      (zaG (zcD (zad zae (zad zae zao))))
      zaJ)
      (zaq (zbk (zkZ (zaz (zai zdR zac (zae).r)) (zaz (zai zkz zac ((zbH zao)).e.r)))
      (zaG (zax (zad ((zbH (zad (zai za7 zac ((zai zbb ((zai zb7 zac (zae).r)).r ((zbu zb2 (zau zac zaD))).r)).r) zao))).e zao)))
      zaJ)
      (zaG zak))))))) rfl h⟩
abbrev zd4:Stmt:=top 34
theorem zjD:FnScope ["numbers","count"] ["numbers","count"] (zar zd4):=⟨rfl,rfl,rfl,by decide +kernel,rfl,by decide +kernel,by decide +kernel⟩
theorem ziT {f:Addr} {fd:FuncData} (F:Fun K "all_below" "all_below" zd4 f fd) (T:Txt K mg ad)  : FnOk P w K mg base CX0 1 f fd ["numbers","count"] (spM (KX K ad) (xoK (KX K ad)) zcS):=by
  refine F.ok zjD (fun vs H Q E h=>za4 h) (fun cdv A outer s H vs Q E hr h=>?_)
  have hu:=zbD hr
  exact ⟨_,(zan (zaB (zaw (zm1 rfl) (by rfl) T.all boot_all (zab (zbL rfl (zbB (pv 0)) (zci (zar zd4) ["numbers","count"] ["count","number"] [1] 1 rfl rfl rfl (by decide +kernel) (by decide +kernel) (by decide +kernel) rfl (by decide +kernel) (fun cl C s H fp pins=>(zaR (i:=1) (show List.Nodup (["count","number"]:List Str) by decide +kernel) rfl (Or.inl rfl))) (fun cl C s H fp pins=>(zno zmE zha zaf (pv 1) (pv 0))) (Or.inl ⟨rfl,rfl⟩))) zah)))),zb4 (K:=(KX K ad)) (XO:=(xoK (KX K ad))) (E:=E) (np:=2) (nv:=0) (m:=zhr)
      (zaG (zbu zoV (zau ((zbm (zbS zac) (by decide) zbe zbq (Or.inl ⟨rfl,rfl⟩) (znw zmF zhn (zae).r zac zac))).e.r zaD))) rfl h⟩
abbrev zdU:Stmt:=top 35
theorem zgW:FnScope ["numbers","count"] ["numbers","count"] (zar zdU):=⟨rfl,rfl,rfl,by decide +kernel,rfl,by decide +kernel,by decide +kernel⟩
theorem zg5 {f:Addr} {fd:FuncData} (F:Fun K "unlike_below" "unlike_below" zdU f fd) (T:Txt K mg ad) (G_all_below:Has P w K mg base CX0 1 "all_below" ["numbers","count"] (spM (KX K ad) (xoK (KX K ad)) zcS)):FnOk P w K mg base CX0 2 f fd ["numbers","count"] (spM (KX K ad) (xoK (KX K ad)) zaX):=by
  refine F.ok zgW (fun vs H Q E h=>za4 h) (fun cdv A outer s H vs Q E hr h=>?_)
  have hu:=zbD hr
  exact ⟨_,(zan (zaB (zkD (zaP G_all_below (hr.mono (by decide)) (by rfl) zbi (zab (pv 0) (zab (pv 1) zah))) (zkr (ziE zdS (zaw zlX (by rfl) T.len PySem.boot_len (zab (zdH (zm7 rfl) (by rfl) T.set boot_set (zab (pv 0) zah)) zah)) (zaw zaE (by rfl) T.len PySem.boot_len (zab (pv 0) zah)) (zaQ _)))))),zb4 (K:=(KX K ad)) (XO:=(xoK (KX K ad))) (E:=E) (np:=2) (nv:=0) (m:=ze4)
      (zaG (zko (zax (zad zak (zad zak zao))) (zai zdR ((zma (zau zac zaD))).r ((zbu zb2 (zau zac zaD))).r))) rfl h⟩
abbrev zj3:Stmt:=top 13
theorem znh:FnScope ["one","other"] ["one","other"] (zar zj3):=⟨rfl,rfl,rfl,by decide +kernel,rfl,by decide +kernel,by decide +kernel⟩
theorem znl {f:Addr} {fd:FuncData} (F:Fun K "times" "times" zj3 f fd) (T:Txt K mg ad) (G_share:Has P w K mg base (CX1 P w) 2 "share" ["top","bottom"] (spM (KX K ad) (xoK (KX K ad)) zc8)):FnOk P w K mg base (CX1 P w) 3 f fd ["one","other"] (spM (KX K ad) (xoK (KX K ad)) zeN):=by
  refine F.ok1 znh (fun vs H Q E h=>za4 h) (fun cdv A outer s H vs Q E hr h=>?_)
  have hu:=zbD hr
  exact ⟨_,(zan (zaB (zbM G_share (hr.mono (by decide)) (by rfl) zeo (zab (zav zbc (zaI zaT (pv 0) zaf (fun _ _=>rfl)) (zaI zaT (pv 1) zaf (fun _ _=>rfl))) (zab (zav zbc (zaI zaT (pv 0) zaf (fun _ _=>rfl)) (zaI zaT (pv 1) zaf (fun _ _=>rfl))) zah))))),zb4 (K:=(KX K ad)) (XO:=(xoK (KX K ad))) (E:=E) (np:=2) (nv:=0) (m:=zm5)
      (zaG (zbt (zad (zai zby ((zai zaU zac (zae).r)).r ((zai zaU zac (zae).r)).r) (zad (zai zby ((zai zaU zac (zae).r)).r ((zai zaU zac (zae).r)).r) zao)))) rfl h⟩
abbrev zjK:Stmt:=top 12
theorem znb:FnScope ["one","other"] ["one","other"] (zar zjK):=⟨rfl,rfl,rfl,by decide +kernel,rfl,by decide +kernel,by decide +kernel⟩
theorem znM {f:Addr} {fd:FuncData} (F:Fun K "minus" "minus" zjK f fd) (T:Txt K mg ad) (G_share:Has P w K mg base (CX1 P w) 2 "share" ["top","bottom"] (spM (KX K ad) (xoK (KX K ad)) zc8)):FnOk P w K mg base (CX1 P w) 3 f fd ["one","other"] (spM (KX K ad) (xoK (KX K ad)) zfU):=by
  refine F.ok1 znb (fun vs H Q E h=>za4 h) (fun cdv A outer s H vs Q E hr h=>?_)
  have hu:=zbD hr
  exact ⟨_,(zan (zaB (zbM G_share (hr.mono (by decide)) (by rfl) zeo (zab (zav zgR (zav zbc (zaI zaT (pv 0) zaf (fun _ _=>rfl)) (zaI zaT (pv 1) zaf (fun _ _=>rfl))) (zav zbc (zaI zaT (pv 1) zaf (fun _ _=>rfl)) (zaI zaT (pv 0) zaf (fun _ _=>rfl)))) (zab (zav zbc (zaI zaT (pv 0) zaf (fun _ _=>rfl)) (zaI zaT (pv 1) zaf (fun _ _=>rfl))) zah))))),zb4 (K:=(KX K ad)) (XO:=(xoK (KX K ad))) (E:=E) (np:=2) (nv:=0) (m:=zmo)
      (zaG (zbt (zad (zai zg0 ((zai zby ((zai zaU zac (zae).r)).r ((zai zaU zac (zae).r)).r)).r ((zai zby ((zai zaU zac (zae).r)).r ((zai zaU zac (zae).r)).r)).r) (zad (zai zby ((zai zaU zac (zae).r)).r ((zai zaU zac (zae).r)).r) zao)))) rfl h⟩
abbrev zmY:Stmt:=top 11
theorem zod:FnScope ["one","other"] ["one","other"] (zar zmY):=⟨rfl,rfl,rfl,by decide +kernel,rfl,by decide +kernel,by decide +kernel⟩
theorem zou {f:Addr} {fd:FuncData} (F:Fun K "plus" "plus" zmY f fd) (T:Txt K mg ad) (G_share:Has P w K mg base (CX1 P w) 2 "share" ["top","bottom"] (spM (KX K ad) (xoK (KX K ad)) zc8)):FnOk P w K mg base (CX1 P w) 3 f fd ["one","other"] (spM (KX K ad) (xoK (KX K ad)) zi1):=by
  refine F.ok1 zod (fun vs H Q E h=>za4 h) (fun cdv A outer s H vs Q E hr h=>?_)
  have hu:=zbD hr
  exact ⟨_,(zan (zaB (zbM G_share (hr.mono (by decide)) (by rfl) zeo (zab (zav zbp (zav zbc (zaI zaT (pv 0) zaf (fun _ _=>rfl)) (zaI zaT (pv 1) zaf (fun _ _=>rfl))) (zav zbc (zaI zaT (pv 1) zaf (fun _ _=>rfl)) (zaI zaT (pv 0) zaf (fun _ _=>rfl)))) (zab (zav zbc (zaI zaT (pv 0) zaf (fun _ _=>rfl)) (zaI zaT (pv 1) zaf (fun _ _=>rfl))) zah))))),zb4 (K:=(KX K ad)) (XO:=(xoK (KX K ad))) (E:=E) (np:=2) (nv:=0) (m:=znS)
      (zaG (zbt (zad (zai zbo ((zai zby ((zai zaU zac (zae).r)).r ((zai zaU zac (zae).r)).r)).r ((zai zby ((zai zaU zac (zae).r)).r ((zai zaU zac (zae).r)).r)).r) (zad (zai zby ((zai zaU zac (zae).r)).r ((zai zaU zac (zae).r)).r) zao)))) rfl h⟩
abbrev zfW:Stmt:=top 32
theorem sc_bound_of:FnScope ["room","things","price","bound","number","above"] ["room","things","price"] (zar zfW):=⟨rfl,rfl,rfl,by decide +kernel,rfl,by decide +kernel,by decide +kernel⟩
theorem zj4 {f:Addr} {fd:FuncData} (F:Fun K "bound_of" "bound_of" zfW f fd) (T:Txt K mg ad) (G_fitting_alone:Has P w K mg base CX0 1 "fitting_alone" ["room","things"] (spO (KX K ad) (xoK (KX K ad)) zbj)) (G_less:Has P w K mg base CX0 1 "less" ["one","other"] (spM (KX K ad) (xoK (KX K ad)) zc4)) (G_times:Has P w K mg base (CX1 P w) 3 "times" ["one","other"] (spM (KX K ad) (xoK (KX K ad)) zeN)) (G_minus:Has P w K mg base (CX1 P w) 3 "minus" ["one","other"] (spM (KX K ad) (xoK (KX K ad)) zfU)) (G_plus:Has P w K mg base (CX1 P w) 3 "plus" ["one","other"] (spM (KX K ad) (xoK (KX K ad)) zi1)):FnOk P w K mg base (CX1 P w) 4 f fd ["room","things","price"] (spM (KX K ad) (xoK (KX K ad)) zb3):=by
  refine F.ok1 sc_bound_of (fun vs H Q E h=>za4 h) (fun cdv A outer s H vs Q E hr h=>?_)
  have hu:=zbD hr
  exact ⟨_,(zag (zaF (i:=3) sc_bound_of.nd rfl (by first | exact Or.inl rfl | exact Or.inr rfl) (zbM G_times (hr.mono (by decide)) (by rfl) zeo (zab (pv 2) (zab (zcF (zab (pv 0) (zab zaf zah))) zah))))
      (zag (zcM PassesOwn.leaving rfl (zbB (zaP G_fitting_alone (hr.mono (by decide)) (by rfl) zbi (zab (pv 0) (zab (pv 1) zah)))) (zaR (i:=4) sc_bound_of.nd rfl (by first | exact Or.inl rfl | exact Or.inr rfl))
      (zag (zaF (i:=5) sc_bound_of.nd rfl (by first | exact Or.inl rfl | exact Or.inr rfl) (zbM G_minus (hr.mono (by decide)) (by rfl) zeo (zab (zcF (zab (zaI zaT (zaI zaO (pv 1) (pv 4) (fun _ _=>rfl)) zaf (fun _ _=>rfl)) (zab zaf zah))) (zab (zbM G_times (hr.mono (by decide)) (by rfl) zeo (zab (pv 2) (zab (zcF (zab (zaI zaT (zaI zaO (pv 1) (pv 4) (fun _ _=>rfl)) zaf (fun _ _=>rfl)) (zab zaf zah))) zah))) zah))))
      (zan (zbl (zdG (zaP G_less (hr.mono (by decide)) (by rfl) zbi (zab (zcF (zab zaf (zab zaf zah))) (zab (pv 5) zah))))
      (zan (zaF (i:=3) sc_bound_of.nd rfl (by first | exact Or.inl rfl | exact Or.inr rfl) (zbM G_plus (hr.mono (by decide)) (by rfl) zeo (zab (pv 3) (zab (pv 5) zah)))))
      zaK))))
      (zan (zaB (pv 3))))),zb4 (K:=(KX K ad)) (XO:=(xoK (KX K ad))) (E:=E) (np:=3) (nv:=3) (m:=zhT)
      (zaq (zaL (zbt (zad zak (zad (zcD (zad zak (zad zae zao))) zao))) zas)
      (zaq (zcN (zeL ((zck (zad zak (zad zak zao)))).e) zas
      (zaq (zaL (zbt (zad (zcD (zad (zai zaU ((zai za7 zac zac)).r (zae).r) (zad zae zao))) (zad (zbt (zad zak (zad (zcD (zad (zai zaU ((zai za7 zac zac)).r (zae).r) (zad zae zao))) zao))) zao))) zas)
      (zbk (st_b (zax (zad (zcD (zad zae (zad zae zao))) (zad zak zao))))
      (zaL (zbt (zad zak (zad zak zao))) zas)
      zaJ)))
      (zaG zak))) rfl h⟩
abbrev zc3:Stmt:=top 36
theorem sc_check_sack:FnScope ["room","things","taken","price","worth"] ["room","things","taken","price"] (zar zc3):=⟨rfl,rfl,rfl,by decide +kernel,rfl,by decide +kernel,by decide +kernel⟩
theorem ziH {f:Addr} {fd:FuncData} (F:Fun K "check_sack" "check_sack" zc3 f fd) (T:Txt K mg ad) (G_less:Has P w K mg base CX0 1 "less" ["one","other"] (spM (KX K ad) (xoK (KX K ad)) zc4)) (G_unlike_below:Has P w K mg base CX0 2 "unlike_below" ["numbers","count"] (spM (KX K ad) (xoK (KX K ad)) zaX)) (G_bound_of:Has P w K mg base (CX1 P w) 4 "bound_of" ["room","things","price"] (spM (KX K ad) (xoK (KX K ad)) zb3)):FnOk P w K mg base (CX1 P w) 5 f fd ["room","things","taken","price"] (spM (KX K ad) (xoK (KX K ad)) zcy):=by
  refine F.ok1 sc_check_sack (fun vs H Q E h=>za4 h) (fun cdv A outer s H vs Q E hr h=>?_)
  have hu:=zbD hr
  exact ⟨_,(zag (zbl (zfE (zdG (zaP G_unlike_below (hr.mono (by decide)) (by rfl) zbi (zab (pv 2) (zab (zaw zaE (by rfl) T.len PySem.boot_len (zab (pv 1) zah)) zah)))))
      (zan (zaB zcL))
      zaK)
      (zag (zbl (zaA zgy (zaw (zcg rfl) (by rfl) T.sum boot_sum (zab (zbL rfl (zbB (pv 2)) (zci (zar zc3) ["room","things","taken","price","worth"] ["things","number"] [1] 1 rfl rfl rfl (by decide +kernel) (by decide +kernel) (by decide +kernel) rfl (by decide +kernel) (fun cl C s H fp pins=>(zaR (i:=1) (show List.Nodup (["things","number"]:List Str) by decide +kernel) rfl (Or.inl rfl))) (fun cl C s H fp pins=>(zaI zaT (zaI zaO (pv 0) (pv 1) (fun _ _=>rfl)) zaf (fun _ _=>rfl))) (Or.inl ⟨rfl,rfl⟩))) zah)) (pv 0) (zaQ _))
      (zan (zaB zcL))
      zaK)
      (zag (zbl (zaA zha (zaI zaT (pv 3) zaf (fun _ _=>rfl)) zaf (zaQ _))
      (zan (zaB zcL))
      zaK)
      (zag (zaF (i:=4) sc_check_sack.nd rfl (by first | exact Or.inl rfl | exact Or.inr rfl) (zaw (zcg rfl) (by rfl) T.sum boot_sum (zab (zbL rfl (zbB (pv 2)) (zci (zar zc3) ["room","things","taken","price","worth"] ["things","number"] [1] 1 rfl rfl rfl (by decide +kernel) (by decide +kernel) (by decide +kernel) rfl (by decide +kernel) (fun cl C s H fp pins=>(zaR (i:=1) (show List.Nodup (["things","number"]:List Str) by decide +kernel) rfl (Or.inl rfl))) (fun cl C s H fp pins=>(zaI zaT (zaI zaO (pv 0) (pv 1) (fun _ _=>rfl)) zaf (fun _ _=>rfl))) (Or.inl ⟨rfl,rfl⟩))) zah)))
      (zag (zbl (zdG (zaP G_less (hr.mono (by decide)) (by rfl) zbi (zab (zcF (zab (zav zbc zaf (pv 4)) (zab zaf zah))) (zab (zbM G_bound_of (hr.mono (by decide)) (by rfl) zeo (zab (pv 0) (zab (pv 1) (zab (pv 3) zah)))) zah))))
      (zan (zaB zcL))
      zaK)
      (zan (zaB zdD))))))),zb4 (K:=(KX K ad)) (XO:=(xoK (KX K ad))) (E:=E) (np:=4) (nv:=1) (m:=zge)
      (zaq (zbk (zfC (st_b (zax (zad zak (zad (zbu zb2 (zau zac zaD)) zao)))))
      (zaG zcK)
      zaJ)
      (zaq (zbk (zaz (zai zgB ((zbu zhS (zau ((zbm (zbS zac) (by decide) zbe zbq (Or.inl ⟨rfl,rfl⟩) (zai zaU ((zai za7 zac zac)).r (zae).r))).e.r zaD))).r zac))
      (zaG zcK)
      zaJ)
      (zaq (zbk (zaz (zai zhn ((zai zaU zac (zae).r)).r (zae).r))
      (zaG zcK)
      zaJ)
      (zaq (zaL (zbu zhS (zau ((zbm (zbS zac) (by decide) zbe zbq (Or.inl ⟨rfl,rfl⟩) (zai zaU ((zai za7 zac zac)).r (zae).r))).e.r zaD)) zas)
      (zaq (zbk (st_b (zax (zad (zcD (zad (zai zby (zae).r zac) (zad zae zao))) (zad (zbt (zad zak (zad zak (zad zak zao)))) zao))))
      (zaG zcK)
      zaJ)
      (zaG zdx)))))) rfl h⟩
abbrev zeA:Stmt:=top 47
theorem sc_law_unlike:FnScope ["_law_some","_law_many","_law_seen","_law_number_here"] ["_law_some","_law_many"] (zar zeA):=⟨rfl,rfl,rfl,by decide +kernel,rfl,by decide +kernel,by decide +kernel⟩
theorem ziL {f:Addr} {fd:FuncData} (F:Fun K "_law_unlike" "_law_unlike" zeA f fd) (T:Txt K mg ad)  : FnOk P w K mg base CX0 1 f fd ["_law_some","_law_many"] (spM (KX K ad) (xoK (KX K ad)) za9):=by
  refine F.ok sc_law_unlike (fun vs H Q E h=>za4 h) (fun cdv A outer s H vs Q E hr h=>?_)
  have hu:=zbD hr
  exact ⟨_,(zag (zaF (i:=2) sc_law_unlike.nd rfl (by first | exact Or.inl rfl | exact Or.inr rfl) (zcn zah))
      (zag (zcM PassesOwn.never rfl (zbB (pv 0)) (zaR (i:=3) sc_law_unlike.nd rfl (by first | exact Or.inl rfl | exact Or.inr rfl))
      (zag (zbl ((zgq (zaA zha (pv 3) zaf (zaQ _)) (zgq (zaA zpX (pv 3) (pv 1) (zaQ _)) (ze9 (zaA zlR (pv 3) (pv 2) (by with_unfolding_all rfl)))))).pt
      (zan (zaB zhx))
      zaK)
      (zan (zds (zlw PySem.F.plainAttrs_list PySem.F.slot_list_append PySem.F.type_list_append zd0 (pv 2) (zab (pv 3) zah))))))
      (zan (zaB zhx)))),zb4 (K:=(KX K ad)) (XO:=(xoK (KX K ad))) (E:=E) (np:=2) (nv:=2) (m:=zgl)
      (zaq (zh3 (zbH zao))
      (zaq (zcN (zeL zak) zas
      (zaq (zbk (zgA (zaz (zai zhn zac (zae).r)) (zgA (zaz (zai zpS zac zac)) (zaz (zai zpR zac zac))))
      (zaG zhB)
      zaJ)
      (zeq zak)))
      (zaG zhB))) rfl h⟩
abbrev zb9:Stmt:=top 48
theorem sc_law_sack_word:FnScope ["_law_room_here","_law_things","_law_taken","_law_price","_law_top","_law_worth","_law_weight"] ["_law_room_here","_law_things","_law_taken","_law_price"] (zar zb9):=⟨rfl,rfl,rfl,by decide +kernel,rfl,by decide +kernel,by decide +kernel⟩
theorem zgC {f:Addr} {fd:FuncData} (F:Fun K "_law_sack_word" "_law_sack_word" zb9 f fd) (T:Txt K mg ad) (G_law_unlike:Has P w K mg base CX0 1 "_law_unlike" ["_law_some","_law_many"] (spM (KX K ad) (xoK (KX K ad)) za9)):FnOk P w K mg base CX0 2 f fd ["_law_room_here","_law_things","_law_taken","_law_price"] (spM (KX K ad) (xoK (KX K ad)) zcf):=by
  refine F.ok sc_law_sack_word (fun vs H Q E h=>za4 h) (fun cdv A outer s H vs Q E hr h=>?_)
  have hu:=zbD hr
  exact ⟨_,(zag (zbl (zfE (zdG (zaP G_law_unlike (hr.mono (by decide)) (by rfl) zbi (zab (pv 2) (zab (zaw zaE (by rfl) T.len PySem.boot_len (zab (pv 1) zah)) zah)))))
      (zan (zaB zcL))
      zaK)
      (zag (zbl (zaA zgy (zaw (zcg rfl) (by rfl) T.sum boot_sum (zab (zbL rfl (zbB (pv 2)) (zci (zar zb9) ["_law_room_here","_law_things","_law_taken","_law_price","_law_top","_law_worth","_law_weight"] ["_law_things","_law_number_here"] [1] 1 rfl rfl rfl (by decide +kernel) (by decide +kernel) (by decide +kernel) rfl (by decide +kernel) (fun cl C s H fp pins=>(zaR (i:=1) (show List.Nodup (["_law_things","_law_number_here"]:List Str) by decide +kernel) rfl (Or.inl rfl))) (fun cl C s H fp pins=>(zaI zaT (zaI zaO (pv 0) (pv 1) (fun _ _=>rfl)) zaf (fun _ _=>rfl))) (Or.inl ⟨rfl,rfl⟩))) zah)) (pv 0) (zaQ _))
      (zan (zaB zcL))
      zaK)
      (zag (zbl (zaA zha (zaI zaT (pv 3) zaf (fun _ _=>rfl)) zaf (zaQ _))
      (zan (zaB zcL))
      zaK)
      (zag (zaF (i:=4) sc_law_sack_word.nd rfl (by first | exact Or.inl rfl | exact Or.inr rfl) (zav zbc (zaI zaT (pv 3) zaf (fun _ _=>rfl)) (pv 0)))
      (zag (zcM PassesOwn.never rfl (zbB (pv 1)) (zgZ rfl (zb6 (zaR (i:=5) sc_law_sack_word.nd rfl (by first | exact Or.inl rfl | exact Or.inr rfl)) (zb6 (zaR (i:=6) sc_law_sack_word.nd rfl (by first | exact Or.inl rfl | exact Or.inr rfl)) zfj)))
      (zan (zbl ((zkT (zaA zmE (pv 6) (pv 0) (zaQ _)) (ziz (zaA zgy (zav zbc (pv 5) (zaI zaT (pv 3) zaf (fun _ _=>rfl))) (zav zbc (zaI zaT (pv 3) zaf (fun _ _=>rfl)) (pv 6)) (zaQ _))))).pt
      (zan (zaF (i:=4) sc_law_sack_word.nd rfl (by first | exact Or.inl rfl | exact Or.inr rfl) (zav zgR (zav zbp (pv 4) (zav zbc (pv 5) (zaI zaT (pv 3) zaf (fun _ _=>rfl)))) (zav zbc (zaI zaT (pv 3) zaf (fun _ _=>rfl)) (pv 6)))))
      zaK)))
      (zag (zbl (zaA zha (zav zbc (zav zbc zaf (zaw (zcg rfl) (by rfl) T.sum boot_sum (zab (zbL rfl (zbB (pv 2)) (zci (zar zb9) ["_law_room_here","_law_things","_law_taken","_law_price","_law_top","_law_worth","_law_weight"] ["_law_things","_law_number_here"] [1] 1 rfl rfl rfl (by decide +kernel) (by decide +kernel) (by decide +kernel) rfl (by decide +kernel) (fun cl C s H fp pins=>(zaR (i:=1) (show List.Nodup (["_law_things","_law_number_here"]:List Str) by decide +kernel) rfl (Or.inl rfl))) (fun cl C s H fp pins=>(zaI zaT (zaI zaO (pv 0) (pv 1) (fun _ _=>rfl)) zaf (fun _ _=>rfl))) (Or.inl ⟨rfl,rfl⟩))) zah))) (zaI zaT (pv 3) zaf (fun _ _=>rfl))) (pv 4) (zaQ _))
      (zan (zaB zcL))
      zaK)
      (zan (zaB zdD)))))))),zb4 (K:=(KX K ad)) (XO:=(xoK (KX K ad))) (E:=E) (np:=4) (nv:=3) (m:=zex)
      (zaq (zbk (zfC (st_b (zax (zad zak (zad (zbu zb2 (zau zac zaD)) zao)))))
      (zaG zcK)
      zaJ)
      (zaq (zbk (zaz (zai zgB ((zbu zhS (zau ((zbm (zbS zac) (by decide) zbe zbq (Or.inl ⟨rfl,rfl⟩) (zai zaU ((zai za7 zac zac)).r (zae).r))).e.r zaD))).r zac))
      (zaG zcK)
      zaJ)
      (zaq (zbk (zaz (zai zhn ((zai zaU zac (zae).r)).r (zae).r))
      (zaG zcK)
      zaJ)
      (zaq (zaL (zai zby ((zai zaU zac (zae).r)).r zac) zas)
      (zaq (zcN (zeL zak) (zgN (zb5 zas (zb5 zas zfn)))
      (zbk (zkZ (zaz (zai zmF zac zac)) (zaz (zai zgB ((zai zby zac ((zai zaU zac (zae).r)).r)).r ((zai zby ((zai zaU zac (zae).r)).r zac)).r)))
      (zaL (zai zg0 ((zai zbo zac ((zai zby zac ((zai zaU zac (zae).r)).r)).r)).r ((zai zby ((zai zaU zac (zae).r)).r zac)).r) zas)
      zaJ))
      (zaq (zbk (zaz (zai zhn ((zai zby ((zai zby (zae).r ((zbu zhS (zau ((zbm (zbS zac) (by decide) zbe zbq (Or.inl ⟨rfl,rfl⟩) (zai zaU ((zai za7 zac zac)).r (zae).r))).e.r zaD))).r)).r ((zai zaU zac (zae).r)).r)).r zac))
      (zaG zcK)
      zaJ)
      (zaG zdx))))))) rfl h⟩
abbrev zfT:Stmt:=top 52
theorem zkj:FnScope ["_law_found","_law_due"] ["_law_found","_law_due"] (zar zfT):=⟨rfl,rfl,rfl,by decide +kernel,rfl,by decide +kernel,by decide +kernel⟩
theorem zj8 {f:Addr} {fd:FuncData} (F:Fun K "_law_same" "_law_same" zfT f fd) (T:Txt K mg ad)  : FnOk P w K mg base CX0 1 f fd ["_law_found","_law_due"] (spM (KX K ad) (xoK (KX K ad)) zcP):=by
  refine F.ok zkj (fun vs H Q E h=>za4 h) (fun cdv A outer s H vs Q E hr h=>?_)
  have hu:=zbD hr
  exact ⟨_,(zag (zbl (zaA zjC (pv 1) zdD (zaQ _))
      (zan (zaB (ziE zjC (pv 0) zdD (zaQ _))))
      zaK)
      (zan (zaB (zkD (zaw zhp (by rfl) T.isinstance boot_isinstance (zab (pv 0) (zab (zmB (v:=.ty "str") (by rfl) T.str boot_str rfl) zah))) (zkr (ziE zdS (pv 0) (pv 1) (zaQ _))))))),zb4 (K:=(KX K ad)) (XO:=(xoK (KX K ad))) (E:=E) (np:=2) (nv:=0) (m:=zh0)
      (zaq (zbk (zaz (zai zmV zac (zdx).r))
      (zaG (zai zmV zac (zdx).r))
      zaJ)
      (zaG (zko (zo6 znx zac) (zai zdR zac zac)))) rfl h⟩
abbrev zf1:Stmt:=top 53
theorem sc_law_sack:FnScope ["_law_room_here","_law_things","_law_number_here","_law_taken","_law_price","_law_handed","_law_found"] ["_law_room_here","_law_things","_law_number_here"] (zar zf1):=⟨rfl,rfl,rfl,by decide +kernel,rfl,by decide +kernel,by decide +kernel⟩
theorem zjO {f:Addr} {fd:FuncData} (F:Fun K "_law_sack" "_law_sack" zf1 f fd) (T:Txt K mg ad) (G_law_number:Has P w K mg base CX0 1 "_law_number" ["_law_cell","_law_k"] (spM (KX K ad) (xoK (KX K ad)) zaN)) (G_by_weight:Has P w K mg base (CX1 P w) 6 "by_weight" ["room","things"] (spO (KX K ad) (xoK (KX K ad)) zcv)) (G_weighing:Has P w K mg base (CX1 P w) 6 "weighing" ["room","things"] (spM (KX K ad) (xoK (KX K ad)) zdn)) (G_law_changed:Has P w K mg base CX0 1 "_law_changed" ["_law_some","_law_number_here","_law_size"] (spM (KX K ad) (xoK (KX K ad)) zbd)) (G_law_price_changed:Has P w K mg base CX0 3 "_law_price_changed" ["_law_price","_law_number_here","_law_things"] (spM (KX K ad) (xoK (KX K ad)) za1)) (G_check_sack:Has P w K mg base (CX1 P w) 5 "check_sack" ["room","things","taken","price"] (spM (KX K ad) (xoK (KX K ad)) zcy)) (G_law_sack_word:Has P w K mg base CX0 2 "_law_sack_word" ["_law_room_here","_law_things","_law_taken","_law_price"] (spM (KX K ad) (xoK (KX K ad)) zcf)) (G_law_same:Has P w K mg base CX0 1 "_law_same" ["_law_found","_law_due"] (spM (KX K ad) (xoK (KX K ad)) zcP)):FnOk P w K mg base CX0 7 f fd ["_law_room_here","_law_things","_law_number_here"] (spM (KX K ad) (xoK (KX K ad)) zcO):=by
  refine F.ok sc_law_sack (fun vs H Q E h=>za4 h) (fun cdv A outer s H vs Q E hr h=>?_)
  have hu:=zbD hr
  exact ⟨_,(zag (zaF (i:=3) sc_law_sack.nd rfl (by first | exact Or.inl rfl | exact Or.inr rfl) (zaP G_by_weight (hr.mono (by decide)) (by rfl) zk4 (zab (pv 0) (zab (pv 1) zah))))
      (zag (zaF (i:=4) sc_law_sack.nd rfl (by first | exact Or.inl rfl | exact Or.inr rfl) (zaP G_weighing (hr.mono (by decide)) (by rfl) zk4 (zab (pv 0) (zab (pv 1) zah))))
      (zag (zbl (zaA zgy (zav zba (pv 2) zaf) zaf (zaQ _))
      (zan (zaF (i:=3) sc_law_sack.nd rfl (by first | exact Or.inl rfl | exact Or.inr rfl) (zaP G_law_changed (hr.mono (by decide)) (by rfl) zbi (zab (pv 3) (zab (zav zbh (pv 2) zaf) (zab (zaw (ziV rfl) (by rfl) T.max boot_max (zab zaf (zab (zaw zaE (by rfl) T.len PySem.boot_len (zab (pv 1) zah)) zah))) zah))))))
      zaK)
      (zag (zbl (zaA ziR (zav zba (pv 2) zaf) zaf (zaQ _))
      (zan (zaF (i:=4) sc_law_sack.nd rfl (by first | exact Or.inl rfl | exact Or.inr rfl) (zaP G_law_price_changed (hr.mono (by decide)) (by rfl) zbi (zab (pv 4) (zab (zaP G_law_number (hr.mono (by decide)) (by rfl) zbi (zab (pv 2) (zab zaf zah))) (zab (pv 1) zah))))))
      zaK)
      (zag (zaF (i:=5) sc_law_sack.nd rfl (by first | exact Or.inl rfl | exact Or.inr rfl) (zcF (zab (zdH zcz (by rfl) T.list boot_list (zab (pv 1) zah)) (zab (zdH zcz (by rfl) T.list boot_list (zab (pv 3) zah)) zah))))
      (zag (zaF (i:=6) sc_law_sack.nd rfl (by first | exact Or.inl rfl | exact Or.inr rfl) (zaP G_check_sack (hr.mono (by decide)) (by rfl) zk4 (zab (pv 0) (zab (zaI zaT (pv 5) zaf (fun _ _=>rfl)) (zab (zaI zaT (pv 5) zaf (fun _ _=>rfl)) (zab (pv 4) zah))))))
      (zag (zbl (zaA (zkC hr.units) (pv 5) (zcF (zab (pv 1) (zab (pv 3) zah))) (zaQ _))
      (zan (zaB zhx))
      zaK)
      (zan (zaB (zaP G_law_same (hr.mono (by decide)) (by rfl) zbi (zab (pv 6) (zab (zaP G_law_sack_word (hr.mono (by decide)) (by rfl) zbi (zab (pv 0) (zab (pv 1) (zab (pv 3) (zab (pv 4) zah))))) zah)))))))))))),zb4 (K:=(KX K ad)) (XO:=(xoK (KX K ad))) (E:=E) (np:=3) (nv:=4) (m:=zh9)
      (zaq (zaL ((zck (zad zak (zad zak zao)))).e zas)
      (zaq (zaL (zax (zad zak (zad zak zao))) zas)
      (zaq (zbk (zaz (zai zgB ((zai zbb zac (zae).r)).r (zae).r))
      (zaL (zax (zad zak (zad (zai zb7 zac (zae).r) (zad (zbu zmm (zau (zae).r (zau ((zbu zb2 (zau zac zaD))).r zaD))) zao)))) zas)
      zaJ)
      (zaq (zbk (zaz (zai zjB ((zai zbb zac (zae).r)).r (zae).r))
      (zaL (zax (zad zak (zad (zax (zad zak (zad zae zao))) (zad zak zao)))) zas)
      zaJ)
      (zaq (zaL (zcD (zad ((zgX zfS (zau zac zaD))).e (zad ((zgX zfS (zau zac zaD))).e zao))) zas)
      (zaq (zaL (zax (zad zak (zad (zai zaU zac (zae).r) (zad (zai zaU zac (zae).r) (zad zak zao))))) zas)
      (zaq (zbk (zaz (zai zkz zac ((zcD (zad zak (zad zak zao)))).r))
      (zaG zhB)
      zaJ)
      (zaG (zax (zad zak (zad (zax (zad zak (zad zak (zad zak (zad zak zao))))) zao))))))))))) rfl h⟩
abbrev zgQ:Stmt:=top 16
theorem sc_look_at:FnScope ["lengths","count","a","b","c"] ["lengths"] (zar zgQ):=⟨rfl,rfl,rfl,by decide +kernel,rfl,by decide +kernel,by decide +kernel⟩
theorem zk3 {f:Addr} {fd:FuncData} (F:Fun K "look_at" "look_at" zgQ f fd) (T:Txt K mg ad)  : FnOk P w K mg base (CX1 P w) 1 f fd ["lengths"] (spM (KX K ad) (xoK (KX K ad)) zbs):=by
  refine F.ok1 sc_look_at (fun vs H Q E h=>za4 h) (fun cdv A outer s H vs Q E hr h=>?_)
  have hu:=zbD hr
  exact ⟨_,(zag (zaF (i:=1) sc_look_at.nd rfl (by first | exact Or.inl rfl | exact Or.inr rfl) (zaw zaE (by rfl) T.len PySem.boot_len (zab (pv 0) zah)))
      (zag (zcM PassesOwn.leaving rfl (zb0 rfl T.range (zab (pv 1) zah)) (zaR (i:=2) sc_look_at.nd rfl (by first | exact Or.inl rfl | exact Or.inr rfl))
      (zan (zbl (zaA ziR (zaI zaO (zaI zaO (pv 0) (pv 2) (fun _ _=>rfl)) (pv 2) (fun _ _=>rfl)) zaf (zaQ _))
      (zan (zgD rfl (by rfl) T.m_NoLengths T.e_NoLengths PySem.F.excBase_ValueError (by decide +kernel) PySem.F.excBase_ValueError zny (zab zcL zah)))
      zaK)))
      (zag (zcM PassesOwn.leaving rfl (zb0 rfl T.range (zab (pv 1) zah)) (zaR (i:=2) sc_look_at.nd rfl (by first | exact Or.inl rfl | exact Or.inr rfl))
      (zan (zcM PassesOwn.leaving rfl (zb0 rfl T.range (zab (pv 2) zah)) (zaR (i:=3) sc_look_at.nd rfl (by first | exact Or.inl rfl | exact Or.inr rfl))
      (zan (zbl (zaA ziR (zaI zaO (zaI zaO (pv 0) (pv 2) (fun _ _=>rfl)) (pv 3) (fun _ _=>rfl)) (zaI zaO (zaI zaO (pv 0) (pv 3) (fun _ _=>rfl)) (pv 2) (fun _ _=>rfl)) (zaQ _))
      (zan (zgD rfl (by rfl) T.m_NoLengths T.e_NoLengths PySem.F.excBase_ValueError (by decide +kernel) PySem.F.excBase_ValueError zny (zab zcL zah)))
      zaK)))))
      (zan (zcM PassesOwn.leaving rfl (zb0 rfl T.range (zab (pv 1) zah)) (zaR (i:=2) sc_look_at.nd rfl (by first | exact Or.inl rfl | exact Or.inr rfl))
      (zan (zcM PassesOwn.leaving rfl (zb0 rfl T.range (zab (pv 1) zah)) (zaR (i:=3) sc_look_at.nd rfl (by first | exact Or.inl rfl | exact Or.inr rfl))
      (zan (zcM PassesOwn.leaving rfl (zb0 rfl T.range (zab (pv 1) zah)) (zaR (i:=4) sc_look_at.nd rfl (by first | exact Or.inl rfl | exact Or.inr rfl))
      (zan (zbl (zaA zha (zav zbp (zaI zaO (zaI zaO (pv 0) (pv 2) (fun _ _=>rfl)) (pv 3) (fun _ _=>rfl)) (zaI zaO (zaI zaO (pv 0) (pv 3) (fun _ _=>rfl)) (pv 4) (fun _ _=>rfl))) (zaI zaO (zaI zaO (pv 0) (pv 2) (fun _ _=>rfl)) (pv 4) (fun _ _=>rfl)) (zaQ _))
      (zan (zgD rfl (by rfl) T.m_NoLengths T.e_NoLengths PySem.F.excBase_ValueError (by decide +kernel) PySem.F.excBase_ValueError zny (zab zcL zah)))
      zaK))))))))))),zb4 (K:=(KX K ad)) (XO:=(xoK (KX K ad))) (E:=E) (np:=1) (nv:=4) (m:=zg6)
      (zaq (zaL (zbu zb2 (zau zac zaD)) zas)
      (zaq (zcN (zb1 len1 (zad zak zao)) zas
      (zbk (zaz (zai zjB ((zai za7 ((zai za7 zac zac)).r zac)).r (zae).r))
      (zgI (c:=2) rfl (by decide) (zad zcK zao))
      zaJ))
      (zaq (zcN (zb1 len1 (zad zak zao)) zas
      (zcN (zb1 len1 (zad zak zao)) zas
      (zbk (zaz (zai zjB ((zai za7 ((zai za7 zac zac)).r zac)).r ((zai za7 ((zai za7 zac zac)).r zac)).r))
      (zgI (c:=2) rfl (by decide) (zad zcK zao))
      zaJ)))
      (zcN (zb1 len1 (zad zak zao)) zas
      (zcN (zb1 len1 (zad zak zao)) zas
      (zcN (zb1 len1 (zad zak zao)) zas
      (zbk (zaz (zai zhn ((zai zbo ((zai za7 ((zai za7 zac zac)).r zac)).r ((zai za7 ((zai za7 zac zac)).r zac)).r)).r ((zai za7 ((zai za7 zac zac)).r zac)).r))
      (zgI (c:=2) rfl (by decide) (zad zcK zao))
      zaJ))))))) rfl h⟩
abbrev zfI:Stmt:=top 18
theorem zln:FnScope ["lengths","place","some"] ["lengths","place","some"] (zar zfI):=⟨rfl,rfl,rfl,by decide +kernel,rfl,by decide +kernel,by decide +kernel⟩
theorem zlk {f:Addr} {fd:FuncData} (F:Fun K "nearest" "nearest" zfI f fd) (T:Txt K mg ad)  : FnOk P w K mg base CX0 1 f fd ["lengths","place","some"] (spM (KX K ad) (xoK (KX K ad)) zce):=by
  refine F.ok zln (fun vs H Q E h=>za4 h) (fun cdv A outer s H vs Q E hr h=>?_)
  have hu:=zbD hr
  exact ⟨_,(zan (zaB (zaw (zg8 rfl) (by rfl) T.min boot_min (zab (zbL rfl (zbB (pv 2)) (zci (zar zfI) ["lengths","place","some"] ["lengths","place","other"] [0,1] 1 rfl rfl rfl (by decide +kernel) (by decide +kernel) (by decide +kernel) rfl (by decide +kernel) (fun cl C s H fp pins=>(zaR (i:=2) (show List.Nodup (["lengths","place","other"]:List Str) by decide +kernel) rfl (Or.inl rfl))) (fun cl C s H fp pins=>(zaI zaO (zaI zaO (pv 0) (pv 1) (fun _ _=>rfl)) (pv 2) (fun _ _=>rfl))) (Or.inl ⟨rfl,rfl⟩))) zah)))),zb4 (K:=(KX K ad)) (XO:=(xoK (KX K ad))) (E:=E) (np:=3) (nv:=0) (m:=ziZ)
      (zaG (zbu zfi (zau ((zbm (zbS zac) (by decide) zbe zbq (Or.inl ⟨rfl,rfl⟩) (zai za7 ((zai za7 zac zac)).r zac))).e.r zaD))) rfl h⟩
abbrev zf0:Stmt:=top 21
theorem sc_farthest:FnScope ["lengths","chosen","best","most","place","length"] ["lengths","chosen"] (zar zf0):=⟨rfl,rfl,rfl,by decide +kernel,rfl,by decide +kernel,by decide +kernel⟩
theorem zjR {f:Addr} {fd:FuncData} (F:Fun K "farthest" "farthest" zf0 f fd) (T:Txt K mg ad) (G_nearest:Has P w K mg base CX0 1 "nearest" ["lengths","place","some"] (spM (KX K ad) (xoK (KX K ad)) zce)):FnOk P w K mg base CX0 2 f fd ["lengths","chosen"] (spM (KX K ad) (xoK (KX K ad)) zcU):=by
  refine F.ok sc_farthest (fun vs H Q E h=>za4 h) (fun cdv A outer s H vs Q E hr h=>?_)
  have hu:=zbD hr
  exact ⟨_,(zag (zaF (i:=2) sc_farthest.nd rfl (by first | exact Or.inl rfl | exact Or.inr rfl) zdD)
      (zag (zaF (i:=3) sc_farthest.nd rfl (by first | exact Or.inl rfl | exact Or.inr rfl) zdD)
      (zag (zcM PassesOwn.never rfl (zb0 rfl T.range (zab (zaw zaE (by rfl) T.len PySem.boot_len (zab (pv 0) zah)) zah)) (zaR (i:=4) sc_farthest.nd rfl (by first | exact Or.inl rfl | exact Or.inr rfl))
      (zan (zbl (zaA ziX (pv 4) (pv 1) (by with_unfolding_all rfl))
      (zag (zaF (i:=5) sc_farthest.nd rfl (by first | exact Or.inl rfl | exact Or.inr rfl) (zaP G_nearest (hr.mono (by decide)) (by rfl) zbi (zab (pv 0) (zab (pv 4) (zab (pv 1) zah)))))
      (zan (zbl ((zgq (zaA zjC (pv 3) zdD (zaQ _)) (ze9 (zaA zgy (pv 5) (pv 3) (zaQ _))))).pt
      (zag (zaF (i:=2) sc_farthest.nd rfl (by first | exact Or.inl rfl | exact Or.inr rfl) (pv 4))
      (zan (zaF (i:=3) sc_farthest.nd rfl (by first | exact Or.inl rfl | exact Or.inr rfl) (pv 5))))
      zaK)))
      zaK)))
      (zan (zaB (pv 2)))))),zb4 (K:=(KX K ad)) (XO:=(xoK (KX K ad))) (E:=E) (np:=2) (nv:=4) (m:=zif)
      (zaq (zaL zdx zas)
      (zaq (zaL zdx zas)
      (zaq (zcN (zb1 len1 (zad (zbu zb2 (zau zac zaD)) zao)) zas
      (zbk (zaz (zai znI zac zac))
      (zaq (zaL (zax (zad zak (zad zak (zad zak zao)))) zas)
      (zbk (zgA (zaz (zai zmV zac (zdx).r)) (zaz (zai zgB zac zac)))
      (zaq (zaL zak zas)
      (zaL zak zas))
      zaJ))
      zaJ))
      (zaG zak)))) rfl h⟩
abbrev ziG:Stmt:=top 22
theorem sc_choose:FnScope ["lengths","many","chosen"] ["lengths","many"] (zar ziG):=⟨rfl,rfl,rfl,by decide +kernel,rfl,by decide +kernel,by decide +kernel⟩
theorem zlF {f:Addr} {fd:FuncData} (F:Fun K "choose" "choose" ziG f fd) (T:Txt K mg ad) (G_farthest:Has P w K mg base CX0 2 "farthest" ["lengths","chosen"] (spM (KX K ad) (xoK (KX K ad)) zcU)):FnOk P w K mg base CX0 3 f fd ["lengths","many"] (spO (KX K ad) (xoK (KX K ad)) zdN):=by
  refine F.ok sc_choose (fun vs H Q E h=>zeO h) (fun cdv A outer s H vs Q E hr h=>?_)
  have hu:=zbD hr
  exact ⟨_,(zag (zaF (i:=2) sc_choose.nd rfl (by first | exact Or.inl rfl | exact Or.inr rfl) (zcn (zab zaf zah)))
      (zag (zgK PassesOwn.never (zaA zha (zaw zaE (by rfl) T.len PySem.boot_len (zab (pv 2) zah)) (pv 1) (zaQ _))
      (zan (zds (zlw PySem.F.plainAttrs_list PySem.F.slot_list_append PySem.F.type_list_append zd0 (pv 2) (zab (zaP G_farthest (hr.mono (by decide)) (by rfl) zbi (zab (pv 0) (zab (pv 2) zah))) zah)))))
      (zan (zaB (pv 2))))),zgb (K:=(KX K ad)) (XO:=(xoK (KX K ad))) (E:=E) (np:=2) (nv:=1) (m:=zkP)
      (zaq (zh3 (zbH (zad zae zao)))
      (zaq (zgL (zaz (zai zhn ((zbu zb2 (zau zac zaD))).r zac))
      (zeq (zkR (zgE zak (zly zlC)))))
      zml)) rfl h⟩
abbrev zdv:Stmt:=top 23
theorem zgo:FnScope ["lengths","many"] ["lengths","many"] (zar zdv):=⟨rfl,rfl,rfl,by decide +kernel,rfl,by decide +kernel,by decide +kernel⟩
theorem zgx {f:Addr} {fd:FuncData} (F:Fun K "farthest_next" "farthest_next" zdv f fd) (T:Txt K mg ad) (G_look_at:Has P w K mg base (CX1 P w) 1 "look_at" ["lengths"] (spM (KX K ad) (xoK (KX K ad)) zbs)) (G_choose:Has P w K mg base CX0 3 "choose" ["lengths","many"] (spO (KX K ad) (xoK (KX K ad)) zdN)):FnOk P w K mg base (CX1 P w) 4 f fd ["lengths","many"] (spO (KX K ad) (xoK (KX K ad)) zbI):=by
  refine F.ok1 zgo (fun vs H Q E h=>zeO h) (fun cdv A outer s H vs Q E hr h=>?_)
  have hu:=zbD hr
  exact ⟨_,(zag (zds (zbM G_look_at (hr.mono (by decide)) (by rfl) zeo (zab (pv 0) zah)))
      (zan (zaB (zaP G_choose (hr.mono (by decide)) (by rfl) zbi (zab (pv 0) (zab (pv 1) zah)))))),zgb (K:=(KX K ad)) (XO:=(xoK (KX K ad))) (E:=E) (np:=2) (nv:=0) (m:=zeM)
      (zaq (zg4 (zbt (zad zak zao)))
      (zfb (zck (zad zak (zad zak zao))))) rfl h⟩
abbrev zfg:Stmt:=top 24
theorem zji:FnScope ["lengths","many"] ["lengths","many"] (zar zfg):=⟨rfl,rfl,rfl,by decide +kernel,rfl,by decide +kernel,by decide +kernel⟩
theorem zjm {f:Addr} {fd:FuncData} (F:Fun K "far_apart" "far_apart" zfg f fd) (T:Txt K mg ad) (G_look_at:Has P w K mg base (CX1 P w) 1 "look_at" ["lengths"] (spM (KX K ad) (xoK (KX K ad)) zbs)) (G_choose:Has P w K mg base CX0 3 "choose" ["lengths","many"] (spO (KX K ad) (xoK (KX K ad)) zdN)):FnOk P w K mg base (CX1 P w) 4 f fd ["lengths","many"] (spO (KX K ad) (xoK (KX K ad)) zcT):=by
  refine F.ok1 zji (fun vs H Q E h=>zeO h) (fun cdv A outer s H vs Q E hr h=>?_)
  have hu:=zbD hr
  exact ⟨_,(zag (zds (zbM G_look_at (hr.mono (by decide)) (by rfl) zeo (zab (pv 0) zah)))
      (zan (zaB (zaP G_choose (hr.mono (by decide)) (by rfl) zbi (zab (pv 0) (zab (zaw (zhi rfl) (by rfl) T.min boot_min (zab (zav zbp (pv 1) zaf) (zab (zaw zaE (by rfl) T.len PySem.boot_len (zab (pv 0) zah)) zah))) zah)))))),zgb (K:=(KX K ad)) (XO:=(xoK (KX K ad))) (E:=E) (np:=2) (nv:=0) (m:=zhl)
      (zaq (zg4 (zbt (zad zak zao)))
      (zfb (zck (zad zak (zad (zbu zkc (zau ((zai zbo zac (zae).r)).r (zau ((zbu zb2 (zau zac zaD))).r zaD))) zao))))) rfl h⟩
abbrev ziK:Stmt:=top 19
theorem znr:FnScope ["lengths","some"] ["lengths","some"] (zar ziK):=⟨rfl,rfl,rfl,by decide +kernel,rfl,by decide +kernel,by decide +kernel⟩
theorem znm {f:Addr} {fd:FuncData} (F:Fun K "reach" "reach" ziK f fd) (T:Txt K mg ad) (G_nearest:Has P w K mg base CX0 1 "nearest" ["lengths","place","some"] (spM (KX K ad) (xoK (KX K ad)) zce)):FnOk P w K mg base CX0 2 f fd ["lengths","some"] (spM (KX K ad) (xoK (KX K ad)) zfk):=by
  refine F.ok znr (fun vs H Q E h=>za4 h) (fun cdv A outer s H vs Q E hr h=>?_)
  have hu:=zbD hr
  exact ⟨_,(zan (zaB (zaw (zfq rfl) (by rfl) T.max boot_max (zab (zbL rfl (zb0 rfl T.range (zab (zaw zaE (by rfl) T.len PySem.boot_len (zab (pv 0) zah)) zah)) (zci (zar ziK) ["lengths","some"] ["lengths","some","place"] [0,1] 1 rfl rfl rfl (by decide +kernel) (by decide +kernel) (by decide +kernel) rfl (by decide +kernel) (fun cl C s H fp pins=>(zaR (i:=2) (show List.Nodup (["lengths","some","place"]:List Str) by decide +kernel) rfl (Or.inl rfl))) (fun cl C s H fp pins=>(zaP G_nearest (hr.mono (by decide)) (by rfl) zbi (zab (pv 0) (zab (pv 2) (zab (pv 1) zah))))) (Or.inl ⟨rfl,rfl⟩))) zah)))),zb4 (K:=(KX K ad)) (XO:=(xoK (KX K ad))) (E:=E) (np:=2) (nv:=0) (m:=zmw)
      (zaG (zbu zfi (zau ((zbm (zb1 len1 (zad (zbu zb2 (zau zac zaD)) zao)).c (by decide) zbe zbq (Or.inl ⟨rfl,rfl⟩) (zax (zad zak (zad zak (zad zak zao)))))).e.r zaD))) rfl h⟩
abbrev zdj:Stmt:=top 20
theorem zhL:FnScope ["lengths","some"] ["lengths","some"] (zar zdj):=⟨rfl,rfl,rfl,by decide +kernel,rfl,by decide +kernel,by decide +kernel⟩
theorem zhG {f:Addr} {fd:FuncData} (F:Fun K "least_apart" "least_apart" zdj f fd) (T:Txt K mg ad) (G_nearest:Has P w K mg base CX0 1 "nearest" ["lengths","place","some"] (spM (KX K ad) (xoK (KX K ad)) zce)):FnOk P w K mg base CX0 2 f fd ["lengths","some"] (spM (KX K ad) (xoK (KX K ad)) zbQ):=by
  refine F.ok zhL (fun vs H Q E h=>za4 h) (fun cdv A outer s H vs Q E hr h=>?_)
  have hu:=zbD hr
  exact ⟨_,(zan (zaB (zaw (zg8 rfl) (by rfl) T.min boot_min (zab (zbL rfl (zb0 rfl T.range (zab (zav zgR (zaw zaE (by rfl) T.len PySem.boot_len (zab (pv 1) zah)) zaf) zah)) (zci (zar zdj) ["lengths","some"] ["lengths","some","k"] [0,1] 1 rfl rfl rfl (by decide +kernel) (by decide +kernel) (by decide +kernel) rfl (by decide +kernel) (fun cl C s H fp pins=>(zaR (i:=2) (show List.Nodup (["lengths","some","k"]:List Str) by decide +kernel) rfl (Or.inl rfl))) (fun cl C s H fp pins=>(zaP G_nearest (hr.mono (by decide)) (by rfl) zbi (zab (pv 0) (zab (zaI zaO (pv 1) (pv 2) (fun _ _=>rfl)) (zab (zcB zdp (pv 1) (zdb (zav zbp (pv 2) zaf)) zdV) zah))))) (Or.inl ⟨rfl,rfl⟩))) zah)))),zb4 (K:=(KX K ad)) (XO:=(xoK (KX K ad))) (E:=E) (np:=2) (nv:=0) (m:=zfr)
      (zaG (zbu zfi (zau ((zbm (zb1 len1 (zad (zai zg0 ((zbu zb2 (zau zac zaD))).r (zae).r) zao)).c (by decide) zbe zbq (Or.inl ⟨rfl,rfl⟩) (zax (zad zak (zad (zai za7 zac zac) (zad ((zcc zac (zc9 (zai zbo zac (zae).r)) zhN)).e zao)))))).e.r zaD))) rfl h⟩
abbrev zdQ:Stmt:=top 37
theorem sc_check_places:FnScope ["lengths","many","chosen","far","count"] ["lengths","many","chosen","far"] (zar zdQ):=⟨rfl,rfl,rfl,by decide +kernel,rfl,by decide +kernel,by decide +kernel⟩
theorem zhv {f:Addr} {fd:FuncData} (F:Fun K "check_places" "check_places" zdQ f fd) (T:Txt K mg ad) (G_unlike_below:Has P w K mg base CX0 2 "unlike_below" ["numbers","count"] (spM (KX K ad) (xoK (KX K ad)) zaX)) (G_look_at:Has P w K mg base (CX1 P w) 1 "look_at" ["lengths"] (spM (KX K ad) (xoK (KX K ad)) zbs)) (G_reach:Has P w K mg base CX0 2 "reach" ["lengths","some"] (spM (KX K ad) (xoK (KX K ad)) zfk)) (G_least_apart:Has P w K mg base CX0 2 "least_apart" ["lengths","some"] (spM (KX K ad) (xoK (KX K ad)) zbQ)):FnOk P w K mg base (CX1 P w) 3 f fd ["lengths","many","chosen","far"] (spM (KX K ad) (xoK (KX K ad)) zaV):=by
  refine F.ok1 sc_check_places (fun vs H Q E h=>za4 h) (fun cdv A outer s H vs Q E hr h=>?_)
  have hu:=zbD hr
  exact ⟨_,(zag (zds (zbM G_look_at (hr.mono (by decide)) (by rfl) zeo (zab (pv 0) zah)))
      (zag (zaF (i:=4) sc_check_places.nd rfl (by first | exact Or.inl rfl | exact Or.inr rfl) (zaw zaE (by rfl) T.len PySem.boot_len (zab (pv 0) zah)))
      (zag (zbl ((zgq (zaA ziR (zaw zaE (by rfl) T.len PySem.boot_len (zab (pv 2) zah)) (pv 1) (zaQ _)) (ze9 (zfE (zdG (zaP G_unlike_below (hr.mono (by decide)) (by rfl) zbi (zab (pv 2) (zab (pv 4) zah)))))))).pt
      (zan (zaB zcL))
      zaK)
      (zag (zbl (zaA zmE (pv 4) (pv 1) (zaQ _))
      (zan (zaB zdD))
      zaK)
      (zag (zbl ((zgq (zaA ziR (zaw zaE (by rfl) T.len PySem.boot_len (zab (pv 3) zah)) (zav zbp (pv 1) zaf) (zaQ _)) (ze9 (zfE (zdG (zaP G_unlike_below (hr.mono (by decide)) (by rfl) zbi (zab (pv 3) (zab (pv 4) zah)))))))).pt
      (zan (zaB zcL))
      zaK)
      (zag (zbl (zaA zgy (zaP G_reach (hr.mono (by decide)) (by rfl) zbi (zab (pv 0) (zab (pv 2) zah))) (zaP G_least_apart (hr.mono (by decide)) (by rfl) zbi (zab (pv 0) (zab (pv 3) zah))) (zaQ _))
      (zan (zaB zcL))
      zaK)
      (zan (zaB zdD)))))))),zb4 (K:=(KX K ad)) (XO:=(xoK (KX K ad))) (E:=E) (np:=4) (nv:=1) (m:=zdX)
      (zaq (zg4 (zbt (zad zak zao)))
      (zaq (zaL (zbu zb2 (zau zac zaD)) zas)
      (zaq (zbk (zgA (zaz (zai zjB ((zbu zb2 (zau zac zaD))).r zac)) (zfC (st_b (zax (zad zak (zad zak zao))))))
      (zaG zcK)
      zaJ)
      (zaq (zbk (zaz (zai zmF zac zac))
      (zaG zdx)
      zaJ)
      (zaq (zbk (zgA (zaz (zai zjB ((zbu zb2 (zau zac zaD))).r ((zai zbo zac (zae).r)).r)) (zfC (st_b (zax (zad zak (zad zak zao))))))
      (zaG zcK)
      zaJ)
      (zaq (zbk (zaz (zai zgB ((zax (zad zak (zad zak zao)))).r ((zax (zad zak (zad zak zao)))).r))
      (zaG zcK)
      zaJ)
      (zaG zdx))))))) rfl h⟩
abbrev zbK:Stmt:=top 49
theorem sc_law_places_word:FnScope ["_law_lengths_here","_law_many","_law_chosen","_law_far","_law_size","_law_widest","_law_k","_law_one","_law_other"] ["_law_lengths_here","_law_many","_law_chosen","_law_far"] (zar zbK):=⟨rfl,rfl,rfl,by decide +kernel,rfl,by decide +kernel,by decide +kernel⟩
theorem zfx {f:Addr} {fd:FuncData} (F:Fun K "_law_places_word" "_law_places_word" zbK f fd) (T:Txt K mg ad) (G_law_unlike:Has P w K mg base CX0 1 "_law_unlike" ["_law_some","_law_many"] (spM (KX K ad) (xoK (KX K ad)) za9)):FnOk P w K mg base CX0 2 f fd ["_law_lengths_here","_law_many","_law_chosen","_law_far"] (spM (KX K ad) (xoK (KX K ad)) zbJ):=by
  refine F.ok sc_law_places_word (fun vs H Q E h=>za4 h) (fun cdv A outer s H vs Q E hr h=>?_)
  have hu:=zbD hr
  exact ⟨_,(zag (zaF (i:=4) sc_law_places_word.nd rfl (by first | exact Or.inl rfl | exact Or.inr rfl) (zaw zaE (by rfl) T.len PySem.boot_len (zab (pv 0) zah)))
      (zag (zbl ((zgq (zaA ziR (zaw zaE (by rfl) T.len PySem.boot_len (zab (pv 2) zah)) (pv 1) (zaQ _)) (ze9 (zfE (zdG (zaP G_law_unlike (hr.mono (by decide)) (by rfl) zbi (zab (pv 2) (zab (pv 4) zah)))))))).pt
      (zan (zaB zcL))
      zaK)
      (zag (zbl (zaA zdS (pv 1) (pv 4) (zaQ _))
      (zan (zaB zdD))
      zaK)
      (zag (zbl ((zgq (zaA ziR (zaw zaE (by rfl) T.len PySem.boot_len (zab (pv 3) zah)) (zav zbp (pv 1) zaf) (zaQ _)) (ze9 (zfE (zdG (zaP G_law_unlike (hr.mono (by decide)) (by rfl) zbi (zab (pv 3) (zab (pv 4) zah)))))))).pt
      (zan (zaB zcL))
      zaK)
      (zag (zaF (i:=5) sc_law_places_word.nd rfl (by first | exact Or.inl rfl | exact Or.inr rfl) (zaw (zfq rfl) (by rfl) T.max boot_max (zab (zbL rfl (zbB (pv 0)) (zci (zar zbK) ["_law_lengths_here","_law_many","_law_chosen","_law_far","_law_size","_law_widest","_law_k","_law_one","_law_other"] ["_law_chosen","_law_row"] [2] 1 rfl rfl rfl (by decide +kernel) (by decide +kernel) (by decide +kernel) rfl (by decide +kernel) (fun cl C s H fp pins=>(zaR (i:=1) (show List.Nodup (["_law_chosen","_law_row"]:List Str) by decide +kernel) rfl (by first | exact Or.inl rfl | exact Or.inr rfl))) (fun cl C s H fp pins=>(zaw (zg8 rfl) (by rfl) (by exact T.min) boot_min (zab (zbL rfl (zbB (pv 0)) (zci (ziu _ (zar zbK)) ["_law_chosen","_law_row"] ["_law_row","_law_place"] [1] 1 rfl rfl rfl (by decide +kernel) (by decide +kernel) (by decide +kernel) rfl (by decide +kernel) (fun cl C s H fp pins=>(zaR (i:=1) (show List.Nodup (["_law_row","_law_place"]:List Str) by decide +kernel) rfl (Or.inl rfl))) (fun cl C s H fp pins=>(zaI zaO (pv 0) (pv 1) (fun _ _=>rfl))) (Or.inl ⟨rfl,rfl⟩))) zah))) (Or.inl ⟨rfl,rfl⟩))) zah)))
      (zag (zcM PassesOwn.never rfl (ziB rfl T.enumerate (zab (pv 3) zah)) (zgZ rfl (zb6 (zaR (i:=6) sc_law_places_word.nd rfl (by first | exact Or.inl rfl | exact Or.inr rfl)) (zb6 (zaR (i:=7) sc_law_places_word.nd rfl (by first | exact Or.inl rfl | exact Or.inr rfl)) zfj)))
      (zan (zcM PassesOwn.never rfl (zbB (zcB zdp (pv 3) zdV (zdb (pv 6)))) (zaR (i:=8) sc_law_places_word.nd rfl (by first | exact Or.inl rfl | exact Or.inr rfl))
      (zan (zbl (zaA zgy (pv 5) (zaI zaO (zaI zaO (pv 0) (pv 7) (fun _ _=>rfl)) (pv 8) (fun _ _=>rfl)) (zaQ _))
      (zan (zaB zcL))
      zaK)))))
      (zan (zaB zdD)))))))),zb4 (K:=(KX K ad)) (XO:=(xoK (KX K ad))) (E:=E) (np:=4) (nv:=5) (m:=zdY)
      (zaq (zaL (zbu zb2 (zau zac zaD)) zas)
      (zaq (zbk (zgA (zaz (zai zjB ((zbu zb2 (zau zac zaD))).r zac)) (zfC (st_b (zax (zad zak (zad zak zao))))))
      (zaG zcK)
      zaJ)
      (zaq (zbk (zaz (zai zdR zac zac))
      (zaG zdx)
      zaJ)
      (zaq (zbk (zgA (zaz (zai zjB ((zbu zb2 (zau zac zaD))).r ((zai zbo zac (zae).r)).r)) (zfC (st_b (zax (zad zak (zad zak zao))))))
      (zaG zcK)
      zaJ)
      (zaq (zaL (zbu zfi (zau ((zbm (zbS zac) (by decide) zbe zbq (Or.inl ⟨rfl,rfl⟩) (zbu zfi (zau ((zbm (zbS zac) (by decide) zbe zbq (Or.inl ⟨rfl,rfl⟩) (zai za7 zac zac))).e.r zaD)))).e.r zaD)) zas)
      (zaq (zcN (zoF (zad zak zao)) (zgN (zb5 zas (zb5 zas zfn)))
      (zcN (zeL ((zcc zac zhN (zc9 zak))).e) zas
      (zbk (zaz (zai zgB zac ((zai za7 ((zai za7 zac zac)).r zac)).r))
      (zaG zcK)
      zaJ)))
      (zaG zdx))))))) rfl h⟩
abbrev zdP:Stmt:=top 54
theorem sc_law_places:FnScope ["_law_lengths_here","_law_many","_law_number_here","_law_chosen","_law_far","_law_handed","_law_found"] ["_law_lengths_here","_law_many","_law_number_here"] (zar zdP):=⟨rfl,rfl,rfl,by decide +kernel,rfl,by decide +kernel,by decide +kernel⟩
theorem ziy {f:Addr} {fd:FuncData} (F:Fun K "_law_places" "_law_places" zdP f fd) (T:Txt K mg ad) (G_law_number:Has P w K mg base CX0 1 "_law_number" ["_law_cell","_law_k"] (spM (KX K ad) (xoK (KX K ad)) zaN)) (G_law_changed:Has P w K mg base CX0 1 "_law_changed" ["_law_some","_law_number_here","_law_size"] (spM (KX K ad) (xoK (KX K ad)) zbd)) (G_law_same:Has P w K mg base CX0 1 "_law_same" ["_law_found","_law_due"] (spM (KX K ad) (xoK (KX K ad)) zcP)) (G_farthest_next:Has P w K mg base (CX1 P w) 4 "farthest_next" ["lengths","many"] (spO (KX K ad) (xoK (KX K ad)) zbI)) (G_far_apart:Has P w K mg base (CX1 P w) 4 "far_apart" ["lengths","many"] (spO (KX K ad) (xoK (KX K ad)) zcT)) (G_check_places:Has P w K mg base (CX1 P w) 3 "check_places" ["lengths","many","chosen","far"] (spM (KX K ad) (xoK (KX K ad)) zaV)) (G_law_places_word:Has P w K mg base CX0 2 "_law_places_word" ["_law_lengths_here","_law_many","_law_chosen","_law_far"] (spM (KX K ad) (xoK (KX K ad)) zbJ)):FnOk P w K mg base CX0 5 f fd ["_law_lengths_here","_law_many","_law_number_here"] (spM (KX K ad) (xoK (KX K ad)) zcb):=by
  refine F.ok sc_law_places (fun vs H Q E h=>za4 h) (fun cdv A outer s H vs Q E hr h=>?_)
  have hu:=zbD hr
  exact ⟨_,(zag (zaF (i:=3) sc_law_places.nd rfl (by first | exact Or.inl rfl | exact Or.inr rfl) (zaP G_farthest_next (hr.mono (by decide)) (by rfl) zk4 (zab (pv 0) (zab (pv 1) zah))))
      (zag (zaF (i:=4) sc_law_places.nd rfl (by first | exact Or.inl rfl | exact Or.inr rfl) (zaP G_far_apart (hr.mono (by decide)) (by rfl) zk4 (zab (pv 0) (zab (pv 1) zah))))
      (zag (zbl (zaA zgy (zav zba (pv 2) zaf) zaf (zaQ _))
      (zan (zaF (i:=3) sc_law_places.nd rfl (by first | exact Or.inl rfl | exact Or.inr rfl) (zaP G_law_changed (hr.mono (by decide)) (by rfl) zbi (zab (pv 3) (zab (zav zbh (pv 2) zaf) (zab (zaw zaE (by rfl) T.len PySem.boot_len (zab (pv 0) zah)) zah))))))
      zaK)
      (zag (zbl (zaA ziR (zav zba (pv 2) zaf) zaf (zaQ _))
      (zan (zaF (i:=4) sc_law_places.nd rfl (by first | exact Or.inl rfl | exact Or.inr rfl) (zaP G_law_changed (hr.mono (by decide)) (by rfl) zbi (zab (pv 4) (zab (zaP G_law_number (hr.mono (by decide)) (by rfl) zbi (zab (pv 2) (zab zaf zah))) (zab (zaw zaE (by rfl) T.len PySem.boot_len (zab (pv 0) zah)) zah))))))
      zaK)
      (zag (zaF (i:=5) sc_law_places.nd rfl (by first | exact Or.inl rfl | exact Or.inr rfl) (zcF (zab (zdH zcz (by rfl) T.list boot_list (zab (pv 3) zah)) (zab (zdH zcz (by rfl) T.list boot_list (zab (pv 4) zah)) (zab (zbL rfl (zbB (pv 0)) (zci (zar zdP) ["_law_lengths_here","_law_many","_law_number_here","_law_chosen","_law_far","_law_handed","_law_found"] ["_law_row"] [] 1 rfl rfl rfl (by decide +kernel) (by decide +kernel) (by decide +kernel) rfl (by decide +kernel) (fun cl C s H fp pins=>(zaR (i:=0) (show List.Nodup (["_law_row"]:List Str) by decide +kernel) rfl (Or.inl rfl))) (fun cl C s H fp pins=>(zdH zcz (by rfl) T.list boot_list (zab (pv 0) zah))) (Or.inl ⟨rfl,rfl⟩))) zah)))))
      (zag (zaF (i:=6) sc_law_places.nd rfl (by first | exact Or.inl rfl | exact Or.inr rfl) (zaP G_check_places (hr.mono (by decide)) (by rfl) zk4 (zab (zaI zaT (pv 5) zaf (fun _ _=>rfl)) (zab (pv 1) (zab (zaI zaT (pv 5) zaf (fun _ _=>rfl)) (zab (zaI zaT (pv 5) zaf (fun _ _=>rfl)) zah))))))
      (zag (zbl (zaA (zkC hr.units) (pv 5) (zcF (zab (pv 3) (zab (pv 4) (zab (pv 0) zah)))) (zaQ _))
      (zan (zaB zhx))
      zaK)
      (zan (zaB (zaP G_law_same (hr.mono (by decide)) (by rfl) zbi (zab (pv 6) (zab (zaP G_law_places_word (hr.mono (by decide)) (by rfl) zbi (zab (pv 0) (zab (pv 1) (zab (pv 3) (zab (pv 4) zah))))) zah)))))))))))),zb4 (K:=(KX K ad)) (XO:=(xoK (KX K ad))) (E:=E) (np:=3) (nv:=4) (m:=zga)
      (zaq (zaL ((zck (zad zak (zad zak zao)))).e zas)
      (zaq (zaL ((zck (zad zak (zad zak zao)))).e zas)
      (zaq (zbk (zaz (zai zgB ((zai zbb zac (zae).r)).r (zae).r))
      (zaL (zax (zad zak (zad (zai zb7 zac (zae).r) (zad (zbu zb2 (zau zac zaD)) zao)))) zas)
      zaJ)
      (zaq (zbk (zaz (zai zjB ((zai zbb zac (zae).r)).r (zae).r))
      (zaL (zax (zad zak (zad (zax (zad zak (zad zae zao))) (zad (zbu zb2 (zau zac zaD)) zao)))) zas)
      zaJ)
      (zaq (zaL (zcD (zad ((zgX zfS (zau zac zaD))).e (zad ((zgX zfS (zau zac zaD))).e (zad ((zbm (zbS zac) (by decide) zbe zbq (Or.inl ⟨rfl,rfl⟩) ((zgX zfS (zau zac zaD))).e)).e zao)))) zas)
      (zaq (zaL (zax (zad (zai zaU zac (zae).r) (zad zak (zad (zai zaU zac (zae).r) (zad (zai zaU zac (zae).r) zao))))) zas)
      (zaq (zbk (zaz (zai zkz zac ((zcD (zad zak (zad zak (zad zak zao))))).r))
      (zaG zhB)
      zaJ)
      (zaG (zax (zad zak (zad (zax (zad zak (zad zak (zad zak (zad zak zao))))) zao))))))))))) rfl h⟩
abbrev zc2:Stmt:=top 57
theorem sc_law_broken:FnScope ["_law_lengths_here","_law_number_here","_law_size","_law_bad","_law_one","_law_other","_law_much"] ["_law_lengths_here","_law_number_here"] (zar zc2):=⟨rfl,rfl,rfl,by decide +kernel,rfl,by decide +kernel,by decide +kernel⟩
theorem zij {f:Addr} {fd:FuncData} (F:Fun K "_law_broken" "_law_broken" zc2 f fd) (T:Txt K mg ad)  : FnOk P w K mg base CX0 1 f fd ["_law_lengths_here","_law_number_here"] (spO (KX K ad) (xoK (KX K ad)) zbO):=by
  refine F.ok sc_law_broken (fun vs H Q E h=>zeO h) (fun cdv A outer s H vs Q E hr h=>?_)
  have hu:=zbD hr
  exact ⟨_,(zag (zaF (i:=2) sc_law_broken.nd rfl (by first | exact Or.inl rfl | exact Or.inr rfl) (zaw zaE (by rfl) T.len PySem.boot_len (zab (pv 0) zah)))
      (zag (zlV (i:=3) sc_law_broken.nd rfl (by first | exact Or.inl rfl | exact Or.inr rfl) rfl (zbB (pv 0)) (zci (zar zc2) ["_law_lengths_here","_law_number_here","_law_size","_law_bad","_law_one","_law_other","_law_much"] ["_law_row"] [] 1 rfl rfl rfl (by decide +kernel) (by decide +kernel) (by decide +kernel) rfl (by decide +kernel) (fun cl C s H fp pins=>(zaR (i:=0) (show List.Nodup (["_law_row"]:List Str) by decide +kernel) rfl (Or.inl rfl))) (fun cl C s H fp pins=>(zdH zcz (by rfl) T.list boot_list (zab (pv 0) zah))) (Or.inl ⟨rfl,rfl⟩)) rfl)
      (zag (zaF (i:=4) sc_law_broken.nd rfl (by first | exact Or.inl rfl | exact Or.inr rfl) (zav zba (zav zbh (pv 1) zaf) (pv 2)))
      (zag (zaF (i:=5) sc_law_broken.nd rfl (by first | exact Or.inl rfl | exact Or.inr rfl) (zav zba (zav zbh (pv 1) zaf) (pv 2)))
      (zag (zbl (zaA zdS (pv 4) (pv 5) (zaQ _))
      (zan (zjc (zav zbp zaf (zav zba (zav zbh (pv 1) zaf) zaf)) (zkq (zaI zaO (pv 3) (pv 4) (fun _ _=>rfl)) (pv 4) zgG)))
      (zan (zbl ((zgq (zaA zdS (zav zba (pv 1) zaf) zaf (zaQ _)) (ze9 (zaA zdS (pv 2) zaf (zaQ _))))).pt
      (zan (zjc (zav zbp (zaI zaO (zaI zaO (pv 3) (pv 4) (fun _ _=>rfl)) (pv 5) (fun _ _=>rfl)) zaf) (zkq (zaI zaO (pv 3) (pv 4) (fun _ _=>rfl)) (pv 5) zgG)))
      (zag (zaF (i:=6) sc_law_broken.nd rfl (by first | exact Or.inl rfl | exact Or.inr rfl) (zav zbp (zav zbc zaf (zaw (zfq rfl) (by rfl) T.max boot_max (zab (zbL rfl (zbB (pv 0)) (zci (zar zc2) ["_law_lengths_here","_law_number_here","_law_size","_law_bad","_law_one","_law_other","_law_much"] ["_law_row"] [] 1 rfl rfl rfl (by decide +kernel) (by decide +kernel) (by decide +kernel) rfl (by decide +kernel) (fun cl C s H fp pins=>(zaR (i:=0) (show List.Nodup (["_law_row"]:List Str) by decide +kernel) rfl (Or.inl rfl))) (fun cl C s H fp pins=>(zaw (zfq rfl) (by rfl) (by exact T.max) boot_max (zab (pv 0) zah))) (Or.inl ⟨rfl,rfl⟩))) zah))) zaf))
      (zag (zjc (pv 6) (zkq (zaI zaO (pv 3) (pv 4) (fun _ _=>rfl)) (pv 5) zgG))
      (zan (zjc (pv 6) (zkq (zaI zaO (pv 3) (pv 5) (fun _ _=>rfl)) (pv 4) zgG))))))))
      (zan (zaB (pv 3)))))))),zgb (K:=(KX K ad)) (XO:=(xoK (KX K ad))) (E:=E) (np:=2) (nv:=5) (m:=zf7)
      (zaq (zaL (zbu zb2 (zau zac zaD)) zas)
      (zaq (zov (zm9 (zbS zac) (by decide) zbe zbq (zgX zfS (zau zac zaD))))
      (zaq (zaL (zai zbb ((zai zb7 zac (zae).r)).r zac) zas)
      (zaq (zaL (zai zbb ((zai zb7 zac (zae).r)).r zac) zas)
      (zaq (zbk (zaz (zai zdR zac zac))
      (zio zak zak (zai zbo (zae).r ((zai zbb ((zai zb7 zac (zae).r)).r (zae).r)).r))
      (zbk (zgA (zaz (zai zdR ((zai zbb zac (zae).r)).r (zae).r)) (zaz (zai zdR zac (zae).r)))
      (zio zak zak (zoO (zai zbo ((zai za7 ((zai za7 zac zac)).r zac)).r (zae).r)))
      (zaq (zaL (zai zbo ((zai zby (zae).r ((zbu zfi (zau ((zbm (zbS zac) (by decide) zbe zbq (Or.inl ⟨rfl,rfl⟩) (zbu zfi (zau zac zaD)))).e.r zaD))).r)).r (zae).r) zas)
      (zaq (zio zak zak zak)
      (zio zak zak zak)))))
      zoT))))) rfl h⟩
abbrev zed:Stmt:=top 55
theorem sc_law_refused:FnScope ["_law_lengths_here","_law_many","_law_chosen","_law_caught","error"] ["_law_lengths_here","_law_many","_law_chosen"] (zar zed):=⟨rfl,rfl,rfl,by decide +kernel,rfl,by decide +kernel,by decide +kernel⟩
theorem zhF {f:Addr} {fd:FuncData} (F:Fun K "_law_refused" "_law_refused" zed f fd) (T:Txt K mg ad) (G_check_places:Has P w K mg base (CX1 P w) 3 "check_places" ["lengths","many","chosen","far"] (spM (KX K ad) (xoK (KX K ad)) zaV)):FnOk P w K mg base CX0 4 f fd ["_law_lengths_here","_law_many","_law_chosen"] (spM (KX K ad) (xoK (KX K ad)) zbW):=by
  refine F.ok sc_law_refused (fun vs H Q E h=>za4 h) (fun cdv A outer s H vs Q E hr h=>?_)
  have hu:=zbD hr
  exact ⟨_,(zag (zaF (i:=3) sc_law_refused.nd rfl (by first | exact Or.inl rfl | exact Or.inr rfl) zdD)
      (zag (zpK (i:=4) rfl rfl rfl sc_law_refused.nd rfl rfl (by rfl) T.m_NoLengths T.b_NoLengths (fun E pl xe hpx=>(zan (zds (zbM G_check_places (hr.mono (by decide)) (by rfl) hpx (zab (pv 0) (zab (pv 1) (zab (pv 2) (zab (zcn zah) zah))))))))
      (fun ea=>(zan (zaF (i:=3) sc_law_refused.nd rfl (by first | exact Or.inl rfl | exact Or.inr rfl) (pv 4)))))
      (zag (zbl ((zgq (zaA zjC (pv 3) zdD (zaQ _)) (zgq (zfE (zdG (zaw zbE (by rfl) T.isinstance boot_isinstance (zab (pv 3) (zab (zmB (v:=.ty "ValueError") (by rfl) T.ValueError PyProof.Rows.Boot.«ValueError» rfl) zah))))) (ze9 (zdG (zaw zbE (by rfl) T.isinstance boot_isinstance (zab (pv 3) (zab (zgT (v:=.ref ad.NoShare) (by rfl) T.m_NoShare rfl) zah)))))))).pt
      (zan (zaB zhx))
      zaK)
      (zag (zbl ((zgq (zdG (zaw zbE (by rfl) T.isinstance boot_isinstance (zab (pv 3) (zab (zgT (v:=.ref ad.TooMany) (by rfl) T.m_TooMany rfl) zah)))) (ze9 (zdG (zaw zbE (by rfl) T.isinstance boot_isinstance (zab (pv 3) (zab (zgT (v:=.ref ad.NoCover) (by rfl) T.m_NoCover rfl) zah))))))).pt
      (zan (zaB zhx))
      zaK)
      (zan (zaB (zkD (znZ (zaw zbE (by rfl) T.isinstance boot_isinstance (zab (pv 3) (zab (zgT (v:=.ref ad.NoRoom) (by rfl) T.m_NoRoom rfl) zah)))) (zkr (znZ (zaw zbE (by rfl) T.isinstance boot_isinstance (zab (pv 3) (zab (zgT (v:=.ref ad.NoText) (by rfl) T.m_NoText rfl) zah)))))))))))),zb4 (K:=(KX K ad)) (XO:=(xoK (KX K ad))) (E:=E) (np:=3) (nv:=2) (m:=zft)
      (zaq (zaL zdx zas)
      (zaq (zpf (ziY T) (fun _=>(zg4 (zbt (zad zak (zad zak (zad zak (zad ((zbH zao)).e zao)))))))
      (zaL zak zas))
      (zaq (zbk (zgA (zaz (zai zmV zac (zdx).r)) (zgA (zfC (st_b (zfV rfl (zir T) zac))) (st_b (zfV rfl (zlr T) zac))))
      (zaG zhB)
      zaJ)
      (zaq (zbk (zgA (st_b (zfV rfl (zlg T) zac)) (st_b (zfV rfl (zlb T) zac)))
      (zaG zhB)
      zaJ)
      (zaG (zko (zn4 (zfV rfl (zmI T) zac)) (zn4 (zfV rfl (zmS T) zac)))))))) rfl h⟩
abbrev zcj:Stmt:=top 56
theorem zeK:FnScope ["_law_lengths_here","_law_many"] ["_law_lengths_here","_law_many"] (zar zcj):=⟨rfl,rfl,rfl,by decide +kernel,rfl,by decide +kernel,by decide +kernel⟩
theorem zeP {f:Addr} {fd:FuncData} (F:Fun K "_law_refused_by_any" "_law_refused_by_any" zcj f fd) (T:Txt K mg ad) (G_check_places:Has P w K mg base (CX1 P w) 3 "check_places" ["lengths","many","chosen","far"] (spM (KX K ad) (xoK (KX K ad)) zaV)):FnOk P w K mg base CX0 4 f fd ["_law_lengths_here","_law_many"] (spM (KX K ad) (xoK (KX K ad)) za8):=by
  refine F.ok zeK (fun vs H Q E h=>za4 h) (fun cdv A outer s H vs Q E hr h=>?_)
  have hu:=zbD hr
  exact ⟨_,(zag (zor rfl rfl (by rfl) T.m_EnoughError T.b_EnoughError (fun E pl xe hpx=>(zan (zds (zbM G_check_places (hr.mono (by decide)) (by rfl) hpx (zab (pv 0) (zab (pv 1) (zab (zcn zah) (zab (zcn zah) zah))))))))
      (fun ea=>(zan (zaB zhx))))
      (zan (zaB zhx))),zb4 (K:=(KX K ad)) (XO:=(xoK (KX K ad))) (E:=E) (np:=2) (nv:=0) (m:=zdd)
      (zaq (zon (zhy T) (fun _=>(zg4 (zbt (zad zak (zad zak (zad ((zbH zao)).e (zad ((zbH zao)).e zao)))))))
      (zaG zhB))
      (zaG zhB)) rfl h⟩
abbrev zhm:Stmt:=top 59
theorem sc_law:FnScope ["_law_script","_law_cells","_law_sizes","_law_things","_law_room_here","_law_size","_law_lengths_here","_law_many","_law_k","_law_number_here","_law_bad"] ["_law_script"] (zar zhm):=⟨rfl,rfl,rfl,by decide +kernel,rfl,by decide +kernel,by decide +kernel⟩
theorem zpL {f:Addr} {fd:FuncData} (F:Fun K "law" "law" zhm f fd) (T:Txt K mg ad) (G_law_number:Has P w K mg base CX0 1 "_law_number" ["_law_cell","_law_k"] (spM (KX K ad) (xoK (KX K ad)) zaN)) (G_law_amount:Has P w K mg base CX0 2 "_law_amount" ["_law_cell","_law_k"] (spM (KX K ad) (xoK (KX K ad)) zbw)) (G_law_cell_at:Has P w K mg base CX0 1 "_law_cell_at" ["_law_script","_law_k"] (spM (KX K ad) (xoK (KX K ad)) zat)) (G_law_room:Has P w K mg base CX0 3 "_law_room" ["_law_things","_law_cell"] (spM (KX K ad) (xoK (KX K ad)) zdo)) (G_law_lengths:Has P w K mg base CX0 2 "_law_lengths" ["_law_cells","_law_many","_law_way"] (spO (KX K ad) (xoK (KX K ad)) zbP)) (G_law_sack:Has P w K mg base CX0 7 "_law_sack" ["_law_room_here","_law_things","_law_number_here"] (spM (KX K ad) (xoK (KX K ad)) zcO)) (G_law_places:Has P w K mg base CX0 5 "_law_places" ["_law_lengths_here","_law_many","_law_number_here"] (spM (KX K ad) (xoK (KX K ad)) zcb)) (G_law_broken:Has P w K mg base CX0 1 "_law_broken" ["_law_lengths_here","_law_number_here"] (spO (KX K ad) (xoK (KX K ad)) zbO)) (G_law_refused:Has P w K mg base CX0 4 "_law_refused" ["_law_lengths_here","_law_many","_law_chosen"] (spM (KX K ad) (xoK (KX K ad)) zbW)) (G_law_refused_by_any:Has P w K mg base CX0 4 "_law_refused_by_any" ["_law_lengths_here","_law_many"] (spM (KX K ad) (xoK (KX K ad)) za8)):FnOk P w K mg base CX0 8 f fd ["_law_script"] (zkV K):=by
  refine F.ok sc_law (fun vs H Q E h=>?_) (fun cdv A outer s H vs Q E hr h=>?_)
  · obtain ⟨a,ns,rfl,_⟩:=h
    rfl
  · obtain ⟨a,ns,rfl,hS,hlen,hq⟩:=h
    have hu:=zbD hr
    exact ⟨_,(zag (zaF (i:=1) sc_law.nd rfl (by first | exact Or.inl rfl | exact Or.inr rfl) (zcB zdp (pv 0) (zdb zaf) (zdb zaf)))
      (zag (zaF (i:=2) sc_law.nd rfl (by first | exact Or.inl rfl | exact Or.inr rfl) (zbL rfl (ziB rfl T.enumerate (zab (pv 1) zah)) (zci (zar zhm) ["_law_script","_law_cells","_law_sizes","_law_things","_law_room_here","_law_size","_law_lengths_here","_law_many","_law_k","_law_number_here","_law_bad"] ["_law_k","_law_cell"] [] 2 rfl rfl rfl (by decide +kernel) (by decide +kernel) (by decide +kernel) rfl (by decide +kernel) (fun cl C s H fp pins=>(zgZ rfl (zb6 (zaR (i:=0) (show List.Nodup (["_law_k","_law_cell"]:List Str) by decide +kernel) rfl (Or.inl rfl)) (zb6 (zaR (i:=1) (show List.Nodup (["_law_k","_law_cell"]:List Str) by decide +kernel) rfl (Or.inl rfl)) zfj)))) (fun cl C s H fp pins=>(zav zbp zaf (zav zba (zaP G_law_amount (hr.mono (by decide)) (by rfl) zbi (zab (pv 1) (zab (pv 0) zah))) (zav zf4 zaf zaf)))) (Or.inl ⟨rfl,rfl⟩))))
      (zag (zlV (i:=3) sc_law.nd rfl (by first | exact Or.inl rfl | exact Or.inr rfl) rfl (ziB rfl T.enumerate (zab (pv 1) zah)) (zci (zar zhm) ["_law_script","_law_cells","_law_sizes","_law_things","_law_room_here","_law_size","_law_lengths_here","_law_many","_law_k","_law_number_here","_law_bad"] ["_law_sizes","_law_k","_law_cell"] [2] 2 rfl rfl rfl (by decide +kernel) (by decide +kernel) (by decide +kernel) rfl (by decide +kernel) (fun cl C s H fp pins=>(zgZ rfl (zb6 (zaR (i:=1) (show List.Nodup (["_law_sizes","_law_k","_law_cell"]:List Str) by decide +kernel) rfl (Or.inl rfl)) (zb6 (zaR (i:=2) (show List.Nodup (["_law_sizes","_law_k","_law_cell"]:List Str) by decide +kernel) rfl (Or.inl rfl)) zfj)))) (fun cl C s H fp pins=>(zcF (zab (zaP G_law_amount (hr.mono (by decide)) (by rfl) zbi (zab (pv 2) (zab (zav zbp (pv 1) zaf) zah))) (zab (zaI zaO (pv 0) (pv 1) (fun _ _=>rfl)) zah)))) (Or.inl ⟨rfl,rfl⟩)) rfl)
      (zag (zaF (i:=4) sc_law.nd rfl (by first | exact Or.inl rfl | exact Or.inr rfl) (zaP G_law_room (hr.mono (by decide)) (by rfl) zbi (zab (pv 3) (zab (zav zba (zaP G_law_cell_at (hr.mono (by decide)) (by rfl) zbi (zab (pv 0) (zab zaf zah))) (zav zf4 zaf zaf)) zah))))
      (zag (zaF (i:=5) sc_law.nd rfl (by first | exact Or.inl rfl | exact Or.inr rfl) (zav zbp zaf (zav zba (zaP G_law_cell_at (hr.mono (by decide)) (by rfl) zbi (zab (pv 0) (zab zaf zah))) zaf)))
      (zag (zaF (i:=6) sc_law.nd rfl (by first | exact Or.inl rfl | exact Or.inr rfl) (zaP G_law_lengths (hr.mono (by decide)) (by rfl) zbi (zab (zcB zdp (pv 0) (zdb zaf) zdV) (zab (pv 5) (zab (zav zbh (zaP G_law_cell_at (hr.mono (by decide)) (by rfl) zbi (zab (pv 0) (zab zaf zah))) zaf) zah)))))
      (zag (zaF (i:=7) sc_law.nd rfl (by first | exact Or.inl rfl | exact Or.inr rfl) (zav zbp zaf (zav zba (zaP G_law_cell_at (hr.mono (by decide)) (by rfl) zbi (zab (pv 0) (zab zaf zah))) (pv 5))))
      (zag (zcM PassesOwn.never rfl (zlD rfl T.range (zab zaf (zab zaf zah))) (zaR (i:=8) sc_law.nd rfl (by first | exact Or.inl rfl | exact Or.inr rfl))
      (zag (zaF (i:=9) sc_law.nd rfl (by first | exact Or.inl rfl | exact Or.inr rfl) (zaP G_law_number (hr.mono (by decide)) (by rfl) zbi (zab (zav zbp (zaP G_law_cell_at (hr.mono (by decide)) (by rfl) zbi (zab (pv 0) (zab (pv 8) zah))) (zaP G_law_cell_at (hr.mono (by decide)) (by rfl) zbi (zab (pv 0) (zab zaf zah)))) (zab (zav zbc zaf (pv 8)) zah))))
      (zan (zbl ((zgq (zfE (zdG (zaP G_law_sack (hr.mono (by decide)) (by rfl) zbi (zab (pv 4) (zab (pv 3) (zab (pv 9) zah)))))) (ze9 (zfE (zdG (zaP G_law_places (hr.mono (by decide)) (by rfl) zbi (zab (pv 6) (zab (pv 7) (zab (zav zbh (pv 9) zaf) zah))))))))).pt
      (zan (zaB zhx))
      zaK))))
      (zag (zbl (zaA zdS (zav zba (zaP G_law_cell_at (hr.mono (by decide)) (by rfl) zbi (zab (pv 0) (zab zaf zah))) zaf) zaf (zaQ _))
      (zag (zaF (i:=10) sc_law.nd rfl (by first | exact Or.inl rfl | exact Or.inr rfl) (zaP G_law_broken (hr.mono (by decide)) (by rfl) zbi (zab (pv 6) (zab (zaP G_law_number (hr.mono (by decide)) (by rfl) zbi (zab (zaP G_law_cell_at (hr.mono (by decide)) (by rfl) zbi (zab (pv 0) (zab zaf zah))) (zab zaf zah))) zah))))
      (zan (zaB (zkD (zaP G_law_refused (hr.mono (by decide)) (by rfl) zbi (zab (pv 10) (zab (pv 7) (zab (zcn (zab zaf (zab zaf zah))) zah)))) (zkr (zaP G_law_refused_by_any (hr.mono (by decide)) (by rfl) zbi (zab (pv 10) (zab (pv 7) zah))))))))
      zaK)
      (zan (zaB zhx))))))))))),zb4 (K:=(KX K ad)) (XO:=(xoK (KX K ad))) (E:=E) (np:=1) (nv:=10) (m:=zpz)
      (zaq (zaL ((zcc zac (zc9 zae) (zc9 zae))).e zas)
      (zaq (zaL ((zbm (ziv (zau zac zaD)) (by decide) (zgN (zb5 zbe (zb5 zbe zfn))) (zmW (zeV zbq (zeV zbq zjP))) (Or.inl ⟨rfl,rfl⟩) (zai zbo (zae).r ((zai zbb ((zax (zad zak (zad zak zao)))).r ((zai zgd (zae).r (zae).r)).r)).r))).e zas)
      (zaq (zaL ((zbm (ziv (zau zac zaD)) (by decide) (zgN (zb5 zbe (zb5 zbe zfn))) (zmW (zeV zbq (zeV zbq zjP))) (Or.inl ⟨rfl,rfl⟩) (zcD (zad (zax (zad zak (zad (zai zbo zac (zae).r) zao))) (zad (zai za7 zac zac) zao))))).e zas)
      (zaq (zaL (zax (zad zak (zad (zai zbb ((zax (zad zak (zad zae zao)))).r ((zai zgd (zae).r (zae).r)).r) zao))) zas)
      (zaq (zaL (zai zbo (zae).r ((zai zbb ((zax (zad zak (zad zae zao)))).r (zae).r)).r) zas)
      (zaq (zaL ((zck (zad ((zcc zac (zc9 zae) zhN)).e (zad zak (zad (zai zb7 ((zax (zad zak (zad zae zao)))).r (zae).r) zao))))).e zas)
      (zaq (zaL (zai zbo (zae).r ((zai zbb ((zax (zad zak (zad zae zao)))).r zac)).r) zas)
      (zaq (zcN (zmA len2 (zad zae (zad zae zao))) zas
      (zaq (zaL (zax (zad (zai zbo ((zax (zad zak (zad zak zao)))).r ((zax (zad zak (zad zae zao)))).r) (zad (zai zby (zae).r zac) zao))) zas)
      (zbk (zgA (zfC (st_b (zax (zad zak (zad zak (zad zak zao)))))) (zfC (st_b (zax (zad zak (zad zak (zad (zai zb7 zac (zae).r) zao)))))))
      (zaG zhB)
      zaJ)))
      (zaq (zbk (zaz (zai zdR ((zai zbb ((zax (zad zak (zad zae zao)))).r (zae).r)).r (zae).r))
      (zaq (zaL ((zck (zad zak (zad (zax (zad (zax (zad zak (zad zae zao))) (zad zae zao))) zao)))).e zas)
      (zaG (zko (zax (zad zak (zad zak (zad ((zbH (zad zae (zad zae zao)))).e zao)))) (zax (zad zak (zad zak zao))))))
      zaJ)
      (zaG zhB)))))))))) rfl (zpt (f:=zpj) (law_true ns hlen) hS hq)⟩
end
theorem all_mk {l:PySem.W.OpenLaw} {w:World} {K:PySem.W.Frag} {h:Heap} {mg:Str→Option Value} {fa:Addr} (X:K.In h) (G:h.Ns mainGlobals mg) (hfa:mg "law"=some (.ref fa))
    (d0:∃ f fd,DefAt K "_law_number" zeB f fd)
    (d1:∃ f fd,DefAt K "_law_amount" zez f fd)
    (d2:∃ f fd,DefAt K "_law_cell_at" zeg f fd)
    (d3:∃ f fd,DefAt K "_law_room" zeQ f fd)
    (d4:∃ f fd,DefAt K "_law_between" zd9 f fd)
    (d5:∃ f fd,DefAt K "_law_lengths" zbR f fd)
    (d6:∃ f fd,DefAt K "fitting_alone" zcC f fd)
    (d7:∃ f fd,DefAt K "common_factor" zdz f fd)
    (d8:∃ f fd,DefAt K "share" zka f fd)
    (d9:∃ f fd,DefAt K "rate_of" zhk f fd)
    (d10:∃ f fd,DefAt K "less" zmU f fd)
    (d11:∃ f fd,DefAt K "by_rate" zgU f fd)
    (d12:∃ f fd,DefAt K "taking" zix f fd)
    (d13:∃ f fd,DefAt K "by_weight" zea f fd)
    (d14:∃ f fd,DefAt K "weighing" zfY f fd)
    (d15:∃ f fd,DefAt K "_law_changed" zd6 f fd)
    (d16:∃ f fd,DefAt K "_law_divisor" zei f fd)
    (d17:∃ f fd,DefAt K "_law_sum" zgP f fd)
    (d18:∃ f fd,DefAt K "_law_price_changed" zcs f fd)
    (d19:∃ f fd,DefAt K "all_below" zd4 f fd)
    (d20:∃ f fd,DefAt K "unlike_below" zdU f fd)
    (d21:∃ f fd,DefAt K "times" zj3 f fd)
    (d22:∃ f fd,DefAt K "minus" zjK f fd)
    (d23:∃ f fd,DefAt K "plus" zmY f fd)
    (d24:∃ f fd,DefAt K "bound_of" zfW f fd)
    (d25:∃ f fd,DefAt K "check_sack" zc3 f fd)
    (d26:∃ f fd,DefAt K "_law_unlike" zeA f fd)
    (d27:∃ f fd,DefAt K "_law_sack_word" zb9 f fd)
    (d28:∃ f fd,DefAt K "_law_same" zfT f fd)
    (d29:∃ f fd,DefAt K "_law_sack" zf1 f fd)
    (d30:∃ f fd,DefAt K "look_at" zgQ f fd)
    (d31:∃ f fd,DefAt K "nearest" zfI f fd)
    (d32:∃ f fd,DefAt K "farthest" zf0 f fd)
    (d33:∃ f fd,DefAt K "choose" ziG f fd)
    (d34:∃ f fd,DefAt K "farthest_next" zdv f fd)
    (d35:∃ f fd,DefAt K "far_apart" zfg f fd)
    (d36:∃ f fd,DefAt K "reach" ziK f fd)
    (d37:∃ f fd,DefAt K "least_apart" zdj f fd)
    (d38:∃ f fd,DefAt K "check_places" zdQ f fd)
    (d39:∃ f fd,DefAt K "_law_places_word" zbK f fd)
    (d40:∃ f fd,DefAt K "_law_places" zdP f fd)
    (d41:∃ f fd,DefAt K "_law_broken" zc2 f fd)
    (d42:∃ f fd,DefAt K "_law_refused" zed f fd)
    (d43:∃ f fd,DefAt K "_law_refused_by_any" zcj f fd)
    {fL:Addr} {oc:Value} {od an:Option Addr} {osl:Array (Option Value)} {kV doc pm cdv ct:Value} (aL:PySem.W.nsIn K mainGlobals "law"=some (some (.ref fL)))
    (lL:K.lookup fL=some ⟨oc,od,.func (PySem.W.fnOf "law" "law" (zfm zhm) (zef zhm) (zar zhm) .none kV doc pm an cdv ct),osl⟩) (cL:PySem.W.codeIn K cdv "law"=true) (kL:PySem.W.keepIn K (.ref fL)=true)
    (z0:PySem.W.nsIn K mainGlobals "len"=some none)
    (z1:PySem.W.nsIn K mainGlobals "abs"=some none)
    (z2:PySem.W.nsIn K mainGlobals "isinstance"=some none)
    (z3:PySem.W.nsIn K mainGlobals "list"=some none)
    (z4:PySem.W.nsIn K mainGlobals "sum"=some none)
    (z5:PySem.W.nsIn K mainGlobals "str"=some none)
    (z6:PySem.W.nsIn K mainGlobals "range"=some none)
    (z7:PySem.W.nsIn K mainGlobals "enumerate"=some none)
    (z8:PySem.W.nsIn K mainGlobals "reversed"=some none)
    (z9:PySem.W.nsIn K mainGlobals "max"=some none)
    (z10:PySem.W.nsIn K mainGlobals "min"=some none)
    (z11:PySem.W.nsIn K mainGlobals "sorted"=some none)
    (z12:PySem.W.nsIn K mainGlobals "set"=some none)
    (z13:PySem.W.nsIn K mainGlobals "all"=some none)
    (z14:PySem.W.nsIn K mainGlobals "ValueError"=some none)
    {cEnoughError cNoShare cNoLengths cTooMany cNoCover cNoRoom cNoText:Addr}
    (un_EnoughError:PySem.W.nsIn K mainGlobals "EnoughError"=some (some (.ref cEnoughError)))
    (un_NoShare:PySem.W.nsIn K mainGlobals "NoShare"=some (some (.ref cNoShare)))
    (un_NoLengths:PySem.W.nsIn K mainGlobals "NoLengths"=some (some (.ref cNoLengths)))
    (un_TooMany:PySem.W.nsIn K mainGlobals "TooMany"=some (some (.ref cTooMany)))
    (un_NoCover:PySem.W.nsIn K mainGlobals "NoCover"=some (some (.ref cNoCover)))
    (un_NoRoom:PySem.W.nsIn K mainGlobals "NoRoom"=some (some (.ref cNoRoom)))
    (un_NoText:PySem.W.nsIn K mainGlobals "NoText"=some (some (.ref cNoText)))
    (ue_NoShare:PySem.W.excIn K cNoShare [.type "ValueError",.type "Exception",.type "BaseException",.type "object"] "ValueError.__new__"=true)
    (ue_NoLengths:PySem.W.excIn K cNoLengths [.type "ValueError",.type "Exception",.type "BaseException",.type "object"] "ValueError.__new__"=true)
    (ub_EnoughError:PySem.W.mroIn K cEnoughError (.type "BaseException")=some true)
    (ub_NoLengths:PySem.W.mroIn K cNoLengths (.type "BaseException")=some true)
    (uzn:PySem.W.specialIn K (.builtin "object.__class__") "__get__"=some (some (.builtin "getset_descriptor.__get__")))
    (uzt:PySem.W.takesIn K (.builtin "object.__class__")=some true)
    (uhd_EnoughError:PySem.W.hasDictIn K cEnoughError=true)
    (uhd_NoShare:PySem.W.hasDictIn K cNoShare=true)
    (uhd_NoLengths:PySem.W.hasDictIn K cNoLengths=true)
    (uhd_TooMany:PySem.W.hasDictIn K cTooMany=true)
    (uhd_NoCover:PySem.W.hasDictIn K cNoCover=true)
    (uhd_NoRoom:PySem.W.hasDictIn K cNoRoom=true)
    (uhd_NoText:PySem.W.hasDictIn K cNoText=true)
    (uty_EnoughError:PySem.W.typeIn K (.ref cEnoughError)=some (.type "type"))
    (uty_NoShare:PySem.W.typeIn K (.ref cNoShare)=some (.type "type"))
    (uty_NoLengths:PySem.W.typeIn K (.ref cNoLengths)=some (.type "type"))
    (uty_TooMany:PySem.W.typeIn K (.ref cTooMany)=some (.type "type"))
    (uty_NoCover:PySem.W.typeIn K (.ref cNoCover)=some (.type "type"))
    (uty_NoRoom:PySem.W.typeIn K (.ref cNoRoom)=some (.type "type"))
    (uty_NoText:PySem.W.typeIn K (.ref cNoText)=some (.type "type"))
    (uga_NoShare:PySem.W.findIn K (.ref cNoShare) "__getattribute__"=some (some (.builtin "BaseException.__getattribute__")))
    (ugn_NoShare:PySem.W.findIn K (.ref cNoShare) "__getattr__"=some none)
    (uha_NoShare:PySem.W.findIn K (.ref cNoShare) "__class__"=some (some (.builtin "object.__class__")))
    (umr_NoShare_EnoughError:PySem.W.mroIn K cNoShare (.ref cEnoughError)=some true)
    (umr_NoShare_NoShare:PySem.W.mroIn K cNoShare (.ref cNoShare)=some true)
    (umr_NoShare_NoLengths:PySem.W.mroIn K cNoShare (.ref cNoLengths)=some false)
    (umr_NoShare_TooMany:PySem.W.mroIn K cNoShare (.ref cTooMany)=some false)
    (umr_NoShare_NoCover:PySem.W.mroIn K cNoShare (.ref cNoCover)=some false)
    (umr_NoShare_NoRoom:PySem.W.mroIn K cNoShare (.ref cNoRoom)=some false)
    (umr_NoShare_NoText:PySem.W.mroIn K cNoShare (.ref cNoText)=some false)
    (umt_NoShare_object:PySem.W.mroIn K cNoShare (.type "object")=some true)
    (umt_NoShare_BaseException:PySem.W.mroIn K cNoShare (.type "BaseException")=some true)
    (umt_NoShare_ValueError:PySem.W.mroIn K cNoShare (.type "ValueError")=some true)
    (uga_NoLengths:PySem.W.findIn K (.ref cNoLengths) "__getattribute__"=some (some (.builtin "BaseException.__getattribute__")))
    (ugn_NoLengths:PySem.W.findIn K (.ref cNoLengths) "__getattr__"=some none)
    (uha_NoLengths:PySem.W.findIn K (.ref cNoLengths) "__class__"=some (some (.builtin "object.__class__")))
    (umr_NoLengths_EnoughError:PySem.W.mroIn K cNoLengths (.ref cEnoughError)=some true)
    (umr_NoLengths_NoShare:PySem.W.mroIn K cNoLengths (.ref cNoShare)=some false)
    (umr_NoLengths_NoLengths:PySem.W.mroIn K cNoLengths (.ref cNoLengths)=some true)
    (umr_NoLengths_TooMany:PySem.W.mroIn K cNoLengths (.ref cTooMany)=some false)
    (umr_NoLengths_NoCover:PySem.W.mroIn K cNoLengths (.ref cNoCover)=some false)
    (umr_NoLengths_NoRoom:PySem.W.mroIn K cNoLengths (.ref cNoRoom)=some false)
    (umr_NoLengths_NoText:PySem.W.mroIn K cNoLengths (.ref cNoText)=some false)
    (umt_NoLengths_object:PySem.W.mroIn K cNoLengths (.type "object")=some true)
    (umt_NoLengths_BaseException:PySem.W.mroIn K cNoLengths (.type "BaseException")=some true)
    (umt_NoLengths_ValueError:PySem.W.mroIn K cNoLengths (.type "ValueError")=some true)
    : ∃ fd:FuncData,(∀ (s:Shared) (v:Value),BindsTo s fd ⟨[v],[]⟩ [("_law_script",v)])∧∀ base:Heap,K.In base→base.Ns mainGlobals mg→FnOk l.prog w K mg base CX0 8 fa fd ["_law_script"] (zkV K):=by
  have e:=hfa.symm.trans (PySem.W.mg_of X G aL)
  cases e
  let ad:Adr:=⟨cEnoughError,cNoShare,cNoLengths,cTooMany,cNoCover,cNoRoom,cNoText⟩
  have T:Txt K mg ad:=⟨PySem.W.mg_none_of X G z0,PySem.W.mg_none_of X G z1,PySem.W.mg_none_of X G z2,PySem.W.mg_none_of X G z3,PySem.W.mg_none_of X G z4,PySem.W.mg_none_of X G z5,PySem.W.mg_none_of X G z6,PySem.W.mg_none_of X G z7,PySem.W.mg_none_of X G z8,PySem.W.mg_none_of X G z9,PySem.W.mg_none_of X G z10,PySem.W.mg_none_of X G z11,PySem.W.mg_none_of X G z12,PySem.W.mg_none_of X G z13,PySem.W.mg_none_of X G z14,PySem.W.mg_of X G un_EnoughError,PySem.W.mg_of X G un_NoShare,PySem.W.mg_of X G un_NoLengths,PySem.W.mg_of X G un_TooMany,PySem.W.mg_of X G un_NoCover,PySem.W.mg_of X G un_NoRoom,PySem.W.mg_of X G un_NoText,ue_NoShare,ue_NoLengths,ub_EnoughError,ub_NoLengths,⟨uga_NoShare,ugn_NoShare,uhd_NoShare,uha_NoShare,uzn,uzt,umt_NoShare_object,umt_NoShare_BaseException⟩,ziA uhd_EnoughError uty_EnoughError umr_NoShare_EnoughError,zdW uhd_NoShare uty_NoShare umr_NoShare_NoShare umr_NoShare_NoShare,zdW uhd_TooMany uty_TooMany umr_NoShare_TooMany umr_NoShare_NoShare,zdW uhd_NoCover uty_NoCover umr_NoShare_NoCover umr_NoShare_NoShare,zdW uhd_NoRoom uty_NoRoom umr_NoShare_NoRoom umr_NoShare_NoShare,zdW uhd_NoText uty_NoText umr_NoShare_NoText umr_NoShare_NoShare,zkW zeE umt_NoShare_ValueError,⟨uga_NoLengths,ugn_NoLengths,uhd_NoLengths,uha_NoLengths,uzn,uzt,umt_NoLengths_object,umt_NoLengths_BaseException⟩,ziA uhd_EnoughError uty_EnoughError umr_NoLengths_EnoughError,ziA uhd_NoLengths uty_NoLengths umr_NoLengths_NoLengths,zdW uhd_NoShare uty_NoShare umr_NoLengths_NoShare umr_NoLengths_NoLengths,zdW uhd_TooMany uty_TooMany umr_NoLengths_TooMany umr_NoLengths_NoLengths,zdW uhd_NoCover uty_NoCover umr_NoLengths_NoCover umr_NoLengths_NoLengths,zdW uhd_NoRoom uty_NoRoom umr_NoLengths_NoRoom umr_NoLengths_NoLengths,zdW uhd_NoText uty_NoText umr_NoLengths_NoText umr_NoLengths_NoLengths,zkW zeE umt_NoLengths_ValueError⟩
  obtain ⟨f0,g0,D0⟩:=d0
  obtain ⟨f1,g1,D1⟩:=d1
  obtain ⟨f2,g2,D2⟩:=d2
  obtain ⟨f3,g3,D3⟩:=d3
  obtain ⟨f4,g4,D4⟩:=d4
  obtain ⟨f5,g5,D5⟩:=d5
  obtain ⟨f6,g6,D6⟩:=d6
  obtain ⟨f7,g7,D7⟩:=d7
  obtain ⟨f8,g8,D8⟩:=d8
  obtain ⟨f9,g9,D9⟩:=d9
  obtain ⟨f10,g10,D10⟩:=d10
  obtain ⟨f11,g11,D11⟩:=d11
  obtain ⟨f12,g12,D12⟩:=d12
  obtain ⟨f13,g13,D13⟩:=d13
  obtain ⟨f14,g14,D14⟩:=d14
  obtain ⟨f15,g15,D15⟩:=d15
  obtain ⟨f16,g16,D16⟩:=d16
  obtain ⟨f17,g17,D17⟩:=d17
  obtain ⟨f18,g18,D18⟩:=d18
  obtain ⟨f19,g19,D19⟩:=d19
  obtain ⟨f20,g20,D20⟩:=d20
  obtain ⟨f21,g21,D21⟩:=d21
  obtain ⟨f22,g22,D22⟩:=d22
  obtain ⟨f23,g23,D23⟩:=d23
  obtain ⟨f24,g24,D24⟩:=d24
  obtain ⟨f25,g25,D25⟩:=d25
  obtain ⟨f26,g26,D26⟩:=d26
  obtain ⟨f27,g27,D27⟩:=d27
  obtain ⟨f28,g28,D28⟩:=d28
  obtain ⟨f29,g29,D29⟩:=d29
  obtain ⟨f30,g30,D30⟩:=d30
  obtain ⟨f31,g31,D31⟩:=d31
  obtain ⟨f32,g32,D32⟩:=d32
  obtain ⟨f33,g33,D33⟩:=d33
  obtain ⟨f34,g34,D34⟩:=d34
  obtain ⟨f35,g35,D35⟩:=d35
  obtain ⟨f36,g36,D36⟩:=d36
  obtain ⟨f37,g37,D37⟩:=d37
  obtain ⟨f38,g38,D38⟩:=d38
  obtain ⟨f39,g39,D39⟩:=d39
  obtain ⟨f40,g40,D40⟩:=d40
  obtain ⟨f41,g41,D41⟩:=d41
  obtain ⟨f42,g42,D42⟩:=d42
  obtain ⟨f43,g43,D43⟩:=d43
  have FL:=zn3 (st:=zhm) lL cL kL
  refine ⟨PySem.W.fnOf "law" "law" (zfm zhm) (zef zhm) (zar zhm) .none kV doc pm an cdv ct,fun s v=>.of_eq rfl,fun base _ _=>?_⟩
  have G_law_number:Has l.prog w K mg base CX0 1 "_law_number" ["_law_cell","_law_k"] (spM (KX K ad) (xoK (KX K ad)) zaN):=D0.has X G (zii D0.fn T  ) (D0.fn.binds fun _ _ _ _ _ _ us hl=>match us,hl with | [_,_],_=>rfl)
  have G_law_amount:Has l.prog w K mg base CX0 2 "_law_amount" ["_law_cell","_law_k"] (spM (KX K ad) (xoK (KX K ad)) zbw):=D1.has X G (ziI D1.fn T  G_law_number) (D1.fn.binds fun _ _ _ _ _ _ us hl=>match us,hl with | [_,_],_=>rfl)
  have G_law_cell_at:Has l.prog w K mg base CX0 1 "_law_cell_at" ["_law_script","_law_k"] (spM (KX K ad) (xoK (KX K ad)) zat):=D2.has X G (zhJ D2.fn T  ) (D2.fn.binds fun _ _ _ _ _ _ us hl=>match us,hl with | [_,_],_=>rfl)
  have G_law_room:Has l.prog w K mg base CX0 3 "_law_room" ["_law_things","_law_cell"] (spM (KX K ad) (xoK (KX K ad)) zdo):=D3.has X G (zjJ D3.fn T  G_law_amount) (D3.fn.binds fun _ _ _ _ _ _ us hl=>match us,hl with | [_,_],_=>rfl)
  have G_law_between:Has l.prog w K mg base CX0 1 "_law_between" ["_law_spots","_law_one","_law_other","_law_least"] (spM (KX K ad) (xoK (KX K ad)) zcG):=D4.has X G (zhC D4.fn T  ) (D4.fn.binds fun _ _ _ _ _ _ us hl=>match us,hl with | [_,_,_,_],_=>rfl)
  have G_law_lengths:Has l.prog w K mg base CX0 2 "_law_lengths" ["_law_cells","_law_many","_law_way"] (spO (KX K ad) (xoK (KX K ad)) zbP):=D5.has X G (zhE D5.fn T  G_law_number G_law_cell_at G_law_between) (D5.fn.binds fun _ _ _ _ _ _ us hl=>match us,hl with | [_,_,_],_=>rfl)
  have G_fitting_alone:Has l.prog w K mg base CX0 1 "fitting_alone" ["room","things"] (spO (KX K ad) (xoK (KX K ad)) zbj):=D6.has X G (zgn D6.fn T  ) (D6.fn.binds fun _ _ _ _ _ _ us hl=>match us,hl with | [_,_],_=>rfl)
  have G_common_factor:Has l.prog w K mg base CX0 1 "common_factor" ["one","other"] (spM (KX K ad) (xoK (KX K ad)) zca):=D7.has X G (zgu D7.fn T  ) (D7.fn.binds fun _ _ _ _ _ _ us hl=>match us,hl with | [_,_],_=>rfl)
  have G_share:Has l.prog w K mg base (CX1 l.prog w) 2 "share" ["top","bottom"] (spM (KX K ad) (xoK (KX K ad)) zc8):=D8.has X G (znK D8.fn T  G_common_factor) (D8.fn.binds fun _ _ _ _ _ _ us hl=>match us,hl with | [_,_],_=>rfl)
  have G_rate_of:Has l.prog w K mg base (CX1 l.prog w) 3 "rate_of" ["thing"] (spM (KX K ad) (xoK (KX K ad)) zcY):=D9.has X G (zk9 D9.fn T  G_share) (D9.fn.binds fun _ _ _ _ _ _ us hl=>match us,hl with | [_],_=>rfl)
  have G_less:Has l.prog w K mg base CX0 1 "less" ["one","other"] (spM (KX K ad) (xoK (KX K ad)) zc4):=D10.has X G (zoB D10.fn T  ) (D10.fn.binds fun _ _ _ _ _ _ us hl=>match us,hl with | [_,_],_=>rfl)
  have G_by_rate:Has l.prog w K mg base (CX1 l.prog w) 4 "by_rate" ["room","things"] (spO (KX K ad) (xoK (KX K ad)) zeJ):=D11.has X G (zk2 D11.fn T  G_fitting_alone G_rate_of G_less) (D11.fn.binds fun _ _ _ _ _ _ us hl=>match us,hl with | [_,_],_=>rfl)
  have G_taking:Has l.prog w K mg base (CX1 l.prog w) 5 "taking" ["room","things"] (spM (KX K ad) (xoK (KX K ad)) zcp):=D12.has X G (zmx D12.fn T  G_by_rate) (D12.fn.binds fun _ _ _ _ _ _ us hl=>match us,hl with | [_,_],_=>rfl)
  have G_by_weight:Has l.prog w K mg base (CX1 l.prog w) 6 "by_weight" ["room","things"] (spO (KX K ad) (xoK (KX K ad)) zcv):=D13.has X G (zjH D13.fn T  G_fitting_alone G_taking) (D13.fn.binds fun _ _ _ _ _ _ us hl=>match us,hl with | [_,_],_=>rfl)
  have G_weighing:Has l.prog w K mg base (CX1 l.prog w) 6 "weighing" ["room","things"] (spM (KX K ad) (xoK (KX K ad)) zdn):=D14.has X G (zkd D14.fn T  G_rate_of G_taking) (D14.fn.binds fun _ _ _ _ _ _ us hl=>match us,hl with | [_,_],_=>rfl)
  have G_law_changed:Has l.prog w K mg base CX0 1 "_law_changed" ["_law_some","_law_number_here","_law_size"] (spM (KX K ad) (xoK (KX K ad)) zbd):=D15.has X G (zhH D15.fn T  ) (D15.fn.binds fun _ _ _ _ _ _ us hl=>match us,hl with | [_,_,_],_=>rfl)
  have G_law_divisor:Has l.prog w K mg base CX0 1 "_law_divisor" ["_law_one","_law_other"] (spM (KX K ad) (xoK (KX K ad)) zch):=D16.has X G (zhD D16.fn T  ) (D16.fn.binds fun _ _ _ _ _ _ us hl=>match us,hl with | [_,_],_=>rfl)
  have G_law_sum:Has l.prog w K mg base CX0 2 "_law_sum" ["_law_parts"] (spM (KX K ad) (xoK (KX K ad)) zbN):=D17.has X G (zlc D17.fn T  G_law_divisor) (D17.fn.binds fun _ _ _ _ _ _ us hl=>match us,hl with | [_],_=>rfl)
  have G_law_price_changed:Has l.prog w K mg base CX0 3 "_law_price_changed" ["_law_price","_law_number_here","_law_things"] (spM (KX K ad) (xoK (KX K ad)) za1):=D18.has X G (zeY D18.fn T  G_law_sum) (D18.fn.binds fun _ _ _ _ _ _ us hl=>match us,hl with | [_,_,_],_=>rfl)
  have G_all_below:Has l.prog w K mg base CX0 1 "all_below" ["numbers","count"] (spM (KX K ad) (xoK (KX K ad)) zcS):=D19.has X G (ziT D19.fn T  ) (D19.fn.binds fun _ _ _ _ _ _ us hl=>match us,hl with | [_,_],_=>rfl)
  have G_unlike_below:Has l.prog w K mg base CX0 2 "unlike_below" ["numbers","count"] (spM (KX K ad) (xoK (KX K ad)) zaX):=D20.has X G (zg5 D20.fn T  G_all_below) (D20.fn.binds fun _ _ _ _ _ _ us hl=>match us,hl with | [_,_],_=>rfl)
  have G_times:Has l.prog w K mg base (CX1 l.prog w) 3 "times" ["one","other"] (spM (KX K ad) (xoK (KX K ad)) zeN):=D21.has X G (znl D21.fn T  G_share) (D21.fn.binds fun _ _ _ _ _ _ us hl=>match us,hl with | [_,_],_=>rfl)
  have G_minus:Has l.prog w K mg base (CX1 l.prog w) 3 "minus" ["one","other"] (spM (KX K ad) (xoK (KX K ad)) zfU):=D22.has X G (znM D22.fn T  G_share) (D22.fn.binds fun _ _ _ _ _ _ us hl=>match us,hl with | [_,_],_=>rfl)
  have G_plus:Has l.prog w K mg base (CX1 l.prog w) 3 "plus" ["one","other"] (spM (KX K ad) (xoK (KX K ad)) zi1):=D23.has X G (zou D23.fn T  G_share) (D23.fn.binds fun _ _ _ _ _ _ us hl=>match us,hl with | [_,_],_=>rfl)
  have G_bound_of:Has l.prog w K mg base (CX1 l.prog w) 4 "bound_of" ["room","things","price"] (spM (KX K ad) (xoK (KX K ad)) zb3):=D24.has X G (zj4 D24.fn T  G_fitting_alone G_less G_times G_minus G_plus) (D24.fn.binds fun _ _ _ _ _ _ us hl=>match us,hl with | [_,_,_],_=>rfl)
  have G_check_sack:Has l.prog w K mg base (CX1 l.prog w) 5 "check_sack" ["room","things","taken","price"] (spM (KX K ad) (xoK (KX K ad)) zcy):=D25.has X G (ziH D25.fn T  G_less G_unlike_below G_bound_of) (D25.fn.binds fun _ _ _ _ _ _ us hl=>match us,hl with | [_,_,_,_],_=>rfl)
  have G_law_unlike:Has l.prog w K mg base CX0 1 "_law_unlike" ["_law_some","_law_many"] (spM (KX K ad) (xoK (KX K ad)) za9):=D26.has X G (ziL D26.fn T  ) (D26.fn.binds fun _ _ _ _ _ _ us hl=>match us,hl with | [_,_],_=>rfl)
  have G_law_sack_word:Has l.prog w K mg base CX0 2 "_law_sack_word" ["_law_room_here","_law_things","_law_taken","_law_price"] (spM (KX K ad) (xoK (KX K ad)) zcf):=D27.has X G (zgC D27.fn T  G_law_unlike) (D27.fn.binds fun _ _ _ _ _ _ us hl=>match us,hl with | [_,_,_,_],_=>rfl)
  have G_law_same:Has l.prog w K mg base CX0 1 "_law_same" ["_law_found","_law_due"] (spM (KX K ad) (xoK (KX K ad)) zcP):=D28.has X G (zj8 D28.fn T  ) (D28.fn.binds fun _ _ _ _ _ _ us hl=>match us,hl with | [_,_],_=>rfl)
  have G_law_sack:Has l.prog w K mg base CX0 7 "_law_sack" ["_law_room_here","_law_things","_law_number_here"] (spM (KX K ad) (xoK (KX K ad)) zcO):=D29.has X G (zjO D29.fn T  G_law_number G_by_weight G_weighing G_law_changed G_law_price_changed G_check_sack G_law_sack_word G_law_same) (D29.fn.binds fun _ _ _ _ _ _ us hl=>match us,hl with | [_,_,_],_=>rfl)
  have G_look_at:Has l.prog w K mg base (CX1 l.prog w) 1 "look_at" ["lengths"] (spM (KX K ad) (xoK (KX K ad)) zbs):=D30.has X G (zk3 D30.fn T  ) (D30.fn.binds fun _ _ _ _ _ _ us hl=>match us,hl with | [_],_=>rfl)
  have G_nearest:Has l.prog w K mg base CX0 1 "nearest" ["lengths","place","some"] (spM (KX K ad) (xoK (KX K ad)) zce):=D31.has X G (zlk D31.fn T  ) (D31.fn.binds fun _ _ _ _ _ _ us hl=>match us,hl with | [_,_,_],_=>rfl)
  have G_farthest:Has l.prog w K mg base CX0 2 "farthest" ["lengths","chosen"] (spM (KX K ad) (xoK (KX K ad)) zcU):=D32.has X G (zjR D32.fn T  G_nearest) (D32.fn.binds fun _ _ _ _ _ _ us hl=>match us,hl with | [_,_],_=>rfl)
  have G_choose:Has l.prog w K mg base CX0 3 "choose" ["lengths","many"] (spO (KX K ad) (xoK (KX K ad)) zdN):=D33.has X G (zlF D33.fn T  G_farthest) (D33.fn.binds fun _ _ _ _ _ _ us hl=>match us,hl with | [_,_],_=>rfl)
  have G_farthest_next:Has l.prog w K mg base (CX1 l.prog w) 4 "farthest_next" ["lengths","many"] (spO (KX K ad) (xoK (KX K ad)) zbI):=D34.has X G (zgx D34.fn T  G_look_at G_choose) (D34.fn.binds fun _ _ _ _ _ _ us hl=>match us,hl with | [_,_],_=>rfl)
  have G_far_apart:Has l.prog w K mg base (CX1 l.prog w) 4 "far_apart" ["lengths","many"] (spO (KX K ad) (xoK (KX K ad)) zcT):=D35.has X G (zjm D35.fn T  G_look_at G_choose) (D35.fn.binds fun _ _ _ _ _ _ us hl=>match us,hl with | [_,_],_=>rfl)
  have G_reach:Has l.prog w K mg base CX0 2 "reach" ["lengths","some"] (spM (KX K ad) (xoK (KX K ad)) zfk):=D36.has X G (znm D36.fn T  G_nearest) (D36.fn.binds fun _ _ _ _ _ _ us hl=>match us,hl with | [_,_],_=>rfl)
  have G_least_apart:Has l.prog w K mg base CX0 2 "least_apart" ["lengths","some"] (spM (KX K ad) (xoK (KX K ad)) zbQ):=D37.has X G (zhG D37.fn T  G_nearest) (D37.fn.binds fun _ _ _ _ _ _ us hl=>match us,hl with | [_,_],_=>rfl)
  have G_check_places:Has l.prog w K mg base (CX1 l.prog w) 3 "check_places" ["lengths","many","chosen","far"] (spM (KX K ad) (xoK (KX K ad)) zaV):=D38.has X G (zhv D38.fn T  G_unlike_below G_look_at G_reach G_least_apart) (D38.fn.binds fun _ _ _ _ _ _ us hl=>match us,hl with | [_,_,_,_],_=>rfl)
  have G_law_places_word:Has l.prog w K mg base CX0 2 "_law_places_word" ["_law_lengths_here","_law_many","_law_chosen","_law_far"] (spM (KX K ad) (xoK (KX K ad)) zbJ):=D39.has X G (zfx D39.fn T  G_law_unlike) (D39.fn.binds fun _ _ _ _ _ _ us hl=>match us,hl with | [_,_,_,_],_=>rfl)
  have G_law_places:Has l.prog w K mg base CX0 5 "_law_places" ["_law_lengths_here","_law_many","_law_number_here"] (spM (KX K ad) (xoK (KX K ad)) zcb):=D40.has X G (ziy D40.fn T  G_law_number G_law_changed G_law_same G_farthest_next G_far_apart G_check_places G_law_places_word) (D40.fn.binds fun _ _ _ _ _ _ us hl=>match us,hl with | [_,_,_],_=>rfl)
  have G_law_broken:Has l.prog w K mg base CX0 1 "_law_broken" ["_law_lengths_here","_law_number_here"] (spO (KX K ad) (xoK (KX K ad)) zbO):=D41.has X G (zij D41.fn T  ) (D41.fn.binds fun _ _ _ _ _ _ us hl=>match us,hl with | [_,_],_=>rfl)
  have G_law_refused:Has l.prog w K mg base CX0 4 "_law_refused" ["_law_lengths_here","_law_many","_law_chosen"] (spM (KX K ad) (xoK (KX K ad)) zbW):=D42.has X G (zhF D42.fn T  G_check_places) (D42.fn.binds fun _ _ _ _ _ _ us hl=>match us,hl with | [_,_,_],_=>rfl)
  have G_law_refused_by_any:Has l.prog w K mg base CX0 4 "_law_refused_by_any" ["_law_lengths_here","_law_many"] (spM (KX K ad) (xoK (KX K ad)) za8):=D43.has X G (zeP D43.fn T  G_check_places) (D43.fn.binds fun _ _ _ _ _ _ us hl=>match us,hl with | [_,_],_=>rfl)
  exact zpL FL T G_law_number G_law_amount G_law_cell_at G_law_room G_law_lengths G_law_sack G_law_places G_law_broken G_law_refused G_law_refused_by_any
theorem walk {l:PySem.W.OpenLaw} {q:Program} {loose:List Str} {XP:(Str→Option Value)→Heap→Prop} {YP:World→Heap→Prop} {d:DefRec} {K:Params→PySem.W.Frag} (hn:l.most=some 63) (hdf:d.params.defaults = [])
    (hY:∀ (w:World) (h:Heap),YP w h→(K w.params).In h) (hT:∀ w:World,zlK (K w.params)=none)
    (F:∀ (w:World) (mg:Str→Option Value) (fa:Addr) (h:Heap),(K w.params).In h→h.Ns mainGlobals mg→mg d.name=some (.ref fa) →
      ∃ fd:FuncData,(∀ (s:Shared) (u:Value),BindsTo s fd ⟨[u],[]⟩ [("_law_script",u)])∧∀ base:Heap,(K w.params).In base→base.Ns mainGlobals mg→FnOk l.prog w (K w.params) mg base CX0 8 fa fd ["_law_script"] (zkV (K w.params))) :
    PySem.W.WalkO q loose XP YP l.row.toRowW d [] (fun f vs=>PySem.call f vs) :=
  L2.walk_of (n:=63) (k:=8) (x:="_law_script") (CX:=fun _=>CX0) (sp:=fun w=>zkV (K w.params)) hn (by decide) hdf ⟨rfl,by decide,by decide⟩ hY hT F (fun _ _ a ns hl _ hS=>⟨a,ns,rfl,hS,hl,fun _=>rfl⟩) fun _ _ _ _ _ z=>z
end My
def PySem.W.Fast.tw6385871032435057281:Nat:=0
def PySem.W.Fast.tw4321673996460874144:Nat:=0
def PySem.W.Fast.tw144027280716659439:Nat:=0
def PySem.W.Fast.tw8246068643815401149:Nat:=0
def PySem.W.Fast.tw4593612646977101541:Nat:=0
def PySem.W.Fast.tw15324173656855878644:Nat:=0
def PySem.W.Fast.tw16331374170598096240:Nat:=0
def PySem.W.Fast.tw11411108755045468547:Nat:=0
def PySem.W.Fast.tw2882284589661611778:Nat:=0
def PySem.W.Fast.tw11511942025293264502:Nat:=0
def PySem.W.Fast.tw14626195527126579259:Nat:=0
def PySem.W.Fast.tw6386821009293509442:Nat:=0
def PySem.W.Fast.tw11800332549750964214:Nat:=0
def PySem.W.Fast.tw3135246453188867604:Nat:=0
def PySem.W.Fast.tw1173119771986022333:Nat:=0
def PySem.W.Fast.tw3884940081850296665:Nat:=0
def PySem.W.Fast.tw8503012522073209136:Nat:=0
def PySem.W.Fast.tw7620798484624028016:Nat:=0
open PySem PySem.W PyProof.Rows
set_option maxRecDepth 100000 in
set_option maxHeartbeats 0 in
theorem PySem.Challenge.cw_goodenough_k48_sacks_and_places_looked_a_holds : PySem.Challenge.rw_goodenough_k48_sacks_and_places_looked_a.Holds := by
  w_on; o_law; k_head; (case hw=>w_witness2)
  k_fill
  refine My.walk (l:=PySem.Challenge.rw_goodenough_k48_sacks_and_places_looked_a) rfl rfl (fun w h Y=>by first | exact PySem.W.kIn_of Y | exact PySem.W.km_in_of Y) ?tab ?F
  (case tab=>intro w; kernel_rfl)
  case F =>
    intro w mg fa h KX G hmg
    refine' My.all_mk KX G hmg (L2.defAt_mk ?a0 ?l0 ?c0 ?k0) (L2.defAt_mk ?a1 ?l1 ?c1 ?k1) (L2.defAt_mk ?a2 ?l2 ?c2 ?k2) (L2.defAt_mk ?a3 ?l3 ?c3 ?k3) (L2.defAt_mk ?a4 ?l4 ?c4 ?k4) (L2.defAt_mk ?a5 ?l5 ?c5 ?k5) (L2.defAt_mk ?a6 ?l6 ?c6 ?k6) (L2.defAt_mk ?a7 ?l7 ?c7 ?k7) (L2.defAt_mk ?a8 ?l8 ?c8 ?k8) (L2.defAt_mk ?a9 ?l9 ?c9 ?k9) (L2.defAt_mk ?a10 ?l10 ?c10 ?k10) (L2.defAt_mk ?a11 ?l11 ?c11 ?k11) (L2.defAt_mk ?a12 ?l12 ?c12 ?k12) (L2.defAt_mk ?a13 ?l13 ?c13 ?k13) (L2.defAt_mk ?a14 ?l14 ?c14 ?k14) (L2.defAt_mk ?a15 ?l15 ?c15 ?k15) (L2.defAt_mk ?a16 ?l16 ?c16 ?k16) (L2.defAt_mk ?a17 ?l17 ?c17 ?k17) (L2.defAt_mk ?a18 ?l18 ?c18 ?k18) (L2.defAt_mk ?a19 ?l19 ?c19 ?k19) (L2.defAt_mk ?a20 ?l20 ?c20 ?k20) (L2.defAt_mk ?a21 ?l21 ?c21 ?k21) (L2.defAt_mk ?a22 ?l22 ?c22 ?k22) (L2.defAt_mk ?a23 ?l23 ?c23 ?k23) (L2.defAt_mk ?a24 ?l24 ?c24 ?k24) (L2.defAt_mk ?a25 ?l25 ?c25 ?k25) (L2.defAt_mk ?a26 ?l26 ?c26 ?k26) (L2.defAt_mk ?a27 ?l27 ?c27 ?k27) (L2.defAt_mk ?a28 ?l28 ?c28 ?k28) (L2.defAt_mk ?a29 ?l29 ?c29 ?k29) (L2.defAt_mk ?a30 ?l30 ?c30 ?k30) (L2.defAt_mk ?a31 ?l31 ?c31 ?k31) (L2.defAt_mk ?a32 ?l32 ?c32 ?k32) (L2.defAt_mk ?a33 ?l33 ?c33 ?k33) (L2.defAt_mk ?a34 ?l34 ?c34 ?k34) (L2.defAt_mk ?a35 ?l35 ?c35 ?k35) (L2.defAt_mk ?a36 ?l36 ?c36 ?k36) (L2.defAt_mk ?a37 ?l37 ?c37 ?k37) (L2.defAt_mk ?a38 ?l38 ?c38 ?k38) (L2.defAt_mk ?a39 ?l39 ?c39 ?k39) (L2.defAt_mk ?a40 ?l40 ?c40 ?k40) (L2.defAt_mk ?a41 ?l41 ?c41 ?k41) (L2.defAt_mk ?a42 ?l42 ?c42 ?k42) (L2.defAt_mk ?a43 ?l43 ?c43 ?k43) ?aL ?lL ?cL ?kL ?z0 ?z1 ?z2 ?z3 ?z4 ?z5 ?z6 ?z7 ?z8 ?z9 ?z10 ?z11 ?z12 ?z13 ?z14 ?un_EnoughError ?un_NoShare ?un_NoLengths ?un_TooMany ?un_NoCover ?un_NoRoom ?un_NoText ?ue_NoShare ?ue_NoLengths ?ub_EnoughError ?ub_NoLengths ?uzn ?uzt ?uhd_EnoughError ?uhd_NoShare ?uhd_NoLengths ?uhd_TooMany ?uhd_NoCover ?uhd_NoRoom ?uhd_NoText ?uty_EnoughError ?uty_NoShare ?uty_NoLengths ?uty_TooMany ?uty_NoCover ?uty_NoRoom ?uty_NoText ?uga_NoShare ?ugn_NoShare ?uha_NoShare ?umr_NoShare_EnoughError ?umr_NoShare_NoShare ?umr_NoShare_NoLengths ?umr_NoShare_TooMany ?umr_NoShare_NoCover ?umr_NoShare_NoRoom ?umr_NoShare_NoText ?umt_NoShare_object ?umt_NoShare_BaseException ?umt_NoShare_ValueError ?uga_NoLengths ?ugn_NoLengths ?uha_NoLengths ?umr_NoLengths_EnoughError ?umr_NoLengths_NoShare ?umr_NoLengths_NoLengths ?umr_NoLengths_TooMany ?umr_NoLengths_NoCover ?umr_NoLengths_NoRoom ?umr_NoLengths_NoText ?umt_NoLengths_object ?umt_NoLengths_BaseException ?umt_NoLengths_ValueError
    (case a0=>k_is); (case l0=>k_is); (case c0=>k_is); (case k0=>k_is)
    (case a1=>k_is); (case l1=>k_is); (case c1=>k_is); (case k1=>k_is)
    (case a2=>k_is); (case l2=>k_is); (case c2=>k_is); (case k2=>k_is)
    (case a3=>k_is); (case l3=>k_is); (case c3=>k_is); (case k3=>k_is)
    (case a4=>k_is); (case l4=>k_is); (case c4=>k_is); (case k4=>k_is)
    (case a5=>k_is); (case l5=>k_is); (case c5=>k_is); (case k5=>k_is)
    (case a6=>k_is); (case l6=>k_is); (case c6=>k_is); (case k6=>k_is)
    (case a7=>k_is); (case l7=>k_is); (case c7=>k_is); (case k7=>k_is)
    (case a8=>k_is); (case l8=>k_is); (case c8=>k_is); (case k8=>k_is)
    (case a9=>k_is); (case l9=>k_is); (case c9=>k_is); (case k9=>k_is)
    (case a10=>k_is); (case l10=>k_is); (case c10=>k_is); (case k10=>k_is)
    (case a11=>k_is); (case l11=>k_is); (case c11=>k_is); (case k11=>k_is)
    (case a12=>k_is); (case l12=>k_is); (case c12=>k_is); (case k12=>k_is)
    (case a13=>k_is); (case l13=>k_is); (case c13=>k_is); (case k13=>k_is)
    (case a14=>k_is); (case l14=>k_is); (case c14=>k_is); (case k14=>k_is)
    (case a15=>k_is); (case l15=>k_is); (case c15=>k_is); (case k15=>k_is)
    (case a16=>k_is); (case l16=>k_is); (case c16=>k_is); (case k16=>k_is)
    (case a17=>k_is); (case l17=>k_is); (case c17=>k_is); (case k17=>k_is)
    (case a18=>k_is); (case l18=>k_is); (case c18=>k_is); (case k18=>k_is)
    (case a19=>k_is); (case l19=>k_is); (case c19=>k_is); (case k19=>k_is)
    (case a20=>k_is); (case l20=>k_is); (case c20=>k_is); (case k20=>k_is)
    (case a21=>k_is); (case l21=>k_is); (case c21=>k_is); (case k21=>k_is)
    (case a22=>k_is); (case l22=>k_is); (case c22=>k_is); (case k22=>k_is)
    (case a23=>k_is); (case l23=>k_is); (case c23=>k_is); (case k23=>k_is)
    (case a24=>k_is); (case l24=>k_is); (case c24=>k_is); (case k24=>k_is)
    (case a25=>k_is); (case l25=>k_is); (case c25=>k_is); (case k25=>k_is)
    (case a26=>k_is); (case l26=>k_is); (case c26=>k_is); (case k26=>k_is)
    (case a27=>k_is); (case l27=>k_is); (case c27=>k_is); (case k27=>k_is)
    (case a28=>k_is); (case l28=>k_is); (case c28=>k_is); (case k28=>k_is)
    (case a29=>k_is); (case l29=>k_is); (case c29=>k_is); (case k29=>k_is)
    (case a30=>k_is); (case l30=>k_is); (case c30=>k_is); (case k30=>k_is)
    (case a31=>k_is); (case l31=>k_is); (case c31=>k_is); (case k31=>k_is)
    (case a32=>k_is); (case l32=>k_is); (case c32=>k_is); (case k32=>k_is)
    (case a33=>k_is); (case l33=>k_is); (case c33=>k_is); (case k33=>k_is)
    (case a34=>k_is); (case l34=>k_is); (case c34=>k_is); (case k34=>k_is)
    (case a35=>k_is); (case l35=>k_is); (case c35=>k_is); (case k35=>k_is)
    (case a36=>k_is); (case l36=>k_is); (case c36=>k_is); (case k36=>k_is)
    (case a37=>k_is); (case l37=>k_is); (case c37=>k_is); (case k37=>k_is)
    (case a38=>k_is); (case l38=>k_is); (case c38=>k_is); (case k38=>k_is)
    (case a39=>k_is); (case l39=>k_is); (case c39=>k_is); (case k39=>k_is)
    (case a40=>k_is); (case l40=>k_is); (case c40=>k_is); (case k40=>k_is)
    (case a41=>k_is); (case l41=>k_is); (case c41=>k_is); (case k41=>k_is)
    (case a42=>k_is); (case l42=>k_is); (case c42=>k_is); (case k42=>k_is)
    (case a43=>k_is); (case l43=>k_is); (case c43=>k_is); (case k43=>k_is)
    (case aL=>k_is); (case lL=>k_is); (case cL=>k_is); (case kL=>k_is)
    (case z0=>k_is)
    (case z1=>k_is)
    (case z2=>k_is)
    (case z3=>k_is)
    (case z4=>k_is)
    (case z5=>k_is)
    (case z6=>k_is)
    (case z7=>k_is)
    (case z8=>k_is)
    (case z9=>k_is)
    (case z10=>k_is)
    (case z11=>k_is)
    (case z12=>k_is)
    (case z13=>k_is)
    (case z14=>k_is)
    (case un_EnoughError=>k_is)
    (case un_NoShare=>k_is)
    (case un_NoLengths=>k_is)
    (case un_TooMany=>k_is)
    (case un_NoCover=>k_is)
    (case un_NoRoom=>k_is)
    (case un_NoText=>k_is)
    (case ue_NoShare=>k_exc)
    (case ue_NoLengths=>k_exc)
    (case ub_EnoughError=>k_is)
    (case ub_NoLengths=>k_is)
    (case uzn=>k_is)
    (case uzt=>k_is)
    (case uhd_EnoughError=>k_is)
    (case uhd_NoShare=>k_is)
    (case uhd_NoLengths=>k_is)
    (case uhd_TooMany=>k_is)
    (case uhd_NoCover=>k_is)
    (case uhd_NoRoom=>k_is)
    (case uhd_NoText=>k_is)
    (case uty_EnoughError=>k_is)
    (case uty_NoShare=>k_is)
    (case uty_NoLengths=>k_is)
    (case uty_TooMany=>k_is)
    (case uty_NoCover=>k_is)
    (case uty_NoRoom=>k_is)
    (case uty_NoText=>k_is)
    (case uga_NoShare=>k_is)
    (case ugn_NoShare=>k_is)
    (case uha_NoShare=>k_is)
    (case umr_NoShare_EnoughError=>k_is)
    (case umr_NoShare_NoShare=>k_is)
    (case umr_NoShare_NoLengths=>k_is)
    (case umr_NoShare_TooMany=>k_is)
    (case umr_NoShare_NoCover=>k_is)
    (case umr_NoShare_NoRoom=>k_is)
    (case umr_NoShare_NoText=>k_is)
    (case umt_NoShare_object=>k_is)
    (case umt_NoShare_BaseException=>k_is)
    (case umt_NoShare_ValueError=>k_is)
    (case uga_NoLengths=>k_is)
    (case ugn_NoLengths=>k_is)
    (case uha_NoLengths=>k_is)
    (case umr_NoLengths_EnoughError=>k_is)
    (case umr_NoLengths_NoShare=>k_is)
    (case umr_NoLengths_NoLengths=>k_is)
    (case umr_NoLengths_TooMany=>k_is)
    (case umr_NoLengths_NoCover=>k_is)
    (case umr_NoLengths_NoRoom=>k_is)
    (case umr_NoLengths_NoText=>k_is)
    (case umt_NoLengths_object=>k_is)
    (case umt_NoLengths_BaseException=>k_is)
    (case umt_NoLengths_ValueError=>k_is)
#print axioms PySem.Challenge.cw_goodenough_k48_sacks_and_places_looked_a_holds
