import PyProof.Rows.All
import Wide.All
import OpenK.AllK
import Wide.FinOn
import Lean
import PyProof.EqAt
import PyProof.EqKinds
import PyProof.TupleCall
import PySem.Challenge.RW_goodenough_k38_round_and_place_cases
set_option Elab.async false
set_option linter.all false
set_option maxRecDepth 100000
set_option maxHeartbeats 4000000
noncomputable section
namespace L2
open PySem PySem.Spec PyProof.Rows
abbrev Key:=Sum Int Str
def zn5:Key→Value→Bool
  | .inl k,v=>Value.isInt k v
  | .inr x,v=>Value.isStrOf x v
def keyH (w:World):Key→Int
  | .inl k=>hashInt k
  | .inr x=>hashStr w x
theorem zbz:∀ {k:Key} {v:Value},zn5 k v=true→(∃ i t,k=Sum.inl i∧v=Value.int i t)∨(∃ x t,k=Sum.inr x∧v=Value.str x t)
  | .inl i,v,h=>by
    obtain ⟨t,e⟩:=Value.isInt_shape (k:=i) (v:=v) h
    exact .inl ⟨i,t,rfl,e⟩
  | .inr x,v,h=>by
    obtain ⟨t,e⟩:=Value.isStrOf_shape (x:=x) (v:=v) h
    exact .inr ⟨x,t,rfl,e⟩
theorem zoE (a b:Int):decide ((Sum.inl a:Key)=Sum.inl b)=(a == b):=by
  by_cases e:a=b
  · subst e; simp
  · have h:¬ (Sum.inl a:Key)=Sum.inl b:=fun q=>e (Sum.inl.inj q)
    rw [decide_eq_false h]
    exact (beq_eq_false_iff_ne.mpr e).symm
theorem zoz (a b:Str):decide ((Sum.inr a:Key)=Sum.inr b)=decide (a=b):=by
  by_cases e:a=b
  · subst e; simp
  · have h:¬ (Sum.inr a:Key)=Sum.inr b:=fun q=>e (Sum.inr.inj q)
    rw [decide_eq_false h,decide_eq_false e]
theorem zoJ (a:Int) (b:Str):decide ((Sum.inl a:Key)=Sum.inr b)=false:=decide_eq_false (fun q=>nomatch q)
theorem zoK (a:Str) (b:Int):decide ((Sum.inr a:Key)=Sum.inl b)=false:=decide_eq_false (fun q=>nomatch q)
def zkM (prog:Program) (w:World):PySem.KeyKind prog w Key where
  is:=zn5
  hash:=keyH w
  inj:=fun v a b ha hb=>by
    rcases zbz ha with ⟨i,t,rfl,rfl⟩ | ⟨x,t,rfl,rfl⟩
    · rcases zbz hb with ⟨j,u,rfl,e⟩ | ⟨y,u,rfl,e⟩
      · injection e with e1 _; rw [e1]
      · exact nomatch e
    · rcases zbz hb with ⟨j,u,rfl,e⟩ | ⟨y,u,rfl,e⟩
      · exact nomatch e
      · injection e with e1 _; rw [e1]
  byValue:=fun k v h=>by
    rcases zbz h with ⟨i,t,rfl,rfl⟩ | ⟨x,t,rfl,rfl⟩ <;> rfl
  pyHash:=fun hv h=>by
    rcases zbz hv with ⟨i,t,rfl,rfl⟩ | ⟨x,t,rfl,rfl⟩
    · exact wpAny_pyHash_int h
    · exact wpAny_pyHash_str h
  eqBool:=fun hu hv h=>by
    rcases zbz hu with ⟨i,t,rfl,rfl⟩ | ⟨x,t,rfl,rfl⟩
    · rcases zbz hv with ⟨j,u,rfl,rfl⟩ | ⟨y,u,rfl,rfl⟩
      · rw [zoE] at h; exact wpAny_eqBool_int h
      · rw [zoJ] at h; exact SeqAt.EqAt.int_str i t y u _ _ _ _ h
    · rcases zbz hv with ⟨j,u,rfl,rfl⟩ | ⟨y,u,rfl,rfl⟩
      · rw [zoK] at h; exact SeqAt.EqAt.str_int x t j u _ _ _ _ h
      · rw [zoz] at h; exact wpAny_eqBool_str h
  «strs»:=fun k x t v h=>by
    rcases zbz h with ⟨i,u,rfl,e⟩ | ⟨y,u,rfl,e⟩
    · exact nomatch e
    · injection e with e1 _
      subst e1
      cases v <;> rfl
end L2
namespace L2
open PySem PySem.Spec PyProof.Rows
inductive V where
  | non | bl (b:Bool) | int (i:Int) | str (x:Str) | byt (b:Array UInt8) | flt (b:UInt64) | ref (a:Addr) | ty (n:String)
  deriving DecidableEq
def RelV:V→Value→Prop
  | .non,u=>u=Value.none
  | .bl b,u=>u=Value.bool b
  | .int i,u=>∃ t,u=Value.int i t
  | .str x,u=>∃ t,u=Value.str x t
  | .byt b,u=>∃ t,u=Value.bytes b t
  | .flt b,u=>∃ t,u=Value.float b t
  | .ref a,u=>u=Value.ref a
  | .ty n,u=>u=Value.type n
abbrev Vals:List V→List Value→Prop:=Paired RelV
theorem Vals.length {xs:List V} {us:List Value} (r:Vals xs us):xs.length=us.length:=Paired.length r
theorem Vals.get:∀ {xs:List V} {us:List Value} {i:Nat} {x:V},Vals xs us→xs[i]?=some x→∃ u,us[i]?=some u∧RelV x u
  | _,_,_,_,.nil,e=>by simp at e
  | _,_,0,_,.cons r _,e=>by simp at e; subst e; exact ⟨_,rfl,r⟩
  | _,_,i + 1,x,.cons _ t,e=>by
    obtain ⟨u,h1,h2⟩:=Vals.get (i:=i) (x:=x) t (by simpa using e)
    exact ⟨u,by simpa using h1,h2⟩
theorem Vals.set {x:V} {u:Value} (r:RelV x u):∀ {xs:List V} {us:List Value} (i:Nat),Vals xs us→Vals (xs.set i x) (us.set i u)
  | _,_,_,.nil=>.nil
  | _,_,0,.cons _ t=>.cons r t
  | _,_,i + 1,.cons q t=>.cons q (Vals.set r i t)
theorem Vals.append:∀ {xs ys:List V} {us ws:List Value},Vals xs us→Vals ys ws→Vals (xs ++ ys) (us ++ ws)
  | _,_,_,_,.nil,s=>s
  | _,_,_,_,.cons r t,s=>.cons r (Vals.append t s)
theorem Vals.take:∀ {xs:List V} {us:List Value} (n:Nat),Vals xs us→Vals (xs.take n) (us.take n)
  | _,_,0,_=>.nil
  | _,_,_ + 1,.nil=>.nil
  | _,_,n + 1,.cons r t=>.cons r (Vals.take n t)
theorem Vals.drop:∀ {xs:List V} {us:List Value} (n:Nat),Vals xs us→Vals (xs.drop n) (us.drop n)
  | _,_,0,r=>r
  | _,_,_ + 1,.nil=>.nil
  | _,_,n + 1,.cons _ t=>Vals.drop n t
def RelO:Option V→Option Value→Prop
  | some v,some u=>RelV v u
  | none,none=>True
  | _,_=>False
def KV {κ:Type}:List (κ × V)→List (κ × Value)→Prop:=Paired fun (p:κ × V) (q:κ × Value)=>p.1=q.1∧RelV p.2 q.2
def kV:Key→V
  | .inl i=>.int i
  | .inr x=>.str x
inductive HO where
  | lst (xs:List V)
  | tup (xs:List V)
  | dK (kvs:List (Key × V)) | dT (kvs:List (List Key × V))
  | set (S:Int→Bool) (n:Nat)
  | ins (C dx:Addr) (fs:List (Str × V))
  | own (x:Addr)
  | xd (fs:List (Str × V))
  | met (f x:Addr)
  | rng (lo hi:Int)
  | frz (o:Obj) (u:HO)
  | tbl (ps:Array Value)
  | ext (φ:Heap→Prop)
abbrev Hp:=Addr→Option HO
def upd (H:Hp) (a:Addr) (o:HO):Hp:=fun b=>if b=a then some o else H b
theorem zaG {H:Hp} {a:Addr} {o:HO}:upd H a o a=some o:=by unfold upd; rw [if_pos rfl]
theorem zar {H:Hp} {a b:Addr} {o:HO} (h:b ≠ a):upd H a o b=H b:=by unfold upd; rw [if_neg h]
theorem zaw {H:Hp} {a b:Addr} {o:HO} (h:H a=some o) (h':H b=none):a ≠ b:=by
  intro e; subst e; rw [h] at h'; cases h'
def zoA (fd:FuncData):Option Pos :=
  match fd.body with
  | .stmts [.Return (some (.Call _ _ [⟨_,.Lambda _ _ _ pos,_⟩] _)) _]=>some pos
  | _=>none
def tabAt (K:PySem.W.Frag) (v:Value):Option Addr :=
  match v with
  | .ref c=>match K.lookup c with
    | some o=>match o.data with
      | .fields vs=>match (vs[11]?:Option Value) with
        | some (.ref P)=>some P
        | _=>none
      | _=>none
    | _=>none
  | _=>none
def tabOf (K:PySem.W.Frag):Option (Addr × Array Value) :=
  K.findSome? fun p=>match p.2.data with
    | .func fd=>match zoA fd with
      | some pos=>(tabAt K fd.code).map fun P=>(P,#[.str (fd.qualname ++ ".<locals>." ++ "<lambda>") 0,rawInt pos.line,rawInt pos.col])
      | none=>none
    | _=>none
def TblOk (H:Hp) (h:Heap) (a:Addr) (ps:Array Value):Prop :=
  ∃ (q:Str) (t:Tok) (ln cl:Int) (more:List Value) (real:Array Value),ps.toList = .str q t :: rawInt ln :: rawInt cl :: more∧h.get? a=some { cls:=.none,data:=.fields real } ∧
    (real = #[]∨∃ (c:Addr) (o:Obj) (vs:Array Value) (u:Tok),real = #[rawInt ln,rawInt cl,.ref c]∧H c=some (.own a)∧h.get? c=some o∧o.data = .fields vs∧vs[1]?=some (.str q u))
theorem TblOk.lt {H:Hp} {h:Heap} {a:Addr} {ps:Array Value} (x:TblOk H h a ps):a < h.objs.size:=by
  obtain ⟨_,_,_,_,_,_,_,e,_⟩:=x
  exact Heap.lt_size e
theorem TblOk.stay {H H':Hp} {h h':Heap} {a:Addr} {ps:Array Value} (x:TblOk H h a ps) (k:∀ b u,(b=a∨H b=some (.own a))→h.get? b=some u→h'.get? b=some u)
    (ho:∀ b,H b=some (.own a)→H' b=some (.own a)):TblOk H' h' a ps:=by
  obtain ⟨q,t,ln,cl,more,real,e1,e2,e3⟩:=x
  refine ⟨q,t,ln,cl,more,real,e1,k _ _ (.inl rfl) e2,?_⟩
  rcases e3 with e3 | ⟨c,o,vs,u,r1,r2,r3,r4⟩
  · exact .inl e3
  · exact .inr ⟨c,o,vs,u,r1,ho _ r2,k _ _ (.inr r2) r3,r4⟩
def TbAt (K:PySem.W.Frag) (H:Hp):Prop:=∀ t,tabOf K=some t→∃ more,H t.1=some (.tbl (t.2 ++ more))
theorem TbAt.none {K:PySem.W.Frag} {H:Hp} (h:tabOf K = .none):TbAt K H:=fun t e=>by rw [h] at e; cases e
theorem TbAt.grown {K:PySem.W.Frag} {H H':Hp} (x:TbAt K H) (g:∀ b ps,H b=some (.tbl ps)→∃ more,H' b=some (.tbl (ps ++ more))):TbAt K H':=fun t e=>by
  obtain ⟨m1,e1⟩:=x t e
  obtain ⟨m2,e2⟩:=g _ _ e1
  exact ⟨m1 ++ m2,by rw [e2,Array.append_assoc]⟩
section
variable (P:Program) (w:World)
def ObjOk (H:Hp) (h:Heap) (a:Addr):HO→Prop
  | .lst xs=>xs.length ≤ sizeLine∧∃ (its:List Value) (n:Nat),Vals xs its∧h.get? a=some { cls:=.type "list",data:=.seq its.toArray n }
  | .tup xs=>xs.length ≤ sizeLine∧∃ its:List Value,Vals xs its∧IsTup h a its.toArray
  | .dK kvs=>kvs.length ≤ sizeLine∧(a == sysModules)=false∧∃ vs,KV kvs vs∧h.DictOf (zkM P w) a vs
  | .dT kvs=>kvs.length ≤ sizeLine∧(a == sysModules)=false∧∃ xs:List (List Key × Addr × Value),
      Paired (fun (p:List Key × V) (q:List Key × Addr × Value)=>p.1=q.1∧H q.2.1=some (.tup (p.1.map kV))∧RelV p.2 q.2.2) kvs xs ∧
      ∃ o es ep,h.get? a=some o∧o.ExactDict∧o.data = .dict es ep∧es.toList=xs.map (entryOfKey (tupleKind (zkM P w)))∧(xs.map (·.1)).Nodup
  | .set S n=>h.SetOf (intKind P w) a S n
  | .ins C dx fs=>H dx=some (.own a)∧fs.length ≤ 1000∧dx ≠ a∧h.get? a=some (PySem.W.instObj C dx) ∧
      ∃ mA,h.Ns1 dx mA∧(∀ f,RelO (fs.lookup f) (mA f))∧PySem.Within mA (fs.map (·.1))
  | .own _=>∃ o,h.get? a=some o
  | .xd fs=>∃ mA,h.Ns1 a mA∧∀ f,RelO (fs.lookup f) (mA f)
  | .rng lo hi=>∃ t u v,h.get? a=some { cls:=.type "range",data:=.fields #[.int lo t,.int hi u,.int 1 v] }
  | .frz o u=>h.get? a=some o∧ObjOk H h a u
  | .tbl ps=>TblOk H h a ps
  | .met f x=>h.get? a=some (PySem.W.methodObj (.ref f) (.ref x))
  | .ext φ=>φ h∧(∃ o,h.get? a=some o)∧∀ h1 h2:Heap,φ h1→(∀ o,h1.get? a=some o→h2.get? a=some o)→φ h2
def HOk (H:Hp) (h:Heap):Prop:=∀ a o,H a=some o→ObjOk P w H h a o
end
section
variable {P:Program} {w:World} {H H':Hp} {h h':Heap} {a:Addr} {o:HO}
theorem ObjOk.lt (x:ObjOk P w H h a o):a < h.objs.size:=by
  cases o with
  | lst xs=>obtain ⟨_,_,_,_,e⟩:=x; exact Heap.lt_size e
  | tup xs=>obtain ⟨_,_,_,p⟩:=x; exact p.lt
  | dK kvs=>obtain ⟨_,_,_,_,o,_,_,e,_⟩:=x; exact Heap.lt_size e
  | dT kvs=>obtain ⟨_,_,_,_,o,_,_,e,_⟩:=x; exact Heap.lt_size e
  | set S n=>obtain ⟨o,_,_,_,e,_⟩:=x; exact Heap.lt_size e
  | ins C dx fs=>obtain ⟨_,_,_,e,_⟩:=x; exact Heap.lt_size e
  | own y=>obtain ⟨_,e⟩:=x; exact Heap.lt_size e
  | xd fs=>obtain ⟨_,⟨_,_,_,e,_⟩,_⟩:=x; exact Heap.lt_size e
  | rng lo hi=>obtain ⟨_,_,_,e⟩:=x; exact Heap.lt_size e
  | frz ob u=>obtain ⟨e,_⟩:=x; exact Heap.lt_size e
  | tbl ps=>exact TblOk.lt x
  | met f y=>exact Heap.lt_size (show h.get? a=some _ from x)
  | ext φ=>obtain ⟨_,⟨_,e⟩,_⟩:=x; exact Heap.lt_size e
theorem Paired.mapP {α β:Type} {F G:α→β→Prop}:∀ {l₁:List α} {l₂:List β},Paired F l₁ l₂→(∀ a b,F a b→G a b)→Paired G l₁ l₂
  | _,_,.nil,_=>.nil
  | _,_,.cons r t,f=>.cons (f _ _ r) (Paired.mapP t f)
theorem ObjOk.stay (x:ObjOk P w H h a o) (k:∀ b u,(b=a∨H b=some (.own a))→h.get? b=some u→h'.get? b=some u)
    (ho:∀ b,H b=some (.own a)→H' b=some (.own a)) (ht:∀ b xs,H b=some (.tup xs)→H' b=some (.tup xs)):ObjOk P w H' h' a o:=by
  induction o with
  | lst xs=>obtain ⟨z,its,n,r,e⟩:=x; exact ⟨z,its,n,r,k _ _ (.inl rfl) e⟩
  | tup xs=>obtain ⟨z,its,r,ob,e,c⟩:=x; exact ⟨z,its,r,ob,k _ _ (.inl rfl) e,c⟩
  | dK kvs=>obtain ⟨z,y,vs,r,ob,es,ep,e,c⟩:=x; exact ⟨z,y,vs,r,ob,es,ep,k _ _ (.inl rfl) e,c⟩
  | dT kvs =>
    obtain ⟨z,y,xs,r,ob,es,ep,e,c⟩:=x
    exact ⟨z,y,xs,Paired.mapP r fun p q z=>⟨z.1,ht _ _ z.2.1,z.2.2⟩,ob,es,ep,k _ _ (.inl rfl) e,c⟩
  | set S n=>obtain ⟨ob,es,ep,t,e,c⟩:=x; exact ⟨ob,es,ep,t,k _ _ (.inl rfl) e,c⟩
  | ins C dx fs =>
    obtain ⟨d,z,ne,e,mA,⟨od,es,ep,e2,c⟩,r⟩:=x
    exact ⟨ho _ d,z,ne,k _ _ (.inl rfl) e,mA,⟨od,es,ep,k _ _ (.inr d) e2,c⟩,r⟩
  | own y=>obtain ⟨ob,e⟩:=x; exact ⟨ob,k _ _ (.inl rfl) e⟩
  | xd fs=>obtain ⟨mA,⟨od,es,ep,e,c⟩,r⟩:=x; exact ⟨mA,⟨od,es,ep,k _ _ (.inl rfl) e,c⟩,r⟩
  | rng lo hi=>obtain ⟨t,u,v,e⟩:=x; exact ⟨t,u,v,k _ _ (.inl rfl) e⟩
  | frz ob u ih=>obtain ⟨e,q⟩:=x; exact ⟨k _ _ (.inl rfl) e,ih q⟩
  | tbl ps=>exact TblOk.stay x k ho
  | met f y =>
    have e:h.get? a=some (PySem.W.methodObj (.ref f) (.ref y)):=x
    show h'.get? a=some (PySem.W.methodObj (.ref f) (.ref y))
    exact k a _ (.inl rfl) e
  | ext φ=>obtain ⟨p,⟨o,e⟩,st⟩:=x; exact ⟨st _ _ p fun o q=>k _ _ (.inl rfl) q,⟨o,k _ _ (.inl rfl) e⟩,st⟩
theorem HOk.lt (x:HOk P w H h) (e:H a=some o):a < h.objs.size:=(x a o e).lt
theorem HOk.fresh (x:HOk P w H h) (e:h.objs.size ≤ a):H a=none:=by
  cases q:H a with
  | none=>rfl
  | some u=>exact absurd (Nat.lt_of_lt_of_le (x.lt q) e) (Nat.lt_irrefl _)
theorem HOk.kept (x:HOk P w H h) (k:∀ b u,h.get? b=some u→h'.get? b=some u):HOk P w H h':=fun a o e =>
  (x a o e).stay (fun b u _ q=>k b u q) (fun _ q=>q) fun _ _ q=>q
theorem HOk.laid (x:HOk P w H h) (k:∀ b u,h.get? b=some u→h'.get? b=some u) (hp:h.objs.size ≤ a) (new:ObjOk P w (upd H a o) h' a o):HOk P w (upd H a o) h':=fun b u e=>by
  have hn:=x.fresh hp
  by_cases hb:b=a
  · subst hb; rw [zaG] at e; cases e; exact new
  · rw [zar hb] at e
    exact (x b u e).stay (fun c v _ q=>k c v q) (fun c q=>by rw [zar (zaw q hn)]; exact q) fun c xs q=>by rw [zar (zaw q hn)]; exact q
end
def Rd (H:Hp) (a:Addr) (u:HO):Prop:=H a=some u∨∃ o,H a=some (.frz o u)
theorem Rd.ok {P:Program} {w:World} {H:Hp} {h:Heap} {a:Addr} {u:HO} (r:Rd H a u) (x:HOk P w H h):ObjOk P w H h a u:=by
  rcases r with r | ⟨o,r⟩
  · exact x a u r
  · obtain ⟨_,q⟩:=x a _ r
    exact q
def Mut:Option HO→Prop
  | some (.lst _)=>True
  | some (.dK _)=>True
  | some (.dT _)=>True
  | some (.set _ _)=>True
  | some (.ins _ _ _)=>True
  | some (.ext _)=>True
  | _=>False
section
variable {P:Program} {w:World} {H:Hp} {h h':Heap} {x e:Addr} {o':HO}
theorem HOk.write (ok:HOk P w H h) (mu:Mut (H x)) (he:e=x∨H e=some (.own x)) (k:∀ b u,b ≠ e→h.get? b=some u→h'.get? b=some u) (heo:∃ u,h'.get? e=some u)
    (new:ObjOk P w (upd H x o') h' x o'):HOk P w (upd H x o') h':=fun b u q=>by
  have nown:∀ c y,H c=some (.own y)→c ≠ x:=fun c y r z=>by subst z; rw [r] at mu; exact mu
  have ntup:∀ c xs,H c=some (.tup xs)→c ≠ x:=fun c xs r z=>by subst z; rw [r] at mu; exact mu
  by_cases hb:b=x
  · subst hb; rw [zaG] at q; cases q; exact new
  · rw [zar hb] at q
    by_cases hbe:b=e
    · have q':H b=some (.own x):=by
        rcases he with z | z
        · exact absurd (hbe.trans z) hb
        · rw [hbe]; exact z
      rw [q] at q'; cases q'
      obtain ⟨v,hv⟩:=heo
      exact ⟨v,by rw [hbe]; exact hv⟩
    · refine (ok b u q).stay (fun c v hc r=>k c v ?_ r) (fun c r=>by rw [zar (nown c b r)]; exact r) fun c xs r=>by rw [zar (ntup c xs r)]; exact r
      rcases hc with rfl | hc
      · exact hbe
      · rintro rfl
        rcases he with z | z
        · exact nown c b hc z
        · rw [hc] at z; cases z; exact hb rfl
end
structure Un (fs ex:List Addr) (H H':Hp) (h h':Heap):Prop where
  keep:∀ b o,h.get? b=some o→H b=none→b ∉ fs→b ∉ ex→h'.get? b=some o
  slot:∀ b o,h.get? b=some o→H b=none→b ∈ fs→b ∉ ex→∃ sl,h'.get? b=some { o with slots:=sl }
  free:∀ b o,h.get? b=some o→H b=none→b ∉ ex→H' b=none
  there:∀ b o,h.get? b=some o→b ∉ ex→∃ o',h'.get? b=some o'
  tups:∀ b xs,H b=some (.tup xs)→H' b=some (.tup xs)
  frzs:∀ b o u,H b=some (.frz o u)→H' b=some (.frz o u)
  tbls:∀ b ps,H b=some (.tbl ps)→∃ more,H' b=some (.tbl (ps ++ more))
section
variable {fs fs' ex ex':List Addr} {H H1 H2:Hp} {h h1 h2 h':Heap} {a x e:Addr} {o:HO}
theorem Un.any (u:Un fs ex H H1 h h1) {b:Addr} {ob:Obj} (q:h.get? b=some ob) (n:H b=none) (hx:b ∉ ex):∃ sl,h1.get? b=some { ob with slots:=sl }:=by
  by_cases hb:b ∈ fs
  · exact u.slot b ob q n hb hx
  · exact ⟨ob.slots,u.keep b ob q n hb hx⟩
theorem Un.kept (k:∀ b u,h.get? b=some u→h'.get? b=some u):Un fs ex H H h h' :=
  ⟨fun b ob q _ _ _=>k b ob q,fun b ob q _ _ _=>⟨ob.slots,k b ob q⟩,fun _ _ _ n _=>n,fun b ob q _=>⟨ob,k b ob q⟩,fun _ _ q=>q,fun _ _ _ q=>q,fun _ ps q=>⟨#[],by rw [q]; simp⟩⟩
theorem Un.refl:Un fs ex H H h h:=Un.kept fun _ _ q=>q
theorem Un.laid (k:∀ b u,h.get? b=some u→h'.get? b=some u) (hp:h.objs.size ≤ a) (hn:H a=none):Un fs ex H (upd H a o) h h' where
  keep:=fun b u q _ _ _=>k b u q
  slot:=fun b u q _ _ _=>⟨u.slots,k b u q⟩
  free:=fun b u q n _=>by rw [zar (Nat.ne_of_lt (Nat.lt_of_lt_of_le (Heap.lt_size q) hp))]; exact n
  there:=fun b u q _=>⟨u,k b u q⟩
  tups:=fun b xs q=>by rw [zar (zaw q hn)]; exact q
  frzs:=fun b u xs q=>by rw [zar (zaw q hn)]; exact q
  tbls:=fun b ps q=>⟨#[],by rw [zar (zaw q hn),q]; simp⟩
theorem Un.write (mu:Mut (H x)) (he:e=x∨H e=some (.own x)) (k:∀ b u,b ≠ e→h.get? b=some u→h'.get? b=some u) (heo:∃ u,h'.get? e=some u):Un fs ex H (upd H x o) h h':=by
  have hx:∀ b,H b=none→b ≠ x:=fun b n z=>by subst z; rw [n] at mu; exact mu
  have hb:∀ b,H b=none→b ≠ e:=fun b n z=>by
    subst z
    rcases he with r | r
    · exact hx b n r
    · rw [n] at r; cases r
  have hm:∀ b u,H b=some u→¬ Mut (some u)→b ≠ x:=fun b u q nm z=>by subst z; rw [q] at mu; exact nm mu
  refine ⟨fun b u q n _ _=>k b u (hb b n) q,fun b u q n _ _=>⟨u.slots,k b u (hb b n) q⟩,fun b u q n _=>by rw [zar (hx b n)]; exact n,fun b u q _=>?_,
    fun b xs q=>by rw [zar (hm b _ q fun z=>z)]; exact q,fun b u xs q=>by rw [zar (hm b _ q fun z=>z)]; exact q,fun b ps q=>⟨#[],by rw [zar (hm b _ q fun z=>z),q]; simp⟩⟩
  by_cases hbe:b=e
  · subst hbe; exact heo
  · exact ⟨u,k b u hbe q⟩
end
def trk (h:Heap) (H:Hp):List Addr:=(List.range h.objs.size).filter fun a=>(H a).isSome
def hidT (h:Heap) (H:Hp):Heap:=PySem.W.hideAll h (trk h H)
theorem zkA (h:Heap) (H:Hp):(hidT h H).objs.size=h.objs.size:=PySem.W.hideAll_size _ _
theorem zmf {h:Heap} {H:Hp} {b:Addr} {o:Obj} (e:h.get? b=some o) (n:H b=none):(hidT h H).get? b=some o :=
  PySem.W.hideAll_get _ e fun hm=>by
    have q:(H b).isSome=true:=(List.mem_filter.mp hm).2
    rw [n] at q; simp at q
theorem znL {h:Heap} {H:Hp} {b:Addr} {o:Obj} (e:(hidT h H).get? b=some o):h.get? b=some o∧H b=none:=by
  have e':h.get? b=some o:=PySem.W.of_hideAll (trk h H) e
  refine ⟨e',?_⟩
  cases q:H b with
  | none=>rfl
  | some x =>
    have hm:b ∈ trk h H:=List.mem_filter.mpr ⟨List.mem_range.mpr (Heap.lt_size e'),by simp [q]⟩
    have z:(hidT h H).get? b=none:=PySem.W.hideAll_none (trk h H) hm
    rw [z] at e; cases e
def zo4 (g h:Heap) (L:Addr):List (Addr × Obj):=(List.range h.objs.size).filterMap fun a=>if a=L∨(g.get? a).isSome=true then none else (h.get? a).map fun o=>(a,o)
end L2
namespace L2
open PySem PySem.Spec PyProof.Rows
structure Mod (K:PySem.W.Frag) (mg:Str→Option Value) (base:Heap):Prop where
  kin:K.In base
  glob:base.Ns mainGlobals mg
  blt:∃ mb,base.Ns builtinsNs mb∧∀ x:Str,x ≠ "__name__"→mb x=bootBuiltins x
  nolimit:base.NoLimit
structure Cx where
  prog:Program
  w:World
  K:PySem.W.Frag
  mg:Str→Option Value
  base:Heap
  A:Around
  N:List Str
  s₀:Shared
  H₀:Hp
  env:Env
  outer:List Env
  stack:List Env
  ex:List Addr
  fn:Str→Bool
  calm:Bool
  pn:List (Addr × Obj)
  xe:Value→Shared→Prop
def frs (l:List Env):List Addr:=l.filterMap (·.frame)
abbrev Cx.fs (X:Cx):List Addr:=frs X.outer
def Vis (sc:Scope) (x:Str):Prop:=sc.names.lookup x=some .local∨sc.names.lookup x=some .cell∨sc.names.lookup x=some .free
def Loc (sc:Scope) (x:Str):Prop:=sc.names.lookup x=some .local∨sc.names.lookup x=some .cell
def Look (env:Env) (h:Heap) (m:Str→Option Value) (x:Str) (u:Value):Prop :=
  (env.kindOf x=some .local∧m x=some u)∨((env.kindOf x=some .cell∨env.kindOf x=some .free)∧∃ c,env.cells.lookup x=some c∧h.IsCell c (some u))
structure Cx.Ok (X:Cx):Prop where
  mod:Mod X.K X.mg X.base
  kind:X.env.scope.kind = .function
  glob:X.env.globals=mainGlobals
  blt:X.env.builtins=builtinsNs
  above:X.s₀.heap.objs.size ≤ X.env.locals
  inj:∀ x y c,X.env.cells.lookup x=some c→X.env.cells.lookup y=some c→x=y
  has:∀ x,(X.env.kindOf x=some .cell∨X.env.kindOf x=some .free)→∃ c,X.env.cells.lookup x=some c
  cab:∀ x c,X.fn x=true→X.env.cells.lookup x=some c→X.s₀.heap.objs.size ≤ c
  hd:X.calm=true→X.A.handled=none
  frames:X.A.frames=some X.stack
  stk:X.stack=X.outer∨(X.stack=X.env :: X.outer∧X.env.frame=some X.env.locals)
  exf:∀ b ∈ X.ex,b ≠ X.env.locals∧∀ x c,X.env.cells.lookup x=some c→c ≠ b
  bs:∀ b o,X.base.get? b=some o→X.s₀.heap.get? b=some o∧X.H₀ b=none
  bsz:X.base.objs.size ≤ X.s₀.heap.objs.size
  noex:∀ b o,X.base.get? b=some o→b ∉ X.ex
  exfs:∀ b ∈ X.ex,b ∉ X.fs
  funs:X.s₀.heap.FunFrames X.base X.outer
  frf:∀ b ∈ X.fs,X.H₀ b=none
  tb:TbAt X.K X.H₀
structure Inv (X:Cx) (pins:List (Addr × Obj)) (σ:List (Option V)) (H:Hp) (s:Shared):Prop where
  ok:X.Ok
  os:s.os=X.s₀.os
  bare:AllBare s.gens
  base:Un X.fs X.ex X.H₀ H X.s₀.heap s.heap
  loc:∃ m,s.heap.Ns X.env.locals m∧∀ (i:Nat) (x:Str) (v:V),X.N[i]?=some x→σ[i]?=some (some v)→Vis X.env.scope x→∃ u,RelV v u∧Look X.env s.heap m x u
  cell:∀ x c,X.env.cells.lookup x=some c→∃ v,s.heap.IsCell c v
  free:H X.env.locals=none
  freeC:∀ x c,X.env.cells.lookup x=some c→H c=none
  pin:∀ p ∈ X.pn ++ pins,s.heap.get? p.1=some p.2∧H p.1=none∧p.1 ≠ X.env.locals∧p.1 ∉ X.fs∧∀ v,p.2.data ≠ .cell v
  hok:HOk X.prog X.w H s.heap
  len:σ.length=X.N.length
section
variable {X:Cx} {pins:List (Addr × Obj)} {σ:List (Option V)} {H H':Hp} {s:Shared} {h':Heap}
theorem Cx.Ok.nofr (ok:X.Ok) {b:Addr} {o:Obj} (e:X.base.get? b=some o):b ∉ X.fs:=fun hb=>by
  have:=(ok.funs.mem hb).1
  rw [e] at this; cases this
theorem Inv.bs (I:Inv X pins σ H s):∀ b o,X.base.get? b=some o→s.heap.get? b=some o∧H b=none:=fun b o e =>
  ⟨I.base.keep b o (I.ok.bs b o e).1 (I.ok.bs b o e).2 (I.ok.nofr e) (I.ok.noex b o e),I.base.free b o (I.ok.bs b o e).1 (I.ok.bs b o e).2 (I.ok.noex b o e)⟩
theorem Inv.bk (I:Inv X pins σ H s):∀ b o,X.base.get? b=some o→s.heap.get? b=some o:=fun b o e=>(I.bs b o e).1
theorem Inv.mod (I:Inv X pins σ H s):Mod X.K X.mg X.base:=I.ok.mod
theorem Inv.kIn (I:Inv X pins σ H s):X.K.In s.heap:=I.ok.mod.kin.keeps I.bk
theorem Inv.fr (I:Inv X pins σ H s):∃ m,Fr X.base X.env.locals s.heap m :=
  let ⟨m,hn,_⟩:=I.loc
  ⟨m,hn,I.bk,Nat.le_trans I.ok.bsz I.ok.above⟩
theorem Inv.lt (I:Inv X pins σ H s):X.env.locals < s.heap.objs.size:=let ⟨_,hn,_⟩:=I.loc; hn.lt
theorem Inv.sz (I:Inv X pins σ H s):X.s₀.heap.objs.size ≤ s.heap.objs.size:=Nat.le_trans I.ok.above (Nat.le_of_lt I.lt)
theorem Inv.nofs (I:Inv X pins σ H s) {a:Addr} (h:s.heap.objs.size ≤ a):a ∉ X.fs:=fun hb=>by
  obtain ⟨_,o,ho,_⟩:=I.ok.funs.mem hb
  exact absurd (Nat.lt_of_lt_of_le (Heap.lt_size ho) (Nat.le_trans I.sz h)) (Nat.lt_irrefl _)
theorem Inv.cne (I:Inv X pins σ H s):∀ x c,X.env.cells.lookup x=some c→c ≠ X.env.locals:=fun x c e z=>by
  obtain ⟨v,o,ho,hd⟩:=I.cell x c e
  obtain ⟨m,⟨o',es,ep,ho',hd',_⟩,_⟩:=I.loc
  rw [z,ho'] at ho; cases ho; rw [hd'] at hd; cases hd
theorem Inv.funs (I:Inv X pins σ H s):s.heap.FunFrames X.base X.outer:=by
  have all:∀ (l:List Env),(∀ b ∈ frs l,b ∈ X.fs)→X.s₀.heap.FunFrames X.base l→s.heap.FunFrames X.base l:=by
    intro l
    induction l with
    | nil=>intro _ _; trivial
    | cons env r ih =>
      intro hs hl
      obtain ⟨hk,⟨L,o,hf,hn,ho,hd⟩,hr⟩:=hl
      have hL:L ∈ X.fs:=hs L (by unfold frs; rw [List.filterMap_cons,hf]; exact List.mem_cons_self)
      obtain ⟨sl,e⟩:=I.base.slot L o ho (I.ok.frf L hL) hL fun z=>I.ok.exfs L z hL
      exact ⟨hk,⟨L,_,hf,hn,e,hd⟩,ih (fun b hb=>hs b (by unfold frs; rw [List.filterMap_cons,hf]; exact List.mem_cons_of_mem _ hb)) hr⟩
  exact all X.outer (fun _ hb=>hb) I.ok.funs
theorem Inv.stack (I:Inv X pins σ H s):s.heap.FunFrames X.base X.stack:=by
  rcases I.ok.stk with e | ⟨e,hf⟩
  · rw [e]; exact I.funs
  · rw [e]
    obtain ⟨m,hn,_⟩:=I.loc
    refine .cons (by rw [I.ok.kind]; decide) hf hn ?_ I.funs
    exact Heap.get?_none_of_le (Nat.le_trans I.ok.bsz I.ok.above)
theorem Inv.stkSub (I:Inv X pins σ H s):∀ b ∈ frs X.stack,b ∈ X.env.locals :: X.fs:=fun b hb=>by
  rcases I.ok.stk with e | ⟨e,hf⟩
  · rw [e] at hb; exact List.mem_cons_of_mem _ hb
  · rw [e] at hb
    unfold frs at hb
    rw [List.filterMap_cons,hf] at hb
    exact hb
theorem Inv.stkFree (I:Inv X pins σ H s):∀ b ∈ frs X.stack,H b=none:=fun b hb=>by
  rcases List.mem_cons.mp (I.stkSub b hb) with e | hb
  · rw [e]; exact I.free
  · obtain ⟨_,o,ho,_⟩:=I.ok.funs.mem hb
    exact I.base.free b o ho (I.ok.frf b hb) fun z=>I.ok.exfs b z hb
theorem Inv.step {g':Array GenState} {t':Nat} {d':Drawn} {ch:List Addr} (I:Inv X pins σ H s)
    (hch:∀ b ∈ ch,(b ∈ X.ex∨X.s₀.heap.objs.size ≤ b)∧b ≠ X.env.locals∧(∀ x c,X.env.cells.lookup x=some c→c ≠ b)∧∀ p ∈ X.pn ++ pins,p.1 ≠ b)
    (keep:∀ b o,b ≠ X.env.locals→b ∉ X.fs→b ∉ ch→s.heap.get? b=some o→H b=none→h'.get? b=some o)
    (slot:∀ b o,b ≠ X.env.locals→b ∈ X.fs→b ∉ ch→s.heap.get? b=some o→H b=none→∃ sl,h'.get? b=some { o with slots:=sl }) (free:∀ b o,b ∉ ch→s.heap.get? b=some o→H b=none→H' b=none)
    (there:∀ b o,b ∉ ch→s.heap.get? b=some o→∃ o',h'.get? b=some o')
    (tups:∀ b xs,H b=some (.tup xs)→H' b=some (.tup xs)) (frzs:∀ b o u,H b=some (.frz o u)→H' b=some (.frz o u)) (tbls:∀ b ps,H b=some (.tbl ps)→∃ more,H' b=some (.tbl (ps ++ more)))
    (ns:∀ m,s.heap.Ns X.env.locals m→h'.Ns X.env.locals m) (hok:HOk X.prog X.w H' h') (hg:AllBare g') :
    Inv X pins σ H' { s with heap:=h',gens:=g',drawn:=d',toks:=t' }:=by
  have neL:∀ b o,X.s₀.heap.get? b=some o→b ≠ X.env.locals:=fun b o e=>Nat.ne_of_lt (Nat.lt_of_lt_of_le (Heap.lt_size e) I.ok.above)
  have neC:∀ b o,X.s₀.heap.get? b=some o→b ∉ X.ex→b ∉ ch:=fun b o e hx hb=>by
    rcases (hch b hb).1 with z | z
    · exact hx z
    · exact absurd (Nat.lt_of_lt_of_le (Heap.lt_size e) z) (Nat.lt_irrefl _)
  have cellK:∀ x c,X.env.cells.lookup x=some c→∀ v,s.heap.IsCell c v→h'.IsCell c v:=fun x c e v ⟨o,ho,hd⟩=>by
    have nch:c ∉ ch:=fun z=>(hch c z).2.2.1 x c e rfl
    by_cases hc:c ∈ X.fs
    · obtain ⟨sl,q⟩:=slot c o (I.cne x c e) hc nch ho (I.freeC x c e)
      exact ⟨_,q,hd⟩
    · exact ⟨o,keep c o (I.cne x c e) hc nch ho (I.freeC x c e),hd⟩
  refine ⟨I.ok,I.os,hg,⟨fun b o e n hb hx=>?_,fun b o e n hb hx=>?_,fun b o e n hx=>?_,fun b o e hx=>?_,fun b xs e=>tups b xs (I.base.tups b xs e),fun b o xs e=>frzs b o xs (I.base.frzs b o xs e),fun b ps e=>?_⟩,?_,fun x c e=>?_,?_,fun x c e=>?_,fun p hp=>?_,hok,I.len⟩
  · exact keep b o (neL b o e) hb (neC b o e hx) (I.base.keep b o e n hb hx) (I.base.free b o e n hx)
  · obtain ⟨sl,e1⟩:=I.base.slot b o e n hb hx
    obtain ⟨sl',e2⟩:=slot b _ (neL b o e) hb (neC b o e hx) e1 (I.base.free b o e n hx)
    exact ⟨sl',e2⟩
  · obtain ⟨o',e1⟩:=I.base.there b o e hx
    exact free b o' (neC b o e hx) e1 (I.base.free b o e n hx)
  · obtain ⟨o',e1⟩:=I.base.there b o e hx
    exact there b o' (neC b o e hx) e1
  · obtain ⟨m1,e1⟩:=I.base.tbls b ps e
    obtain ⟨m2,e2⟩:=tbls b _ e1
    exact ⟨m1 ++ m2,by rw [e2,Array.append_assoc]⟩
  · obtain ⟨m,hn,hl⟩:=I.loc
    refine ⟨m,ns m hn,fun i x v e1 e2 e3=>?_⟩
    obtain ⟨u,r,l⟩:=hl i x v e1 e2 e3
    refine ⟨u,r,?_⟩
    rcases l with l | ⟨k,c,e,z⟩
    · exact .inl l
    · exact .inr ⟨k,c,e,cellK x c e _ z⟩
  · obtain ⟨v,z⟩:=I.cell x c e
    exact ⟨v,cellK x c e v z⟩
  · obtain ⟨m,⟨o,_,_,ho,_⟩,_⟩:=I.loc
    exact free _ o (fun z=>(hch _ z).2.1 rfl) ho I.free
  · obtain ⟨v,o,ho,hd⟩:=I.cell x c e
    exact free c o (fun z=>(hch c z).2.2.1 x c e rfl) ho (I.freeC x c e)
  · obtain ⟨e,n,ne,nf,d⟩:=I.pin p hp
    have nch:p.1 ∉ ch:=fun z=>(hch p.1 z).2.2.2 p hp rfl
    exact ⟨keep p.1 p.2 ne nf nch e n,free p.1 p.2 nch e n,ne,nf,d⟩
theorem Inv.un {t':Nat} (I:Inv X pins σ H s) (u:Un X.fs [] H H' s.heap h') (hok:HOk X.prog X.w H' h'):Inv X pins σ H' { s with heap:=h',toks:=t' }:=by
  obtain ⟨m,⟨o,es,ep,ho,r⟩,_⟩:=id I.loc
  obtain ⟨sl,hL⟩:=u.any ho I.free (by simp)
  exact I.step (g':=s.gens) (d':=s.drawn) (ch:=[]) (fun _ z=>nomatch z) (fun b o _ hb _ e n=>u.keep b o e n hb (by simp)) (fun b o _ hb _ e n=>u.slot b o e n hb (by simp)) (fun b o _ e n=>u.free b o e n (by simp)) (fun b o _ e=>u.there b o e (by simp)) u.tups u.frzs u.tbls (fun m' hm=>by
    obtain ⟨o',es',ep',ho',r'⟩:=hm
    rw [ho] at ho'; cases ho'
    exact ⟨_,es',ep',hL,r'⟩) hok I.bare
theorem Inv.call {g':Array GenState} {t':Nat} {d':Drawn} {ch:List Addr} (I:Inv X pins σ H s) (u:Un (frs X.stack) ch H H' s.heap h') (hok:HOk X.prog X.w H' h') (hg:AllBare g')
    (hch:∀ b ∈ ch,(b ∈ X.ex∨X.s₀.heap.objs.size ≤ b)∧b ≠ X.env.locals∧(∀ x c,X.env.cells.lookup x=some c→c ≠ b)∧∀ p ∈ X.pn ++ pins,p.1 ≠ b) :
    Inv X pins σ H' { s with heap:=h',gens:=g',drawn:=d',toks:=t' }:=by
  obtain ⟨m,⟨o,es,ep,ho,r⟩,_⟩:=id I.loc
  obtain ⟨sl,hL⟩:=u.any ho I.free fun z=>(hch _ z).2.1 rfl
  exact I.step (ch:=ch) hch (fun b o hL hb hc e n=>u.keep b o e n (fun z=>(List.mem_cons.mp (I.stkSub b z)).elim hL hb) hc) (fun b o _ _ hc e n=>u.any e n hc) (fun b o hc e n=>u.free b o e n hc) (fun b o hc e=>u.there b o e hc) u.tups u.frzs u.tbls (fun m' hm=>by
    obtain ⟨o',es',ep',ho',r'⟩:=hm
    rw [ho] at ho'; cases ho'
    exact ⟨_,es',ep',hL,r'⟩) hok hg
theorem Inv.turned {t':Nat} {it:Addr} (I:Inv X pins σ H s) (k:∀ b o,b ≠ it→s.heap.get? b=some o→h'.get? b=some o) (hn:H it=none) (hL:it ≠ X.env.locals)
    (h1:it ∈ X.ex∨X.s₀.heap.objs.size ≤ it) (h2:∀ x c,X.env.cells.lookup x=some c→c ≠ it) (h3:∀ p ∈ X.pn ++ pins,p.1 ≠ it):Inv X pins σ H { s with heap:=h',toks:=t' }:=by
  have nit:∀ b u,H b=some u→b ≠ it:=fun b u e z=>by rw [z,hn] at e; cases e
  refine I.step (g':=s.gens) (d':=s.drawn) (ch:=[it]) (fun b hb=>?_) (fun b o _ _ hc e _=>k b o (fun z=>hc (by simp [z])) e) (fun b o _ _ hc e _=>⟨o.slots,k b o (fun z=>hc (by simp [z])) e⟩) (fun _ _ _ _ n=>n)
    (fun b o hc e=>⟨o,k b o (fun z=>hc (by simp [z])) e⟩) (fun _ _ e=>e) (fun _ _ _ e=>e) (fun b ps e=>⟨#[],by rw [e]; simp⟩) (fun m hm=>?_) (fun b u e=>?_) I.bare
  · have e:b=it:=by simpa using hb
    subst e
    exact ⟨h1,hL,h2,h3⟩
  · obtain ⟨o,es,ep,ho,r⟩:=hm
    exact ⟨o,es,ep,k _ o (Ne.symm hL) ho,r⟩
  · refine (I.hok b u e).stay (fun c v hc q=>k c v ?_ q) (fun _ q=>q) fun _ _ q=>q
    rcases hc with z | z
    · rw [z]; exact nit b u e
    · exact nit c _ z
theorem Inv.tok (I:Inv X pins σ H s) (t:Nat):Inv X pins σ H { s with toks:=t }:=I.un (h':=s.heap) (t':=t) Un.refl I.hok
theorem Inv.kept {t':Nat} (I:Inv X pins σ H s) (k:∀ b u,s.heap.get? b=some u→h'.get? b=some u):Inv X pins σ H { s with heap:=h',toks:=t' }:=I.un (Un.kept k) (I.hok.kept k)
theorem Inv.laid {a:Addr} {o:HO} {t':Nat} (I:Inv X pins σ H s) (k:∀ b u,s.heap.get? b=some u→h'.get? b=some u) (hp:s.heap.objs.size ≤ a) (new:ObjOk X.prog X.w (upd H a o) h' a o) :
    Inv X pins σ (upd H a o) { s with heap:=h',toks:=t' }:=I.un (Un.laid k hp (I.hok.fresh hp)) (I.hok.laid k hp new)
theorem Inv.write {x e:Addr} {o:HO} {t':Nat} (I:Inv X pins σ H s) (mu:Mut (H x)) (he:e=x∨H e=some (.own x)) (k:∀ b u,b ≠ e→s.heap.get? b=some u→h'.get? b=some u) (heo:∃ u,h'.get? e=some u)
    (new:ObjOk X.prog X.w (upd H x o) h' x o):Inv X pins σ (upd H x o) { s with heap:=h',toks:=t' }:=I.un (Un.write mu he k heo) (I.hok.write mu he k heo new)
theorem Inv.weak {σ':List (Option V)} (I:Inv X pins σ H s) (hl:σ'.length=σ.length) (w:∀ (i:Nat) v,σ'[i]?=some (some v)→σ[i]?=some (some v)):Inv X pins σ' H s :=
  ⟨I.ok,I.os,I.bare,I.base,let ⟨m,hn,hl'⟩:=I.loc; ⟨m,hn,fun i x v e1 e2 e3=>hl' i x v e1 (w i v e2) e3⟩,I.cell,I.free,I.freeC,I.pin,I.hok,hl.trans I.len⟩
theorem Inv.pins_of {pins':List (Addr × Obj)} (I:Inv X pins σ H s) (h:∀ p ∈ pins',s.heap.get? p.1=some p.2∧H p.1=none∧p.1 ≠ X.env.locals∧p.1 ∉ X.fs∧∀ v,p.2.data ≠ .cell v):Inv X pins' σ H s :=
  ⟨I.ok,I.os,I.bare,I.base,I.loc,I.cell,I.free,I.freeC,fun p hp=>(List.mem_append.mp hp).elim (fun z=>I.pin p (List.mem_append_left _ z)) (h p),I.hok,I.len⟩
theorem zhz {N:List Str} (hN:N.Nodup) {i j:Nat} {x:Str} (a:N[i]?=some x) (b:N[j]?=some x):i=j:=by
  obtain ⟨h1,e1⟩:=List.getElem?_eq_some_iff.mp a
  obtain ⟨h2,e2⟩:=List.getElem?_eq_some_iff.mp b
  exact (List.getElem_inj hN).mp (e1.trans e2.symm)
theorem zlC {M:Model} {A:Around} {E:Value→Shared→Prop} {i:Nat} {x:Str} {v:V} {u:Value} {Q:Unit→Shared→Prop} (I:Inv X pins σ H s) (hN:X.N.Nodup) (hi:X.N[i]?=some x) (hx:Loc X.env.scope x) (r:RelV v u)
    (h:∀ s',Inv X pins (σ.set i (some v)) H s'→(∃ a,Heap.SameBut a s.heap s'.heap∧(a=X.env.locals∨X.env.cells.lookup x=some a))→Q () s') (hf:X.fn x=true∨X.env.scope.names.lookup x=some .local:=by first | exact .inl rfl | exact .inr rfl | assumption):wpAny M A (storeName X.env x u) Q E s:=by
  obtain ⟨m,hn,hl⟩:=id I.loc
  have hcls:(X.env.scope.kind == .class || (X.env.scope.kind == .module && X.env.locals != X.env.globals))=false:=by rw [I.ok.kind]; rfl
  have hiσ:i < σ.length:=by rw [I.len]; exact (List.getElem?_eq_some_iff.mp hi).1
  have cne:=I.cne
  have tracked:∀ {a:Addr} {h':Heap},(∃ o,s.heap.get? a=some o∧H a=none)→Heap.SameBut a s.heap h'→HOk X.prog X.w H h':=fun {a h'} ha hs b ob e=>by
    obtain ⟨_,_,hfree⟩:=ha
    refine (I.hok b ob e).stay (fun c w' hc q=>(hs.2 c ?_).trans q) (fun _ q=>q) fun _ _ q=>q
    rintro rfl
    rcases hc with rfl | hc
    · rw [hfree] at e; cases e
    · rw [hfree] at hc; cases hc
  rcases hx with hk | hk
  · refine wpAny_storeName_local hk hn (fun h' hn' hs=>?_) hcls
    obtain ⟨oL,_,_,hoL,_⟩:=id hn
    refine h _ ⟨I.ok,I.os,I.bare,⟨fun b o e n hb hx=>?_,fun b o e n hb hx=>?_,I.base.free,fun b o e hx=>?_,I.base.tups,I.base.frzs,I.base.tbls⟩,⟨_,hn',fun j y v' e1 e2 e3=>?_⟩,fun y c e=>?_,I.free,I.freeC,fun p hp=>?_,tracked ⟨oL,hoL,I.free⟩ hs,by simpa using I.len⟩ ⟨_,hs,.inl rfl⟩
    · exact (hs.2 b (Nat.ne_of_lt (Nat.lt_of_lt_of_le (Heap.lt_size e) I.ok.above))).trans (I.base.keep b o e n hb hx)
    · obtain ⟨sl,e1⟩:=I.base.slot b o e n hb hx
      exact ⟨sl,(hs.2 b (Nat.ne_of_lt (Nat.lt_of_lt_of_le (Heap.lt_size e) I.ok.above))).trans e1⟩
    · obtain ⟨o',e1⟩:=I.base.there b o e hx
      exact ⟨o',(hs.2 b (Nat.ne_of_lt (Nat.lt_of_lt_of_le (Heap.lt_size e) I.ok.above))).trans e1⟩
    · by_cases hj:j=i
      · subst hj
        rw [hi] at e1; cases e1
        rw [List.getElem?_set_self hiσ] at e2
        cases e2
        exact ⟨u,r,.inl ⟨hk,by simp⟩⟩
      · rw [List.getElem?_set_ne (Ne.symm hj)] at e2
        obtain ⟨u',r',q⟩:=hl j y v' e1 e2 e3
        refine ⟨u',r',?_⟩
        rcases q with ⟨k,e⟩ | ⟨k,c,e,z⟩
        · refine .inl ⟨k,?_⟩
          have:y ≠ x:=fun e=>hj (zhz hN e1 (e ▸ hi))
          simp [this,e]
        · exact .inr ⟨k,c,e,z.sameBut hs (cne y c e)⟩
    · obtain ⟨w',z⟩:=I.cell y c e
      exact ⟨w',z.sameBut hs (cne y c e)⟩
    · obtain ⟨e,n,ne,nf,d⟩:=I.pin p hp
      exact ⟨(hs.2 p.1 ne).trans e,n,ne,nf,d⟩
  · have hfn:X.fn x=true:=by
      rcases hf with z | z
      · exact z
      · rw [z] at hk; cases hk
    obtain ⟨c,hc⟩:=I.ok.has x (.inl hk)
    obtain ⟨w',z⟩:=I.cell x c hc
    refine wpAny_storeName_cell I.ok.kind hk hc z (fun h' hc' hs=>?_)
    obtain ⟨oc,hoc,hocd⟩:=id z
    refine h { s with heap:=h' } ⟨I.ok,I.os,I.bare,⟨fun b o e n hb hx=>?_,fun b o e n hb hx=>?_,I.base.free,fun b o e hx=>?_,I.base.tups,I.base.frzs,I.base.tbls⟩,⟨m,hn.sameBut hs (Ne.symm (cne x c hc)),fun j y v' e1 e2 e3=>?_⟩,fun y c' e=>?_,I.free,I.freeC,fun p hp=>?_,tracked ⟨oc,hoc,I.freeC x c hc⟩ hs,by simpa using I.len⟩ ⟨c,hs,.inr hc⟩
    · exact (hs.2 b (Nat.ne_of_lt (Nat.lt_of_lt_of_le (Heap.lt_size e) (I.ok.cab x c hfn hc)))).trans (I.base.keep b o e n hb hx)
    · obtain ⟨sl,e1⟩:=I.base.slot b o e n hb hx
      exact ⟨sl,(hs.2 b (Nat.ne_of_lt (Nat.lt_of_lt_of_le (Heap.lt_size e) (I.ok.cab x c hfn hc)))).trans e1⟩
    · obtain ⟨o',e1⟩:=I.base.there b o e hx
      exact ⟨o',(hs.2 b (Nat.ne_of_lt (Nat.lt_of_lt_of_le (Heap.lt_size e) (I.ok.cab x c hfn hc)))).trans e1⟩
    · by_cases hj:j=i
      · subst hj
        rw [hi] at e1; cases e1
        rw [List.getElem?_set_self hiσ] at e2
        cases e2
        exact ⟨u,r,.inr ⟨.inl hk,c,hc,hc'⟩⟩
      · rw [List.getElem?_set_ne (Ne.symm hj)] at e2
        obtain ⟨u',r',q⟩:=hl j y v' e1 e2 e3
        refine ⟨u',r',?_⟩
        rcases q with q | ⟨k,c',e,z'⟩
        · exact .inl q
        · refine .inr ⟨k,c',e,z'.sameBut hs ?_⟩
          rintro rfl
          exact hj (zhz hN e1 (I.ok.inj _ _ _ e hc ▸ hi))
    · by_cases hcc:c'=c
      · subst hcc; exact ⟨_,hc'⟩
      · obtain ⟨w2,z2⟩:=I.cell y c' e
        exact ⟨w2,z2.sameBut hs hcc⟩
    · obtain ⟨e,n,ne,nf,d⟩:=I.pin p hp
      refine ⟨(hs.2 p.1 ?_).trans e,n,ne,nf,d⟩
      intro q
      rw [q,hoc] at e
      have q':oc=p.2:=Option.some.inj e
      exact d w' (by rw [← q']; exact hocd)
theorem zeh {M:Model} {A:Around} {E:Value→Shared→Prop} {i:Nat} {x:Str} {v:V} {u:Value} {Q:Unit→Shared→Prop} (I:Inv X pins σ H s) (hN:X.N.Nodup) (hi:X.N[i]?=some x) (hx:Loc X.env.scope x) (r:RelV v u)
    (h:∀ s',Inv X pins (σ.set i (some v)) H s'→Q () s') (hf:X.fn x=true∨X.env.scope.names.lookup x=some .local:=by first | exact .inl rfl | exact .inr rfl | assumption):wpAny M A (storeName X.env x u) Q E s :=
  zlC I hN hi hx r (fun s' I' _=>h s' I') hf
end
abbrev XK:=Value→Option Addr→Hp→Prop
abbrev St:=List (Option V)
abbrev VK:=V→Hp→Prop
abbrev TE:=St→Hp→VK→Prop
abbrev TT:=St→Hp→(Bool→Hp→Prop)→Prop
abbrev TA:=St→Hp→(List V→Hp→Prop)→Prop
structure Ends where
  nx:St→Hp→Prop
  rt:VK
  bk:St→Hp→Prop:=fun _ _=>False
  ct:St→Hp→Prop:=fun _ _=>False
abbrev TS:=Ends→St→Hp→Prop
def EP (X:Cx) (pins:List (Addr × Obj)) (σ:St) (Q:VK) (u:Value) (s':Shared):Prop:=∃ v H',Inv X pins σ H' s'∧RelV v u∧Q v H'
def TP (X:Cx) (pins:List (Addr × Obj)) (σ:St) (Q:Bool→Hp→Prop) (b:Bool) (s':Shared):Prop:=∃ H',Inv X pins σ H' s'∧Q b H'
def AP (X:Cx) (pins:List (Addr × Obj)) (σ:St) (Q:List V→Hp→Prop) (us:List Value) (s':Shared):Prop:=∃ vs H',Inv X pins σ H' s'∧Vals vs us∧Q vs H'
def SP (X:Cx) (pins:List (Addr × Obj)) (D:Ends) (f:Flow) (s':Shared):Prop :=
  match f with
  | .next=>∃ σ' H',Inv X pins σ' H' s'∧D.nx σ' H'
  | .brk=>∃ σ' H',Inv X pins σ' H' s'∧D.bk σ' H'
  | .cont=>∃ σ' H',Inv X pins σ' H' s'∧D.ct σ' H'
  | .ret u=>∃ v σ' H',Inv X pins σ' H' s'∧RelV v u∧D.rt v H'
def PE (X:Cx) (e:Expr) (t:TE):Prop :=
  ∀ (pins:List (Addr × Obj)) (s:Shared) (σ:St) (H:Hp) (Q:VK),Inv X pins σ H s→t σ H Q→wpAny (model X.prog X.w) X.A (eval e X.env) (EP X pins σ Q) X.xe s
def PT (X:Cx) (e:Expr) (t:TT):Prop :=
  ∀ (pins:List (Addr × Obj)) (s:Shared) (σ:St) (H:Hp) (Q:Bool→Hp→Prop),Inv X pins σ H s→t σ H Q→wpAny (model X.prog X.w) X.A (isTrue e X.env (eval e X.env)) (TP X pins σ Q) X.xe s
def PW (X:Cx) (e:Expr) (t:TT):Prop :=
  ∀ (whole:Sem Value) (pins:List (Addr × Obj)) (s:Shared) (σ:St) (H:Hp) (Q:Bool→Hp→Prop),Inv X pins σ H s→t σ H Q→wpAny (model X.prog X.w) X.A (isTrue e X.env whole) (TP X pins σ Q) X.xe s
theorem PW.pt {X:Cx} {e:Expr} {t:TT} (h:PW X e t):PT X e t:=h _
def PA (X:Cx) (es:List Expr) (t:TA):Prop :=
  ∀ (pos:Pos) (pins:List (Addr × Obj)) (s:Shared) (σ:St) (H:Hp) (Q:List V→Hp→Prop),Inv X pins σ H s→t σ H Q→wpAny (model X.prog X.w) X.A (spliced (backTo pos (starEach es X.env))) (AP X pins σ Q) X.xe s
def PS (X:Cx) (st:Stmt) (t:TS):Prop :=
  ∀ (pins:List (Addr × Obj)) (s:Shared) (σ:St) (H:Hp) (D:Ends),Inv X pins σ H s→t D σ H→wpAny (model X.prog X.w) X.A (exec st X.env) (SP X pins D) X.xe s
def PSs (X:Cx) (st:List Stmt) (t:TS):Prop :=
  ∀ (pins:List (Addr × Obj)) (s:Shared) (σ:St) (H:Hp) (D:Ends),Inv X pins σ H s→t D σ H→wpAny (model X.prog X.w) X.A (execs st X.env) (SP X pins D) X.xe s
theorem thn {α:Type} {t:Sem α} {Q Q':α→Shared→Prop} {M:Model} {A:Around} {E:Value→Shared→Prop} {s:Shared} (h:wpAny M A t Q E s) (hQ:∀ a s,Q a s→Q' a s):wpAny M A t Q' E s:=wpAny_mono h hQ fun _ _ x=>x
end L2
namespace L2
open PySem PySem.Spec PyProof.Rows
section
variable {X:Cx}
def tVar (i:Nat):TE:=fun σ H Q=>∃ v,σ[i]?=some (some v)∧Q v H
def tC (v:V):TE:=fun _ H Q=>Q v H
theorem zor {i:Nat} {x:Str} {pos:Pos} (hN:X.N[i]?=some x) (hv:Vis X.env.scope x) (hd:(x == ("__debug__" : Str))=false:=by decide) (hcd:(x == ("__classdict__" : Str))=false:=by decide):PE X (.Name x pos) (tVar i):=by
  intro pins s σ H Q I h
  obtain ⟨v,e,h⟩:=h
  obtain ⟨m,hn,hl⟩:=I.loc
  obtain ⟨u,r,l⟩:=hl i x v hN e hv
  have fin:EP X pins σ Q u s:=⟨v,H,I,r,h⟩
  rcases l with ⟨hk,hm⟩ | ⟨hk,c,hc,hcell⟩
  · exact wpAny_Name (wpAny_loadName_local I.ok.kind hk hn hm fin) hd
  · rcases hk with hk | hk
    · exact wpAny_Name (wpAny_loadName_cell I.ok.kind hk hc hcell fin) hd
    · exact wpAny_Name (wpAny_loadName_free I.ok.kind hk hc hcell fin hcd) hd
theorem zam {i j pos}:PE X (.Constant (.int i) j pos) (tC (.int i)):=fun _ _ _ H _ I h=>wpAny_Constant_int ⟨.int i,H,I.tok _,⟨_,rfl⟩,h⟩
theorem zd3 {b j pos}:PE X (.Constant (.bool b) j pos) (tC (.bl b)):=fun _ _ _ H _ I h=>Constant_bool ⟨.bl b,H,I,rfl,h⟩
theorem zmZ {j pos}:PE X (.Constant .none j pos) (tC .non):=fun _ _ _ H _ I h=>Constant_none ⟨.non,H,I,rfl,h⟩
theorem zkO {x j pos}:PE X (.Constant (.str x) j pos) (tC (.str x)):=fun _ _ _ H _ I h=>Calls.Constant_str ⟨.str x,H,I.tok _,⟨_,rfl⟩,h⟩
def Gl (X:Cx) (x:Str):Prop:=X.env.kindOf x=some .globalImplicit
theorem zeL {E:Value→Shared→Prop} {pins:List (Addr × Obj)} {s:Shared} {σ:St} {H:Hp} {x:Str} {u:Value} {pos:Pos} {Q:Value→Shared→Prop} (I:Inv X pins σ H s) (hg:Gl X x) (hm:X.mg x=some u) (h:Q u s)
    (hd:(x == ("__debug__" : Str))=false:=by decide):wpAny (model X.prog X.w) X.A (eval (.Name x pos) X.env) Q E s :=
  Calls.Name_function_global I.ok.kind hg (Calls.loadGlobal_global (by rw [I.ok.glob]; exact I.mod.glob.keeps I.bk) hm h) hd
theorem zfE {E:Value→Shared→Prop} {pins:List (Addr × Obj)} {s:Shared} {σ:St} {H:Hp} {x:Str} {u:Value} {pos:Pos} {Q:Value→Shared→Prop} (I:Inv X pins σ H s) (hg:Gl X x) (hm:X.mg x=none) (hv:bootBuiltins x=some u) (h:Q u s)
    (hn:x ≠ "__name__":=by decide) (hd:(x == ("__debug__" : Str))=false:=by decide):wpAny (model X.prog X.w) X.A (eval (.Name x pos) X.env) Q E s:=by
  obtain ⟨mb,h1,h2⟩:=I.mod.blt
  exact Calls.Name_function_global I.ok.kind hg (Calls.loadGlobal_builtin (by rw [I.ok.glob]; exact I.mod.glob.keeps I.bk) hm (by rw [I.ok.blt]; exact h1.keeps I.bk) ((h2 x hn).trans hv) h) hd
theorem ziM {x:Str} {v:V} {u:Value} {pos:Pos} (hg:Gl X x) (hm:X.mg x=some u) (r:RelV v u) (hd:(x == ("__debug__" : Str))=false:=by decide):PE X (.Name x pos) (tC v) :=
  fun _ _ _ H _ I h=>zeL I hg hm ⟨v,H,I,r,h⟩ hd
theorem ziI {x:Str} {v:V} {u:Value} {pos:Pos} (hg:Gl X x) (hm:X.mg x=none) (hv:bootBuiltins x=some u) (r:RelV v u) (hn:x ≠ "__name__":=by decide) (hd:(x == ("__debug__" : Str))=false:=by decide):PE X (.Name x pos) (tC v) :=
  fun _ _ _ H _ I h=>zfE I hg hm hv ⟨v,H,I,r,h⟩ hn hd
variable {a b:Expr} {ta tb:TE} {pos:Pos}
def tB (t:TE):TT:=fun σ H Q=>t σ H fun x H1=>∃ c,x = .bl c∧Q c H1
theorem zcB {e:Expr} {t:TE} (h:PE X e t) (he:∀ whole,isTrue e X.env whole=(do let v ← whole; standAt e.pos; holding [v] (truthy v)):=by intro _; rfl):PT X e (tB t):=by
  intro pins s σ H Q I hw
  refine isTrue_plain (thn (h pins s σ H _ I hw) fun v s1 ⟨x,H1,I1,r1,q1⟩=>?_) (he _)
  obtain ⟨d,rfl,q⟩:=q1
  cases r1
  exact wpAny_truthy_bool ⟨H1,I1,q⟩
variable {tA tB':TT} {rest:List Expr}
def tAnd (t u:TT):TT:=fun σ H Q=>t σ H fun c H1=>if c=true then u σ H1 Q else Q false H1
def tOr (t u:TT):TT:=fun σ H Q=>t σ H fun c H1=>if c=true then Q true H1 else u σ H1 Q
def tNot (t:TT):TT:=fun σ H Q=>t σ H fun c H1=>Q (!c) H1
theorem zng (ha:PT X a tA):PW X (.BoolOp .And [a] pos) tA:=by
  intro wh pins s σ H Q I h
  refine isTrue_and (thn (ha pins s σ H Q I h) fun c s1 e=>?_)
  cases c with
  | true=>exact isTrue_and_nil e
  | false=>exact e
theorem zeP (ha:PT X a tA):PW X (.BoolOp .Or [a] pos) tA:=by
  intro wh pins s σ H Q I h
  refine isTrue_or (thn (ha pins s σ H Q I h) fun c s1 e=>?_)
  cases c with
  | false=>exact isTrue_or_nil e
  | true=>exact e
theorem zow (ha:PT X a tA) (hb:PW X (.BoolOp .And (b :: rest) pos) tB'):PW X (.BoolOp .And (a :: b :: rest) pos) (tAnd tA tB'):=by
  intro wh pins s σ H Q I h
  refine isTrue_and (thn (ha pins s σ H _ I h) fun c s1 ⟨H1,I1,q1⟩=>?_)
  cases c with
  | true=>exact hb wh pins s1 σ H1 Q I1 q1
  | false=>exact ⟨H1,I1,q1⟩
theorem zgr (ha:PT X a tA) (hb:PW X (.BoolOp .Or (b :: rest) pos) tB'):PW X (.BoolOp .Or (a :: b :: rest) pos) (tOr tA tB'):=by
  intro wh pins s σ H Q I h
  refine isTrue_or (thn (ha pins s σ H _ I h) fun c s1 ⟨H1,I1,q1⟩=>?_)
  cases c with
  | true=>exact ⟨H1,I1,q1⟩
  | false=>exact hb wh pins s1 σ H1 Q I1 q1
theorem zcA (ha:PT X a tA):PT X (.UnaryOp .Not a pos) (tNot tA):=by
  intro pins s σ H Q I h
  exact isTrue_not (ha pins s σ H (fun c H1=>Q (!c) H1) I h)
def zn6 (ta tb:TE):TE:=fun σ H Q=>ta σ H fun x H1=>∃ c,x = .bl c∧if c=true then tb σ H1 Q else Q (.bl false) H1
def zon (ta:TE):TE:=fun σ H Q=>ta σ H fun x H1=>∃ c,x = .bl c∧Q (.bl (!c)) H1
theorem zjx {op} {t:TE} (h:PE X a t):PE X (.BoolOp op [a] pos) t:=fun pins s σ H Q I hw=>BoolOp_one (h pins s σ H Q I hw)
theorem zig (ha:PE X a ta) (hb:PE X (.BoolOp .And (b :: rest) pos) tb):PE X (.BoolOp .And (a :: b :: rest) pos) (zn6 ta tb):=by
  intro pins s σ H Q I h
  refine BoolOp_and (thn (ha pins s σ H _ I h) fun v s1 ⟨x,H1,I1,r1,q1⟩=>?_)
  obtain ⟨c,rfl,q1⟩:=q1
  cases r1
  refine wpAny_truthy_bool ?_
  cases c with
  | true=>exact hb pins s1 σ H1 Q I1 q1
  | false=>exact ⟨.bl false,H1,I1,rfl,q1⟩
theorem znW (ha:PE X a ta):PE X (.UnaryOp .Not a pos) (zon ta):=by
  intro pins s σ H Q I h
  refine UnaryOp_ (thn (ha pins s σ H _ I h) fun v s1 ⟨x,H1,I1,r1,q1⟩=>?_)
  obtain ⟨c,rfl,q1⟩:=q1
  cases r1
  exact not_of (wpAny_truthy_bool ⟨.bl (!c),H1,I1,rfl,q1⟩)
def tIf (t:TT) (ta tb:TE):TE:=fun σ H Q=>t σ H fun c H1=>if c=true then ta σ H1 Q else tb σ H1 Q
theorem zms {c:Expr} (hc:PT X c tA) (ha:PE X a ta) (hb:PE X b tb):PE X (.IfExp c a b pos) (tIf tA ta tb):=by
  intro pins s σ H Q I h
  refine wpAny_IfExp (thn (hc pins s σ H _ I h) fun d s1 ⟨H1,I1,q1⟩=>?_)
  cases d with
  | true=>exact ha pins s1 σ H1 Q I1 q1
  | false=>exact hb pins s1 σ H1 Q I1 q1
end
end L2
namespace L2
open PySem PySem.Spec PyProof.Rows
def SqL (K:PySem.W.Frag) (H:Hp) (a:Addr) (xs:List V):Prop :=
  Rd H a (.lst xs) ∨
    ∃ (o:Obj) (its:Array Value) (n:Nat),K.lookup a=some o∧o.cls = .type "list"∧o.dict=none∧o.data = .seq its n∧its.size ≤ sizeLine∧Vals xs its.toList
def SqT (K:PySem.W.Frag) (H:Hp) (a:Addr) (xs:List V):Prop :=
  Rd H a (.tup xs) ∨
    ∃ (o:Obj) (its:Array Value) (n:Nat),K.lookup a=some o∧o.cls = .type "tuple"∧o.data = .seq its n∧its.size ≤ sizeLine∧Vals xs its.toList
def absV:Value→Option V
  | .none=>some .non
  | .bool b=>some (.bl b)
  | .int i _=>some (.int i)
  | .str x _=>some (.str x)
  | .bytes b _=>some (.byt b)
  | .float b _=>some (.flt b)
  | .ref a=>some (.ref a)
  | .type n=>some (.ty n)
  | _=>none
theorem RelV.abs {x:V} {u:Value} (r:RelV x u):absV u=some x:=by
  cases x with
  | non=>cases r; rfl
  | bl _=>cases r; rfl
  | int _=>obtain ⟨t,rfl⟩:=r; rfl
  | str _=>obtain ⟨t,rfl⟩:=r; rfl
  | byt _=>obtain ⟨t,rfl⟩:=r; rfl
  | flt _=>obtain ⟨t,rfl⟩:=r; rfl
  | ref _=>cases r; rfl
  | ty _=>cases r; rfl
theorem RelV.inj {x y:V} {u:Value} (r:RelV x u) (q:RelV y u):x=y:=Option.some.inj (r.abs.symm.trans q.abs)
theorem Vals.inj:∀ {xs ys:List V} {us:List Value},Vals xs us→Vals ys us→xs=ys
  | _,_,_,.nil,.nil=>rfl
  | _,_,_,.cons r t,.cons r' t'=>by rw [r.inj r',Vals.inj t t']
section
variable {X:Cx} {pins:List (Addr × Obj)} {σ:St} {H:Hp} {s:Shared} {a:Addr} {xs ys:List V}
theorem SqL.of {K:PySem.W.Frag} (h:H a=some (.lst xs)):SqL K H a xs:=.inl (.inl h)
theorem SqT.of {K:PySem.W.Frag} (h:H a=some (.tup xs)):SqT K H a xs:=.inl (.inl h)
theorem Inv.list (I:Inv X pins σ H s) (h:SqL X.K H a xs):∃ its:List Value,Vals xs its∧PlainL s.heap a its.toArray∧xs.length ≤ sizeLine:=by
  rcases h with h | ⟨o,its,n,hk,hc,hd,hs,hz,r⟩
  · obtain ⟨z,its,n,r,e⟩:=h.ok I.hok
    exact ⟨its,r,⟨_,n,e,rfl,rfl,rfl⟩,z⟩
  · refine ⟨its.toList,r,⟨o,n,I.kIn a o hk,hc,hd,by simpa using hs⟩,?_⟩
    have e:=r.length
    simp only [Array.length_toList] at e
    omega
theorem Inv.tuple (I:Inv X pins σ H s) (h:SqT X.K H a xs):∃ its:List Value,Vals xs its∧IsTup s.heap a its.toArray∧xs.length ≤ sizeLine:=by
  rcases h with h | ⟨o,its,n,hk,hc,hs,hz,r⟩
  · obtain ⟨z,its,r,p⟩:=h.ok I.hok
    exact ⟨its,r,p,z⟩
  · refine ⟨its.toList,r,⟨o,I.kIn a o hk,hc,n,by simpa using hs⟩,?_⟩
    have e:=r.length
    simp only [Array.length_toList] at e
    omega
theorem Inv.list_inj (I:Inv X pins σ H s) (h:SqL X.K H a xs) (h':SqL X.K H a ys):xs=ys:=by
  obtain ⟨its,r,⟨o,n,e,_,_,d⟩,_⟩:=I.list h
  obtain ⟨its',r',⟨o',n',e',_,_,d'⟩,_⟩:=I.list h'
  rw [e] at e'; cases e'
  rw [d] at d'
  injection d' with d1 _
  have:its=its':=by simpa using congrArg Array.toList d1
  subst this
  exact r.inj r'
end
abbrev Cx.wish (X:Cx) (E:Value→Shared→Prop):Cx:={ X with xe:=E }
abbrev Cx.nox (X:Cx):Cx:=X.wish fun _ _=>False
theorem Cx.Ok.wish {X:Cx} (ok:X.Ok) (E:Value→Shared→Prop):(X.wish E).Ok :=
  ⟨ok.mod,ok.kind,ok.glob,ok.blt,ok.above,ok.inj,ok.has,ok.cab,ok.hd,ok.frames,ok.stk,ok.exf,ok.bs,ok.bsz,ok.noex,ok.exfs,ok.funs,ok.frf,ok.tb⟩
theorem Cx.Ok.unwish {X:Cx} {E:Value→Shared→Prop} (ok:(X.wish E).Ok):X.Ok :=
  ⟨ok.mod,ok.kind,ok.glob,ok.blt,ok.above,ok.inj,ok.has,ok.cab,ok.hd,ok.frames,ok.stk,ok.exf,ok.bs,ok.bsz,ok.noex,ok.exfs,ok.funs,ok.frf,ok.tb⟩
section
variable {X:Cx} {pins:List (Addr × Obj)} {σ:St} {H:Hp} {s:Shared} {E:Value→Shared→Prop}
theorem Inv.wish (I:Inv X pins σ H s) (E:Value→Shared→Prop):Inv (X.wish E) pins σ H s:=⟨I.ok.wish E,I.os,I.bare,I.base,I.loc,I.cell,I.free,I.freeC,I.pin,I.hok,I.len⟩
theorem Inv.unwish (I:Inv (X.wish E) pins σ H s):Inv X pins σ H s:=⟨I.ok.unwish,I.os,I.bare,I.base,I.loc,I.cell,I.free,I.freeC,I.pin,I.hok,I.len⟩
theorem SP.unwish {D:Ends} {f:Flow} {s':Shared} (h:SP (X.wish E) pins D f s'):SP X pins D f s':=by
  cases f with
  | next=>obtain ⟨σ',H',I,q⟩:=h; exact ⟨σ',H',I.unwish,q⟩
  | brk=>obtain ⟨σ',H',I,q⟩:=h; exact ⟨σ',H',I.unwish,q⟩
  | cont=>obtain ⟨σ',H',I,q⟩:=h; exact ⟨σ',H',I.unwish,q⟩
  | ret u=>obtain ⟨v,σ',H',I,r,q⟩:=h; exact ⟨v,σ',H',I.unwish,r,q⟩
theorem PSs.nox {st:List Stmt} {t:TS} (h:PSs X.nox st t):PSs X st t:=fun pins s σ H D I hw =>
  wpAny_mono (h pins s σ H D (I.wish _) hw) (fun _ _ q=>q.unwish) fun _ _ z=>False.elim z
end
section
variable {X:Cx} {st:Stmt} {rest:List Stmt} {t u:TS} {e:Expr} {te:TE} {pos:Pos}
def zoc:TS:=fun D σ H=>D.nx σ H
def tSeq (t u:TS):TS:=fun D σ H=>t { D with nx:=u D } σ H
theorem zbp:PSs X [] zoc:=fun _ _ σ H _ I h=>wpAny_execs_nil ⟨σ,H,I,h⟩
theorem zah (h1:PS X st t) (h2:PSs X rest u):PSs X (st :: rest) (tSeq t u):=by
  intro pins s σ H D I h
  refine wpAny_execs_cons (thn (h1 pins s σ H { D with nx:=u D } I h) fun f s1 q=>?_)
  cases f with
  | next =>
    obtain ⟨σ',H',I',q⟩:=q
    exact h2 pins s1 σ' H' D I' q
  | ret v=>exact q
  | brk=>exact q
  | cont=>exact q
theorem zaj (h1:PS X st t):PSs X [st] t:=by
  intro pins s σ H D I h
  refine wpAny_execs_cons (thn (h1 pins s σ H D I h) fun f s1 q=>?_)
  cases f with
  | next=>exact wpAny_execs_nil q
  | ret v=>exact q
  | brk=>exact q
  | cont=>exact q
theorem Inv.quiet {pins:List (Addr × Obj)} {σ:St} {H:Hp} {s:Shared} (I:Inv X pins σ H s):interactive X.env=false:=by simp [interactive,I.ok.kind]
def ziG (te:TE):TS:=fun D σ H=>te σ H fun _ H1=>D.nx σ H1
theorem zdv (he:PE X e te) (hs:swapsWith e none pos.line X.env=pure false:=by rfl):PS X (.Expr e pos) (ziG te):=by
  intro pins s σ H D I h
  exact wpAny_Expr_any (thn (he pins s σ H _ I h) fun v s1 ⟨x,H1,I1,r1,q1⟩=>⟨σ,H1,I1,q1⟩) I.quiet hs
def tRet (te:TE):TS:=fun D σ H=>te σ H D.rt
theorem zaS (he:PE X e te):PS X (.Return (some e) pos) (tRet te):=by
  intro pins s σ H D I h
  exact wpAny_Return_some (thn (he pins s σ H _ I h) fun v s1 ⟨x,H1,I1,r1,q1⟩=>⟨x,σ,H1,I1,r1,q1⟩)
def tIfS (c:TT) (t u:TS):TS:=fun D σ H=>c σ H fun b H1=>if b=true then t D σ H1 else u D σ H1
theorem zcH {c:Expr} {a b:List Stmt} {tc:TT} (hc:PT X c tc) (ha:PSs X a t) (hb:PSs X b u):PS X (.If c a b pos) (tIfS tc t u):=by
  intro pins s σ H D I h
  refine wpAny_If (thn (hc pins s σ H _ I h) fun d s1 ⟨H1,I1,q1⟩=>?_)
  cases d with
  | true=>exact ha pins s1 σ H1 D I1 q1
  | false=>exact hb pins s1 σ H1 D I1 q1
end
abbrev TG:=V→St→Hp→(St→Hp→Prop)→Prop
abbrev TGs:=List V→St→Hp→(St→Hp→Prop)→Prop
def PG (X:Cx) (target:Expr) (t:TG):Prop :=
  ∀ (pins:List (Addr × Obj)) (s:Shared) (σ:St) (H:Hp) (v:V) (u:Value) (Q:St→Hp→Prop),Inv X pins σ H s→RelV v u→t v σ H Q →
    wpAny (model X.prog X.w) X.A (assign target X.env u) (fun _ s'=>∃ σ' H',Inv X pins σ' H' s'∧Q σ' H') X.xe s
def PGs (X:Cx) (ts:List Expr) (t:TGs):Prop :=
  ∀ (pins:List (Addr × Obj)) (s:Shared) (σ:St) (H:Hp) (vs:List V) (us:List Value) (Q:St→Hp→Prop),Inv X pins σ H s→Vals vs us→t vs σ H Q →
    wpAny (model X.prog X.w) X.A (assignInOrder ((assignEach ts X.env).map (·.2)) us) (fun _ s'=>∃ σ' H',Inv X pins σ' H' s'∧Q σ' H') X.xe s
abbrev TSet:=V→V→V→Hp→(Hp→Prop)→Prop
def PSet (X:Cx) (t:TSet):Prop :=
  ∀ (pins:List (Addr × Obj)) (s:Shared) (σ:St) (H:Hp) (o i v:V) (ov iv u:Value) (Q:Hp→Prop),Inv X pins σ H s→RelV o ov→RelV i iv→RelV v u→t o i v H Q →
    wpAny (model X.prog X.w) X.A (setItem ov iv u) (fun _ s'=>∃ H',Inv X pins σ H' s'∧Q H') X.xe s
abbrev TIp:=V→V→Hp→VK→Prop
def PIp (X:Cx) (op:Operator) (t:TIp):Prop :=
  ∀ (pins:List (Addr × Obj)) (s:Shared) (σ:St) (H:Hp) (x y:V) (v u:Value) (Q:VK),Inv X pins σ H s→RelV x v→RelV y u→t x y H Q →
    wpAny (model X.prog X.w) X.A (inplaceOp op v u) (EP X pins σ Q) X.xe s
section
variable {X:Cx} {pos:Pos}
def zfN (i:Nat):TG:=fun v σ H Q=>Q (σ.set i (some v)) H
theorem zaT {i:Nat} {x:Str} (hN:X.N.Nodup) (hi:X.N[i]?=some x) (hx:Loc X.env.scope x) (hf:X.fn x=true∨X.env.scope.names.lookup x=some .local:=by first | exact .inl rfl | exact .inr rfl | assumption):PG X (.Name x pos) (zfN i):=by
  intro pins s σ H v u Q I r h
  exact wpAny_assign_Name (zeh I hN hi hx r (fun s' I'=>⟨_,H,I',h⟩) hf)
def gNil:TGs:=fun vs σ H Q=>vs = []∧Q σ H
def zok (t:TG) (u:TGs):TGs:=fun vs σ H Q=>∃ v r,vs=v :: r∧t v σ H fun σ' H'=>u r σ' H' Q
theorem zkE:PGs X [] gNil:=by
  intro pins s σ H vs us Q I r h
  obtain ⟨e,h⟩:=h
  subst e
  cases r
  exact assignInOrder_nil ⟨σ,H,I,h⟩
theorem zfR {e:Expr} {es:List Expr} {t:TG} {u:TGs} (h1:PG X e t) (h2:PGs X es u)
    (hs:(assignEach (e :: es) X.env).map (·.2)=assign e X.env :: (assignEach es X.env).map (·.2):=by rfl):PGs X (e :: es) (zok t u):=by
  intro pins s σ H vs us Q I r h
  obtain ⟨v,vr,e1,h⟩:=h
  subst e1
  cases r with
  | cons r rr =>
    rw [hs]
    refine assignInOrder_cons (thn (h1 pins s σ H _ _ _ I r h) fun _ s1 ⟨σ1,H1,I1,q1⟩=>?_)
    exact h2 pins s1 σ1 H1 _ _ Q I1 rr q1
def gTup (K:PySem.W.Frag) (n:Nat) (t:TGs):TG:=fun v σ H Q=>∃ a xs,v = .ref a∧SqT K H a xs∧xs.length=n∧t xs σ H Q
theorem zmS {es:List Expr} {k:Nat} {t:TGs} {n:Nat} (hc:X.calm=true) (h:PGs X es t)
    (hn:(assignEach es X.env).length=n:=by rfl) (hst:(assignEach es X.env).findIdx? (·.1)=none:=by rfl):PG X (.Tuple es k pos) (gTup X.K n t):=by
  intro pins s σ H v u Q I r hw
  obtain ⟨a,xs,e1,hq,hl,hw⟩:=hw
  subst e1
  cases r
  obtain ⟨its,rv,ht,hz⟩:=I.tuple hq
  refine assign_Tuple_tuple (I.ok.hd hc) ht (by simp [hn,← hl,rv.length]) hst fun h' hx=>?_
  have I1:Inv X pins σ H { s with heap:=h' }:=I.kept (t':=s.toks) fun b o e=>hx b o (Nat.ne_of_lt (Heap.lt_size e)) e
  exact h pins _ σ H xs _ Q I1 (by simpa using rv) hw
def gSub (to ti:TE) (t:TSet):TG:=fun v σ H Q=>to σ H fun o H1=>ti σ H1 fun i H2=>t o i v H2 fun H3=>Q σ H3
theorem zic {o i:Expr} {to ti:TE} {t:TSet} (ho:PE X o to) (hi:PE X i ti) (hs:PSet X t)
    (ha:∀ v,assign (.Subscript o i pos) X.env v=(do
      let ov ← holding [v] (eval o X.env)
      let iv ← holding [v,ov] (eval i X.env)
      standAt pos
      holding [v,ov,iv] (setItem ov iv v)
      release [v,ov,iv] []):=by intro _; rfl):PG X (.Subscript o i pos) (gSub to ti t):=by
  intro pins s σ H v u Q I r h
  rw [ha]
  refine wpAny_bind (wpAny_holding (thn (ho pins s σ H _ I h) fun ov s1 ⟨x,H1,I1,r1,q1⟩=>?_))
  refine wpAny_bind (wpAny_holding (thn (hi pins s1 σ H1 _ I1 q1) fun iv s2 ⟨y,H2,I2,r2,q2⟩=>?_))
  refine wpAny_bind (wpAny_standAt (wpAny_bind (wpAny_holding (thn (hs pins s2 σ H2 x y v ov iv u _ I2 r1 r2 r q2) fun _ s3 ⟨H3,I3,q3⟩=>?_))))
  exact wpAny_release ⟨σ,H3,I3,q3⟩
def tAsg (te:TE) (g:TG):TS:=fun D σ H=>te σ H fun x H1=>g x σ H1 D.nx
theorem zii {tg e:Expr} {te:TE} {g:TG} (he:PE X e te) (hg:PG X tg g) (hs:swapsWithSole [tg] e pos.line X.env=pure false:=by rfl) (hw:swappedStores [tg] e X.env=pure none:=by rfl)
    (h1:(assignEach [tg] X.env).map (·.2) = [assign tg X.env]:=by rfl):PS X (.Assign [tg] e pos) (tAsg te g):=by
  intro pins s σ H D I h
  refine wpAny_Assign_stores (thn (he pins s σ H _ I h) fun v s1 ⟨x,H1,I1,r1,q1⟩=>?_) hs hw
  rw [h1]
  exact thn (hg pins s1 σ H1 x v _ I1 r1 q1) fun _ s2 q=>q
theorem zbf {i:Nat} {x:Str} {e:Expr} {te:TE} {pos':Pos} (hN:X.N.Nodup) (hi:X.N[i]?=some x) (hx:Loc X.env.scope x) (he:PE X e te) (hs:swapsWith e (some (.Name x pos')) pos.line X.env=pure false:=by rfl) (hf:X.fn x=true∨X.env.scope.names.lookup x=some .local:=by first | exact .inl rfl | exact .inr rfl | assumption) :
    PS X (.Assign [.Name x pos'] e pos) (tAsg te (zfN i)):=by
  intro pins s σ H D I h
  refine wpAny_Assign_Name (thn (he pins s σ H _ I h) fun v s1 ⟨y,H1,I1,r1,q1⟩=>?_) hs
  exact zeh I1 hN hi hx r1 (fun s2 I2=>⟨_,H1,I2,q1⟩) hf
def tAug (i:Nat) (te:TE) (ti:TIp):TS:=fun D σ H=>∃ x,σ[i]?=some (some x)∧te σ H fun y H1=>ti x y H1 fun z H2=>D.nx (σ.set i (some z)) H2
theorem znU {i:Nat} {x:Str} {e:Expr} {te:TE} {op:Operator} {ti:TIp} {pos':Pos} (hN:X.N.Nodup) (hi:X.N[i]?=some x) (hx:Loc X.env.scope x) (he:PE X e te) (ho:PIp X op ti) (hf:X.fn x=true∨X.env.scope.names.lookup x=some .local:=by first | exact .inl rfl | exact .inr rfl | assumption) :
    PS X (.AugAssign (.Name x pos') op e pos) (tAug i te ti):=by
  intro pins s σ H D I h
  obtain ⟨v,e1,h⟩:=h
  obtain ⟨m,hn,hl⟩:=I.loc
  have vis:Vis X.env.scope x:=by rcases hx with k | k; exact .inl k; exact .inr (.inl k)
  obtain ⟨u,r,l⟩:=hl i x v hi e1 vis
  refine wpAny_AugAssign_Name ?_
  have go:wpAny (model X.prog X.w) X.A (eval e X.env) (fun w s₂=>wpAny (model X.prog X.w) X.A (inplaceOp op u w) (fun r s₃=>wpAny (model X.prog X.w) X.A (storeName X.env x r) (fun _=>SP X pins D .next) X.xe s₃) X.xe s₂) X.xe s:=by
    refine thn (he pins s σ H _ I h) fun w s1 ⟨y,H1,I1,r1,q1⟩=>?_
    refine thn (ho pins s1 σ H1 v y u w _ I1 r r1 q1) fun z s2 ⟨zv,H2,I2,r2,q2⟩=>?_
    exact zeh I2 hN hi hx r2 (fun s3 I3=>⟨_,H2,I3,q2⟩) hf
  rcases l with ⟨hk,hm⟩ | ⟨hk,c,hc,hcell⟩
  · exact wpAny_loadName_local I.ok.kind hk hn hm go
  · rcases hk with hk | hk
    · exact wpAny_loadName_cell I.ok.kind hk hc hcell go
    · rcases hx with k | k
      · have:X.env.scope.names.lookup x=some .free:=hk
        rw [k] at this; cases this
      · have:X.env.scope.names.lookup x=some .free:=hk
        rw [k] at this; cases this
end
section
variable {X:Cx} {pos:Pos}
end
structure It where
  go:Nat→Hp→Prop
  yld:Nat→Hp→V→Hp→Prop
  stop:Nat→Hp→Prop
def FpOk (X:Cx) (pins:List (Addr × Obj)) (H:Hp) (b:Addr):Prop :=
  H b=none∧b ≠ X.env.locals∧b ∉ X.fs∧(b ∈ X.ex∨X.s₀.heap.objs.size ≤ b)∧(∀ x c,X.env.cells.lookup x=some c→c ≠ b)∧∀ p ∈ X.pn ++ pins,p.1 ≠ b
theorem Inv.fpOk {X:Cx} {pins:List (Addr × Obj)} {σ:St} {H H':Hp} {s:Shared} {b:Addr} (I:Inv X pins σ H s) (hb:s.heap.objs.size ≤ b) (hn:H' b=none):FpOk X pins H' b:=by
  refine ⟨hn,Nat.ne_of_gt (Nat.lt_of_lt_of_le I.lt hb),I.nofs hb,.inr (Nat.le_trans I.sz hb),fun x c e z=>?_,fun p hp z=>?_⟩
  · obtain ⟨v,q⟩:=I.cell x c e
    exact absurd (Nat.lt_of_lt_of_le q.lt (by rw [z]; exact hb)) (Nat.lt_irrefl _)
  · exact absurd (Nat.lt_of_lt_of_le (Heap.lt_size (I.pin p hp).1) (by rw [z]; exact hb)) (Nat.lt_irrefl _)
structure Turn (P:Program) (w:World) (K:PySem.W.Frag) (tg:Expr) (J:It) (fp:List Addr) (it:Addr) (tn:Nat→Heap→Prop):Prop where
  mem:it ∈ fp
  obj:∀ i h,tn i h→∀ b ∈ fp,∃ o,h.get? b=some o∧∀ v,o.data ≠ .cell v
  keep:∀ i h h',tn i h→(∀ b ∈ fp,∀ o,h.get? b=some o→h'.get? b=some o)→tn i h'
  item:∀ (X:Cx),X.prog=P→X.w=w→X.K=K→X.calm=true→∀ (i:Nat) (pins:List (Addr × Obj)) (s:Shared) (σ:St) (H:Hp) (E:Value→Shared→Prop),Inv X pins σ H s→(∀ b ∈ fp,FpOk X pins H b)→tn i s.heap→J.go i H →
    wpAny (model P w) X.A (pyNext (.ref it)) (fun r s1=>∃ u,r=some u ∧
      wpAny (model P w) X.A (letOwnedTupleGo tg (.ref it) u) (fun _ s2=>∃ x H',Inv X pins σ H' s2∧RelV x u∧J.yld i H x H'∧tn (i + 1) s2.heap∧∀ b ∈ fp,H' b=none) E s1) E s
  done:∀ (X:Cx),X.prog=P→X.w=w→X.K=K→X.calm=true→∀ (i:Nat) (pins:List (Addr × Obj)) (s:Shared) (σ:St) (H:Hp) (E:Value→Shared→Prop),Inv X pins σ H s→(∀ b ∈ fp,FpOk X pins H b)→tn i s.heap→J.stop i H →
    wpAny (model P w) X.A (pyNext (.ref it)) (fun r s1=>r=none∧Inv X pins σ H s1) E s
  self:∀ (A:Around) (i:Nat) (s:Shared) (Q:Value→Shared→Prop) (E:Value→Shared→Prop),tn i s.heap→Q (.ref it) s→wpAny (model P w) A (pyIter (.ref it)) Q E s
abbrev TI:=St→Hp→(It→Hp→Prop)→Prop
def PIE (X:Cx) (pins:List (Addr × Obj)) (σ:St) (tg:Expr) (R:It→Hp→Prop) (itv:Value) (s2:Shared):Prop :=
  ∃ (it:Addr) (fp:List Addr) (tn:Nat→Heap→Prop) (J:It) (H':Hp),itv = .ref it∧Inv X pins σ H' s2∧Turn X.prog X.w X.K tg J fp it tn∧tn 0 s2.heap∧(∀ b ∈ fp,FpOk X pins H' b)∧R J H'
def PI (X:Cx) (tg iter:Expr) (wi:TI):Prop :=
  ∀ (pins:List (Addr × Obj)) (s:Shared) (σ:St) (H:Hp) (R:It→Hp→Prop),Inv X pins σ H s→wi σ H R →
    wpAny (model X.prog X.w) X.A (eval iter X.env) (fun v s1=>wpAny (model X.prog X.w) X.A (pyIter v) (PIE X pins σ tg R) X.xe s1) X.xe s
theorem zot {M:Model} {A:Around} {E:Value→Shared→Prop} {s:Shared} {tg:Expr} {it:Addr} {u:Value} {o:Obj} {n:String} {vs:Array Value} {Q:Unit→Shared→Prop} (ho:s.heap.get? it=some o) (hc:o.cls = .type n) (hd:o.data = .fields vs)
    (hn : ["enumerate","zip","dict_itemiterator","dict_reverseitemiterator","odict_iterator","itertools.zip_longest","itertools.pairwise"].contains n=false) (hQ:Q () s):wpAny M A (letOwnedTupleGo tg (.ref it) u) Q E s:=by
  unfold letOwnedTupleGo
  cases tg <;> first
    | exact wpAny_pure hQ
    | (cases u <;> first
        | exact wpAny_pure hQ
        | (refine wpAny_bind (wpAny_load ho ?_)
           rw [hc,hd]
           show wpAny M A (if (["enumerate","zip","dict_itemiterator","dict_reverseitemiterator","odict_iterator","itertools.zip_longest","itertools.pairwise"].contains n && vs[0]? == some (rawInt _))=true then _ else _) Q E s
           rw [if_neg (by intro h; rw [hn,Bool.false_and] at h; cases h)]
           exact wpAny_pure hQ))
def Itl (K:PySem.W.Frag) (a:Addr):It :=
  ⟨fun i H=>∃ xs x,SqL K H a xs∧xs[i]?=some x,fun i H x H'=>H'=H∧∀ xs,SqL K H a xs→xs[i]?=some x,fun i H=>∃ xs,SqL K H a xs∧xs.length ≤ i⟩
def Itr (lo:Int) (n:Nat):It:=⟨fun i _=>i < n,fun i H x H'=>H'=H∧x = .int (lo + i),fun i _=>n ≤ i⟩
theorem zkX {P:Program} {w:World} {K:PySem.W.Frag} {tg:Expr} (a it:Addr):Turn P w K tg (Itl K a) [it] it (fun i h=>h.IsListIter it a i) where
  mem:=by simp
  obj:=fun i h st b hb=>by
    have e:b=it:=by simpa using hb
    subst e
    obtain ⟨o,e,c,d⟩:=st
    exact ⟨o,e,fun v z=>by rw [d] at z; cases z⟩
  keep:=fun i h h' st k=>st.at fun o e=>k it (by simp) o e
  item:=by
    intro X hP hw hK hc i pins s σ H E I hf st hg
    subst hP hw hK
    obtain ⟨xs,x,hq,hx⟩:=hg
    obtain ⟨its,rv,p,hz⟩:=I.list hq
    obtain ⟨u,hu,ru⟩:=rv.get hx
    obtain ⟨f0,f1,f2,f3,f4,f5⟩:=hf it (by simp)
    refine wpAny_pyNext_list_item st p.isList (x:=u) (by simpa using hu) fun h' st' sb=>?_
    have I1:Inv X pins σ H { s with heap:=h' }:=I.turned (t':=s.toks) (fun b o hb e=>(sb.2 b hb).trans e) f0 f1 f3 f4 f5
    obtain ⟨o,e,c,d⟩:=id st'
    exact ⟨u,rfl,zot (s:={ s with heap:=h' }) e c d (by decide) ⟨x,H,I1,ru,⟨rfl,fun ys hy=>by rw [I.list_inj hy hq]; exact hx⟩,st',fun b hb=>(hf b hb).1⟩⟩
  done:=by
    intro X hP hw hK hc i pins s σ H E I hf st hg
    subst hP hw hK
    obtain ⟨xs,hq,hx⟩:=hg
    obtain ⟨its,rv,p,hz⟩:=I.list hq
    obtain ⟨f0,f1,f2,f3,f4,f5⟩:=hf it (by simp)
    have hl:=rv.length
    exact wpAny_pyNext_list_end (I.ok.hd hc) st p.isList (by simp; omega) fun h' eb=>⟨rfl,I.turned (t':=s.toks) (fun b o hb e=>eb b o hb e) f0 f1 f3 f4 f5⟩
  self:=fun _ _ _ _ _ st h=>wpAny_pyIter_listiter st h
theorem zjV {P:Program} {w:World} {K:PySem.W.Frag} {tg:Expr} (it:Addr) (lo:Int) (n:Nat):Turn P w K tg (Itr lo n) [it] it (fun i h=>IsRangeIter h it (lo + (i:Nat) * 1) ((n:Int) - (i:Nat)) 1) where
  mem:=by simp
  obj:=fun i h st b hb=>by
    have e:b=it:=by simpa using hb
    subst e
    exact ⟨_,st,fun v z=>by
      have z':Data.fields _=Data.cell v:=z
      cases z'⟩
  keep:=fun i h h' st k=>k it (by simp) _ st
  item:=by
    intro X hP hw hK hc i pins s σ H E I hf st hg
    subst hP hw hK
    obtain ⟨f0,f1,f2,f3,f4,f5⟩:=hf it (by simp)
    have W:=Walks.range (prog:=X.prog) (w:=X.w) (I.ok.hd hc) it lo 1 n
    refine W.item i s _ _ hg st fun v h' tk hv st' kk=>?_
    obtain ⟨t,rfl⟩:=hv
    have I1:Inv X pins σ H { s with heap:=h',toks:=tk }:=I.turned (fun b o hb e=>kk b o (by simpa using hb) e) f0 f1 f3 f4 f5
    refine ⟨_,rfl,zot (s:={ s with heap:=h',toks:=tk }) (n:="range_iterator") st' rfl rfl (by decide) ⟨.int (lo + i),H,I1,⟨t,?_⟩,⟨rfl,rfl⟩,st',fun b hb=>(hf b hb).1⟩⟩
    rw [Int.mul_one]
  done:=by
    intro X hP hw hK hc i pins s σ H E I hf st hg
    subst hP hw hK
    obtain ⟨f0,f1,f2,f3,f4,f5⟩:=hf it (by simp)
    exact wpAny_pyNext_range_end (I.ok.hd hc) st (by have:n ≤ i:=hg; omega) fun h' eb=>⟨rfl,I.turned (t':=s.toks) (fun b o hb e=>eb b o hb e) f0 f1 f3 f4 f5⟩
  self:=fun _ _ _ _ _ st h=>wpAny_pyIter_rangeiter st h
end L2
namespace L2
open PySem PySem.Spec PyProof.Rows
section
variable {X:Cx} {tg:Expr}
def zkZ (K:PySem.W.Frag) (tl:TE):TI:=fun σ H R=>tl σ H fun x H1=>∃ a,x = .ref a∧(∃ xs,SqL K H1 a xs)∧R (Itl K a) H1
theorem zc5 {l:Expr} {tl:TE} (hl:PE X l tl):PI X tg l (zkZ X.K tl):=by
  intro pins s σ H R I h
  refine thn (hl pins s σ H _ I h) fun v s1 ⟨x,H1,I1,r1,q1⟩=>?_
  obtain ⟨a,e,⟨xs,hq⟩,q⟩:=q1
  subst e
  cases r1
  obtain ⟨its,rv,p,hz⟩:=I1.list hq
  refine wpAny_pyIter_list p.isList ?_
  refine ⟨s1.heap.objs.size,[s1.heap.objs.size],_,_,H1,rfl,I1.kept (t':=s1.toks) fun b o e=>Heap.get?_push_of_some _ e,zkX a _,⟨_,Heap.get?_push_size _ rfl,rfl,rfl⟩,fun b hb=>?_,q⟩
  have e:b=s1.heap.objs.size:=by simpa using hb
  subst e
  exact I1.fpOk (Nat.le_refl _) (I1.hok.fresh (Nat.le_refl _))
theorem zi7 {pins:List (Addr × Obj)} {σ:St} {H:Hp} {s:Shared} {R:It→Hp→Prop} {E:Value→Shared→Prop} {lo hi:Int} {t u v:Tok} {tk:Nat} (I:Inv X pins σ H s) (h1 : -(2 ^ 62) ≤ lo) (h2:lo < 2 ^ 62) (h3 : -(2 ^ 62) ≤ hi) (h4:hi < 2 ^ 62)
    (q:R (Itr lo (hi - lo).toNat) H):wpAny (model X.prog X.w) X.A (pyIter (.ref s.heap.objs.size)) (PIE X pins σ tg R) E { s with heap:=s.heap.push { cls:=.type "range",data:=.fields #[.int lo t,.int hi u,.int 1 v] },toks:=tk }:=by
  refine wpAny_pyIter_range (IsRange.new ..) (small_one h1 h2 h3 h4) ?_
  have I1:Inv X pins σ H { s with heap:=s.heap.push { cls:=.type "range",data:=.fields #[.int lo t,.int hi u,.int 1 v] },toks:=tk }:=I.kept fun b o e=>Heap.get?_push_of_some _ e
  refine ⟨(s.heap.push { cls:=.type "range",data:=.fields #[.int lo t,.int hi u,.int 1 v] }).objs.size,[(s.heap.push { cls:=.type "range",data:=.fields #[.int lo t,.int hi u,.int 1 v] }).objs.size],_,_,H,rfl,
    I1.kept (t':=tk) fun b o e=>Heap.get?_push_of_some _ e,zjV _ lo (hi - lo).toNat,?_,fun b hb=>?_,q⟩
  · have e1:lo + ((0:Nat):Int) * 1=lo:=by simp
    have e2:(((hi - lo).toNat:Nat):Int) - ((0:Nat):Int)=Builtin.Range.rangeSize lo hi 1:=by rw [rangeSize_one]; split <;> omega
    show IsRangeIter _ _ (lo + ((0:Nat):Int) * 1) ((((hi - lo).toNat:Nat):Int) - ((0:Nat):Int)) 1
    rw [e1,e2]
    exact Heap.get?_push_size _ rfl
  · have e:b=(s.heap.push { cls:=.type "range",data:=.fields #[.int lo t,.int hi u,.int 1 v] }).objs.size:=by simpa using hb
    subst e
    exact I1.fpOk (Nat.le_refl _) (I1.hok.fresh (Nat.le_refl _))
def zoh (ta:TA):TI:=fun σ H R=>ta σ H fun vs H1=>∃ j:Int,vs = [.int j]∧-(2 ^ 62) ≤ j∧j < 2 ^ 62∧R (Itr 0 j.toNat) H1
def zoC (ta:TA):TI:=fun σ H R=>ta σ H fun vs H1=>∃ i j:Int,vs = [.int i,.int j]∧(-(2 ^ 62) ≤ i∧i < 2 ^ 62∧-(2 ^ 62) ≤ j∧j < 2 ^ 62)∧R (Itr i (j - i).toNat) H1
theorem za8 {a:Expr} {ta:TA} {p pos:Pos} (hg:Gl X "range") (hm:X.mg "range"=none) (ha:PA X [a] ta) (hs:starEach [a] X.env = [(false,eval a X.env)]:=by rfl):PI X tg (.Call (.Name "range" p) [a] [] pos) (zoh ta):=by
  intro pins s σ H R I h
  refine Call_ (zfE I hg hm boot_range (PyProof.Rows.callWith_type1 (thn (ha pos pins s σ H _ I h) fun us s1 ⟨vs,H1,I1,r1,q1⟩=>?_) hs rfl))
  obtain ⟨j,e,q1,q2,q⟩:=q1
  subst e
  cases r1 with
  | cons r rr =>
    cases rr
    obtain ⟨t,rfl⟩:=r
    exact call_range_1 (zi7 I1 (by omega) (by omega) q1 q2 (by simpa using q))
theorem zh7 {a b:Expr} {ta:TA} {p pos:Pos} (hg:Gl X "range") (hm:X.mg "range"=none) (ha:PA X [a,b] ta) (hs:starEach [a,b] X.env = [(false,eval a X.env),(false,eval b X.env)]:=by rfl) (hs2:starEach [b] X.env = [(false,eval b X.env)]:=by rfl) :
    PI X tg (.Call (.Name "range" p) [a,b] [] pos) (zoC ta):=by
  intro pins s σ H R I h
  refine Call_ (zfE I hg hm boot_range (PyProof.Rows.callWith_type1 (thn (ha pos pins s σ H _ I h) fun us s1 ⟨vs,H1,I1,r1,q1⟩=>?_) (by rw [hs,hs2]) (by rw [hs2]; rfl)))
  obtain ⟨i,j,e,⟨q1,q2,q3,q4⟩,q⟩:=q1
  subst e
  cases r1 with
  | cons r rr =>
    cases rr with
    | cons r' rr =>
      cases rr
      obtain ⟨t,rfl⟩:=r
      obtain ⟨t',rfl⟩:=r'
      exact call_range_2 (zi7 I1 q1 q2 q3 q4 q)
def tFor (wi:TI) (g:TG) (tb:TS):TS:=fun D σ H=>wi σ H fun J H1=>∃ W:Nat→Nat→St→Hp→Prop,(∃ m,W 0 m σ H1)∧∀ i m σ H,W i m σ H →
  (J.stop i H∧D.nx σ H)∨(J.go i H∧∃ N:St→Hp→Prop,(∀ σ' H',N σ' H'→∃ m',m' < m∧W (i + 1) m' σ' H')∧∀ x H',J.yld i H x H'→g x σ H' fun σ2 H2=>tb { D with nx:=N,ct:=N,bk:=D.nx } σ2 H2)
def zgz (fp:List Addr) (h:Heap):List (Addr × Obj):=fp.filterMap fun b=>(h.get? b).map fun o=>(b,o)
theorem zdo {fp:List Addr} {h:Heap} {b:Addr} {o:Obj} (hb:b ∈ fp) (e:h.get? b=some o):(b,o) ∈ zgz fp h:=List.mem_filterMap.mpr ⟨b,hb,by rw [e]; rfl⟩
theorem zk8 {fp:List Addr} {h:Heap} {p:Addr × Obj} (hp:p ∈ zgz fp h):p.1 ∈ fp∧h.get? p.1=some p.2:=by
  obtain ⟨b,hb,e⟩:=List.mem_filterMap.mp hp
  cases q:h.get? b with
  | none=>rw [q] at e; cases e
  | some o =>
    rw [q] at e
    have e':(b,o)=p:=Option.some.inj e
    subst e'
    exact ⟨hb,q⟩
theorem Inv.pinned {pins:List (Addr × Obj)} {σ:St} {H:Hp} {s:Shared} {fp:List Addr} (I:Inv X pins σ H s) (hf:∀ b ∈ fp,FpOk X pins H b) (ho:∀ b ∈ fp,∃ o,s.heap.get? b=some o∧∀ v,o.data ≠ .cell v):Inv X (pins ++ zgz fp s.heap) σ H s :=
  I.pins_of fun p hp=>(List.mem_append.mp hp).elim (fun z=>I.pin p (List.mem_append_right _ z)) fun z=>by
    obtain ⟨hb,e⟩:=zk8 z
    obtain ⟨f0,f1,f2,_⟩:=hf p.1 hb
    obtain ⟨o,e',d⟩:=ho p.1 hb
    rw [e] at e'; cases e'
    exact ⟨e,f0,f1,f2,d⟩
theorem Inv.unpinned {pins pl:List (Addr × Obj)} {σ:St} {H:Hp} {s:Shared} (I:Inv X (pins ++ pl) σ H s):Inv X pins σ H s:=I.pins_of fun p hp=>I.pin p (List.mem_append_right _ (List.mem_append_left _ hp))
theorem zcV {iter:Expr} {body:List Stmt} {wi:TI} {g:TG} {tb:TS} {pos:Pos} (hp:PassesOwn (model X.prog X.w) X.A X.env X.xe) (hc:X.calm=true) (hi:PI X tg iter wi) (hg:PG X tg g) (hb:PSs X body tb)
    (hs:∀ x,foldedSetIterable iter X.env x=pure x:=by intro _; rfl):PS X (.For tg iter body [] pos) (tFor wi g tb):=by
  intro pins s σ H D I h
  refine wpAny_For (thn (hi pins s σ H _ I h) fun v s1 h1=>thn h1 fun itv s2 h2=>?_) hs
  obtain ⟨it,fp,tn,J,H2,e,I2,T,st2,f2,W,⟨m0,w0⟩,turn⟩:=h2
  subst e
  -- what stays true of the iterator's objects through the loop
  have stat:∀ {H':Hp},(∀ b ∈ fp,H' b=none)→∀ b ∈ fp,FpOk X pins H' b:=fun hn b hb=>⟨hn b hb,(f2 b hb).2⟩
  refine codeAny_forLoop_any (fun n s'=>∃ i σ' H',Inv X pins σ' H' s'∧tn i s'.heap∧(∀ b ∈ fp,H' b=none)∧W i n σ' H') ?_ m0 ⟨0,σ,H2,I2,st2,fun b hb=>(f2 b hb).1,w0⟩
  rintro n s3 ⟨i,σ3,H3,I3,st3,fr3,w3⟩
  rcases turn i n σ3 H3 w3 with ⟨stop,qn⟩ | ⟨go,N,hN,step⟩
  · refine wpAny_passesOwn hp (thn (T.done X rfl rfl rfl hc i pins s3 σ3 H3 X.xe I3 (stat fr3) st3 stop) fun r s4 ⟨hr,I4⟩=>?_)
    subst hr
    exact wpAny_execs_nil ⟨σ3,H3,I4,qn⟩
  · refine wpAny_passesOwn hp (thn (T.item X rfl rfl rfl hc i pins s3 σ3 H3 X.xe I3 (stat fr3) st3 go) fun r s4 ⟨u,hr,h4⟩=>?_)
    subst hr
    refine wpAny_passesOwn hp (thn h4 fun _ s5 ⟨x,H5,I5,r5,y5,st5,fr5⟩=>?_)
    have I5':=I5.pinned (stat fr5) (T.obj _ _ st5)
    refine wpAny_passesOwn hp (thn (hg _ s5 σ3 H5 x u _ I5' r5 (step x H5 y5)) fun _ s6 ⟨σ6,H6,I6,q6⟩=>?_)
    refine wpAny_passesOwn hp (thn (hb _ s6 σ6 H6 _ I6 q6) fun f s7 q7=>?_)
    have again:∀ {σ7:St} {H7:Hp},Inv X (pins ++ zgz fp s5.heap) σ7 H7 s7→N σ7 H7→∃ m,m < n∧∃ i σ' H',Inv X pins σ' H' s7∧tn i s7.heap∧(∀ b ∈ fp,H' b=none)∧W i m σ' H':=fun {σ7 H7} I7 n7=>by
      obtain ⟨m',hm,w7⟩:=hN σ7 H7 n7
      refine ⟨m',hm,i + 1,σ7,H7,I7.unpinned,T.keep _ _ _ st5 fun b hb o e=>(I7.pin (b,o) (List.mem_append_right _ (List.mem_append_right _ (zdo hb e)))).1,fun b hb=>?_,w7⟩
      obtain ⟨o,e,d⟩:=T.obj _ _ st5 b hb
      exact (I7.pin (b,o) (List.mem_append_right _ (List.mem_append_right _ (zdo hb e)))).2.1
    cases f with
    | next=>obtain ⟨σ7,H7,I7,n7⟩:=q7; exact again I7 n7
    | cont=>obtain ⟨σ7,H7,I7,n7⟩:=q7; exact again I7 n7
    | brk=>obtain ⟨σ7,H7,I7,q7⟩:=q7; exact ⟨σ7,H7,I7.unpinned,q7⟩
    | ret v=>obtain ⟨x7,σ7,H7,I7,r7,q7⟩:=q7; exact ⟨x7,σ7,H7,I7.unpinned,r7,q7⟩
end
end L2
namespace L2
open PySem PySem.Spec PyProof.Rows
abbrev R2:=V→V→Hp→VK→Prop
def OpR (X:Cx) (f:Value→Value→Sem Value) (r:R2):Prop :=
  ∀ (pins:List (Addr × Obj)) (s:Shared) (σ:St) (H:Hp) (x y:V) (v u:Value) (Q:VK),Inv X pins σ H s→RelV x v→RelV y u→r x y H Q →
    wpAny (model X.prog X.w) X.A (f v u) (EP X pins σ Q) X.xe s
def UnR (X:Cx) (f:Value→Sem Value) (r:V→Hp→VK→Prop):Prop :=
  ∀ (pins:List (Addr × Obj)) (s:Shared) (σ:St) (H:Hp) (x:V) (v:Value) (Q:VK),Inv X pins σ H s→RelV x v→r x H Q →
    wpAny (model X.prog X.w) X.A (f v) (EP X pins σ Q) X.xe s
def zgb (X:Cx) (f:Value) (r:List V→Hp→VK→Prop):Prop :=
  ∀ (pins:List (Addr × Obj)) (s:Shared) (σ:St) (H:Hp) (xs:List V) (us:List Value) (Q:VK),Inv X pins σ H s→Vals xs us→r xs H Q →
    wpAny (model X.prog X.w) X.A (call f us) (EP X pins σ Q) X.xe s
def tOp (r:R2) (ta tb:TE):TE:=fun σ H Q=>ta σ H fun x H1=>tb σ H1 fun y H2=>r x y H2 Q
def tUn (r:V→Hp→VK→Prop) (ta:TE):TE:=fun σ H Q=>ta σ H fun x H1=>r x H1 Q
def rI (C:Int→Int→Prop) (g:Int→Int→V):R2:=fun x y H Q=>∃ i j,x = .int i∧y = .int j∧C i j∧Q (g i j) H
def rI0 (g:Int→Int→V):R2:=fun x y H Q=>∃ i j,x = .int i∧y = .int j∧Q (g i j) H
def rU (g:Int→V):V→Hp→VK→Prop:=fun x H Q=>∃ i,x = .int i∧Q (g i) H
section
variable {X:Cx} {a b c:Expr} {ta tb tc:TE} {pos:Pos}
theorem binT (ha:PE X a ta) (hb:PE X b tb) {pins:List (Addr × Obj)} {s:Shared} {σ:St} {H:Hp} {R:V→V→Hp→Prop} (I:Inv X pins σ H s)
    (h:ta σ H fun x H1=>tb σ H1 fun y H2=>R x y H2) {Q:Value→Shared→Prop} {f:Value→Value→Sem Value}
    (hf:∀ v u s2 x y H2,Inv X pins σ H2 s2→RelV x v→RelV y u→R x y H2→wpAny (model X.prog X.w) X.A (f v u) Q X.xe s2) :
    wpAny (model X.prog X.w) X.A (eval a X.env) (fun v s₁=>wpAny (model X.prog X.w) X.A (eval b X.env) (fun u s₂=>wpAny (model X.prog X.w) X.A (f v u) Q X.xe s₂) X.xe s₁) X.xe s:=by
  refine thn (ha pins s σ H _ I h) fun v s1 ⟨x,H1,I1,r1,q1⟩=>?_
  refine thn (hb pins s1 σ H1 _ I1 q1) fun u s2 ⟨y,H2,I2,r2,q2⟩=>?_
  exact hf v u s2 x y H2 I2 r1 r2 q2
theorem zaV {op:Operator} {r:R2} (ho:OpR X (binaryOp op) r) (ha:PE X a ta) (hb:PE X b tb):PE X (.BinOp a op b pos) (tOp r ta tb):=by
  intro pins s σ H Q I h
  exact wpAny_BinOp (binT ha hb I h fun v u s2 x y H2 I2 rx ry q=>ho pins s2 σ H2 x y v u Q I2 rx ry q)
theorem zgo {op:UnaryOp} {r:V→Hp→VK→Prop} (ho:UnR X (unaryOp op) r) (ha:PE X a ta):PE X (.UnaryOp op a pos) (tUn r ta):=by
  intro pins s σ H Q I h
  exact UnaryOp_ (thn (ha pins s σ H _ I h) fun v s1 ⟨x,H1,I1,r1,q1⟩=>ho pins s1 σ H1 x v Q I1 r1 q1)
theorem opI {f:Value→Value→Sem Value} {C:Int→Int→Prop} {g:Int→Int→Int}
    (rule:∀ (i j:Int) (t u:Tok) (s:Shared) (Q:Value→Shared→Prop) (E:Value→Shared→Prop),C i j→Q (.int (g i j) s.toks) { s with toks:=s.toks + 1 }→wpAny (model X.prog X.w) X.A (f (.int i t) (.int j u)) Q E s) :
    OpR X f (rI C fun i j=>.int (g i j)):=by
  intro pins s σ H x y v u Q I rx ry h
  obtain ⟨i,j,rfl,rfl,hc,q⟩:=h
  obtain ⟨t,rfl⟩:=rx
  obtain ⟨t',rfl⟩:=ry
  exact rule i j t t' s _ _ hc ⟨.int (g i j),H,I.tok _,⟨_,rfl⟩,q⟩
theorem opI0 {f:Value→Value→Sem Value} {g:Int→Int→Int}
    (rule:∀ (i j:Int) (t u:Tok) (s:Shared) (Q:Value→Shared→Prop) (E:Value→Shared→Prop),Q (.int (g i j) s.toks) { s with toks:=s.toks + 1 }→wpAny (model X.prog X.w) X.A (f (.int i t) (.int j u)) Q E s) :
    OpR X f (rI0 fun i j=>.int (g i j)):=by
  intro pins s σ H x y v u Q I rx ry h
  obtain ⟨i,j,rfl,rfl,q⟩:=h
  obtain ⟨t,rfl⟩:=rx
  obtain ⟨t',rfl⟩:=ry
  exact rule i j t t' s _ _ ⟨.int (g i j),H,I.tok _,⟨_,rfl⟩,q⟩
theorem opB0 {f:Value→Value→Sem Value} {g:Int→Int→Bool}
    (rule:∀ (i j:Int) (t u:Tok) (s:Shared) (Q:Value→Shared→Prop) (E:Value→Shared→Prop),Q (.bool (g i j)) s→wpAny (model X.prog X.w) X.A (f (.int i t) (.int j u)) Q E s) :
    OpR X f (rI0 fun i j=>.bl (g i j)):=by
  intro pins s σ H x y v u Q I rx ry h
  obtain ⟨i,j,rfl,rfl,q⟩:=h
  obtain ⟨t,rfl⟩:=rx
  obtain ⟨t',rfl⟩:=ry
  exact rule i j t t' s _ _ ⟨.bl (g i j),H,I,rfl,q⟩
def CPow (i j:Int):Prop:=0 ≤ j∧j ≤ 1000000∧i.natAbs < 2 ^ 64
theorem zbK:OpR X (binaryOp .Add) (rI0 fun i j=>.int (i + j)):=opI0 fun _ _ _ _ _ _ _ q=>add_int q
theorem zev:OpR X (binaryOp .Sub) (rI0 fun i j=>.int (i - j)):=opI0 fun _ _ _ _ _ _ _ q=>sub_int q
theorem zdj:OpR X (binaryOp .Mod) (rI (fun _ j=>0 < j) fun i j=>.int (i % j)):=opI fun i j _ _ _ _ _ hc q=>by
  have h1:(0:Int) < j:=hc
  exact mod_int' (by omega) (by rw [Int.fmod_eq_emod_of_nonneg i (by omega)]; exact q)
theorem zlu:OpR X (binaryOp .Pow) (rI CPow fun i j=>.int (i ^ j.toNat)):=opI fun _ _ _ _ _ _ _ hc q=>pow_int_small hc.1 hc.2.1 hc.2.2 q
theorem unI {f:Value→Sem Value} {g:Int→Int}
    (rule:∀ (i:Int) (t:Tok) (s:Shared) (Q:Value→Shared→Prop) (E:Value→Shared→Prop),Q (.int (g i) s.toks) { s with toks:=s.toks + 1 }→wpAny (model X.prog X.w) X.A (f (.int i t)) Q E s) :
    UnR X f (rU fun i=>.int (g i)):=by
  intro pins s σ H x v Q I rx h
  obtain ⟨i,rfl,q⟩:=h
  obtain ⟨t,rfl⟩:=rx
  exact rule i t s _ _ ⟨.int (g i),H,I.tok _,⟨_,rfl⟩,q⟩
theorem zew:UnR X (unaryOp .USub) (rU fun i=>.int (-i)):=unI fun _ _ _ _ _ q=>neg_int q
end
def scal:V→V→Bool
  | .non,.non=>true | .non,.int _=>true | .int _,.non=>true | .non,.bl _=>true | .bl _,.non=>true | .non,.str _=>true | .str _,.non=>true
  | .int _,.int _=>true | .bl _,.bl _=>true | .str _,.str _=>true | .byt _,.byt _=>true
  | .int _,.str _=>true | .str _,.int _=>true | .bl _,.str _=>true | .str _,.bl _=>true
  | _,_=>false
def rEq:R2:=fun x y H Q=>scal x y=true∧Q (.bl (decide (x=y))) H
def rNe:R2:=fun x y H Q=>scal x y=true∧Q (.bl (!decide (x=y))) H
theorem zkn {i j:Int}:decide (V.int i=V.int j)=(i == j):=by
  rw [Bool.eq_iff_iff]
  simp
theorem zmO {i j:Bool}:decide (V.bl i=V.bl j)=(i == j):=by
  rw [Bool.eq_iff_iff]
  simp
theorem zkR {i j:Str}:decide (V.str i=V.str j)=(i == j):=by
  rw [Bool.eq_iff_iff]
  simp
theorem zkP {i j:Array UInt8}:decide (V.byt i=V.byt j)=(i.toList == j.toList):=by
  rw [Bool.eq_iff_iff]
  cases i
  cases j
  simp
section
variable {X:Cx} {a b c:Expr} {ta tb tc:TE} {pos:Pos}
theorem zbk {pins:List (Addr × Obj)} {σ:St} {H:Hp} {s:Shared} {Q:VK} {k k':Bool} (I:Inv X pins σ H s) (q:Q (.bl k) H) (e:k=k'):EP X pins σ Q (.bool k') s:=by
  subst e
  exact ⟨.bl k,H,I,rfl,q⟩
theorem zj0:OpR X (compareOp .Eq) rEq:=by
  intro pins s σ H x y v u Q I rx ry h
  obtain ⟨hs,q⟩:=h
  cases x with
  | non =>
    cases rx
    cases y with
    | non=>cases ry; exact PySem.EqNone.eq_none_none (zbk I q (by simp))
    | bl j=>cases ry; exact PySem.EqNone.eq_none_bool (zbk I q (by simp))
    | int j=>obtain ⟨t',rfl⟩:=ry; exact PySem.EqNone.eq_none_int (zbk I q (by simp))
    | str j=>obtain ⟨t',rfl⟩:=ry; exact PySem.EqNone.eq_none_str (zbk I q (by simp))
    | _=>exact absurd (show false=true from hs) Bool.false_ne_true
  | bl i =>
    cases rx
    cases y with
    | non=>cases ry; exact PySem.EqNone.eq_bool_none (zbk I q (by simp))
    | bl j=>cases ry; exact eq_bool (zbk I q zmO)
    | str j=>obtain ⟨t',rfl⟩:=ry; exact PySem.EqMixed.eq_bool_str (zbk I q (by simp))
    | _=>exact absurd (show false=true from hs) Bool.false_ne_true
  | int i =>
    obtain ⟨t,rfl⟩:=rx
    cases y with
    | non=>cases ry; exact PySem.EqNone.eq_int_none (zbk I q (by simp))
    | int j=>obtain ⟨t',rfl⟩:=ry; exact eq_int (zbk I q zkn)
    | str j=>obtain ⟨t',rfl⟩:=ry; exact PySem.EqMixed.eq_int_str (zbk I q (by simp))
    | _=>exact absurd (show false=true from hs) Bool.false_ne_true
  | str i =>
    obtain ⟨t,rfl⟩:=rx
    cases y with
    | non=>cases ry; exact PySem.EqNone.eq_str_none (zbk I q (by simp))
    | bl j=>cases ry; exact PySem.EqMixed.eq_str_bool (zbk I q (by simp))
    | int j=>obtain ⟨t',rfl⟩:=ry; exact PySem.EqMixed.eq_str_int (zbk I q (by simp))
    | str j=>obtain ⟨t',rfl⟩:=ry; exact eq_str (zbk I q zkR)
    | _=>exact absurd (show false=true from hs) Bool.false_ne_true
  | byt i =>
    obtain ⟨t,rfl⟩:=rx
    cases y with
    | byt j=>obtain ⟨t',rfl⟩:=ry; exact PySem.W.eq_bytes (zbk I q zkP)
    | _=>exact absurd (show false=true from hs) Bool.false_ne_true
  | _=>cases y <;> exact absurd (show false=true from hs) Bool.false_ne_true
theorem znE:OpR X (compareOp .NotEq) rNe:=by
  intro pins s σ H x y v u Q I rx ry h
  obtain ⟨hs,q⟩:=h
  cases x with
  | non =>
    cases rx
    cases y with
    | non=>cases ry; exact PySem.EqNone.ne_none_none (zbk I q (by simp))
    | bl j=>cases ry; exact PySem.EqNone.ne_none_bool (zbk I q (by simp))
    | int j=>obtain ⟨t',rfl⟩:=ry; exact PySem.EqNone.ne_none_int (zbk I q (by simp))
    | str j=>obtain ⟨t',rfl⟩:=ry; exact PySem.EqNone.ne_none_str (zbk I q (by simp))
    | _=>exact absurd (show false=true from hs) Bool.false_ne_true
  | bl i =>
    cases rx
    cases y with
    | non=>cases ry; exact PySem.EqNone.ne_bool_none (zbk I q (by simp))
    | bl j=>cases ry; exact ne_bool (zbk I q (congrArg not zmO))
    | str j=>obtain ⟨t',rfl⟩:=ry; exact PySem.EqMixed.ne_bool_str (zbk I q (by simp))
    | _=>exact absurd (show false=true from hs) Bool.false_ne_true
  | int i =>
    obtain ⟨t,rfl⟩:=rx
    cases y with
    | non=>cases ry; exact PySem.EqNone.ne_int_none (zbk I q (by simp))
    | int j=>obtain ⟨t',rfl⟩:=ry; exact ne_int (zbk I q (congrArg not zkn))
    | str j=>obtain ⟨t',rfl⟩:=ry; exact PySem.EqMixed.ne_int_str (zbk I q (by simp))
    | _=>exact absurd (show false=true from hs) Bool.false_ne_true
  | str i =>
    obtain ⟨t,rfl⟩:=rx
    cases y with
    | non=>cases ry; exact PySem.EqNone.ne_str_none (zbk I q (by simp))
    | bl j=>cases ry; exact PySem.EqMixed.ne_str_bool (zbk I q (by simp))
    | int j=>obtain ⟨t',rfl⟩:=ry; exact PySem.EqMixed.ne_str_int (zbk I q (by simp))
    | str j=>obtain ⟨t',rfl⟩:=ry; exact ne_str (zbk I q (congrArg not zkR))
    | _=>exact absurd (show false=true from hs) Bool.false_ne_true
  | byt i =>
    obtain ⟨t,rfl⟩:=rx
    cases y with
    | byt j=>obtain ⟨t',rfl⟩:=ry; exact PySem.W.ne_bytes (zbk I q (congrArg not zkP))
    | _=>exact absurd (show false=true from hs) Bool.false_ne_true
  | _=>cases y <;> exact absurd (show false=true from hs) Bool.false_ne_true
theorem zid:OpR X (compareOp .Lt) (rI0 fun i j=>.bl (decide (i < j))):=opB0 fun _ _ _ _ _ _ _ q=>lt_int q
theorem zlg:OpR X (compareOp .Gt) (rI0 fun i j=>.bl (decide (j < i))):=opB0 fun _ _ _ _ _ _ _ q=>gt_int q
theorem zo1:OpR X (compareOp .GtE) (rI0 fun i j=>.bl (decide (j ≤ i))):=opB0 fun _ _ _ _ _ _ _ q=>ge_int q
theorem znF:OpR X (compareOp .IsNot) (fun x y H Q=>y = .non∧Q (.bl (!decide (x = .non))) H):=by
  intro pins s σ H x y v u Q I rx ry h
  obtain ⟨rfl,q⟩:=h
  cases ry
  refine isnot_none_gen (zbk I q ?_)
  cases x <;> first
    | (cases rx; rfl)
    | (obtain ⟨t,rfl⟩:=rx; rfl)
def isObj:HO→Bool
  | .lst _=>true
  | .ins _ _ _=>true
  | _=>false
theorem zbE (b:Expr) {op:CmpOp} (h:op ≠ .In:=by decide) (h2:op ≠ .NotIn:=by decide):behindInMarks op b=false:=by
  have e1:(op == CmpOp.In)=false:=by cases op <;> first | rfl | exact absurd rfl h
  have e2:(op == CmpOp.NotIn)=false:=by cases op <;> first | rfl | exact absurd rfl h2
  cases b <;> simp [behindInMarks,e1,e2]
theorem zkH {op:CmpOp} {r:R2} (ho:OpR X (compareOp op) r) (ha:PE X a ta) (hb:PE X b tb) (hm:behindInMarks op b=false):PE X (.Compare a [op] [b] pos) (tOp r ta tb):=by
  intro pins s σ H Q I h
  exact wpAny_Compare1 (binT ha hb I h fun v u s2 x y H2 I2 rx ry q=>ho pins s2 σ H2 x y v u Q I2 rx ry q) hm
def znY (t:TE):TT:=fun σ H Q=>t σ H fun x H'=>∃ k,x = .bl k∧Q k H'
theorem zbh {op:CmpOp} {r:R2} (ho:OpR X (compareOp op) r) (ha:PE X a ta) (hb:PE X b tb) (hm:behindInMarks op b=false):PT X (.Compare a [op] [b] pos) (znY (tOp r ta tb)):=by
  intro pins s σ H Q I h
  refine wpAny_isTrue_Compare1 (thn (ha pins s σ H _ I h) fun v s1 ⟨x,H1,I1,r1,q1⟩=>thn (hb pins s1 σ H1 _ I1 q1) fun u s2 ⟨y,H2,I2,r2,q2⟩ =>
    thn (ho pins s2 σ H2 x y v u _ I2 r1 r2 q2) fun c s3 ⟨z,H3,I3,r3,k,e,q3⟩=>?_) hm
  subst e
  cases r3
  exact wpAny_truthy_bool ⟨H3,I3,q3⟩
theorem zi9:(sizeLine:Nat) < 2 ^ 63:=by rw [sizeLine_eq]; decide
theorem zhX {x:V} {us:List Value} (r:Vals [x] us):∃ u,us = [u]∧RelV x u:=by
  cases r with
  | cons r1 r2=>cases r2; exact ⟨_,rfl,r1⟩
theorem zmr {x y:V} {us:List Value} (r:Vals [x,y] us):∃ u w',us = [u,w']∧RelV x u∧RelV y w':=by
  cases r with
  | cons r1 r2 =>
    cases r2 with
    | cons r3 r4=>cases r4; exact ⟨_,_,rfl,r1,r3⟩
theorem zmB:zgb X (.builtin "abs") (fun xs H Q=>∃ i,xs = [.int i]∧Q (.int (if i < 0 then -i else i)) H):=by
  intro pins s σ H xs us Q I r h
  obtain ⟨i,rfl,q⟩:=h
  obtain ⟨u,rfl,t,rfl⟩:=zhX r
  exact call_abs_int fun u tk=>⟨.int (if i < 0 then -i else i),H,I.tok _,⟨_,rfl⟩,q⟩
end
end L2
namespace L2
open PySem PySem.Spec PyProof.Rows
structure ObjM (h:Heap) (x dx C:Addr) (mA:Str→Option Value):Prop where
  obj:h.get? x=some (PySem.W.instObj C dx)
  ns:h.Ns1 dx mA
  ne:dx ≠ x
theorem zlK {h:Heap} {dx:Addr} {mA:Str→Option Value} (n:h.Ns1 dx mA):∃ od,h.get? dx=some od∧∀ name,PySem.W.lookIn name od=some (mA name):=by
  obtain ⟨o,es,ep,ho,hd,hk,_,hm⟩:=n
  refine ⟨o,ho,fun name=>?_⟩
  have e:=hm name
  unfold nsFind findBy at e
  rw [← Array.find?_toList] at e
  unfold PySem.W.lookIn
  rw [hd]
  dsimp only
  split
  · rename_i y q
    rw [q] at e
    exact congrArg some e
  · rename_i q
    rw [q] at e
    have a:es.toList.any (·.refKey)=false:=by
      rw [List.any_eq_false]
      intro y hy
      obtain ⟨z,t,hkey⟩:=hk y (Array.mem_toList_iff.mp hy)
      simp [DictEntry.refKey,hkey]
    have a':¬ es.toList.any (·.refKey)=true:=by rw [a]; exact Bool.false_ne_true
    rw [if_neg a']
    exact congrArg some e
theorem ObjM.look {h:Heap} {x dx C:Addr} {mA:Str→Option Value} (I:ObjM h x dx C mA):∃ od,PySem.W.InstAt h x (PySem.W.instObj C dx) C (some od)∧∀ name,PySem.W.lookIn name od=some (mA name) :=
  let ⟨od,ho,hl⟩:=zlK I.ns
  ⟨od,⟨I.obj,rfl,rfl,ho⟩,hl⟩
section
variable {prog:Program} {w:World} {A:Around} {E:Value→Shared→Prop} {s:Shared} {K:PySem.W.Frag} {x dx C f:Addr} {mA:Str→Option Value} {name:Str} {v:Value}
theorem znQ {expr:Bool} {Q:Value→Shared→Prop} (X:K.In s.heap) (I:ObjM s.heap x dx C mA) (hg:PySem.W.plainGet K C name=true) (hh:PySem.W.hasDictIn K C=true)
    (ha:PySem.W.findIn K (.ref C) name=some none) (hv:mA name=some v) (hv':PySem.W.handedIn v=true) (h:Q v { s with toks:=s.toks + 1 }) :
    wpAny (model prog w) A (getAttr (.ref x) name expr) Q E s:=by
  obtain ⟨od,J,hl⟩:=I.look
  exact PySem.W.get_value X J (PySem.W.plainGet_of hg).1 (PySem.W.findObj_own hh ha rfl (by rw [hl,hv])) hv' h
theorem zmj {pl:Sem Bool} {Q:Value × List Value→Shared→Prop} (X:K.In s.heap) (I:ObjM s.heap x dx C mA) (hg:PySem.W.plainGet K C name=true)
    (hf:PySem.W.findIn K (.ref C) name=some (some (.ref f))) (ht:PySem.W.isFn K (.ref f)=true) (hv:mA name=none) (h:Q (.ref f,[.ref x]) s) :
    wpAny (model prog w) A (getMethod (.ref x) name pl) Q E s:=by
  obtain ⟨od,J,hl⟩:=I.look
  exact PySem.W.method_fn X J (PySem.W.plainGet_of hg).1 (PySem.W.plainGet_of hg).2 hf (beq_iff_eq.mp ht) (by show (PySem.W.lookIn name od).map (·.isSome)=some false; rw [hl,hv]; rfl) h
theorem znj {ns:List Str} {Q:Unit→Shared→Prop} (X:K.In s.heap) (I:ObjM s.heap x dx C mA)
    (hs:PySem.W.findIn K (.ref C) "__setattr__"=some (some (.builtin "object.__setattr__"))) (hp:PySem.W.plainOver K C=true) (ht:PySem.W.takerIn K C name=some none) (hh:PySem.W.hasDictIn K C=true)
    (hw:PySem.Within mA ns) (hsz:ns.length ≤ sizeLine)
    (h:∀ h',ObjM h' x dx C (fun y=>if y=name then some v else mA y)→Heap.SameBut dx s.heap h'→Q () { s with heap:=h',toks:=s.toks + 2 }) :
    wpAny (model prog w) A (setAttr (.ref x) name v) Q E s:=by
  obtain ⟨od,J,hl⟩:=I.look
  refine PySem.W.set_plain X J hs (PySem.W.osa_open (s:={ s with toks:=s.toks + 1 }) (r:=none) X J hp ht fun b=>?_)
  obtain ⟨cd,hc,hd'⟩:=PySem.W.any_some hh
  have hx:s.heap.get? x=some ⟨.ref C,some dx,.plain,#[]⟩:=I.obj
  refine wpAny_bind (wpAny_pure (wpAny_bind (wpAny_bind (wpAny_loadPart hx (wpAny_bind (PySem.W.Looks.here (s:={ s with toks:=s.toks + 1 }) (PySem.W.looks_clsIn X hc) ?_))))))
  rw [hd']
  refine wpAny_pure (a:=some dx) (wpAny_bind (wpAny_pure (wpAny_bind ?_)))
  refine wpAny_nsSet1 (s:={ s with toks:=s.toks + 1 }) I.ns fun h' hn2 hs2=>?_
  obtain ⟨oD,esD,epD,hoD,hdD,hcD⟩:=hn2.count (PySem.Within.cons name v hw)
  refine wpAny_bind (wpAny_lookBehind hoD (by rw [hdD]; exact pastItsLine_dict (Nat.le_trans hcD (by rw [List.length_cons]; omega))) ?_)
  exact wpAny_pure (h _ ⟨(hs2.2 _ (Ne.symm I.ne)).trans I.obj,hn2,I.ne⟩ hs2)
theorem zjs {R:Result→Shared→Prop} {vs:List Value} {kw:List (Str × Value)} (X:K.In s.heap) (hm:PySem.W.makesIn K C=true)
    (hi:PySem.W.findIn K (.ref C) "__init__"=some (some (.ref f))) (hf:PySem.W.typeIn K (.ref f)=some (.type "function"))
    (h:codeAny (model prog w) (A.under (.builtin "type.__call__" ⟨.ref C :: vs,kw⟩)) (.call (.ref f) ⟨.ref (s.heap.objs.size + 1) :: vs,kw⟩) (PySem.W.InitBack (s.heap.objs.size + 1) R)
      { s with heap:=(s.heap.push PySem.W.emptyDict).push (PySem.W.instObj C s.heap.objs.size) }) :
    codeAny (model prog w) A (.call (.ref C) ⟨vs,kw⟩) R s:=by
  obtain ⟨hh,g,d,t,os⟩:=s
  exact PySem.W.make_core (PySem.W.makes_of X hm) (PySem.W.looks_findIn X hi) (fun self=>PySem.W.bind_fn X self hf) (.inl rfl) h
end
def putF (f:Str) (v:V):List (Str × V)→List (Str × V)
  | []=>[(f,v)]
  | (g,x) :: r=>if g=f then (g,v) :: r else (g,x) :: putF f v r
theorem zfU (f g:Str) (v:V):∀ fs:List (Str × V),(putF f v fs).lookup g=if g=f then some v else fs.lookup g
  | []=>by
    show List.lookup g [(f,v)]=_
    by_cases h:g=f
    · have hb:(g == f)=true:=beq_iff_eq.mpr h
      simp only [List.lookup,hb,if_pos h]
    · have hb:(g == f)=false:=beq_eq_false_iff_ne.mpr h
      simp only [List.lookup,hb,if_neg h]
  | (k,x) :: r=>by
    have ih:=zfU f g v r
    rw [show putF f v ((k,x) :: r)=(if k=f then (k,v) :: r else (k,x) :: putF f v r) from rfl]
    by_cases hk:k=f
    · rw [if_pos hk]
      by_cases h:g=k
      · have hb:(g == k)=true:=beq_iff_eq.mpr h
        simp only [List.lookup,hb,if_pos (h.trans hk)]
      · have hb:(g == k)=false:=beq_eq_false_iff_ne.mpr h
        simp only [List.lookup,hb,if_neg (fun e:g=f=>h (e.trans hk.symm))]
    · rw [if_neg hk]
      by_cases h:g=k
      · have hb:(g == k)=true:=beq_iff_eq.mpr h
        simp only [List.lookup,hb,if_neg (fun e:g=f=>hk (h.symm.trans e))]
      · have hb:(g == k)=false:=beq_eq_false_iff_ne.mpr h
        simp only [List.lookup,hb]
        exact ih
theorem zgc (f:Str) (v:V):∀ fs:List (Str × V),f ∈ (putF f v fs).map (·.1)∧∀ g,g ∈ fs.map (·.1)→g ∈ (putF f v fs).map (·.1)
  | []=>⟨by simp [putF],fun g h=>by simp at h⟩
  | (k,x) :: r=>by
    obtain ⟨i1,i2⟩:=zgc f v r
    rw [show putF f v ((k,x) :: r)=(if k=f then (k,v) :: r else (k,x) :: putF f v r) from rfl]
    by_cases hk:k=f
    · rw [if_pos hk]
      subst hk
      exact ⟨by simp,fun g h=>by simpa using h⟩
    · rw [if_neg hk]
      refine ⟨?_,fun g h=>?_⟩
      · rw [List.map_cons]
        exact List.mem_cons_of_mem _ i1
      · rw [List.map_cons] at h ⊢
        rcases List.mem_cons.mp h with e | e
        · exact List.mem_cons.mpr (.inl e)
        · exact List.mem_cons_of_mem _ (i2 g e)
theorem zf1 (f:Str) (v:V):∀ fs:List (Str × V),(putF f v fs).length ≤ fs.length + 1
  | []=>by simp [putF]
  | (k,x) :: r=>by
    have ih:=zf1 f v r
    rw [show putF f v ((k,x) :: r)=(if k=f then (k,v) :: r else (k,x) :: putF f v r) from rfl]
    by_cases hk:k=f
    · rw [if_pos hk,List.length_cons,List.length_cons]; omega
    · rw [if_neg hk,List.length_cons,List.length_cons]; omega
theorem RelO.some_of {v:V} {o:Option Value} (r:RelO (some v) o):∃ u,o=some u∧RelV v u:=by
  cases o with
  | none=>exact (show False from r).elim
  | some u=>exact ⟨u,rfl,r⟩
theorem RelO.none_of {o:Option Value} (r:RelO none o):o=none:=by
  cases o with
  | none=>rfl
  | some u=>exact (show False from r).elim
theorem zlD {v:V} {u:Value} (r:RelV v u):PySem.W.handedIn u=true:=by
  cases v with
  | non=>cases (show u=Value.none from r); rfl
  | bl b=>cases (show u=Value.bool b from r); rfl
  | int i=>obtain ⟨t,e⟩:=(show ∃ t,u=Value.int i t from r); cases e; rfl
  | str x=>obtain ⟨t,e⟩:=(show ∃ t,u=Value.str x t from r); cases e; rfl
  | byt b=>obtain ⟨t,e⟩:=(show ∃ t,u=Value.bytes b t from r); cases e; rfl
  | flt b=>obtain ⟨t,e⟩:=(show ∃ t,u=Value.float b t from r); cases e; rfl
  | ref a=>cases (show u=Value.ref a from r); rfl
  | ty n=>cases (show u=Value.type n from r); rfl
section
variable {P:Program} {w:World} {H H':Hp} {h h':Heap} {a C dx:Addr} {fs fs':List (Str × V)}
theorem zhr (hok:HOk P w H h) (e:H a=some (.ins C dx fs)):∃ mA,ObjM h a dx C mA∧(∀ f,RelO (fs.lookup f) (mA f))∧PySem.Within mA (fs.map (·.1))∧fs.length ≤ 1000∧H dx=some (.own a):=by
  obtain ⟨d,z,ne,ob,mA,n,r,q⟩:=(show ObjOk P w H h a (.ins C dx fs) from hok a _ e)
  exact ⟨mA,⟨ob,n,ne⟩,r,q,z,d⟩
end
structure Cls (K:PySem.W.Frag) (C:Addr):Prop where
  pg:PySem.W.plainGet K C Str.empty=true
  hd:PySem.W.hasDictIn K C=true
  po:PySem.W.plainOver K C=true
  sa:PySem.W.findIn K (.ref C) "__setattr__"=some (some (.builtin "object.__setattr__"))
theorem Cls.get {K:PySem.W.Frag} {C:Addr} (c:Cls K C) (f:Str):PySem.W.plainGet K C f=true:=c.pg
def NoAttr (K:PySem.W.Frag) (C:Addr) (f:Str):Prop:=PySem.W.findIn K (.ref C) f=some none
theorem NoAttr.taker {K:PySem.W.Frag} {C:Addr} {f:Str} (n:NoAttr K C f):PySem.W.takerIn K C f=some none:=by
  unfold PySem.W.takerIn
  rw [show PySem.W.findIn K (.ref C) f=some none from n]
  rfl
structure Meth (K:PySem.W.Frag) (C:Addr) (m:Str) (f:Addr):Prop where
  at_:PySem.W.findIn K (.ref C) m=some (some (.ref f))
  fn:PySem.W.isFn K (.ref f)=true
  kp:PySem.W.keepIn K (.ref f)=true
section
variable {X:Cx} {pins:List (Addr × Obj)} {σ:St} {H:Hp} {s:Shared} {a C dx:Addr} {fs:List (Str × V)} {f:Str} {v:V} {A:Around} {E:Value→Shared→Prop}
theorem zka {b:Bool} {Q:Value→Shared→Prop} (I:Inv X pins σ H s) (e:H a=some (.ins C dx fs)) (c:Cls X.K C) (n:NoAttr X.K C f) (l:fs.lookup f=some v)
    (h:∀ u s',Inv X pins σ H s'→RelV v u→Q u s'):wpAny (model X.prog X.w) A (getAttr (.ref a) f b) Q E s:=by
  obtain ⟨mA,O,r,_,_,_⟩:=zhr I.hok e
  obtain ⟨u,hu,ru⟩:=RelO.some_of (v:=v) (o:=mA f) (by rw [← l]; exact r f)
  exact znQ I.kIn O (c.get f) c.hd n hu (zlD ru) (h u _ (I.tok _) ru)
theorem zgE {m:Str} {g:Addr} {pl:Sem Bool} {Q:Value × List Value→Shared→Prop} (I:Inv X pins σ H s) (e:H a=some (.ins C dx fs)) (c:Cls X.K C) (k:Meth X.K C m g) (l:fs.lookup m=none)
    (h:Q (.ref g,[.ref a]) s):wpAny (model X.prog X.w) A (getMethod (.ref a) m pl) Q E s:=by
  obtain ⟨mA,O,r,_,_,_⟩:=zhr I.hok e
  have hn:mA m=none:=RelO.none_of (by rw [← l]; exact r m)
  exact zmj I.kIn O (c.get m) k.at_ k.fn hn h
theorem zj5 {y:V} {u:Value} {Q:Unit→Shared→Prop} (I:Inv X pins σ H s) (e:H a=some (.ins C dx fs)) (c:Cls X.K C) (n:NoAttr X.K C f) (hl:fs.length < 1000) (ry:RelV y u)
    (h:∀ s',Inv X pins σ (upd H a (.ins C dx (putF f y fs))) s'→Q () s'):wpAny (model X.prog X.w) A (setAttr (.ref a) f u) Q E s:=by
  obtain ⟨mA,O,r,wi,_,ho⟩:=zhr I.hok e
  have hz:(fs.map (·.1)).length ≤ sizeLine:=by rw [List.length_map,sizeLine_eq]; omega
  refine znj I.kIn O c.sa c.po n.taker c.hd wi hz fun h' O' sb=>h _ ?_
  have hd:∃ o,h'.get? dx=some o:=let ⟨o,_,_,e',_⟩:=O'.ns; ⟨o,e'⟩
  refine I.write (x:=a) (e:=dx) (by rw [e]; exact True.intro) (.inr ho) (fun b q hb z=>(sb.2 b hb).trans z) hd ?_
  refine ⟨by rw [zar O.ne]; exact ho,?_,O.ne,O'.obj,_,O'.ns,fun g=>?_,fun g hg=>?_⟩
  · have:=zf1 f y fs; omega
  · show RelO ((putF f y fs).lookup g) (if g=f then some u else mA g)
    rw [zfU]
    by_cases q:g=f
    · rw [if_pos q,if_pos q]; exact ry
    · rw [if_neg q,if_neg q]; exact r g
  · by_cases q:g=f
    · rw [q]; exact (zgc f y fs).1
    · refine (zgc f y fs).2 g (wi g fun z=>hg ?_)
      show (if g=f then some u else mA g)=none
      rw [if_neg q]; exact z
theorem Inv.made (I:Inv X pins σ H s):Inv X pins σ (upd (upd H s.heap.objs.size (.own (s.heap.objs.size + 1))) (s.heap.objs.size + 1) (.ins C s.heap.objs.size []))
    { s with heap:=(s.heap.push PySem.W.emptyDict).push (PySem.W.instObj C s.heap.objs.size) }:=by
  have e1:(s.heap.push PySem.W.emptyDict).get? s.heap.objs.size=some PySem.W.emptyDict:=Heap.get?_push_size s.heap rfl
  have e2:((s.heap.push PySem.W.emptyDict).push (PySem.W.instObj C s.heap.objs.size)).get? (s.heap.objs.size + 1)=some (PySem.W.instObj C s.heap.objs.size):=by
    have:=Heap.get?_push_size (s.heap.push PySem.W.emptyDict) (o:=PySem.W.instObj C s.heap.objs.size) rfl
    rwa [Heap.size_push] at this
  have e3:(s.heap.push PySem.W.emptyDict).Ns s.heap.objs.size (fun _=>none):=⟨PySem.W.emptyDict,#[],_,e1,rfl,(fun e he=>absurd he (by simp)),fun _=>rfl⟩
  have I1:=I.laid (a:=s.heap.objs.size) (o:=.own (s.heap.objs.size + 1)) (h':=s.heap.push PySem.W.emptyDict) (t':=s.toks) (fun b u q=>Heap.get?_push_of_some _ q) (Nat.le_refl _) ⟨_,e1⟩
  refine I1.laid (a:=s.heap.objs.size + 1) (o:=.ins C s.heap.objs.size []) (t':=s.toks) (fun b u q=>Heap.get?_push_of_some _ q) (Nat.le_of_eq (Heap.size_push _ _)) ?_
  have ne:s.heap.objs.size ≠ s.heap.objs.size + 1:=Nat.ne_of_lt (Nat.lt_succ_self _)
  refine ⟨by rw [zar ne,zaG],Nat.zero_le _,ne,e2,fun _=>none,(Heap.Ns1.of_empty e3).at fun o q=>Heap.get?_push_of_some _ q,fun _=>True.intro,fun y hy=>absurd rfl hy⟩
theorem znr {prog:Program} {w:World} {env:Env} {e:Expr} {f:Str} {pos:Pos} {s:Shared} {Q:Value→Shared→Prop} (hb:attributeBase e f env (eval e env)=eval e env)
    (h:wpAny (model prog w) A (eval e env) (fun o s₁=>wpAny (model prog w) A (getAttr o f true) Q E s₁) E s):wpAny (model prog w) A (eval (.Attribute e f pos) env) Q E s :=
  Attribute_any_ h (by rw [arm_eval_Attribute,hb])
end
def tFld (K:PySem.W.Frag) (ta:TE) (f:Str):TE:=fun σ H Q=>ta σ H fun x H1=>∃ a C dx fs v,x = .ref a∧H1 a=some (.ins C dx fs)∧Cls K C∧NoAttr K C f∧fs.lookup f=some v∧Q v H1
def sFld (K:PySem.W.Frag) (ta tv:TE) (f:Str):TS:=fun D σ H=>tv σ H fun y H1=>ta σ H1 fun x H2=>∃ a C dx fs,x = .ref a∧H2 a=some (.ins C dx fs)∧Cls K C∧NoAttr K C f∧fs.length < 1000 ∧
  D.nx σ (upd H2 a (.ins C dx (putF f y fs)))
section
variable {X:Cx} {o e value:Expr} {f:Str} {pos pos' tpos:Pos} {ta tv:TE}
theorem zeS (he:PE X e ta) (hb:attributeBase e f X.env (eval e X.env)=eval e X.env):PE X (.Attribute e f pos) (tFld X.K ta f):=by
  intro pins s σ H Q I h
  refine znr hb (thn (he pins s σ H _ I h) fun u s1 ⟨x,H1,I1,rx,a,C,dx,fs,v,ex,ea,c,n,l,q⟩=>?_)
  subst ex
  obtain rfl:u=Value.ref a:=rx
  exact zka I1 ea c n l fun u' s2 I2 ru=>⟨v,H1,I2,ru,q⟩
theorem zlU (ha:PE X o ta) (hv:PE X value tv) (hs:swapsWith value (some (.Attribute o f pos')) pos.line X.env=pure false):PS X (.Assign [.Attribute o f pos'] value pos) (sFld X.K ta tv f):=by
  intro pins s σ H D I h
  refine plainObj_wpAny_Assign_Attribute (thn (hv pins s σ H _ I h) fun u s1 ⟨y,H1,I1,ry,q⟩=>thn (ha pins s1 σ H1 _ I1 q) fun ov s2 ⟨x,H2,I2,rx,a,C,dx,fs,ex,ea,c,n,l,q2⟩=>?_) hs
  subst ex
  obtain rfl:ov=Value.ref a:=rx
  exact zj5 I2 ea c n l ry fun s3 I3=>⟨σ,_,I3,q2⟩
end
section
variable {X:Cx} {pins:List (Addr × Obj)} {σ:St} {H:Hp} {s:Shared} {A:Around} {E:Value→Shared→Prop} {Q:Value→Shared→Prop} {c:Value} {b:Bool}
inductive TyOf (K:PySem.W.Frag) (H:Hp):V→Value→Prop where
  | non:TyOf K H .non (.type "NoneType")
  | bl (x:Bool):TyOf K H (.bl x) (.type "bool")
  | int (i:Int):TyOf K H (.int i) (.type "int")
  | str (x:Str):TyOf K H (.str x) (.type "str")
  | flt (x:UInt64):TyOf K H (.flt x) (.type "float")
  | lst {a:Addr} {xs:List V} (e:H a=some (.lst xs)):TyOf K H (.ref a) (.type "list")
  | frz {a:Addr} {o:Obj} {xs:List V} (e:H a=some (.frz o (.lst xs))):TyOf K H (.ref a) (.type "list")
  | tup {a:Addr} {xs:List V} (e:H a=some (.tup xs)):TyOf K H (.ref a) (.type "tuple")
  | dK {a:Addr} {kvs:List (Key × V)} (e:H a=some (.dK kvs)):TyOf K H (.ref a) (.type "dict")
  | dT {a:Addr} {kvs:List (List Key × V)} (e:H a=some (.dT kvs)):TyOf K H (.ref a) (.type "dict")
  | ins {a C dx:Addr} {fs:List (Str × V)} (e:H a=some (.ins C dx fs)) (cl:Cls K C) (ha:PySem.W.findIn K (.ref C) "__class__"=some (some (.builtin "object.__class__")))
      (hn:PySem.W.specialIn K (.builtin "object.__class__") "__get__"=some (some (.builtin "getset_descriptor.__get__"))) (htk:PySem.W.takesIn K (.builtin "object.__class__")=some true)
      (hm:PySem.W.mroIn K C (.type "object")=some true):TyOf K H (.ref a) (.ref C)
theorem zlc {x:V} {u t:Value} (I:Inv X pins σ H s) (rx:RelV x u) (ty:TyOf X.K H x t) (e:PySem.W.kitOne X.K t c=some b) (h:∀ tk,Q (.bool b) { s with toks:=tk }) :
    wpAny (model X.prog X.w) A (call (.builtin "isinstance") [u,c]) Q E s:=by
  cases ty with
  | non=>cases (show u=Value.none from rx); exact PySem.W.kia_one PySem.W.kitx_none I.kIn True.intro e (fun z=>nomatch z) h
  | bl y=>cases (show u=Value.bool y from rx); exact PySem.W.kia_one PySem.W.kitx_bool I.kIn True.intro e (fun z=>nomatch z) h
  | int i=>obtain ⟨t,q⟩:=(show ∃ t,u=Value.int i t from rx); cases q; exact PySem.W.kia_one PySem.W.kitx_int I.kIn True.intro e (fun z=>nomatch z) h
  | str y=>obtain ⟨t,q⟩:=(show ∃ t,u=Value.str y t from rx); cases q; exact PySem.W.kia_one PySem.W.kitx_str I.kIn True.intro e (fun z=>nomatch z) h
  | flt y=>obtain ⟨t,q⟩:=(show ∃ t,u=Value.float y t from rx); cases q; exact PySem.W.kia_one PySem.W.kitx_float I.kIn True.intro e (fun z=>nomatch z) h
  | @lst a xs ea =>
    cases (show u=Value.ref a from rx)
    obtain ⟨_,_,n,_,h1⟩:=(show ObjOk X.prog X.w H s.heap a (.lst xs) from I.hok a _ ea)
    exact PySem.W.kia_one PySem.W.kitx_list I.kIn ⟨_,h1,rfl⟩ e (fun z=>nomatch z) h
  | @frz a ob xs ea =>
    cases (show u=Value.ref a from rx)
    obtain ⟨_,_,_,n,_,h1⟩:=(show ObjOk X.prog X.w H s.heap a (.frz ob (.lst xs)) from I.hok a _ ea)
    exact PySem.W.kia_one PySem.W.kitx_list I.kIn ⟨_,h1,rfl⟩ e (fun z=>nomatch z) h
  | @tup a xs ea =>
    cases (show u=Value.ref a from rx)
    obtain ⟨_,_,_,p⟩:=(show ObjOk X.prog X.w H s.heap a (.tup xs) from I.hok a _ ea)
    obtain ⟨o,h1,h2,_⟩:=p
    exact PySem.W.kia_one PySem.W.kitx_tuple I.kIn ⟨o,h1,h2⟩ e (fun z=>nomatch z) h
  | @dK a kvs ea =>
    cases (show u=Value.ref a from rx)
    obtain ⟨_,_,vs,_,p⟩:=(show ObjOk X.prog X.w H s.heap a (.dK kvs) from I.hok a _ ea)
    obtain ⟨o,es,ep,h1,h2,_⟩:=p
    exact PySem.W.kia_one PySem.W.kitx_dict I.kIn ⟨o,h1,h2.1⟩ e (fun z=>nomatch z) h
  | @dT a kvs ea =>
    cases (show u=Value.ref a from rx)
    obtain ⟨_,_,xs,_,o,es,ep,h1,h2,_⟩:=(show ObjOk X.prog X.w H s.heap a (.dT kvs) from I.hok a _ ea)
    exact PySem.W.kia_one PySem.W.kitx_dict I.kIn ⟨o,h1,h2.1⟩ e (fun z=>nomatch z) h
  | @ins a C dx fs ea cl ha hn htk hm =>
    cases (show u=Value.ref a from rx)
    obtain ⟨mA,O,_⟩:=zhr I.hok ea
    obtain ⟨od,J,_⟩:=O.look
    exact PySem.W.kia_one (PySem.W.kitx_own (cl.get _) cl.hd ha hn htk hm) I.kIn J e (fun z=>nomatch z) h
end
end L2
namespace L2
open PySem PySem.Spec PyProof.Rows
structure Room (k:Nat) (A:Around):Prop where
  hd:A.handled=none
  dp:A.depth + 3 * k + 5 < recursionLimit
  un:A.units + 16 * k + 200 < cLine
theorem Room.mono {j k:Nat} {A:Around} (r:Room k A) (h:j ≤ k):Room j A:=⟨r.hd,by have:=r.dp; omega,by have:=r.un; omega⟩
theorem Room.deeper {k:Nat} {A:Around} (r:Room (k + 1) A) (env:Env):Room k (A.deeper env) :=
  ⟨r.hd,by have:=r.dp; show A.depth + 1 + 3 * k + 5 < _; omega,by have:=r.un; show A.units + 3 + 16 * k + 200 < _; omega⟩
theorem zjQ {A:Around} {C:Addr} {us:List Value} {kw:List (Str × Value)}:(A.under (.builtin "type.__call__" ⟨.ref C :: us,kw⟩)).depth=A.depth + 1:=by
  first | rfl | simp [Around.under,Code.weight,Code.isCreation,Code.isGuard,Code.isCaller,Code.frames,Code.isFrame,guardIds]
theorem zjz {A:Around} {C:Addr} {us:List Value} {kw:List (Str × Value)}:(A.under (.builtin "type.__call__" ⟨.ref C :: us,kw⟩)).units=A.units + 1:=by
  first | rfl | simp [Around.under,Code.cUnits,Code.frames,Code.isFrame]
theorem Room.make {k:Nat} {A:Around} (r:Room (k + 1) A) (C:Addr) (us:List Value) (kw:List (Str × Value)):Room k (A.under (.builtin "type.__call__" ⟨.ref C :: us,kw⟩)) :=
  ⟨r.hd,by have:=r.dp; rw [zjQ]; omega,by have:=r.un; rw [zjz]; omega⟩
theorem Room.depth {k:Nat} {A:Around} (r:Room k A):A.depth < recursionLimit:=by have:=r.dp; omega
theorem Room.units {k:Nat} {A:Around} (r:Room k A):A.units + 64 < cLine:=by have:=r.un; omega
def tNil:TA:=fun _ H Q=>Q [] H
def zc4 (ta:TE) (tr:TA):TA:=fun σ H Q=>ta σ H fun x H1=>tr σ H1 fun xs H2=>Q (x :: xs) H2
section
variable {X:Cx} {e:Expr} {es:List Expr} {te:TE} {t:TA} {pos:Pos}
theorem zae:PA X [] tNil:=fun _ _ _ _ H Q I h=>Calls.spliced_nil ⟨[],H,I,.nil,h⟩
theorem zab (ha:PE X e te) (hr:PA X es t) (hs:starEach (e :: es) X.env=(false,eval e X.env) :: starEach es X.env:=by rfl):PA X (e :: es) (zc4 te t):=by
  intro pos pins s σ H Q I h
  rw [hs]
  show wpAny _ _ (spliced ((false,eval e X.env) :: backTo pos (starEach es X.env))) _ _ s
  refine Calls.spliced_cons (thn (ha pins s σ H _ I h) fun u s1 ⟨x,H1,I1,r1,q1⟩=>?_)
  exact thn (hr pos pins s1 σ H1 _ I1 q1) fun us s2 ⟨xs,H2,I2,r2,q2⟩=>⟨x :: xs,H2,I2,.cons r1 r2,q2⟩
def tTup (t:TA):TE:=fun σ H Q=>t σ H fun xs H1=>xs.length ≤ sizeLine∧∀ p,H1 p=none→Q (.ref p) (upd H1 p (.tup xs))
def tLst (t:TA):TE:=fun σ H Q=>t σ H fun xs H1=>xs.length ≤ sizeLine∧∀ p,H1 p=none→Q (.ref p) (upd H1 p (.lst xs))
theorem zlw {x1} (h:PA X es t):PE X (.Tuple es x1 pos) (tTup t):=by
  intro pins s σ H Q I hq
  refine wpAny_Tuple_spliced (thn (h pos pins s σ H _ I hq) fun us s1 ⟨xs,H1,I1,r,z,q⟩=>⟨by rw [← r.length]; exact z,?_⟩)
  have hf:H1 s1.heap.objs.size=none:=I1.hok.fresh (Nat.le_refl _)
  refine ⟨.ref s1.heap.objs.size,upd H1 s1.heap.objs.size (.tup xs),I1.laid (t':=s1.toks) (fun b u e=>Heap.get?_push_of_some _ e) (Nat.le_refl _) ?_,rfl,q _ hf⟩
  exact ⟨z,us,r,⟨_,Heap.get?_push_size _ rfl,rfl,_,rfl⟩⟩
theorem ze2 (h:PA X es t):PE X (.List es pos) (tLst t):=by
  intro pins s σ H Q I hq
  refine wpAny_List_spliced (thn (h pos pins s σ H _ I hq) fun us s1 ⟨xs,H1,I1,r,z,q⟩=>⟨by rw [← r.length]; exact z,?_⟩)
  have hf:H1 s1.heap.objs.size=none:=I1.hok.fresh (Nat.le_refl _)
  refine ⟨.ref s1.heap.objs.size,upd H1 s1.heap.objs.size (.lst xs),I1.laid (t':=s1.toks) (fun b u e=>Heap.get?_push_of_some _ e) (Nat.le_refl _) ?_,rfl,q _ hf⟩
  exact ⟨z,us,0,r,Heap.get?_push_size _ rfl⟩
end
abbrev Sp:=List V→Hp→VK→XK→Prop
abbrev CXT:=List Env→Hp→Shared→XK→Value→Shared→Prop
structure Env0 (P:Program) (w:World) (K:PySem.W.Frag) (mg:Str→Option Value) (base:Heap) (A:Around) (outer:List Env) (s:Shared) (H:Hp):Prop where
  frames:A.frames=some outer
  mod:Mod K mg base
  bs:∀ b o,base.get? b=some o→s.heap.get? b=some o∧H b=none
  bsz:base.objs.size ≤ s.heap.objs.size
  funs:s.heap.FunFrames base outer
  frf:∀ b ∈ frs outer,H b=none
  hok:HOk P w H s.heap
  bare:AllBare s.gens
  tb:TbAt K H
def CE (outer:List Env) (P:Program) (w:World) (H:Hp) (s:Shared) (Q:VK) (u:Value) (s':Shared):Prop :=
  ∃ v H',s'.os=s.os∧AllBare s'.gens∧Un (frs outer) [] H H' s.heap s'.heap∧HOk P w H' s'.heap∧RelV v u∧Q v H'
def CR (CX:CXT) (outer:List Env) (P:Program) (w:World) (H:Hp) (s:Shared) (Q:VK) (E:XK) (r:Result) (s':Shared):Prop :=
  match r with
  | .ok (.ret u)=>CE outer P w H s Q u s'
  | .ok _=>False
  | .error e=>CX outer H s E e s'
structure FnOk (P:Program) (w:World) (K:PySem.W.Frag) (mg:Str→Option Value) (base:Heap) (CX:CXT) (k:Nat) (f:Addr) (fd:FuncData) (ps:List Str) (sp:Sp):Prop where
  len:∀ vs H Q E,sp vs H Q E→vs.length=ps.length
  run:∀ (A:Around) (outer:List Env) (s:Shared) (H:Hp) (args:Args) (us:List Value) (vs:List V) (Q:VK) (E:XK),Room k A→Env0 P w K mg base A outer s H→BindsTo s fd args (ps.zip us)→Vals vs us→sp vs H Q E →
    codeAny (model P w) A (.call (.ref f) args) (CR CX outer P w H s Q E) s
theorem Env0.make {P:Program} {w:World} {K:PySem.W.Frag} {mg:Str→Option Value} {base:Heap} {A:Around} {outer:List Env} {s:Shared} {H:Hp} (e:Env0 P w K mg base A outer s H) (C:Addr) (us:List Value) (kw:List (Str × Value)) :
    Env0 P w K mg base (A.under (.builtin "type.__call__" ⟨.ref C :: us,kw⟩)) outer s H:=⟨by first | exact e.frames | (simpa [Around.under,Code.envs,Code.isFrame,pushEnvs] using e.frames),e.mod,e.bs,e.bsz,e.funs,e.frf,e.hok,e.bare,e.tb⟩
section
variable {X:Cx} {pins:List (Addr × Obj)} {σ:St} {H:Hp} {s s':Shared}
theorem Inv.env0 (I:Inv X pins σ H s):Env0 X.prog X.w X.K X.mg X.base X.A X.stack s H :=
  ⟨I.ok.frames,I.ok.mod,I.bs,Nat.le_trans I.ok.bsz I.sz,I.stack,I.stkFree,I.hok,I.bare,I.ok.tb.grown I.base.tbls⟩
theorem Inv.after {Q:VK} {u:Value} (I:Inv X pins σ H s) (h:CE X.stack X.prog X.w H s Q u s'):EP X pins σ Q u s':=by
  obtain ⟨v,H',os,bare,un,hok,r,q⟩:=h
  obtain ⟨hh,g,d,t,os'⟩:=s'
  obtain rfl:os'=s.os:=os
  exact ⟨v,H',I.call (h':=hh) (g':=g) (d':=d) (t':=t) (ch:=[]) un hok bare (fun b z=>absurd z (by simp)),r,q⟩
end
def zjI (sp:Sp) (dvs:List V) (E:XK) (t:TA):TE:=fun σ H Q=>t σ H fun vs H1=>sp (vs ++ dvs) H1 Q E
def zjH (C:Addr) (m:Str) (sp:Sp) (dvs:List V) (E:XK) (ta:TE) (t:TA):TE:=fun σ H Q=>ta σ H fun x H1=>∃ a dx fs,x = .ref a∧H1 a=some (.ins C dx fs)∧fs.lookup m=none ∧
  t σ H1 fun vs H2=>sp (x :: (vs ++ dvs)) H2 Q E
def zm9 (C:Addr) (sp:Sp) (dvs:List V) (E:XK) (t:TA):TE:=fun σ H Q=>t σ H fun vs H1=>∀ x dx,H1 x=none→H1 dx=none→dx ≠ x →
  sp (.ref x :: (vs ++ dvs)) (upd (upd H1 dx (.own x)) x (.ins C dx [])) (fun v H2=>v = .non∧Q (.ref x) H2) E
def Binds (K:PySem.W.Frag) (fd:FuncData) (ps:List Str) (ds:List Value):Prop :=
  ∀ (s:Shared) (us:List Value),K.In s.heap→(us ++ ds).length=ps.length→BindsTo s fd ⟨us,[]⟩ (ps.zip (us ++ ds))
theorem Binds.all {K:PySem.W.Frag} {fd:FuncData} {ps:List Str} (h:∀ us:List Value,us.length=ps.length→bindArgs fd ⟨us,[]⟩=pure (ps.zip us)):Binds K fd ps []:=fun s us _ hl=>by
  rw [List.append_nil] at hl ⊢
  exact .of_eq (h us hl)
def zdI (CX:CXT) (X:Cx) (E:XK):Prop:=∀ (pins:List (Addr × Obj)) (σ:St) (H:Hp) (s:Shared) (e:Value) (s':Shared),Inv X pins σ H s→CX X.stack H s E e s'→X.xe e s'
section
variable {X:Cx} {CX:CXT} {k:Nat} {f C:Addr} {fd:FuncData} {ps:List Str} {sp:Sp} {dvs:List V} {ds:List Value} {E:XK} {x m:Str} {p pos apos:Pos} {e o:Expr} {es:List Expr} {ta:TE} {t:TA}
theorem zkx {pins:List (Addr × Obj)} {σ:St} {H:Hp} {s:Shared} {Q:VK} {us:List Value} {vs:List V} (F:FnOk X.prog X.w X.K X.mg X.base CX k f fd ps sp) (hr:Room k X.A) (hb:Binds X.K fd ps ds) (hd:Vals dvs ds) (hx:zdI CX X E)
    (I:Inv X pins σ H s) (r:Vals vs us) (h:sp (vs ++ dvs) H Q E):wpAny (model X.prog X.w) X.A (call (.ref f) us) (EP X pins σ Q) X.xe s:=by
  have r2:Vals (vs ++ dvs) (us ++ ds):=r.append hd
  have hl:(us ++ ds).length=ps.length:=by rw [← r2.length]; exact F.len _ _ _ _ h
  refine wpAny_call (codeAny_mono (F.run X.A X.stack s H ⟨us,[]⟩ (us ++ ds) (vs ++ dvs) Q E hr I.env0 (hb s us I.kIn hl) r2 h) fun r s' hq=>?_)
  cases r with
  | error e=>exact hx pins σ H s e s' I hq
  | ok fl =>
    cases fl with
    | ret u=>exact I.after hq
    | next=>exact False.elim hq
    | brk=>exact False.elim hq
    | cont=>exact False.elim hq
theorem znM (F:FnOk X.prog X.w X.K X.mg X.base CX k f fd ps sp) (hr:Room k X.A) (hg:Gl X x) (hm:X.mg x=some (.ref f)) (hk:PySem.W.keepIn X.K (.ref f)=true) (hb:Binds X.K fd ps ds) (hd:Vals dvs ds) (hx:zdI CX X E)
    (ha:PA X (e :: es) t) (hdb:(x == ("__debug__" : Str))=false:=by decide) (he:starEach (e :: es) X.env=(false,eval e X.env) :: starEach es X.env:=by rfl) (hpl:(backTo pos (starEach es X.env)).any (·.1)=false:=by rfl) :
    PE X (.Call (.Name x p) (e :: es) [] pos) (zjI sp dvs E t):=by
  intro pins s σ H Q I h
  refine wpAny_Call_Name_kw (zeL I hg hm ?_ hdb)
  refine PySem.W.callWith_K (h₀:=X.base) I.ok.mod.kin hk (thn (ha pos pins s σ H _ I h) fun us s1 ⟨vs,H1,I1,r,q⟩=>⟨I1.kIn,?_⟩) he hpl
  exact zkx F hr hb hd hx I1 r q
theorem znA {pl:Sem Bool} (he:PE X o ta) (c:Cls X.K C) (hm:Meth X.K C m f) (F:FnOk X.prog X.w X.K X.mg X.base CX k f fd ps sp) (hr:Room k X.A) (hb:Binds X.K fd ps ds) (hd:Vals dvs ds) (hx:zdI CX X E) (ha:PA X (e :: es) t)
    (hst:starEach (e :: es) X.env=(false,eval e X.env) :: starEach es X.env:=by rfl) (hpl:(backTo pos (starEach es X.env)).any (·.1)=false:=by rfl)
    (ht:eval (.Call (.Attribute o m apos) (e :: es) [] pos) X.env=(do
      let ov ← eval o X.env
      standAt apos.atName
      let (f,first) ← holding [ov] (getMethod ov m pl)
      callWith pos f first (backTo pos (starEach (e :: es) X.env)) (backToKw pos (keywordEach [] X.env))):=by rfl) :
    PE X (.Call (.Attribute o m apos) (e :: es) [] pos) (zjH C m sp dvs E ta t):=by
  intro pins s σ H Q I h
  refine PySem.W.methodCall_KW (pl:=pl) (thn (he pins s σ H _ I h) fun u s1 ⟨x,H1,I1,rx,a,dx,fs,ex,ea,l,q⟩=>?_) ht
  subst ex
  obtain rfl:u=Value.ref a:=rx
  refine zgE I1 ea c hm l ?_
  refine PySem.W.callWith_K (first:=[.ref a]) (h₀:=X.base) I.ok.mod.kin hm.kp (thn (ha pos pins s1 σ H1 _ I1 q) fun us s2 ⟨vs,H2,I2,r,q2⟩=>⟨I2.kIn,?_⟩) hst hpl
  exact zkx (us:=.ref a :: us) (vs:=.ref a :: vs) F hr hb hd hx I2 (.cons rfl r) q2
theorem zl4 {pl:Sem Bool} (he:PE X o ta) (c:Cls X.K C) (hm:Meth X.K C m f) (F:FnOk X.prog X.w X.K X.mg X.base CX k f fd ps sp) (hr:Room k X.A) (hb:Binds X.K fd ps ds) (hd:Vals dvs ds) (hx:zdI CX X E)
    (ht:eval (.Call (.Attribute o m apos) [] [] pos) X.env=(do
      let ov ← eval o X.env
      standAt apos.atName
      let (f,first) ← holding [ov] (getMethod ov m pl)
      callWith pos f first (backTo pos (starEach [] X.env)) (backToKw pos (keywordEach [] X.env))):=by rfl) :
    PE X (.Call (.Attribute o m apos) [] [] pos) (zjH C m sp dvs E ta tNil):=by
  intro pins s σ H Q I h
  refine PySem.W.methodCall_KW (pl:=pl) (thn (he pins s σ H _ I h) fun u s1 ⟨x,H1,I1,rx,a,dx,fs,ex,ea,l,q⟩=>?_) ht
  subst ex
  obtain rfl:u=Value.ref a:=rx
  refine zgE I1 ea c hm l ?_
  exact PySem.W.callWith_K0 (first:=[.ref a]) I1.kIn hm.kp (zkx (us:=[.ref a]) (vs:=[.ref a]) F hr hb hd hx I1 (.cons rfl .nil) q)
structure Mk (K:PySem.W.Frag) (C f:Addr):Prop where
  makes:PySem.W.makesIn K C=true
  init:PySem.W.findIn K (.ref C) "__init__"=some (some (.ref f))
  fn:PySem.W.isFn K (.ref f)=true
  kp:PySem.W.keepIn K (.ref C)=true
theorem zl9 {pins:List (Addr × Obj)} {σ:St} {H:Hp} {s:Shared} {Q:VK} {us:List Value} {vs:List V} (M:Mk X.K C f) (F:FnOk X.prog X.w X.K X.mg X.base CX k f fd ps sp) (hr:Room (k + 1) X.A) (hb:Binds X.K fd ps ds) (hd:Vals dvs ds)
    (hx:zdI CX X E) (I:Inv X pins σ H s) (r:Vals vs us)
    (h:∀ x dx,H x=none→H dx=none→dx ≠ x→sp (.ref x :: (vs ++ dvs)) (upd (upd H dx (.own x)) x (.ins C dx [])) (fun v H2=>v = .non∧Q (.ref x) H2) E) :
    wpAny (model X.prog X.w) X.A (call (.ref C) us) (EP X pins σ Q) X.xe s:=by
  have hq:=h (s.heap.objs.size + 1) s.heap.objs.size (I.hok.fresh (Nat.le_succ _)) (I.hok.fresh (Nat.le_refl _)) (Nat.ne_of_lt (Nat.lt_succ_self _))
  have I2:=Inv.made (C:=C) I
  have r2:Vals (V.ref (s.heap.objs.size + 1) :: (vs ++ dvs)) (Value.ref (s.heap.objs.size + 1) :: (us ++ ds)):=.cons rfl (r.append hd)
  have hl:(Value.ref (s.heap.objs.size + 1) :: us ++ ds).length=ps.length:=by
    have e:=r2.length
    rw [F.len _ _ _ _ hq] at e
    exact e.symm
  refine wpAny_call (zjs (f:=f) I.kIn M.makes M.init (beq_iff_eq.mp M.fn) (codeAny_mono (F.run _ X.stack _ _ ⟨Value.ref (s.heap.objs.size + 1) :: us,[]⟩ (Value.ref (s.heap.objs.size + 1) :: (us ++ ds)) _ _ E (hr.make C us [])
    (I2.env0.make C us []) (hb _ (Value.ref (s.heap.objs.size + 1) :: us) I2.kIn hl) r2 hq) fun r s' hq'=>?_))
  cases r with
  | error e=>exact hx pins σ _ _ e s' I2 hq'
  | ok fl =>
    cases fl with
    | ret u =>
      obtain ⟨v,H',I3,rv,ev,q3⟩:=I2.after hq'
      subst ev
      exact ⟨rv,⟨V.ref (s.heap.objs.size + 1),H',I3,rfl,q3⟩⟩
    | next=>exact False.elim hq'
    | brk=>exact False.elim hq'
    | cont=>exact False.elim hq'
theorem znw (M:Mk X.K C f) (F:FnOk X.prog X.w X.K X.mg X.base CX k f fd ps sp) (hr:Room (k + 1) X.A) (hg:Gl X x) (hm:X.mg x=some (.ref C)) (hb:Binds X.K fd ps ds) (hd:Vals dvs ds) (hx:zdI CX X E)
    (ha:PA X (e :: es) t) (hdb:(x == ("__debug__" : Str))=false:=by decide) (he:starEach (e :: es) X.env=(false,eval e X.env) :: starEach es X.env:=by rfl) (hpl:(backTo pos (starEach es X.env)).any (·.1)=false:=by rfl) :
    PE X (.Call (.Name x p) (e :: es) [] pos) (zm9 C sp dvs E t):=by
  intro pins s σ H Q I h
  refine wpAny_Call_Name_kw (zeL I hg hm ?_ hdb)
  refine PySem.W.callWith_K (h₀:=X.base) I.ok.mod.kin M.kp (thn (ha pos pins s σ H _ I h) fun us s1 ⟨vs,H1,I1,r,q⟩=>⟨I1.kIn,?_⟩) he hpl
  exact zl9 M F hr hb hd hx I1 r q
end
section
variable {X:Cx} {CX:CXT} {k:Nat} {f C:Addr} {fd:FuncData} {ps ks:List Str} {sp:Sp} {E:XK} {x m:Str} {p pos apos kpos:Pos} {e o:Expr} {es:List Expr} {kws:List Keyword} {te ta:TE} {t tk:TA} {nm:Option Str}
variable {g:List Value→List Value→List Value} {gV:List V→List V→List V}
end
structure FnScope (N P:List Str) (sc:Scope):Prop where
  kind:sc.kind = .function
  co:sc.isCoroutine=false
  gen:sc.isGenerator=false
  nd:N.Nodup
  pre:N.take P.length=P
  par:∀ x ∈ P,sc.names.lookup x=some .local∨sc.names.lookup x=some .cell
  nofree:∀ y ∈ sc.names,y.2 ≠ .free
theorem zh6 {kindOf:Str→Option NameKind} {x:Str}:∀ {binds:List (Str × Value)} {m:Str→Option Value},(∀ v,(x,v) ∉ binds)→bindL kindOf binds m x=m x
  | [],_,_=>rfl
  | (n,v) :: r,m,h=>by
    unfold bindL
    rw [zh6 fun w hw=>h w (List.mem_cons_of_mem _ hw)]
    split
    · have:x ≠ n:=by rintro rfl; exact h v List.mem_cons_self
      simp [this]
    · rfl
theorem zhR {kindOf:Str→Option NameKind} {x:Str}:∀ {binds:List (Str × Value)} {m:Str→Option Value},(∀ v,(x,v) ∉ binds)→bindC kindOf binds m x=m x
  | [],_,_=>rfl
  | (n,v) :: r,m,h=>by
    unfold bindC
    rw [zhR fun w hw=>h w (List.mem_cons_of_mem _ hw)]
    split
    · rfl
    · have:x ≠ n:=by rintro rfl; exact h v List.mem_cons_self
      simp [this]
theorem zhQ {kindOf:Str→Option NameKind} {x:Str} {v:Value}:∀ {P:List Str} {vs:List Value} {i:Nat} {m:Str→Option Value},P.Nodup→P[i]?=some x→vs[i]?=some v→kindOf x=some .local →
    bindL kindOf (P.zip vs) m x=some v
  | [],_,_,_,_,h,_,_=>by simp at h
  | _ :: _,[],_,_,_,_,h,_=>by simp at h
  | p :: P,w :: vs,0,m,nd,h1,h2,hk=>by
    simp at h1 h2; subst h1; subst h2
    show bindL kindOf ((p,w) :: P.zip vs) m p=_
    unfold bindL
    rw [zh6 fun v hv=>(List.nodup_cons.mp nd).1 (List.of_mem_zip hv).1,if_pos hk]
    simp
  | p :: P,w :: vs,i + 1,m,nd,h1,h2,hk=>by
    show bindL kindOf ((p,w) :: P.zip vs) m x=_
    unfold bindL
    exact zhQ (i:=i) (List.nodup_cons.mp nd).2 (by simpa using h1) (by simpa using h2) hk
theorem zh1 {kindOf:Str→Option NameKind} {x:Str} {v:Value}:∀ {P:List Str} {vs:List Value} {i:Nat} {m:Str→Option Value},P.Nodup→P[i]?=some x→vs[i]?=some v→kindOf x ≠ some .local →
    bindC kindOf (P.zip vs) m x=some v
  | [],_,_,_,_,h,_,_=>by simp at h
  | _ :: _,[],_,_,_,_,h,_=>by simp at h
  | p :: P,w :: vs,0,m,nd,h1,h2,hk=>by
    simp at h1 h2; subst h1; subst h2
    show bindC kindOf ((p,w) :: P.zip vs) m p=_
    unfold bindC
    rw [zhR fun v hv=>(List.nodup_cons.mp nd).1 (List.of_mem_zip hv).1,if_neg hk]
    simp
  | p :: P,w :: vs,i + 1,m,nd,h1,h2,hk=>by
    show bindC kindOf ((p,w) :: P.zip vs) m x=_
    unfold bindC
    exact zh1 (i:=i) (List.nodup_cons.mp nd).2 (by simpa using h1) (by simpa using h2) hk
def start (N:List Str) (vs:List V):St:=vs.map some ++ List.replicate (N.length - vs.length) none
def cxOf (CX:CXT) (P:Program) (w:World) (K:PySem.W.Frag) (mg:Str→Option Value) (base:Heap) (N:List Str) (qual:Str) (scope:Scope) (f:Addr) (cd:Value) (A:Around) (outer:List Env) (s:Shared) (H:Hp) (E:XK):Cx where
  prog:=P
  w:=w
  K:=K
  mg:=mg
  base:=base
  A:=A.deeper (envOfC qual scope s.heap.objs.size f cd)
  N:=N
  s₀:=s
  H₀:=H
  env:=envOfC qual scope s.heap.objs.size f cd
  outer:=outer
  stack:=envOfC qual scope s.heap.objs.size f cd :: outer
  ex:=[]
  calm:=true
  fn:=fun _=>true
  pn:=[]
  xe:=fun e s'=>wpAny (model P w) (A.deeper (envOfC qual scope s.heap.objs.size f cd)) (leaving (envOfC qual scope s.heap.objs.size f cd) e) (fun _ s''=>CX outer H s E e s'') (fun e' s''=>CX outer H s E e' s'') s'
theorem ziY {sc:Scope} {n:Nat} {x:Str} (h:sc.names.lookup x=some .cell):∃ c,(cellsFrom n sc.names []).lookup x=some c:=by
  have q:=PySem.W.cellsFrom_some sc.names n [] (.inl h)
  exact Option.isSome_iff_exists.mp q
theorem zkz {CX:CXT} {P:Program} {w:World} {K:PySem.W.Frag} {mg:Str→Option Value} {base:Heap} {N ps:List Str} {qual:Str} {scope:Scope} {f:Addr} {cd:Value} {A:Around} {outer:List Env} {s s1:Shared} {H:Hp} {E:XK} {us:List Value} {vs:List V}
    (S:FnScope N ps scope) (hd:A.handled=none) (e0:Env0 P w K mg base A outer s H) (hl:vs.length=ps.length) (r:Vals vs us)
    (x:InCallC s s.heap.objs.size (bindL (envOfC qual scope s.heap.objs.size f cd).kindOf (ps.zip us) fun _=>none) (cellsFrom (s.heap.objs.size + 1) scope.names []) (bindC (envOfC qual scope s.heap.objs.size f cd).kindOf (ps.zip us) fun _=>none) s1) :
    Inv (cxOf CX P w K mg base N qual scope f cd A outer s H E) [] (start N vs) H s1:=by
  have hpl:ps.length ≤ N.length:=by have:=congrArg List.length S.pre; rw [List.length_take] at this; omega
  obtain ⟨h1,tk,rfl,hk⟩:=x.done
  have noA:∀ b:Addr,b ∉ (cxOf CX P w K mg base N qual scope f cd A outer s H E).ex:=fun b z=>absurd (show b ∈ ([]:List Addr) from z) (by simp)
  refine ⟨⟨e0.mod,S.kind,rfl,rfl,Nat.le_refl _,fun y z c h1 h2=>?_,fun y hy=>?_,fun y c _ h=>?_,fun _=>hd,Around.frames_deeper e0.frames,.inr ⟨rfl,rfl⟩,fun b z=>absurd z (noA b),e0.bs,e0.bsz,fun b _ _=>noA b,fun b z=>absurd z (noA b),e0.funs,e0.frf,e0.tb⟩,
    rfl,e0.bare,Un.kept hk,⟨_,x.toInCall.ns,fun i y v h1 h2 h3=>?_⟩,fun y c h=>⟨_,x.cell y c h⟩,e0.hok.fresh (Nat.le_refl _),fun y c h=>?_,fun p hp=>absurd (show p ∈ ([]:List (Addr × Obj)) from hp) (by simp),e0.hok.kept hk,?_⟩
  · exact name_of_addr x.apart (PySem.mem_of_lookup h1) (PySem.mem_of_lookup h2)
  · have hy:scope.names.lookup y=some .cell∨scope.names.lookup y=some .free:=hy
    rcases hy with hy | hy
    · exact ziY hy
    · exact absurd rfl (S.nofree _ (PySem.mem_of_lookup hy))
  · exact Nat.le_of_lt (x.above y c (PySem.mem_of_lookup h))
  · have hi:i < vs.length:=by
      unfold start at h2
      by_cases hi:i < vs.length
      · exact hi
      · rw [List.getElem?_append_right (by simpa using hi)] at h2
        rw [List.getElem?_replicate] at h2
        split at h2 <;> cases h2
    have ha:vs[i]?=some v:=by
      unfold start at h2
      rw [List.getElem?_append_left (by simpa using hi),List.getElem?_map] at h2
      cases e:vs[i]? with
      | none=>rw [e] at h2; cases h2
      | some a=>rw [e] at h2; cases h2; rfl
    obtain ⟨u,hu,rv⟩:=r.get ha
    have hp:ps[i]?=some y:=by
      rw [← S.pre,List.getElem?_take_of_lt (by omega)]; exact h1
    have ndP:ps.Nodup:=by rw [← S.pre]; exact S.nd.sublist (List.take_sublist _ _)
    refine ⟨u,rv,?_⟩
    rcases S.par y (List.mem_of_getElem? hp) with k | k
    · exact .inl ⟨k,zhQ ndP hp hu k⟩
    · obtain ⟨c,e⟩:=ziY (n:=s.heap.objs.size + 1) k
      refine .inr ⟨.inl k,c,e,?_⟩
      have q:=x.cell y c e
      rw [zh1 ndP hp hu (by show scope.names.lookup y ≠ _; rw [k]; decide)] at q
      exact q
  · exact e0.hok.fresh (Nat.le_of_lt (x.above y c (PySem.mem_of_lookup h)))
  · unfold start
    show _=N.length
    rw [List.length_append,List.length_map,List.length_replicate]
    omega
theorem zoN {CX:CXT} {P:Program} {w:World} {K:PySem.W.Frag} {mg:Str→Option Value} {base:Heap} {k:Nat} {f:Addr} {name qual:Str} {params:Arguments} {body:List Stmt} {scope:Scope} {dV kV doc pm cdv ct oc:Value} {an od:Option Addr}
    {osl:Array (Option Value)} {N ps:List Str} {sp:Sp} (lk:K.lookup f=some ⟨oc,od,.func (PySem.W.fnOf name qual params body scope dV kV doc pm an cdv ct),osl⟩) (hcd:PySem.W.codeIn K cdv qual=true) (S:FnScope N ps scope)
    (len:∀ vs H Q E,sp vs H Q E→vs.length=ps.length)
    (hbody:∀ (A:Around) (outer:List Env) (s:Shared) (H:Hp) (vs:List V) (Q:VK) (E:XK),Room k (A.deeper (envOfC qual scope s.heap.objs.size f cdv))→sp vs H Q E →
      ∃ t,PSs (cxOf CX P w K mg base N qual scope f cdv A outer s H E) body t∧t { nx:=fun _ H'=>Q .non H',rt:=Q } (start N vs) H) :
    FnOk P w K mg base CX (k + 1) f (PySem.W.fnOf name qual params body scope dV kV doc pm an cdv ct) ps sp:=by
  refine ⟨len,fun A outer s H args us vs Q E hr e0 hb r hsp=>?_⟩
  have hl:=len _ _ _ _ hsp
  have KX:K.In s.heap:=e0.mod.kin.keeps fun b o e=>(e0.bs b o e).1
  have lim:s.heap.NoLimit:=e0.mod.nolimit.keeps fun b o e=>(e0.bs b o e).1
  have hkind:∀ y ∈ ps.zip us,scope.names.lookup y.1=some .local∨(scope.names.lookup y.1=some .cell∧((cellsFrom (s.heap.objs.size + 1) scope.names []).lookup y.1).isSome=true):=fun ⟨n,v⟩ hy=>by
    rcases S.par n (List.of_mem_zip hy).1 with q | q
    · exact .inl q
    · exact .inr ⟨q,PySem.W.cellsFrom_some _ _ _ (.inl q)⟩
  refine codeAny_call_function hr.depth (KX _ _ lk) rfl S.co S.gen rfl (PySem.W.codeRec_of KX hcd) (hb _ _ _ _ ?_)
  refine wpAny_newFunctionEnv_cells S.kind hkind fun env he s1 x=>?_
  subst he
  refine ⟨lim.keeps x.toInCall.keep,codeAny_func ?_⟩
  obtain ⟨t,ht,hq⟩:=hbody A outer s H vs Q E (hr.deeper _) hsp
  have I:Inv (cxOf CX P w K mg base N qual scope f cdv A outer s H E) [] (start N vs) H s1:=zkz S hr.hd e0 hl r x
  refine wpAny_mono (ht [] s1 (start N vs) H _ I hq) (fun fl s' hs=>?_) fun e s' hs=>hs
  have fin:∀ {σ':St} {H':Hp} {v:V} {u:Value},Inv (cxOf CX P w K mg base N qual scope f cdv A outer s H E) [] σ' H' s'→RelV v u→Q v H'→CE outer P w H s Q u s' :=
    fun {σ' H' v u} J rv q=>⟨v,H',J.os,J.bare,J.base,J.hok,rv,q⟩
  cases fl with
  | ret u =>
    obtain ⟨v,σ',H',J,rv,q⟩:=hs
    exact fin J rv q
  | next =>
    obtain ⟨σ',H',J,q⟩:=hs
    exact fin (v:=V.non) (u:=Value.none) J rfl q
  | brk =>
    obtain ⟨_,_,_,q⟩:=hs
    exact False.elim q
  | cont =>
    obtain ⟨_,_,_,q⟩:=hs
    exact False.elim q
end L2
namespace L2
open PySem PySem.Spec PyProof.Rows
section
variable {X:Cx} {x:Str} {p pos:Pos} {e:Expr} {es:List Expr} {t:TA} {id T:String} {r:List V→Hp→VK→Prop}
def tCB (r:List V→Hp→VK→Prop) (t:TA):TE:=fun σ H Q=>t σ H fun vs H1=>r vs H1 Q
theorem zaA (hc:zgb X (.builtin id) r) (hg:Gl X x) (hm:X.mg x=none) (hv:bootBuiltins x=some (.builtin id)) (ha:PA X (e :: es) t) (hn:x ≠ "__name__":=by decide) (hdb:(x == ("__debug__" : Str))=false:=by decide)
    (he:starEach (e :: es) X.env=(false,eval e X.env) :: starEach es X.env:=by rfl) (hpl:(backTo pos (starEach es X.env)).any (·.1)=false:=by rfl):PE X (.Call (.Name x p) (e :: es) [] pos) (tCB r t):=by
  intro pins s σ H Q I h
  refine wpAny_Call_Name_kw (zfE I hg hm hv ?_ hn hdb)
  exact PyProof.Rows.callWith_builtin1 (thn (ha pos pins s σ H _ I h) fun us s1 ⟨vs,H1,I1,r1,q1⟩=>hc pins s1 σ H1 vs us Q I1 r1 q1) he hpl
theorem zby (hc:zgb X (.type T) r) (hg:Gl X x) (hm:X.mg x=none) (hv:bootBuiltins x=some (.type T)) (ha:PA X (e :: es) t) (hn:x ≠ "__name__":=by decide) (hdb:(x == ("__debug__" : Str))=false:=by decide)
    (he:starEach (e :: es) X.env=(false,eval e X.env) :: starEach es X.env:=by rfl) (hpl:(backTo pos (starEach es X.env)).any (·.1)=false:=by rfl):PE X (.Call (.Name x p) (e :: es) [] pos) (tCB r t):=by
  intro pins s σ H Q I h
  refine wpAny_Call_Name_kw (zfE I hg hm hv ?_ hn hdb)
  exact PyProof.Rows.callWith_type1 (thn (ha pos pins s σ H _ I h) fun us s1 ⟨vs,H1,I1,r1,q1⟩=>hc pins s1 σ H1 vs us Q I1 r1 q1) he hpl
end
end L2
namespace HT
open PySem PyProof.Rows
section
open PySem.SeqAt
open PySem.AutoSeq1 (wpAny_loadPart')
open PySem.MeetsSeq PySem.MeetsSeq2 PySem.MeetsSeq3
end
section
variable {prog:Program} {w:World} {A:Around} {E:Value→Shared→Prop} {s:Shared}
theorem cat_tup {t b:Addr} {vs ws:List Value} {Q:Value→Shared→Prop} (ht:IsTup s.heap t vs.toArray) (hb:IsTup s.heap b ws.toArray) (hv:vs ≠ [])
    (h1:ws = []→Q (.ref t) s) (h2:ws ≠ []→Q (.ref s.heap.objs.size) { s with heap:=s.heap.push { cls:=.type "tuple",data:=.seq (vs ++ ws).toArray } })
    (hsz:vs.length + ws.length ≤ sizeLine):wpAny (model prog w) A (binaryOp .Add (.ref t) (.ref b)) Q E s:=by
  obtain ⟨⟨cls,dd,data,sl⟩,ho,hc,n,hd⟩:=id ht
  obtain ⟨⟨cls2,dd2,data2,sl2⟩,ho2,hc2,n2,hd2⟩:=id hb
  simp only at hc hd hc2 hd2
  subst hc hd hc2 hd2
  have e:vs.toArray ++ ws.toArray=(vs ++ ws).toArray:=by simp
  by_cases hw:ws = []
  · exact concat_meets ⟨_,ho,rfl⟩ ⟨_,ho2,rfl⟩ noFill_tuple_add seq_tuple_add PySem.F.slot_tuple_add PySem.F.entry_tuple_add (PySem.F.args_tuple_add_2 _ _)
      (tuple_addW1 t b vs.toArray ws.toArray n n2 dd dd2 sl sl2 (by simpa using hv) (by simp [hw])) ⟨ho,ho2,h1 hw⟩
  · refine concat_meets ⟨_,ho,rfl⟩ ⟨_,ho2,rfl⟩ noFill_tuple_add seq_tuple_add PySem.F.slot_tuple_add PySem.F.entry_tuple_add (PySem.F.args_tuple_add_2 _ _)
      (tuple_addW2 t b vs.toArray ws.toArray n n2 dd dd2 sl sl2 (by simpa using hv) (by simpa using hw) (by rw [List.size_toArray,List.size_toArray]; exact hsz)) ⟨ho,ho2,?_⟩
    rw [e]
    exact h2 hw
def sIx (n d:Nat):Option Int→Nat
  | none=>d
  | some v=>if v < 0 then (v + (n:Int)).toNat else min v.toNat n
end
end HT
namespace L2
open PySem PySem.Spec PyProof.Rows
abbrev TO:=St→Hp→(Option Int→Hp→Prop)→Prop
def PO (X:Cx) (e:Option Expr) (t:TO):Prop :=
  ∀ (pins:List (Addr × Obj)) (s:Shared) (σ:St) (H:Hp) (Q:Option Int→Hp→Prop),Inv X pins σ H s→t σ H Q →
    wpAny (model X.prog X.w) X.A (evalPart e X.env) (fun u s'=>∃ o H',Inv X pins σ H' s'∧IsPart u o∧Q o H') X.xe s
def zk4:TO:=fun _ H Q=>Q none H
def zoR (t:TE):TO:=fun σ H Q=>t σ H fun x H1=>∃ i,x = .int i∧Q (some i) H1
section
variable {X:Cx} {e:Expr} {te:TE} {lo hi:Option Expr} {tl th:TO} {pos p2:Pos}
theorem zm7:PO X none zk4:=by
  intro pins s σ H Q I h
  rw [evalPart_none]
  exact wpAny_pure ⟨none,H,I,.none,h⟩
theorem znz (h:PE X e te):PO X (some e) (zoR te):=by
  intro pins s σ H Q I hw
  rw [evalPart_some]
  refine thn (h pins s σ H _ I hw) fun u s1 ⟨x,H1,I1,r1,q1⟩=>?_
  obtain ⟨i,rfl,q⟩:=q1
  obtain ⟨t,rfl⟩:=r1
  exact ⟨some i,H1,I1,.int i t,q⟩
def SlR (X:Cx) (r:V→Option Int→Option Int→Hp→VK→Prop):Prop :=
  ∀ (pins:List (Addr × Obj)) (s:Shared) (σ:St) (H:Hp) (x:V) (v vl vu:Value) (lo hi:Option Int) (sl:Addr) (Q:VK),Inv X pins σ H s→RelV x v→s.heap.IsSliceOf sl vl vu .none→IsPart vl lo→IsPart vu hi→r x lo hi H Q →
    ∃ T id,typeLookup (.type T) "__getitem__"=pure (some (.builtin id))∧s.TypeIs v T∧wpAny (model X.prog X.w) X.A (getItem v (.ref sl)) (EP X pins σ Q) X.xe s
def tSl (r:V→Option Int→Option Int→Hp→VK→Prop) (te:TE) (tl th:TO):TE:=fun σ H Q=>te σ H fun x H1=>tl σ H1 fun l H2=>th σ H2 fun u H3=>r x l u H3 Q
theorem zme {r:V→Option Int→Option Int→Hp→VK→Prop} (hr:SlR X r) (he:PE X e te) (hl:PO X lo tl) (hu:PO X hi th):PE X (.Subscript e (.Slice lo hi none p2) pos) (tSl r te tl th):=by
  intro pins s σ H Q I h
  refine Subscript_ (thn (he pins s σ H _ I h) fun v s1 ⟨x,H1,I1,r1,q1⟩=>?_)
  refine wpAny_Slice (thn (hl pins s1 σ H1 _ I1 q1) fun vl s2 ⟨l,H2,I2,pl,q2⟩=>thn (hu pins s2 σ H2 _ I2 q2) fun vu s3 ⟨u,H3,I3,pu,q3⟩=>?_)
  rw [evalPart_none]
  refine wpAny_pure ?_
  have I4:Inv X pins σ H3 { s3 with heap:=s3.heap.push { cls:=.type "slice",data:=.fields #[vl,vu,.none] } }:=I3.kept (t':=s3.toks) fun b ob q=>Heap.get?_push_of_some _ q
  obtain ⟨T,id,hT,ht,hg⟩:=hr pins { s3 with heap:=s3.heap.push { cls:=.type "slice",data:=.fields #[vl,vu,.none] } } σ H3 x v vl vu l u s3.heap.objs.size Q I4 r1 (Heap.IsSliceOf.new ..) pl pu q3
  show wpAny (model X.prog X.w) X.A (subscriptTail e (.Slice lo hi none p2) v (.ref s3.heap.objs.size)) (EP X pins σ Q) X.xe { s3 with heap:=s3.heap.push { cls:=.type "slice",data:=.fields #[vl,vu,.none] } }
  exact tail_any (ops:=[.ref s3.heap.objs.size,v]) ht hT hg (by with_unfolding_all rfl)
def cutV (xs:List V) (lo hi:Option Int):List V:=(xs.drop (HT.sIx xs.length 0 lo)).take (HT.sIx xs.length xs.length hi - HT.sIx xs.length 0 lo)
theorem ziU (xs:List V) (lo hi:Option Int):(cutV xs lo hi).length ≤ xs.length:=by
  unfold cutV
  rw [List.length_take,List.length_drop]
  omega
def zo9 (K:PySem.W.Frag):R2:=fun x y H Q=>∃ a b xs ys,x = .ref a∧y = .ref b∧SqT K H a xs∧SqT K H b ys∧xs ≠ []∧xs.length + ys.length ≤ sizeLine ∧
  (ys = []→Q (.ref a) H)∧(ys ≠ []→∀ p,H p=none→Q (.ref p) (upd H p (.tup (xs ++ ys))))
theorem Vals.nil_iff {xs:List V} {us:List Value} (r:Vals xs us):us = [] ↔ xs = []:=by
  cases r with
  | nil=>simp
  | cons _ _=>simp
theorem znO:OpR X (binaryOp .Add) (zo9 X.K):=by
  intro pins s σ H x y v u Q I rx ry h
  obtain ⟨a,b,xs,ys,rfl,rfl,ha,hb,hx,hz,q1,q2⟩:=h
  cases rx
  cases ry
  obtain ⟨its,r1,p1,_⟩:=I.tuple ha
  obtain ⟨its2,r2,p2,_⟩:=I.tuple hb
  refine HT.cat_tup p1 p2 (fun z=>hx (r1.nil_iff.mp z)) (fun z=>⟨.ref a,H,I,rfl,q1 (r2.nil_iff.mp z)⟩) (fun z=>?_) (by rw [← r1.length,← r2.length]; exact hz)
  refine ⟨.ref s.heap.objs.size,_,I.laid (t':=s.toks) (o:=.tup (xs ++ ys)) (fun b ob q=>Heap.get?_push_of_some _ q) (Nat.le_refl _) ?_,rfl,q2 (fun w=>z (r2.nil_iff.mpr w)) _ (I.hok.fresh (Nat.le_refl _))⟩
  exact ⟨by rw [List.length_append]; exact hz,_,r1.append r2,IsTup.new _ _⟩
end
end L2
namespace L2
open PySem PySem.Spec PyProof.Rows
def ixN (n:Nat) (i:Int):Option Nat:=if 0 ≤ i then (if i < n then some i.toNat else none) else if -(n:Int) ≤ i then some (i + n).toNat else none
def atI {α:Type} (xs:List α) (i:Int):Option α:=(ixN xs.length i).bind fun j=>xs[j]?
theorem zkU {n:Nat} {i:Int} {j:Nat} (h:ixN n i=some j):seqIndex? i n=some j∧j < n∧-(n:Int) ≤ i∧i < n:=by
  unfold ixN at h
  by_cases h0:0 ≤ i
  · rw [if_pos h0] at h
    by_cases h1:i < n
    · rw [if_pos h1] at h
      have e:i.toNat=j:=Option.some.inj h
      exact ⟨by rw [seqIndex_of h0 h1,e],by omega,by omega,h1⟩
    · rw [if_neg h1] at h; cases h
  · rw [if_neg h0] at h
    by_cases h1 : -(n:Int) ≤ i
    · rw [if_pos h1] at h
      have e:(i + n).toNat=j:=Option.some.inj h
      exact ⟨by rw [seqIndex_neg (by omega) h1,e],by omega,h1,by omega⟩
    · rw [if_neg h1] at h; cases h
theorem zkj {α:Type} {xs:List α} {i:Int} {v:α} (h:atI xs i=some v):∃ j,seqIndex? i xs.length=some j∧xs[j]?=some v∧j < xs.length∧-(xs.length:Int) ≤ i∧i < xs.length:=by
  unfold atI at h
  cases e:ixN xs.length i with
  | none=>rw [e] at h; cases h
  | some j =>
    rw [e] at h
    obtain ⟨h1,h2,h3,h4⟩:=zkU e
    exact ⟨j,h1,h,h2,h3,h4⟩
theorem atI_nat {α:Type} {xs:List α} {j:Nat} {v:α} (h:xs[j]?=some v):atI xs (j:Int)=some v:=by
  have hj:j < xs.length:=(List.getElem?_eq_some_iff.mp h).1
  have e:ixN xs.length (j:Int)=some j:=by
    unfold ixN
    rw [if_pos (by omega),if_pos (by omega)]; simp
  unfold atI; rw [e]; exact h
def znB (b:Expr):Prop:=∀ o i,subscripted b false o i=operate [o,i] (getItem o i)
def IxR (X:Cx) (r:R2):Prop :=
  ∀ (value slice:Expr) (pins:List (Addr × Obj)) (s:Shared) (σ:St) (H:Hp) (x y:V) (v u:Value) (Q:VK),Inv X pins σ H s→RelV x v→RelV y u→r x y H Q →
    subscripted slice false v u=operate [v,u] (getItem v u)→wpAny (model X.prog X.w) X.A (subscriptTail value slice v u) (EP X pins σ Q) X.xe s
def MtR (X:Cx) (id:String) (r:V→List V→Hp→VK→Prop):Prop :=
  ∀ (pins:List (Addr × Obj)) (s:Shared) (σ:St) (H:Hp) (x:V) (xs:List V) (v:Value) (us:List Value) (Q:VK),Inv X pins σ H s→RelV x v→Vals xs us→r x xs H Q →
    wpAny (model X.prog X.w) X.A (call (.builtin id) (v :: us)) (EP X pins σ Q) X.xe s
section
variable {X:Cx} {a b:Expr} {ta tb:TE} {pos:Pos}
theorem zbd {r:R2} (hr:IxR X r) (ha:PE X a ta) (hb:PE X b tb) (hs:znB b):PE X (.Subscript a b pos) (tOp r ta tb):=by
  intro pins s σ H Q I h
  exact Subscript_ (binT ha hb I h fun v u s2 x y H2 I2 rx ry q=>hr a b pins s2 σ H2 x y v u Q I2 rx ry q (hs _ _))
def rIxL (K:PySem.W.Frag):R2:=fun x y H Q=>∃ p xs i v,x = .ref p∧y = .int i∧SqL K H p xs∧atI xs i=some v∧Q v H
def rIxT (K:PySem.W.Frag):R2:=fun x y H Q=>∃ p xs i v,x = .ref p∧y = .int i∧SqT K H p xs∧atI xs i=some v∧Q v H
theorem zaC:IxR X (rIxL X.K):=by
  intro value slice pins s σ H x y v u Q I rx ry h hs
  obtain ⟨p,xs,i,z,rfl,rfl,hq,he,q⟩:=h
  cases rx
  obtain ⟨t,rfl⟩:=ry
  obtain ⟨its,r,pl,hz⟩:=I.list hq
  obtain ⟨j,h1,h2,h3,h4,h5⟩:=zkj he
  obtain ⟨w,ew,rw'⟩:=r.get h2
  have hl:=r.length
  have hn:=zi9
  have fin:EP X pins σ Q w s:=⟨z,H,I,rw',q⟩
  by_cases h0:0 ≤ i
  · have hj:i.toNat=j:=by
      rw [seqIndex_of h0 h5] at h1
      exact Option.some.inj h1
    exact item_listR pl.isList h0 (by omega) (by rw [hj]; simpa using ew) fin hs
  · have hj:(i + (its.toArray.size:Int)).toNat=j:=by
      rw [seqIndex_neg (by omega) h4] at h1
      rw [List.size_toArray,← hl]
      exact Option.some.inj h1
    exact subscriptTail_builtinR (x:=w) pl.isList.typeIs slot_list_getitem.lookup
      (wpAny_getItem_list_neg (Q:=fun r s'=>r=w∧EP X pins σ Q r s') pl.isList (by omega) (by rw [List.size_toArray] <;> omega) (by omega) (by rw [hj]; simpa using ew) ⟨rfl,fin⟩) hs
theorem zlx:IxR X (rIxT X.K):=by
  intro value slice pins s σ H x y v u Q I rx ry h hs
  obtain ⟨p,xs,i,z,rfl,rfl,hq,he,q⟩:=h
  cases rx
  obtain ⟨t,rfl⟩:=ry
  obtain ⟨its,r,pl,hz⟩:=I.tuple hq
  obtain ⟨j,h1,h2,h3,h4,h5⟩:=zkj he
  obtain ⟨w,ew,rw'⟩:=r.get h2
  have hl:=r.length
  have hn:=zi9
  have fin:EP X pins σ Q w s:=⟨z,H,I,rw',q⟩
  exact subscriptTail_builtinR (x:=w) pl.typeIs slot_tuple_getitem.lookup
    (getItem_tuple (j:=j) (Q:=fun r s'=>r=w∧EP X pins σ Q r s') pl (by omega) (by omega) (by rw [List.size_toArray,← hl]; exact h1) (by simpa using ew) ⟨rfl,fin⟩) hs
theorem zjZ (its:List Value) (n j:Nat) (u:Value):Obj.mapSeq (·.setIfInBounds j u) { cls:=.type "list",data:=.seq its.toArray n } = { cls:=.type "list",data:=.seq (its.set j u).toArray n }:=by
  simp [Obj.mapSeq]
theorem Inv.lst {pins:List (Addr × Obj)} {σ:St} {H:Hp} {s:Shared} {p:Addr} {xs:List V} (I:Inv X pins σ H s) (h:H p=some (.lst xs)) :
    ∃ (its:List Value) (n:Nat),Vals xs its∧s.heap.get? p=some { cls:=.type "list",data:=.seq its.toArray n }∧xs.length ≤ sizeLine:=by
  obtain ⟨z,its,n,r,e⟩:=I.hok p _ h
  exact ⟨its,n,r,e,z⟩
theorem Inv.lstUpd {pins:List (Addr × Obj)} {σ:St} {H:Hp} {s:Shared} {p:Addr} {xs ys:List V} {its its':List Value} {n n':Nat} {f:Obj→Obj} (I:Inv X pins σ H s) (h:H p=some (.lst xs))
    (ho:s.heap.get? p=some { cls:=.type "list",data:=.seq its.toArray n }) (hf:f { cls:=.type "list",data:=.seq its.toArray n } = { cls:=.type "list",data:=.seq its'.toArray n' }) (r:Vals ys its') (hz:ys.length ≤ sizeLine) (t:Nat) :
    Inv X pins σ (upd H p (.lst ys)) { s with heap:=s.heap.update p f,toks:=t }:=by
  have e:(s.heap.update p f).get? p=some { cls:=.type "list",data:=.seq its'.toArray n' }:=by
    rw [Heap.get?_update_self f ho (by rw [hf] <;> rfl),hf]
  refine I.write (x:=p) (e:=p) (by rw [h]; trivial) (.inl rfl) (fun b u hb q=>(Heap.get?_update_other _ _ (Ne.symm hb)).trans q) ⟨_,e⟩ ?_
  exact ⟨hz,its',n',r,e⟩
def zoM:V→V→V→Hp→(Hp→Prop)→Prop:=fun o i v H Q=>∃ p xs k j,o = .ref p∧i = .int k∧H p=some (.lst xs)∧ixN xs.length k=some j∧Q (upd H p (.lst (xs.set j v)))
theorem zeX:PSet X zoM:=by
  intro pins s σ H o i v ov iv u Q I ro ri rv h
  obtain ⟨p,xs,k,j,rfl,rfl,hp,hj,q⟩:=h
  cases ro
  obtain ⟨t,rfl⟩:=ri
  obtain ⟨its,n,r,ho,hz⟩:=I.lst hp
  obtain ⟨h1,h2,h3,h4⟩:=zkU hj
  have hl:=r.length
  have hn:=zi9
  have I':Inv X pins σ (upd H p (.lst (xs.set j v))) { s with heap:=s.heap.update p (Obj.mapSeq (·.setIfInBounds j u)) } :=
    I.lstUpd hp ho (zjZ its n j u) (r.set rv j) (by rw [List.length_set]; exact hz) s.toks
  by_cases h0:0 ≤ k
  · have hk:k.toNat=j:=by
      rw [seqIndex_of h0 h4] at h1
      exact Option.some.inj h1
    exact PySem.W.ki_setAt ho h0 (by omega) (by rw [List.size_toArray,← hl]; exact h4) (by rw [hk]; exact ⟨_,I',q⟩)
  · have hk:(k + (its.toArray.size:Int)).toNat=j:=by
      rw [seqIndex_neg (by omega) h3] at h1
      rw [List.size_toArray,← hl]
      exact Option.some.inj h1
    exact PySem.W.ki_setBack ho (by omega) (by rw [List.size_toArray,← hl]; exact h3) (by omega) (by rw [hk]; exact ⟨_,I',q⟩)
theorem zin (lo hi:Option Int) (n:Nat):(sliceBounds lo hi none n).1=((HT.sIx n 0 lo:Nat):Int)∧(sliceBounds lo hi none n).2.1=((HT.sIx n n hi:Nat):Int)∧(sliceBounds lo hi none n).2.2=1:=by
  refine ⟨?_,?_,rfl⟩
  · cases lo with
    | none=>simp [sliceBounds,HT.sIx]
    | some i =>
      simp only [sliceBounds,HT.sIx,Option.getD_none,show (1:Int) > 0 by decide,if_true]
      by_cases h:i < 0
      · simp only [h,if_true] <;> omega
      · simp only [h,if_false] <;> omega
  · cases hi with
    | none=>simp [sliceBounds,HT.sIx]
    | some i =>
      simp only [sliceBounds,HT.sIx,Option.getD_none,show (1:Int) > 0 by decide,if_true]
      by_cases h:i < 0
      · simp only [h,if_true] <;> omega
      · simp only [h,if_false] <;> omega
theorem zgO (its:List Value) (lo hi:Option Int):slicePick its.toArray lo hi none=((its.drop (HT.sIx its.length 0 lo)).take (HT.sIx its.length its.length hi - HT.sIx its.length 0 lo)).toArray:=by
  obtain ⟨h1,h2,h3⟩:=zin lo hi its.toArray.size
  unfold slicePick
  rw [h1,h2,h3]
  simp only [sliceRange_one,pick_run,List.size_toArray] <;> rfl
def rSlL (K:PySem.W.Frag):V→Option Int→Option Int→Hp→VK→Prop:=fun x lo hi H Q=>∃ a xs,x = .ref a∧SqL K H a xs∧∀ p,H p=none→Q (.ref p) (upd H p (.lst (cutV xs lo hi)))
theorem znc:SlR X (rSlL X.K):=by
  intro pins s σ H x v vl vu lo hi sl Q I rx hs pl pu h
  obtain ⟨a,xs,rfl,hx,q⟩:=h
  cases rx
  obtain ⟨its,r,ht,hz⟩:=I.list hx
  have hlen:=r.length
  refine ⟨"list",_,slot_list_getitem.lookup,ht.isList.typeIs,?_⟩
  refine wpAny_getItem_list_slice ht.isList hs pl pu .none (by simp) ?_ (by rw [List.size_toArray] <;> omega)
  rw [zgO,← hlen]
  refine ⟨.ref s.heap.objs.size,_,I.laid (t':=s.toks) (o:=.lst (cutV xs lo hi)) (fun b ob q=>Heap.get?_push_of_some _ q) (Nat.le_refl _) ?_,rfl,q _ (I.hok.fresh (Nat.le_refl _))⟩
  exact ⟨Nat.le_trans (ziU xs lo hi) hz,_,0,(r.drop (HT.sIx xs.length 0 lo)).take (HT.sIx xs.length xs.length hi - HT.sIx xs.length 0 lo),Heap.get?_push_size _ rfl⟩
def zhs:V→Bool
  | .non=>true
  | .bl _=>true
  | .int _=>true
  | .str _=>true
  | _=>false
def eqV:V→V→Bool
  | .non,.non=>true
  | .bl a,.bl b=>a == b
  | .bl a,.int b=>(if a then 1 else 0) == b
  | .int a,.bl b=>a == (if b then 1 else 0)
  | .int a,.int b=>a == b
  | .str a,.str b=>a == b
  | _,_=>false
theorem zoj {A:Around} {s:Shared} {y x:V} {u v:Value} (ry:RelV y u) (rx:RelV x v) (fy:zhs y=true) (fx:zhs x=true):SeqAt.EqAt A s u v (eqV y x):=by
  cases y with
  | non =>
    cases ry
    cases x with
    | non=>cases rx; exact SeqAt.EqAt.same _
    | bl b=>cases rx; exact SeqAt.EqAt.none_bool b
    | int b=>obtain ⟨t,rfl⟩:=rx; exact SeqAt.EqAt.none_int b t
    | str b=>obtain ⟨t,rfl⟩:=rx; exact SeqAt.EqAt.none_str b t
    | _=>exact absurd (show false=true from fx) Bool.false_ne_true
  | bl a =>
    cases ry
    cases x with
    | non=>cases rx; exact SeqAt.EqAt.bool_none a
    | bl b=>cases rx; exact SeqAt.EqAt.bool_bool a b
    | int b=>obtain ⟨t,rfl⟩:=rx; exact SeqAt.EqAt.bool_int a b t
    | str b=>obtain ⟨t,rfl⟩:=rx; exact SeqAt.EqAt.bool_str a b t
    | _=>exact absurd (show false=true from fx) Bool.false_ne_true
  | int a =>
    obtain ⟨t',rfl⟩:=ry
    cases x with
    | non=>cases rx; exact SeqAt.EqAt.int_none a t'
    | bl b=>cases rx; exact SeqAt.EqAt.int_bool a t' b
    | int b=>obtain ⟨t,rfl⟩:=rx; exact SeqAt.EqAt.int_int a t' b t
    | str b=>obtain ⟨t,rfl⟩:=rx; exact SeqAt.EqAt.int_str a t' b t
    | _=>exact absurd (show false=true from fx) Bool.false_ne_true
  | str a =>
    obtain ⟨t',rfl⟩:=ry
    cases x with
    | non=>cases rx; exact SeqAt.EqAt.str_none a t'
    | bl b=>cases rx; exact SeqAt.EqAt.str_bool a t' b
    | int b=>obtain ⟨t,rfl⟩:=rx; exact SeqAt.EqAt.str_int a t' b t
    | str b=>obtain ⟨t,rfl⟩:=rx; exact SeqAt.EqAt.str_str a t' b t
    | _=>exact absurd (show false=true from fx) Bool.false_ne_true
  | _=>exact absurd (show false=true from fy) Bool.false_ne_true
def eqU (x:V) (u:Value):Bool:=match u with
  | .none=>eqV .non x
  | .bool b=>eqV (.bl b) x
  | .int i _=>eqV (.int i) x
  | .str z _=>eqV (.str z) x
  | _=>false
theorem zmT {x y:V} {u:Value} (r:RelV y u) (f:zhs y=true):eqU x u=eqV y x:=by
  cases y with
  | non=>cases r; rfl
  | bl b=>cases r; rfl
  | int i=>obtain ⟨t,rfl⟩:=r; rfl
  | str z=>obtain ⟨t,rfl⟩:=r; rfl
  | _=>exact absurd (show false=true from f) Bool.false_ne_true
theorem ziR {x:V}:∀ {xs:List V} {us:List Value},Vals xs us→xs.all zhs=true→us.any (eqU x)=xs.any fun y=>eqV y x
  | _,_,.nil,_=>rfl
  | y :: xs,u :: us,.cons r t,f=>by
    rw [List.all_cons,Bool.and_eq_true] at f
    rw [List.any_cons,List.any_cons,zmT r f.1,ziR t f.2]
theorem zhp {A:Around} {s:Shared} {x:V} {v:Value} (rx:RelV x v) (fx:zhs x=true):∀ {xs:List V} {us:List Value},Vals xs us→xs.all zhs=true→∀ u ∈ us,SeqAt.EqAt A s u v (eqU x u)
  | _,_,.nil,_=>fun u hu=>by cases hu
  | y :: xs,u :: us,.cons r t,f=>fun u' hu=>by
    rw [List.all_cons,Bool.and_eq_true] at f
    rcases List.mem_cons.mp hu with rfl | hu
    · rw [zmT r f.1]; exact zoj r rx f.1 fx
    · exact zhp rx fx t f.2 u' hu
def inV (x:V) (xs:List V):Bool:=xs.any fun y=>eqV y x
def rIn (K:PySem.W.Frag) (neg:Bool):R2:=fun x y H Q=>∃ p xs,y = .ref p∧(SqL K H p xs∨SqT K H p xs)∧zhs x=true∧xs.all zhs=true∧Q (.bl (if neg then !inV x xs else inV x xs)) H
theorem zfC:OpR X (compareOp .NotIn) (rIn X.K true):=by
  intro pins s σ H x y v u Q I rx ry h
  obtain ⟨p,xs,rfl,hq,fx,fs,q⟩:=h
  cases ry
  rcases hq with hq | hq
  · obtain ⟨its,r,pl,hz⟩:=I.list hq
    refine SeqAt.notIn_listAt (eqU x) pl.isList (fun w hw=>zhp rx fx r fs w (by simpa using hw)) ⟨.bl _,H,I,rfl,?_⟩
    rw [show its.toArray.any (eqU x)=its.any (eqU x) by simp,ziR r fs]
    exact q
  · obtain ⟨its,r,pl,hz⟩:=I.tuple hq
    refine SeqAt.notIn_tupleAt (eqU x) pl (fun w hw=>zhp rx fx r fs w (by simpa using hw)) ⟨.bl _,H,I,rfl,?_⟩
    rw [show its.toArray.any (eqU x)=its.any (eqU x) by simp,ziR r fs]
    exact q
theorem zas:zgb X (.builtin "len") (fun xs H Q=>∃ p ys,xs = [.ref p]∧(SqL X.K H p ys∨SqT X.K H p ys)∧Q (.int ys.length) H):=by
  intro pins s σ H xs us Q I r h
  obtain ⟨p,ys,rfl,hq,q⟩:=h
  obtain ⟨u,rfl,rx⟩:=zhX r
  cases rx
  have hn:=zi9
  rcases hq with hq | hq
  · obtain ⟨its,r',pl,hz⟩:=I.list hq
    have hlen:=r'.length
    exact Calls.call_len_list pl.isList (by simp only [List.size_toArray] <;> omega) ⟨.int ys.length,H,I.tok _,⟨s.toks + 1,by rw [List.size_toArray,hlen]⟩,q⟩
  · obtain ⟨its,r',pl,hz⟩:=I.tuple hq
    have hlen:=r'.length
    exact len_tuple pl (by simp only [List.size_toArray] <;> omega) ⟨.int ys.length,H,I.tok _,⟨s.toks + 1,by rw [List.size_toArray,hlen]⟩,q⟩
theorem zbe:zgb X (.type "list") (fun xs H Q=>∃ p ys,xs = [.ref p]∧(SqL X.K H p ys∨SqT X.K H p ys)∧∀ l,H l=none→Q (.ref l) (upd H l (.lst ys))):=by
  intro pins s σ H xs us Q I r h
  obtain ⟨p,ys,rfl,hq,q⟩:=h
  obtain ⟨u,rfl,rx⟩:=zhX r
  cases rx
  have fin:∀ (its:List Value),Vals ys its→ys.length ≤ sizeLine→∀ (h':Heap) (c':Nat),(∀ b o',s.heap.get? b=some o'→h'.get? b=some o') →
      h'.get? s.heap.objs.size=some { cls:=.type "list",dict:=none,data:=.seq its.toArray c',slots:=#[] }→EP X pins σ Q (.ref s.heap.objs.size) { s with heap:=h' }:=fun its r' hz h' c' kp e =>
    ⟨.ref s.heap.objs.size,_,I.laid (t':=s.toks) kp (Nat.le_refl _) (show ObjOk X.prog X.w _ h' _ (.lst ys) from ⟨hz,its,c',r',e⟩),rfl,q _ (I.hok.fresh (Nat.le_refl _))⟩
  rcases hq with hq | hq
  · obtain ⟨its,r',pl,hz⟩:=I.list hq
    have hlen:=r'.length
    obtain ⟨o,ho,hc,n,hd⟩:=pl.isList
    exact call_list_seq p (.inl rfl) ho hc hd (fun h' c' kp e=>fin its r' hz h' c' kp e) (by simp only [List.size_toArray] <;> omega)
  · obtain ⟨its,r',pl,hz⟩:=I.tuple hq
    have hlen:=r'.length
    obtain ⟨o,ho,hc,n,hd⟩:=pl
    exact call_list_seq p (.inr rfl) ho hc hd (fun h' c' kp e=>fin its r' hz h' c' kp e) (by simp only [List.size_toArray] <;> omega)
def tyV (K:PySem.W.Frag) (T:String) (x:V) (H:Hp):Prop:=match x with
  | .str _=>T = "str"
  | .int _=>T = "int"
  | .ref p=>(T = "list"∧∃ xs,SqL K H p xs)∨(T = "tuple"∧∃ o,K.lookup p=some o∧o.cls = .type "tuple"∧o.dict=none) ∨
      (T = "dict"∧((∃ kvs,H p=some (.dK kvs))∨∃ kvs,H p=some (.dT kvs)))∨(T = "set"∧∃ S n,H p=some (.set S n))
  | _=>False
theorem zmM {pins:List (Addr × Obj)} {σ:St} {H:Hp} {s:Shared} {T:String} {x:V} {v:Value} (I:Inv X pins σ H s) (r:RelV x v) (ty:tyV X.K T x H) :
    s.TypeIs v T∧∀ a,v = .ref a→∃ ob,s.heap.get? a=some ob∧ob.dict=none:=by
  cases x with
  | str z =>
    obtain ⟨t,rfl⟩:=r
    cases (show T = "str" from ty)
    exact ⟨typeIs_str s z t,fun _ e=>nomatch e⟩
  | int i =>
    obtain ⟨t,rfl⟩:=r
    cases (show T = "int" from ty)
    exact ⟨typeIs_int s i t,fun _ e=>nomatch e⟩
  | ref p =>
    cases r
    rcases ty with ⟨rfl,xs,hq⟩ | ⟨rfl,o,hk,hc,hd⟩ | ⟨rfl,hk⟩ | ⟨rfl,S,n,hk⟩
    · obtain ⟨its,_,pl,_⟩:=I.list hq
      refine ⟨pl.isList.typeIs,fun a e=>?_⟩
      cases e
      obtain ⟨o,n,e,c,hd,_⟩:=pl
      exact ⟨o,e,hd⟩
    · refine ⟨⟨o,I.kIn p o hk,hc⟩,fun a e=>?_⟩
      cases e
      exact ⟨o,I.kIn _ o hk,hd⟩
    · have z:∃ o,s.heap.get? p=some o∧o.ExactDict:=by
        rcases hk with ⟨kvs,hk⟩ | ⟨kvs,hk⟩
        · obtain ⟨_,_,_,_,o,_,_,e,ex,_⟩:=I.hok p _ hk
          exact ⟨o,e,ex⟩
        · obtain ⟨_,_,_,_,o,_,_,e,ex,_⟩:=I.hok p _ hk
          exact ⟨o,e,ex⟩
      obtain ⟨o,e,ex⟩:=z
      refine ⟨⟨o,e,ex.1⟩,fun a e2=>?_⟩
      cases e2
      exact ⟨o,e,ex.2.1⟩
    · obtain ⟨o,_,_,_,e,ex,_⟩:=I.hok p _ hk
      refine ⟨⟨o,e,ex.1⟩,fun a e2=>?_⟩
      cases e2
      exact ⟨o,e,ex.2.1⟩
  | _=>exact False.elim ty
def tBM0 (K:PySem.W.Frag) (T:String) (r:V→List V→Hp→VK→Prop) (to:TE):TE:=fun σ H Q=>to σ H fun x H1=>tyV K T x H1∧r x [] H1 Q
def tBM (K:PySem.W.Frag) (T:String) (r:V→List V→Hp→VK→Prop) (to:TE) (t:TA):TE:=fun σ H Q=>to σ H fun x H1=>tyV K T x H1∧t σ H1 fun xs H2=>r x xs H2 Q
variable {o e:Expr} {es:List Expr} {to:TE} {t:TA} {name:Str} {apos cpos:Pos} {T id:String} {r:V→List V→Hp→VK→Prop}
theorem zmL (pa:PlainAttrs T) (slot:Slot T name id) (hty:typeOf (.builtin id)=pure (.type "method_descriptor")) (hm:MtR X id r) (ho:PE X o to)
    (hbase:attributeBase o name X.env (eval o X.env)=eval o X.env:=by rfl) (hline:(apos.endLine == cpos.line)=true:=by rfl):PE X (.Call (.Attribute o name apos) [] [] cpos) (tBM0 X.K T r to):=by
  intro pins s σ H Q I h
  refine wpAny_Call_method0_late hbase hline (thn (ho pins s σ H _ I h) fun v s1 ⟨x,H1,I1,r1,ty,q1⟩=>?_)
  obtain ⟨h1,h2⟩:=zmM I1 r1 ty
  exact ⟨T,id,pa,slot,hty,h1,h2,Calls.callWith_builtin rfl (PySem.evalArgs_none (hm pins s1 σ H1 x [] v [] Q I1 r1 .nil q1))⟩
theorem znC (pa:PlainAttrs T) (slot:Slot T name id) (hty:typeOf (.builtin id)=pure (.type "method_descriptor")) (hm:MtR X id r) (ho:PE X o to) (ha:PA X (e :: es) t)
    (hbase:attributeBase o name X.env (eval o X.env)=eval o X.env:=by rfl)
    (hfew:((backTo cpos (starEach (e :: es) X.env)).all (fun x=>!x.1) && (backToKw cpos (keywordEach [] X.env)).all (fun x=>x.1.isSome)
      && decide ((e :: es).length + ([]:List Keyword).length + (if ([]:List Keyword).isEmpty then 0 else 1) < 30))=true:=by rfl)
    (hline:(apos.endLine == cpos.line)=true:=by rfl) (hs:starEach (e :: es) X.env=(false,eval e X.env) :: starEach es X.env:=by rfl) (hplain:(backTo cpos (starEach es X.env)).any (·.1)=false:=by rfl) :
    PE X (.Call (.Attribute o name apos) (e :: es) [] cpos) (tBM X.K T r to t):=by
  intro pins s σ H Q I h
  refine wpAny_Call_method_late hbase hfew hline rfl (thn (ho pins s σ H _ I h) fun v s1 ⟨x,H1,I1,r1,ty,q1⟩=>?_)
  obtain ⟨h1,h2⟩:=zmM I1 r1 ty
  refine ⟨T,id,pa,slot,hty,h1,h2,?_⟩
  have hA:=ha cpos pins s1 σ H1 _ I1 q1
  rw [hs] at hA ⊢
  refine Calls.callWith_builtin (by show (false || (backTo cpos (starEach es X.env)).any (·.1))=false; rw [hplain] <;> rfl) (Calls.evalArgs_plain ?_)
  exact thn hA fun us s2 ⟨vs,H2,I2,r2,q2⟩=>hm pins s2 σ H2 x vs v us Q I2 r1 r2 q2
end
end L2
namespace L2
open PySem PySem.Spec PyProof.Rows
def MtM (X:Cx) (id:String) (r:V→List V→Hp→VK→Prop):Prop :=
  ∀ (pins:List (Addr × Obj)) (s:Shared) (σ:St) (H:Hp) (x:V) (xs:List V) (v:Value) (us:List Value) (Q:VK),Inv X pins σ H s→RelV x v→Vals xs us→r x xs H Q →
    wpAny (model X.prog X.w) X.A (call (.builtin id) (v :: us)) (EP X pins σ Q) X.xe s
theorem Vals.one:∀ {x:V} {us:List Value},Vals [x] us→∃ u,us = [u]∧RelV x u
  | _,_,.cons r .nil=>⟨_,rfl,r⟩
theorem Vals.zero:∀ {us:List Value},Vals [] us→us = []
  | _,.nil=>rfl
section
variable {X:Cx} {pins:List (Addr × Obj)} {σ:St} {H:Hp} {s:Shared} {l b:Addr} {xs ys zs:List V}
theorem Inv.lset {its its':List Value} {n:Nat} {f:Array Value→Array Value} {t':Nat} (I:Inv X pins σ H s) (hH:H l=some (.lst xs))
    (e:s.heap.get? l=some { cls:=.type "list",data:=.seq its.toArray n }) (hf:f its.toArray=its'.toArray) (hv:Vals ys its') (hz:ys.length ≤ sizeLine) :
    Inv X pins σ (upd H l (.lst ys)) { s with heap:=s.heap.update l (Obj.mapSeq f),toks:=t' }:=by
  have q:=PySem.IsL.update e f
  rw [hf] at q
  refine I.write (x:=l) (e:=l) (by rw [hH]; exact trivial) (.inl rfl) (fun b' u hb hu=>(Heap.get?_update_other s.heap (Obj.mapSeq f) (Ne.symm hb)).trans hu) ⟨_,q⟩ ?_
  exact ⟨hz,its',_,hv,q⟩
theorem Inv.lnew {its:List Value} {t':Nat} (I:Inv X pins σ H s) (hv:Vals ys its) (hz:ys.length ≤ sizeLine) :
    Inv X pins σ (upd H s.heap.objs.size (.lst ys)) { s with heap:=s.heap.push { cls:=.type "list",data:=.seq its.toArray },toks:=t' } :=
  I.laid (fun _ _ q=>Heap.get?_push_of_some _ q) (Nat.le_refl _) ⟨hz,its,0,hv,Heap.get?_push_size _ rfl⟩
theorem Inv.fresh (I:Inv X pins σ H s):H s.heap.objs.size=none:=I.hok.fresh (Nat.le_refl _)
theorem Inv.lstM (I:Inv X pins σ H s) (hH:H l=some (.lst xs)):xs.length ≤ sizeLine∧∃ (its:List Value) (n:Nat),Vals xs its∧xs.length=its.length∧s.heap.get? l=some { cls:=.type "list",data:=.seq its.toArray n }:=by
  obtain ⟨z,its,n,r,e⟩:=I.hok l _ hH
  exact ⟨z,its,n,r,r.length,e⟩
theorem zml {n:Nat} (h:n ≤ sizeLine):Builtin.List.listTooLong n=false:=by
  unfold Builtin.List.listTooLong
  exact decide_eq_false (by omega)
end
section
variable {X:Cx}
def ziD:V→List V→Hp→VK→Prop:=fun x vs H Q=>∃ l xs y,x = .ref l∧vs = [y]∧H l=some (.lst xs)∧xs.length < sizeLine∧Q .non (upd H l (.lst (xs ++ [y])))
theorem zfe:MtM X "list.append" ziD:=by
  intro pins s σ H x vs v us Q I rx rv h
  obtain ⟨l,xs,y,rfl,rfl,hH,hz,q⟩:=h
  cases rx
  obtain ⟨u,rfl,ru⟩:=rv.one
  obtain ⟨z,its,n,r,hl,e⟩:=I.lstM hH
  refine call_meets F.slot_list_append ⟨_,e,rfl⟩ F.entry_list_append (F.args_list_append_2 _ _) (PySem.list_append l its.toArray n u (by rw [List.size_toArray]; omega)) ⟨e,?_⟩
  refine ⟨.non,_,I.lset (its':=its ++ [u]) hH e (by simp) (r.append (.cons ru .nil)) ?_,rfl,q⟩
  rw [List.length_append,List.length_singleton]
  omega
def zlY:V→List V→Hp→VK→Prop:=fun x vs H Q=>∃ l xs,x = .ref l∧vs = []∧H l=some (.lst xs)∧Q .non (upd H l (.lst []))
theorem zi4:MtM X "list.clear" zlY:=by
  intro pins s σ H x vs v us Q I rx rv h
  obtain ⟨l,xs,rfl,rfl,hH,q⟩:=h
  cases rx
  have hus:=rv.zero
  subst hus
  obtain ⟨z,its,n,r,hl,e⟩:=I.lstM hH
  refine call_meets F.slot_list_clear ⟨_,e,rfl⟩ F.entry_list_clear (F.args_list_clear_1 _) (AutoSeq1.list_clear_list_0 l its.toArray n (by rw [List.size_toArray]; omega)) ⟨e,?_⟩
  exact ⟨.non,_,I.lset (its':=[]) (ys:=[]) hH e rfl .nil (Nat.zero_le _),rfl,q⟩
end
section
variable {prog:Program} {w:World} {A:Around} {E:Value→Shared→Prop} {s:Shared}
end
section
variable {X:Cx}
end
end L2
namespace L2
open PySem PySem.Spec PyProof.Rows
section
variable {κ:Type} [DecidableEq κ]
end
section
variable {P:Program} {w:World} {H:Hp} {h:Heap} {a:Addr}
end
section
variable {X:Cx} {pins:List (Addr × Obj)} {σ:St} {H:Hp} {s:Shared} {a:Addr} {y v:V} {u r:Value} {o:Option V} {A:Around} {E:Value→Shared→Prop}
end
section
variable {X:Cx} {pins:List (Addr × Obj)} {σ:St} {H:Hp} {s:Shared} {a:Addr} {kvs:List (Key × V)} {k:Key} {u:Value} {A:Around} {E:Value→Shared→Prop}
end
section
variable {X:Cx} {o i e value:Expr} {pos pos' tpos:Pos} {td ty tv:TE}
end
section
variable {X:Cx} {pos:Pos}
end
section
variable {X:Cx} {pins:List (Addr × Obj)} {σ:St} {H:Hp} {s:Shared} {a:Addr} {y d:V} {u r:Value} {o:Option V} {A:Around} {E:Value→Shared→Prop}
end
section
variable {X:Cx} {o e f:Expr} {apos cpos:Pos} {td ty tx:TE}
end
section
variable {X:Cx} {pins:List (Addr × Obj)} {σ:St} {H:Hp} {s:Shared} {a:Addr} {kvs:List (Key × V)} {A:Around} {E:Value→Shared→Prop}
end
section
variable {X:Cx} {pins:List (Addr × Obj)} {σ:St} {H:Hp} {s:Shared} {a:Addr} {y:V} {u:Value} {A:Around} {E:Value→Shared→Prop}
end
end L2
namespace Att
open PySem PySem.W PySem.Calls PyProof.Rows
theorem zf4 {P:Params} {h:Heap}:∀ (ns:List Int) (vs:List Value),WellAll P h vs (ns.map WData.int)→IntsAre vs ns:=by
  intro ns
  induction ns with
  | nil =>
    intro vs w
    rw [List.map_nil] at w
    cases w
    exact .nil
  | cons n ns ih =>
    intro vs w
    rw [List.map_cons] at w
    cases w with
    | cons a b =>
      cases a
      exact .cons _ _ (ih _ b)
theorem zls {l:OpenLaw} {n:Nat} (hn:l.most=some n) {P:Params} {h:Heap} {args:List WData} {vals:List Value}
    (hpre:l.row.toRowW.claim.pre args=true) (hwl:WellAll P h vals args) :
    ∃ a vs ns,vals = [Value.ref a]∧args = [WData.list (ns.map WData.int)]∧h.get? a=some { cls:=.type "list",data:=.seq vs.toArray }∧IntsAre vs ns∧ns.length ≤ n:=by
  have hsh:WShape.hasAll [] args [.list .int]=true:=(pre_splitW hpre).1
  have hc:l.pre.holds [] { args:=args }=true:=(pre_splitW hpre).2
  obtain ⟨d,r,rfl,h1,h2⟩:=hasAllW_cons hsh
  obtain rfl:=hasAllW_nil h2
  obtain ⟨xs,rfl,h3⟩:=hasW_list h1
  obtain ⟨ns,rfl⟩:=items_int h3
  have hlen:ns.length ≤ n:=by
    unfold OpenLaw.pre at hc
    have h4:(WTm.not (.lt (.lit (.int (n:Int))) (.len (.arg 0)))).holds [] { args:=[.list (ns.map .int)] }=true:=by
      have h4:=(holds_andW hc).1
      rw [hn] at h4
      exact h4
    have h5:=condW_of h4 (w_not (w_lt w_lit (w_len_list (w_arg rfl))))
    rw [List.length_map] at h5
    refine Nat.le_of_not_lt fun q=>?_
    have q':(n:Int) < ((ns.length:Nat):Int):=by omega
    first
      | (rw [decide_eq_true q'] at h5; exact absurd h5 (by decide))
      | (simp at h5; omega)
  cases hwl with
  | cons w1 w2 =>
    cases w2
    cases w1 with
    | list ho hall=>exact ⟨_,_,ns,rfl,rfl,ho,zf4 ns _ hall,hlen⟩
theorem zkr (l:OpenLaw) (args:List WData):l.row.toRowW.claim.post args (.bool true) args=true :=
  postW_of (r:=l.row.toRowW) (X:=(true == true))
    (show WShape.has [] (.bool true) .bool=true by first | rfl | decide | simp [WShape.has,WShape.arms,WShape.armsAll])
    (show (WTm.eq .res (.lit (.bool true))).value [] { args:=args,res:=some (.bool true),after:=args }=some (.bool (true == true)) from w_eq_bool (w_res rfl) w_lit) rfl
theorem attach_call {l:OpenLaw} {n:Nat} {q:Program} {loose:List Str} {XP:(Str→Option Value)→Heap→Prop} {YP:World→Heap→Prop} {d:DefRec}
    (hn:l.most=some n) (hdf:d.params.defaults = [])
    (call:∀ (w:World) (s₀ s₁:Shared) (mg mb:Str→Option Value) (fa:Addr) (o:Obj) (pm cd doc:Value) (a:Addr) (vs:List Value) (ns:List Int),
      Ground q loose [] XP w s₀ mg mb s₁.heap→YP w s₁.heap →
      s₁.heap.get? fa=some o→o.data = .func (docDef d.name d.params d.body d.scope pm cd doc)→s₁.heap.CodeRec cd d.name→mg d.name=some (.ref fa) →
      s₁.heap.get? a=some { cls:=.type "list",data:=.seq vs.toArray }→IntsAre vs ns→ns.length ≤ n→s₁.gens = #[] →
      codeAny (model l.prog w) callerA (.call (.ref fa) ⟨[.ref a],[]⟩) (fun r s'=>r = .ok (.ret (.bool true))∧OldK s₁.heap s'.heap∧s'.os=s₁.os∧AllBare s'.gens) s₁) :
    WalkO q loose XP YP l.row.toRowW d [] (fun f vs=>PySem.call f vs):=by
  intro w s₀ s₁ mg mb G Y fa o pm cd doc dV kV ho hd hcd hD hmg hg args vals as hpre hlay hrd hwl hlo
  obtain rfl:dV = .none:=Dflts.none hD hdf
  obtain rfl:kV = .none:=Dflts.noKw hD
  obtain ⟨a,vs,ns,rfl,rfl,hobj,hints,hlen⟩:=zls hn hpre hwl
  refine enter_call (codeAny_mono (call w s₀ s₁ mg mb fa o pm cd doc a vs ns G Y ho (fd_plain hd) hcd hmg hobj hints hlen hg) fun r s' hq=>?_)
  obtain ⟨rfl,h2,h3,h4⟩:=hq
  exact ⟨.inl ⟨.bool true,.bool true,[],rfl,fun _=>rfl,.bool true,zkr l _,fun _=>⟨List.Pairwise.nil,fun _ hm=>(nomatch hm)⟩⟩,h2,h3,h4⟩
section
variable {prog:Program} {w:World} {A:Around} {E:Value→Shared→Prop} {s:Shared} {K:Frag}
end
end Att
namespace L2
open PySem PySem.Spec PyProof.Rows
theorem zhA:∀ {vs:List Value} {ns:List Int},IntsAre vs ns→Vals (ns.map V.int) vs
  | _,_,.nil=>.nil
  | _,_,.cons n t h=>.cons ⟨t,rfl⟩ (zhA h)
def Only (H:Hp):Prop:=∀ b,H b=none∨∃ o xs,H b=some (.frz o (.lst xs))
theorem zmy {P:Program} {w:World} {K:PySem.W.Frag} {mg mb:Str→Option Value} {CX:CXT} {k:Nat} {fa a:Addr} {fd:FuncData} {x:Str} {sp:Sp} {s₁:Shared} {vs:List Value} {ns:List Int}
    (KX:K.In s₁.heap) (hT0:tabOf K=none) (hns:s₁.heap.Ns mainGlobals mg) (hb:s₁.heap.Ns builtinsNs mb) (hbb:∀ x:Str,x ≠ "__name__"→mb x=bootBuiltins x) (hlim:s₁.heap.NoLimit) (hg:s₁.gens = #[])
    (ha:s₁.heap.get? a=some { cls:=.type "list",data:=.seq vs.toArray }) (hi:IntsAre vs ns) (hl:ns.length ≤ sizeLine) (hr:Room k callerA)
    (F:∀ base:Heap,K.In base→base.Ns mainGlobals mg→FnOk P w K mg base CX k fa fd [x] sp) (hbind:∀ (s:Shared) (u:Value),BindsTo s fd ⟨[u],[]⟩ [(x,u)])
    (hsp:∀ H:Hp,Only H→SqL K H a (ns.map V.int)→sp [.ref a] H (fun v _=>v = .bl true) fun _ _ _=>False)
    (hCX:∀ H e s',CX [] H s₁ (fun _ _ _=>False) e s'→False) :
    codeAny (model P w) callerA (.call (.ref fa) ⟨[.ref a],[]⟩) (fun r s'=>r = .ok (.ret (.bool true))∧OldK s₁.heap s'.heap∧s'.os=s₁.os∧AllBare s'.gens) s₁:=by
  have rv:=zhA hi
  have lenV:=hi.length
  -- from an abstract heap in which nothing but the script may be tracked
  have core:∀ H:Hp,Only H→SqL K H a (ns.map V.int)→HOk P w H s₁.heap→(∀ b,H b ≠ none→b=a)→(H a ≠ none→K.lookup a=none) →
      codeAny (model P w) callerA (.call (.ref fa) ⟨[.ref a],[]⟩) (fun r s'=>r = .ok (.ret (.bool true))∧OldK s₁.heap s'.heap∧s'.os=s₁.os∧AllBare s'.gens) s₁:=by
    intro H hO hS hok hA hK
    have base_of:∀ {b:Addr} {o:Obj},s₁.heap.get? b=some o→H b=none→(hidT s₁.heap H).get? b=some o:=fun e n=>zmf e n
    have noA:∀ {b:Addr} {o:Obj} {es:Array DictEntry} {ep:Nat},s₁.heap.get? b=some o→o.data = .dict es ep→H b=none:=fun {b o es ep} e d=>by
      cases q:H b with
      | none=>rfl
      | some u =>
        have e':b=a:=hA b (by rw [q]; simp)
        subst e'
        rw [ha] at e; cases e
        have d':Data.seq vs.toArray _=Data.dict es ep:=d
        cases d'
    have nsK:∀ {b:Addr} {m:Str→Option Value},s₁.heap.Ns b m→(hidT s₁.heap H).Ns b m:=fun {b m} ⟨o,es,ep,e,d,r⟩=>⟨o,es,ep,base_of e (noA e d),d,r⟩
    have hKb:K.In (hidT s₁.heap H):=fun b o e=>base_of (KX b o e) (by
      cases q:H b with
      | none=>rfl
      | some u =>
        have e':b=a:=hA b (by rw [q]; simp)
        subst e'
        rw [hK (by rw [q]; simp)] at e; cases e)
    have hM:Mod K mg (hidT s₁.heap H):=⟨hKb,nsK hns,⟨mb,nsK hb,hbb⟩,let ⟨mc,h1,h2⟩:=hlim; ⟨mc,nsK h1,h2⟩⟩
    have e0:Env0 P w K mg (hidT s₁.heap H) callerA [] s₁ H:=⟨rfl,hM,fun b o e=>znL e,Nat.le_of_eq (zkA _ _),trivial,fun b hb=>absurd (show b ∈ ([]:List Addr) from hb) (by simp),hok,.of_eq hg,.none hT0⟩
    refine codeAny_mono ((F _ hKb (nsK hns)).run callerA [] s₁ H ⟨[.ref a],[]⟩ [.ref a] [.ref a] _ _ hr e0 (hbind s₁ (.ref a)) (.cons rfl .nil) (hsp H hO hS)) fun r s' h=>?_
    cases r with
    | error e=>exact (hCX H e s' h).elim
    | ok fl =>
      cases fl with
      | next=>exact False.elim h
      | brk=>exact False.elim h
      | cont=>exact False.elim h
      | ret u =>
        obtain ⟨v,H',os,bare,un,hok',r',q⟩:=h
        have q':v = .bl true:=q
        subst q'
        obtain rfl:u=Value.bool true:=r'
        refine ⟨rfl,OldK.of_keep fun b o e=>?_,os,bare⟩
        cases q:H b with
        | none=>exact un.keep b o e q (by intro z; exact absurd (show b ∈ ([]:List Addr) from z) (by simp)) (by simp)
        | some u =>
          rcases hO b with z | ⟨ob,xs,z⟩
          · rw [q] at z; cases z
          · have z2:=un.frzs b ob _ z
            obtain ⟨e1,_⟩:=hok b _ z
            obtain ⟨e2,_⟩:=hok' b _ z2
            rw [e] at e1; cases e1
            exact e2
  cases hk:K.lookup a with
  | some o =>
    -- the script is one of the module's own objects
    have e:=KX a o hk
    rw [ha] at e
    cases e
    refine core (fun _=>none) (fun _=>.inl rfl) (.inr ⟨_,vs.toArray,_,hk,rfl,rfl,rfl,by rw [List.size_toArray,lenV]; exact hl,by simpa using rv⟩) (fun b u z=>by have z':(none:Option HO)=some u:=z; cases z') (fun b z=>absurd rfl z) fun z=>absurd rfl z
  | none =>
    refine core (fun b=>if b=a then some (.frz { cls:=.type "list",data:=.seq vs.toArray } (.lst (ns.map V.int))) else none) (fun b=>?_) (.inl (.inr ⟨{ cls:=.type "list",data:=.seq vs.toArray },if_pos rfl⟩)) (fun b u z=>?_) (fun b z=>?_) fun _=>hk
    · by_cases hb:b=a
      · exact .inr ⟨_,_,if_pos hb⟩
      · exact .inl (if_neg hb)
    · by_cases hb:b=a
      · have z':=(if_pos hb).symm.trans z
        cases z'
        subst hb
        exact ⟨ha,by rw [List.length_map]; exact hl,vs,_,rv,ha⟩
      · have z':=(if_neg hb).symm.trans z
        cases z'
    · by_cases hb:b=a
      · exact hb
      · exact absurd (if_neg hb) z
end L2
namespace L2
open PySem PySem.Spec PyProof.Rows
theorem walk_of {l:PySem.W.OpenLaw} {n k:Nat} {q:Program} {loose:List Str} {XP:(Str→Option Value)→Heap→Prop} {YP:World→Heap→Prop} {d:DefRec} {K:Params→PySem.W.Frag} {CX:World→CXT} {sp:World→Sp} {x:Str}
    (hn:l.most=some n) (hn2:n ≤ sizeLine) (hdf:d.params.defaults = []) (hr:Room k callerA)
    (hY:∀ (w:World) (h:Heap),YP w h→(K w.params).In h) (hT0:∀ w:World,tabOf (K w.params)=none)
    (F:∀ (w:World) (mg:Str→Option Value) (fa:Addr) (h:Heap),(K w.params).In h→h.Ns mainGlobals mg→mg d.name=some (.ref fa) →
      ∃ fd:FuncData,(∀ (s:Shared) (u:Value),BindsTo s fd ⟨[u],[]⟩ [(x,u)]) ∧
        ∀ base:Heap,(K w.params).In base→base.Ns mainGlobals mg→FnOk l.prog w (K w.params) mg base (CX w) k fa fd [x] (sp w))
    (hsp:∀ (w:World) (H:Hp) (a:Addr) (ns:List Int),ns.length ≤ n→Only H→SqL (K w.params) H a (ns.map V.int)→sp w [.ref a] H (fun v _=>v = .bl true) fun _ _ _=>False)
    (hCX:∀ (w:World) (H:Hp) (s:Shared) (e:Value) (s':Shared),CX w [] H s (fun _ _ _=>False) e s'→False) :
    PySem.W.WalkO q loose XP YP l.row.toRowW d [] (fun f vs=>PySem.call f vs):=by
  refine Att.attach_call hn hdf fun w s₀ s₁ mg mb fa o pm cd doc a vs ns G Y ho hd hcd hmg hobj hints hlen hg=>?_
  have KX:=hY w _ Y
  obtain ⟨fd,hb,hF⟩:=F w mg fa _ KX G.T.g hmg
  exact zmy KX (hT0 w) G.T.g G.T.b G.T.builtins G.T.nolimit hg hobj hints (Nat.le_trans hlen hn2) hr hF hb (fun H hO hS=>hsp w H a ns hlen hO hS) fun H e s'=>hCX w H s₁ e s'
end L2
namespace L2
open PySem PySem.Spec PyProof.Rows
def zdg (s:Stmt) (j:Nat):Stmt:=match s with
  | .ClassDef _ _ _ body _ _ _ _ _ _ _=>body.getD j (.Pass ⟨0,0,0,0⟩)
  | _=>.Pass ⟨0,0,0,0⟩
def zdW (s:Stmt):Arguments:=match s with
  | .FunctionDef _ a _ _ _ _ _ _ _ _=>a
  | _=>{ posonlyargs:=[],args:=[],vararg:=none,kwonlyargs:=[],kw_defaults:=[],kwarg:=none,defaults:=[] }
def zc9 (s:Stmt):List Stmt:=match s with
  | .FunctionDef _ _ b _ _ _ _ _ _ _=>b
  | _=>[]
def zai (s:Stmt):Scope:=match s with
  | .FunctionDef _ _ _ _ _ _ sc _ _ _=>sc
  | _=>{ kind:=.function,names:=[],isGenerator:=false,isCoroutine:=false }
abbrev CX0:CXT:=fun _ _ _ _ _ _=>False
abbrev E0:XK:=fun _ _ _=>False
theorem za0 {X:Cx}:zdI CX0 X E0:=fun _ _ _ _ _ _ _ h=>h.elim
structure Fun (K:PySem.W.Frag) (x qual:Str) (st:Stmt) (f:Addr) (fd:FuncData):Prop where
  ex:∃ (oc:Value) (od:Option Addr) (kV doc pm:Value) (an:Option Addr) (cdv ct:Value) (osl:Array (Option Value)),
    fd=PySem.W.fnOf x qual (zdW st) (zc9 st) (zai st) .none kV doc pm an cdv ct∧K.lookup f=some ⟨oc,od,.func fd,osl⟩∧PySem.W.codeIn K cdv qual=true
  kp:PySem.W.keepIn K (.ref f)=true
section
variable {P:Program} {w:World} {K:PySem.W.Frag} {mg:Str→Option Value} {base:Heap}
theorem Fun.ok {x qual:Str} {st:Stmt} {f:Addr} {fd:FuncData} {N ps:List Str} {k:Nat} {sp:Sp} (F:Fun K x qual st f fd) (S:FnScope N ps (zai st)) (len:∀ vs H Q E,sp vs H Q E→vs.length=ps.length)
    (hbody:∀ (cdv:Value) (A:Around) (outer:List Env) (s:Shared) (H:Hp) (vs:List V) (Q:VK) (E:XK),Room k (A.deeper (envOfC qual (zai st) s.heap.objs.size f cdv))→sp vs H Q E →
      ∃ t,PSs (cxOf CX0 P w K mg base N qual (zai st) f cdv A outer s H E).nox (zc9 st) t∧t { nx:=fun _ H'=>Q .non H',rt:=Q } (start N vs) H):FnOk P w K mg base CX0 (k + 1) f fd ps sp:=by
  obtain ⟨oc,od,kV,doc,pm,an,cdv,ct,osl,rfl,lk,hcd⟩:=F.ex
  refine zoN lk hcd S len fun A outer s H vs Q E hr hsp=>?_
  obtain ⟨t,h,q⟩:=hbody cdv A outer s H vs Q E hr hsp
  exact ⟨t,h.nox,q⟩
theorem Fun.binds {x qual:Str} {st:Stmt} {f:Addr} {fd:FuncData} {ps:List Str} (F:Fun K x qual st f fd)
    (h:∀ (kV doc pm:Value) (an:Option Addr) (cdv ct:Value) (us:List Value),us.length=ps.length→bindArgs (PySem.W.fnOf x qual (zdW st) (zc9 st) (zai st) .none kV doc pm an cdv ct) ⟨us,[]⟩=pure (ps.zip us)):Binds K fd ps []:=by
  obtain ⟨oc,od,kV,doc,pm,an,cdv,ct,osl,rfl,lk,hcd⟩:=F.ex
  exact .all (h kV doc pm an cdv ct)
theorem zlJ {x qual:Str} {st:Stmt} {f:Addr} {oc:Value} {od an:Option Addr} {osl:Array (Option Value)} {kV doc pm cdv ct:Value} (l:K.lookup f=some ⟨oc,od,.func (PySem.W.fnOf x qual (zdW st) (zc9 st) (zai st) .none kV doc pm an cdv ct),osl⟩)
    (c:PySem.W.codeIn K cdv qual=true) (k:PySem.W.keepIn K (.ref f)=true):Fun K x qual st f (PySem.W.fnOf x qual (zdW st) (zc9 st) (zai st) .none kV doc pm an cdv ct):=⟨⟨oc,od,kV,doc,pm,an,cdv,ct,osl,rfl,l,c⟩,k⟩
end
theorem zbX {A:Around} {k:Nat} (hr:Room k A):A.units + 1 < cLine:=Nat.lt_of_le_of_lt (Nat.add_le_add_left (by decide:1 ≤ 64) _) hr.units
section
variable {X:Cx}
theorem pv (i:Nat) {x:Str} {pos:Pos} (hN:X.N[i]?=some x:=by rfl) (hv:Vis X.env.scope x:=by first | exact Or.inl rfl | exact Or.inr (Or.inl rfl) | exact Or.inr (Or.inr rfl)) (hd:(x == ("__debug__" : Str))=false:=by decide)
    (hcd:(x == ("__classdict__" : Str))=false:=by decide):PE X (.Name x pos) (tVar i):=zor hN hv hd hcd
end
def Same (H H':Hp):Prop:=∀ b o,H b=some o→H' b=some o
theorem Same.refl (H:Hp):Same H H:=fun _ _ h=>h
theorem Same.trans {H H1 H2:Hp} (a:Same H H1) (b:Same H1 H2):Same H H2:=fun c o h=>b c o (a c o h)
theorem Same.free {H H':Hp} (e:Same H H') {l:Addr} (h:H' l=Option.none):H l=Option.none:=by
  cases q:H l with
  | none=>rfl
  | some o =>
    rw [e l o q] at h
    cases h
theorem Same.seq {K:PySem.W.Frag} {H H':Hp} {a:Addr} {xs:List V} (e:Same H H') (h:SqL K H a xs):SqL K H' a xs:=by
  rcases h with (h | ⟨o,h⟩) | h
  · exact .inl (.inl (e _ _ h))
  · exact .inl (.inr ⟨o,e _ _ h⟩)
  · exact .inr h
section
variable {κ:Type} [DecidableEq κ]
end
end L2
namespace L2
open PySem PySem.Spec PyProof.Rows
def Fit (i:Int):Prop:=i.natAbs < 2 ^ 8000
theorem log2_lt {n k:Nat} (hk:0 < k) (h:n < 2 ^ k):n.log2 < k:=by
  by_cases h0:n=0
  · subst h0; simpa using hk
  · exact (Nat.log2_lt h0).mpr h
theorem Fit.log {i:Int} (h:Fit i):i.natAbs.log2 < 8000:=log2_lt (by decide) h
theorem Fit.bits {i:Int} (h:Fit i):Builtin.Int.intBits i ≤ 2 ^ 20:=by
  have h1:=h.log
  have h2:(8000:Nat) ≤ 2 ^ 20:=by decide
  unfold Builtin.Int.intBits
  split <;> omega
section
variable {X:Cx}
theorem zdZ:OpR X (binaryOp .Mult) (rI (fun i j=>Fit i∧Fit j) fun i j=>.int (i * j)):=opI fun _ _ _ _ _ _ _ hc q=>mul_int q (.of_bits hc.1.bits hc.2.bits)
theorem zhc:OpR X (binaryOp .FloorDiv) (rI (fun _ j=>j ≠ 0∧Fit j) fun i j=>.int (i.fdiv j)):=opI fun _ _ _ _ _ _ _ hc q =>
  floordiv_int hc.1 q (.inl (PyProof.noPylong_of_log2 (Nat.lt_trans hc.2.log (by decide))))
end
def clsV:V→Option Value
  | .ty n=>some (.type n)
  | .ref a=>some (.ref a)
  | _=>none
section
variable {X:Cx}
theorem zjn {c:V} {cv u:Value} (h:clsV c=some cv) (r:RelV c u):u=cv:=by
  cases c with
  | ty n=>cases h; exact r
  | ref a=>cases h; exact r
  | _=>cases h
def rIs (K:PySem.W.Frag):List V→Hp→VK→Prop:=fun xs H Q=>∃ x c cv t b,xs = [x,c]∧clsV c=some cv∧TyOf K H x t∧PySem.W.kitOne K t cv=some b∧Q (.bl b) H
theorem zbR:zgb X (.builtin "isinstance") (rIs X.K):=by
  intro pins s σ H xs us Q I r h
  obtain ⟨x,c,cv,t,b,rfl,hc,ty,hk,q⟩:=h
  obtain ⟨u,v,rfl,rx,ry⟩:=zmr r
  cases zjn hc ry
  exact zlc I rx ty hk fun tk=>⟨.bl b,H,I.tok _,rfl,q⟩
end
def Ite (K:PySem.W.Frag) (a:Addr):It :=
  ⟨fun i H=>∃ xs x,SqL K H a xs∧xs[i]?=some x,fun i H x H'=>∃ p y,x = .ref p∧H p=none∧H'=upd H p (.tup [.int i,y])∧∀ xs,SqL K H a xs→xs[i]?=some y,fun i H=>∃ xs,SqL K H a xs∧xs.length ≤ i⟩
theorem zkk {P:Program} {w:World} {K:PySem.W.Frag} {es:List Expr} {k} {pos:Pos} (a e it:Addr) (hne:e ≠ it) :
    Turn P w K (.Tuple es k pos) (Ite K a) [e,it] e (fun i h=>(∃ old,IsEnum h e it i old)∧h.IsListIter it a i) where
  mem:=by simp
  obj:=fun i h st b hb=>by
    obtain ⟨⟨old,h1⟩,o,h2,c,d⟩:=st
    rcases List.mem_cons.mp hb with rfl | hb
    · exact ⟨_,h1,fun v z=>by cases (show Data.fields _=Data.cell v from z)⟩
    · have e':b=it:=by simpa using hb
      subst e'
      exact ⟨o,h2,fun v z=>by rw [d] at z; cases z⟩
  keep:=fun i h h' st k=>by
    obtain ⟨⟨old,h1⟩,h2⟩:=st
    exact ⟨⟨old,k e (by simp) _ h1⟩,h2.at fun o q=>k it (by simp) o q⟩
  item:=by
    intro X hP hw hK hc i pins s σ H E I hf st hg
    subst hP hw hK
    obtain ⟨xs,x,hq,hx⟩:=hg
    obtain ⟨its,rv,p,hz⟩:=I.list hq
    obtain ⟨u,hu,ru⟩:=rv.get hx
    obtain ⟨⟨old,he⟩,hit⟩:=st
    obtain ⟨f0,f1,f2,f3,f4,f5⟩:=hf e (by simp)
    obtain ⟨g0,g1,g2,g3,g4,g5⟩:=hf it (by simp)
    have hT:H s.heap.objs.size=none:=I.hok.fresh (Nat.le_refl _)
    have eT:e ≠ s.heap.objs.size:=Nat.ne_of_lt (Heap.lt_size he)
    have iT:it ≠ s.heap.objs.size:=by obtain ⟨_,z,_⟩:=hit; exact Nat.ne_of_lt (Heap.lt_size z)
    refine wpAny_pyNext_enum_item he hit p.isList (x:=u) (by simpa using hu) hne fun h' ho hit' ht hsz hk=>⟨_,rfl,?_⟩
    refine wpAny_letOwnedTupleGo_enum ho fun h'' he'' hs''=>?_
    have hs2:Heap.SameBut e h' h'':=hs''
    have ht2:h''.get? s.heap.objs.size=some { cls:=.type "tuple",data:=.seq #[.int i s.toks,u] }:=(hs2.2 _ eT.symm).trans ht
    have hk2:∀ b o,b ≠ e→b ≠ it→s.heap.get? b=some o→h''.get? b=some o:=fun b o z1 z2 q=>(hs2.2 b z1).trans (hk b o z1 z2 q)
    have nH:∀ b o,H b=some o→b ≠ e∧b ≠ it:=fun b o q=>⟨(fun z=>by rw [z,f0] at q; cases q),(fun z=>by rw [z,g0] at q; cases q)⟩
    refine ⟨.ref s.heap.objs.size,upd H s.heap.objs.size (.tup [.int i,x]),?_,rfl,⟨_,x,rfl,hT,rfl,fun ys hy=>by rw [I.list_inj hy hq]; exact hx⟩,⟨⟨_,by simpa using he''⟩,hit'.at fun o q=>(hs2.2 it hne.symm).trans q⟩,fun b hb=>?_⟩
    · show Inv X pins σ (upd H s.heap.objs.size (.tup [.int i,x])) { s with heap:=h'',toks:=s.toks + 1 }
      refine I.step (h':=h'') (g':=s.gens) (d':=s.drawn) (t':=s.toks + 1) (ch:=[e,it]) (fun b hb=>?_) (fun b o _ _ hb q _=>?_) (fun b o _ _ hb q _=>⟨o.slots,?_⟩) (fun b o hb q n=>?_) (fun b o hb q=>⟨o,?_⟩) (fun b ys q=>?_) (fun b o ys q=>?_) (fun b ps q=>⟨#[],?_⟩) (fun m hm=>?_) ?_ I.bare
      · rcases List.mem_cons.mp hb with rfl | hb
        · exact ⟨f3,f1,f4,f5⟩
        · have z:b=it:=by simpa using hb
          subst z
          exact ⟨g3,g1,g4,g5⟩
      · exact hk2 b o (fun z=>hb (by simp [z])) (fun z=>hb (by simp [z])) q
      · exact hk2 b o (fun z=>hb (by simp [z])) (fun z=>hb (by simp [z])) q
      · rw [zar (Nat.ne_of_lt (Heap.lt_size q))]; exact n
      · exact hk2 b o (fun z=>hb (by simp [z])) (fun z=>hb (by simp [z])) q
      · rw [zar (zaw q hT)]; exact q
      · rw [zar (zaw q hT)]; exact q
      · rw [zar (zaw q hT),q]; simp
      · obtain ⟨o,es',ep,ho',r⟩:=hm
        exact ⟨o,es',ep,hk2 _ o (Ne.symm f1) (Ne.symm g1) ho',r⟩
      · intro b o q
        by_cases hb:b=s.heap.objs.size
        · subst hb
          rw [zaG] at q; cases q
          exact ⟨by show 2 ≤ sizeLine; decide,[.int i s.toks,u],.cons ⟨_,rfl⟩ (.cons ru .nil),⟨_,ht2,rfl,_,rfl⟩⟩
        · rw [zar hb] at q
          refine (I.hok b o q).stay (fun c v hc' q'=>?_) (fun c q'=>by rw [zar (zaw q' hT)]; exact q') fun c ys q'=>by rw [zar (zaw q' hT)]; exact q'
          rcases hc' with rfl | hc'
          · exact hk2 _ v (nH _ _ q).1 (nH _ _ q).2 q'
          · exact hk2 _ v (nH _ _ hc').1 (nH _ _ hc').2 q'
    · rcases List.mem_cons.mp hb with rfl | hb
      · rw [zar eT]; exact f0
      · have z:b=it:=by simpa using hb
        subst z
        rw [zar iT]; exact g0
  done:=by
    intro X hP hw hK hc i pins s σ H E I hf st hg
    subst hP hw hK
    obtain ⟨xs,hq,hx⟩:=hg
    obtain ⟨its,rv,p,hz⟩:=I.list hq
    obtain ⟨⟨old,he⟩,hit⟩:=st
    obtain ⟨g0,g1,g2,g3,g4,g5⟩:=hf it (by simp)
    have hl:=rv.length
    exact wpAny_pyNext_enum_end (I.ok.hd hc) he hit p.isList (by simp; omega) fun h' eb=>⟨rfl,I.turned (t':=s.toks) (fun b o hb q=>eb b o hb q) g0 g1 g3 g4 g5⟩
  self:=fun _ _ _ _ _ st h=>by
    obtain ⟨⟨old,he⟩,_⟩:=st
    exact wpAny_pyIter_enum he h
section
variable {X:Cx}
def zoi (K:PySem.W.Frag) (ta:TA):TI:=fun σ H R=>ta σ H fun vs H1=>∃ a,vs = [.ref a]∧(∃ xs,SqL K H1 a xs)∧R (Ite K a) H1
theorem znn {es:List Expr} {k} {tp:Pos} {l:Expr} {ta:TA} {p pos:Pos} (hg:Gl X "enumerate") (hm:X.mg "enumerate"=none) (ha:PA X [l] ta) (hs:starEach [l] X.env = [(false,eval l X.env)]:=by rfl) :
    PI X (.Tuple es k tp) (.Call (.Name "enumerate" p) [l] [] pos) (zoi X.K ta):=by
  intro pins s σ H R I h
  refine Call_ (zfE I hg hm boot_enumerate (PyProof.Rows.callWith_type1 (thn (ha pos pins s σ H _ I h) fun us s1 ⟨vs,H1,I1,r1,q1⟩=>?_) hs rfl))
  obtain ⟨a,e,⟨xs,hq⟩,q⟩:=q1
  subst e
  obtain ⟨u,rfl,rx⟩:=zhX r1
  cases rx
  obtain ⟨its,rv,pl,hz⟩:=I1.list hq
  refine call_enumerate_list pl.isList fun h' he hit hsz hk=>?_
  have I2:Inv X pins σ H1 { s1 with heap:=h' }:=I1.kept (t':=s1.toks) hk
  have hne:s1.heap.objs.size + 1 ≠ s1.heap.objs.size:=by omega
  refine wpAny_pyIter_enum he ⟨s1.heap.objs.size + 1,[s1.heap.objs.size + 1,s1.heap.objs.size],_,_,H1,rfl,I2,zkk a _ _ hne,⟨⟨_,he⟩,hit⟩,fun b hb=>?_,q⟩
  have hb':s1.heap.objs.size ≤ b:=by
    rcases List.mem_cons.mp hb with rfl | hb
    · omega
    · have z:b=s1.heap.objs.size:=by simpa using hb
      exact Nat.le_of_eq z.symm
  exact I1.fpOk hb' (I1.hok.fresh hb')
end
end L2
namespace L2
open PySem PySem.Spec PyProof.Rows
theorem zfs {env:Env}:∀ (names:List (Str × NameKind)) (acc:List (Str × Addr)),(∀ y ∈ names,y.2 = .free→∃ c,env.cells.lookup y.1=some c) →
    ∃ cl,(forIn (m:=Sem) names acc fun (x:Str × NameKind) (cs:List (Str × Addr))=>if (x.2 == NameKind.free)=true then do let c ← cellOf env x.1; pure (ForInStep.yield ((x.1,c) :: cs)) else pure (ForInStep.yield cs))=pure cl ∧
      (∀ p ∈ cl,p ∈ acc∨env.cells.lookup p.1=some p.2)∧(∀ p ∈ acc,p ∈ cl)∧∀ y ∈ names,y.2 = .free→∃ c,(y.1,c) ∈ cl
  | [],acc,_=>⟨acc,by simp,fun p hp=>.inl hp,fun p hp=>hp,fun y hy=>by cases hy⟩
  | (n,k) :: r,acc,h=>by
    by_cases hk:k = .free
    · subst hk
      obtain ⟨c,hc⟩:=h (n,.free) List.mem_cons_self rfl
      obtain ⟨cl,e,h1,h2,h3⟩:=zfs r ((n,c) :: acc) fun y hy=>h y (List.mem_cons_of_mem _ hy)
      refine ⟨cl,?_,fun p hp=>?_,fun p hp=>h2 p (List.mem_cons_of_mem _ hp),fun y hy hf=>?_⟩
      · have hco:cellOf env n=pure c:=by unfold cellOf; rw [hc]
        rw [List.forIn_cons]
        simp only [beq_self_eq_true,if_true,hco,pure_bind]
        exact e
      · rcases h1 p hp with z | z
        · rcases List.mem_cons.mp z with rfl | z
          · exact .inr hc
          · exact .inl z
        · exact .inr z
      · rcases List.mem_cons.mp hy with rfl | hy
        · exact ⟨c,h2 _ List.mem_cons_self⟩
        · exact h3 y hy hf
    · obtain ⟨cl,e,h1,h2,h3⟩:=zfs r acc fun y hy=>h y (List.mem_cons_of_mem _ hy)
      refine ⟨cl,?_,h1,h2,fun y hy hf=>?_⟩
      · have hb:(k == NameKind.free)=false:=by simpa using hk
        rw [List.forIn_cons]
        simp only [hb,Bool.false_eq_true,if_false,pure_bind]
        exact e
      · rcases List.mem_cons.mp hy with rfl | hy
        · exact absurd hf hk
        · exact h3 y hy hf
theorem zeW {f:Str→Option Addr}:∀ {cl:List (Str × Addr)} {x:Str} {c:Addr},(∀ p ∈ cl,f p.1=some p.2)→(x,c) ∈ cl→cl.lookup x=some c
  | [],_,_,_,h=>by cases h
  | (n,d) :: r,x,c,h,hm=>by
    rw [List.lookup_cons]
    cases e:x == n with
    | true =>
      have e':x=n:=by simpa using e
      subst e'
      have z1:=h (x,d) List.mem_cons_self
      have z2:=h (x,c) hm
      rw [z1] at z2
      simpa using z2
    | false =>
      rcases List.mem_cons.mp hm with z | z
      · cases z; simp at e
      · exact zeW (fun p hp=>h p (List.mem_cons_of_mem _ hp)) z
theorem ze1 {scope:Scope} {env:Env} (h:∀ y ∈ scope.names,y.2 = .free→∃ c,env.cells.lookup y.1=some c) :
    ∃ cl,closureFor scope env=pure cl∧(∀ x c,cl.lookup x=some c→env.cells.lookup x=some c)∧∀ y ∈ scope.names,y.2 = .free→cl.lookup y.1=env.cells.lookup y.1:=by
  obtain ⟨cl,e,h1,_,h3⟩:=zfs scope.names [] h
  have all:∀ p ∈ cl,env.cells.lookup p.1=some p.2:=fun p hp=>(h1 p hp).elim (fun z=>by cases z) id
  refine ⟨cl,?_,fun x c z=>all (x,c) (PySem.mem_of_lookup z),fun y hy hf=>?_⟩
  · simp only [closureFor]
    rw [e]
    rfl
  · obtain ⟨c,hc⟩:=h3 y hy hf
    rw [all _ hc]
    exact zeW (f:=fun x=>env.cells.lookup x) all hc
end L2
namespace L2
open PySem PySem.Spec PyProof.Rows
section
variable {prog:Program} {w:World} {A:Around} {R:Result→Shared→Prop} {s:Shared}
theorem zif {elt target iter:Expr} {ifs:List Expr} {scope:Scope} {pos:Pos} {it acc:Value} {env:Env} (I:Nat→Shared→Prop)
    (turn:∀ n s,I n s→wpAny (model prog w) A (pyNext it) (fun r s₁=>match r with
      | none=>R (.ok .next) s₁
      | some v=>wpAny (model prog w) A (letOwnedTupleGo target it v) (fun _ s₁'=>wpAny (model prog w) A (assign target env v) (fun _ s₂ =>
          wpAny (model prog w) A (forIn ifs true fun c r=>if r=true then do let ok ← isTrue c env (eval c env); pure (ForInStep.yield ok) else pure (ForInStep.yield r)) (fun ok s₃ =>
            if ok=true then wpAny (model prog w) A (eval elt env) (fun x s₄ =>
              wpAny (model prog w) A (call (.builtin "list.append") [acc,x]) (fun _ s₅=>∃ m,m < n∧I m s₅) (fun _ _=>False) s₄) (fun _ _=>False) s₃
            else ∃ m,m < n∧I m s₃) (fun _ _=>False) s₂) (fun _ _=>False) s₁') (fun _ _=>False) s₁) (fun _ _=>False) s)
    (n:Nat) (h:I n s) :
    codeAny (model prog w) A (.compLoop (.ListComp elt [⟨target,iter,ifs,0⟩] scope pos) 0 it acc env) R s:=by
  refine codeAny_loop rfl I (fun n s hI=>?_) n h
  show wpAny _ A ((compTurn (.ListComp elt [⟨target,iter,ifs,0⟩] scope pos) 0 it acc env).onRaise (fun x=>do noteFrame x env; theTreesLotGoes x)) _ _ s
  refine wpAny_noted ?_
  rw [compTurn_list]
  refine wpAny_bind (wpAny_standAt (wpAny_bind (wpAny_mono (turn n s hI) (fun r s₁ h₁=>?_) fun _ _ h'=>h'.elim)))
  cases r with
  | none=>exact wpAny_pure h₁
  | some v =>
    refine wpAny_bind (wpAny_mono h₁ (fun _ s₁' h₁'=>?_) fun _ _ h'=>h'.elim)
    refine wpAny_bind (wpAny_mono h₁' (fun _ s₂ h₂=>wpAny_bind (wpAny_mono h₂ (fun ok s₃ h₃=>?_) fun _ _ h'=>h'.elim)) fun _ _ h'=>h'.elim)
    cases ok with
    | false=>exact wpAny_pure ⟨rfl,h₃⟩
    | true =>
      exact wpAny_bind (wpAny_bind (wpAny_mono h₃ (fun x s₄ h₄=>wpAny_bind (wpAny_mono h₄ (fun _ s₅ h₅=>wpAny_pure (wpAny_pure ⟨rfl,h₅⟩)) fun _ _ h'=>h'.elim)) fun _ _ h'=>h'.elim))
end
def Cx.comp (X:Cx) (scope:Scope) (cl:List (Str × Addr)) (C:Addr) (N':List Str) (s:Shared) (H:Hp) (fp:List Addr) (pins:List (Addr × Obj)):Cx :=
  { X with N:=N',s₀:=s,H₀:=H,env:=compEnvC scope cl C X.env,outer:=X.stack,stack:=X.stack,ex:=fp,fn:=fun x=>scope.names.lookup x == some .cell,pn:=X.pn ++ pins,xe:=fun _ _=>False }
def zcQ (σ:St) (ix:List Nat) (n:Nat):St:=ix.map (fun i=>(σ[i]?).getD none) ++ List.replicate n none
def zkF:Option TT→TT
  | none=>fun _ H Q=>Q true H
  | some t=>t
def znS (D:Addr) (J:It) (g:TG) (tc:Option TT) (te:TE) (Q:VK) (σ0:St) (H0:Hp):Prop :=
  ∃ W:Nat→Nat→List V→St→Hp→Prop,(∃ m,W 0 m [] σ0 H0)∧∀ i m ys σ2 H2,W i m ys σ2 H2→H2 D=some (.lst ys) ∧
    ((J.stop i H2∧Q (.ref D) H2)∨(J.go i H2∧∃ N:List V→St→Hp→Prop,(∀ ys' σ' H',N ys' σ' H'→∃ m',m' < m∧W (i + 1) m' ys' σ' H') ∧
      ∀ x H',J.yld i H2 x H'→g x σ2 H' fun σ3 H3=>zkF tc σ3 H3 fun b H4=>if b=true then te σ3 H4 fun y H5=>H5 D=some (.lst ys)∧ys.length < sizeLine∧N (ys ++ [y]) σ3 (upd H5 D (.lst (ys ++ [y]))) else N ys σ3 H4))
def zmb (wi:TI) (ix:List Nat) (n:Nat) (g:TG) (tc:Option TT) (te:TE):TE:=fun σ H Q=>wi σ H fun J H1=>∀ D,H1 D=none→znS D J g tc te Q (zcQ σ ix n) (upd H1 D (.lst []))
structure CompOk (X:Cx) (scope:Scope) (N':List Str) (ix:List Nat) (n:Nat) (tg elt:Expr) (ifs:List Expr) (g:TG) (tc:Option TT) (te:TE):Prop where
  kind:scope.kind = .function
  nocell:∀ y ∈ scope.names,y.2 = .free→(y.1,NameKind.cell) ∉ scope.names
  names:∀ y ∈ scope.names,y.2 = .local→scope.names.lookup y.1=some .local
  free:∀ y ∈ scope.names,y.2 = .free→X.env.kindOf y.1=some .cell∨X.env.kindOf y.1=some .free
  len:ix.length + n=N'.length
  take:∀ (j i:Nat),ix[j]?=some i→∃ x,N'[j]?=some x∧X.N[i]?=some x∧scope.names.lookup x=some .free
  tgt:∀ (cl:List (Str × Addr)) (C:Addr) (s:Shared) (H:Hp) (fp:List Addr) (pins:List (Addr × Obj)),PG (X.comp scope cl C N' s H fp pins) tg g
  elt:∀ (cl:List (Str × Addr)) (C:Addr) (s:Shared) (H:Hp) (fp:List Addr) (pins:List (Addr × Obj)),PE (X.comp scope cl C N' s H fp pins) elt te
  test:(ifs = []∧tc=none)∨∃ c t,ifs = [c]∧tc=some t∧∀ (cl:List (Str × Addr)) (C:Addr) (s:Shared) (H:Hp) (fp:List Addr) (pins:List (Addr × Obj)),PT (X.comp scope cl C N' s H fp pins) c t
theorem zcN {env:Env}:∀ {names:List (Str × NameKind)} {x:Str},names.lookup x=some .free →
    (names.map fun (n,k)=>if (k == NameKind.free && env.scope.kind == .function && env.kindOf n == some .cell) then (n,NameKind.cell) else (n,k)).lookup x=some .cell ∨
    (names.map fun (n,k)=>if (k == NameKind.free && env.scope.kind == .function && env.kindOf n == some .cell) then (n,NameKind.cell) else (n,k)).lookup x=some .free
  | [],_,h=>by simp at h
  | (n,k) :: r,x,h=>by
    have ih:=@zcN env r x
    show List.lookup x ((if (k == NameKind.free && env.scope.kind == .function && env.kindOf n == some .cell)=true then (n,NameKind.cell) else (n,k)) :: _)=_∨List.lookup x ((if (k == NameKind.free && env.scope.kind == .function && env.kindOf n == some .cell)=true then (n,NameKind.cell) else (n,k)) :: _)=_
    cases hx:x == n with
    | true =>
      simp only [List.lookup_cons,hx] at h
      cases h
      by_cases hc:(NameKind.free == NameKind.free && env.scope.kind == .function && env.kindOf n == some .cell)=true
      · rw [if_pos hc]; left; simp only [List.lookup_cons,hx]
      · rw [if_neg hc]; right; simp only [List.lookup_cons,hx]
    | false =>
      simp only [List.lookup_cons,hx] at h
      by_cases hc:(k == NameKind.free && env.scope.kind == .function && env.kindOf n == some .cell)=true
      · rw [if_pos hc]; simp only [List.lookup_cons,hx]; exact ih h
      · rw [if_neg hc]; simp only [List.lookup_cons,hx]; exact ih h
theorem zfA {env:Env}:∀ {names:List (Str × NameKind)} {x:Str},
    ((names.map fun (n,k)=>if (k == NameKind.free && env.scope.kind == .function && env.kindOf n == some .cell) then (n,NameKind.cell) else (n,k)).lookup x=some .cell ∨
    (names.map fun (n,k)=>if (k == NameKind.free && env.scope.kind == .function && env.kindOf n == some .cell) then (n,NameKind.cell) else (n,k)).lookup x=some .free)→(x,NameKind.free) ∈ names∨(names.lookup x=some .cell∧(x,NameKind.cell) ∈ names)
  | [],_,h=>by simp at h
  | (n,k) :: r,x,h=>by
    have ih:=@zfA env r x
    cases hx:x == n with
    | true =>
      have e:x=n:=by simpa using hx
      subst e
      by_cases hc:(k == NameKind.free && env.scope.kind == .function && env.kindOf x == some .cell)=true
      · have hk:k = .free:=by
          have:(k == NameKind.free)=true:=by
            simp only [Bool.and_eq_true] at hc
            exact hc.1.1
          simpa using this
        subst hk
        exact .inl List.mem_cons_self
      · rw [List.map_cons] at h
        have e2:(match (x,k) with | (n,k)=>if (k == NameKind.free && env.scope.kind == .function && env.kindOf n == some .cell)=true then (n,NameKind.cell) else (n,k))=(x,k):=if_neg hc
        rw [e2] at h
        simp only [List.lookup_cons,beq_self_eq_true] at h
        rcases h with h | h
        · cases h; exact .inr ⟨by simp only [List.lookup_cons,beq_self_eq_true],List.mem_cons_self⟩
        · cases h; exact .inl List.mem_cons_self
    | false =>
      refine (ih ?_).imp (List.mem_cons_of_mem _) fun z=>⟨by simp only [List.lookup_cons,hx]; exact z.1,List.mem_cons_of_mem _ z.2⟩
      rw [List.map_cons] at h
      by_cases hc:(k == NameKind.free && env.scope.kind == .function && env.kindOf n == some .cell)=true
      · have e2:(match (n,k) with | (n,k)=>if (k == NameKind.free && env.scope.kind == .function && env.kindOf n == some .cell)=true then (n,NameKind.cell) else (n,k))=(n,NameKind.cell):=if_pos hc
        rw [e2] at h
        simpa only [List.lookup_cons,hx] using h
      · have e2:(match (n,k) with | (n,k)=>if (k == NameKind.free && env.scope.kind == .function && env.kindOf n == some .cell)=true then (n,NameKind.cell) else (n,k))=(n,k):=if_neg hc
        rw [e2] at h
        simpa only [List.lookup_cons,hx] using h
theorem zdG {x:Str} {c:Addr}:∀ (names:List (Str × NameKind)) (n:Nat) (acc:List (Str × Addr)),(x,NameKind.cell) ∈ names→(cellsFrom n names acc).lookup x=some c→(∀ y,acc.lookup x=some y→n ≤ y∨True)→n ≤ c
  | [],_,_,h,_,_=>by cases h
  | (y,k) :: r,n,acc,h,e,_=>by
    unfold cellsFrom at e
    by_cases hr:(x,NameKind.cell) ∈ r
    · split at e
      · exact Nat.le_of_succ_le (zdG r (n + 1) _ hr e fun _ _=>.inr trivial)
      · exact zdG r n _ hr e fun _ _=>.inr trivial
    · rcases List.mem_cons.mp h with z | z
      · cases z
        rw [if_pos (by rfl)] at e
        have key:∀ (r:List (Str × NameKind)) (n':Nat) (acc:List (Str × Addr)),(x,NameKind.cell) ∉ r→(cellsFrom n' r acc).lookup x=acc.lookup x:=by
          intro r
          induction r with
          | nil=>intro _ _ _; rfl
          | cons p r ih =>
            intro n' acc hp
            obtain ⟨y',k'⟩:=p
            unfold cellsFrom
            split
            · rename_i hk
              have hk':k' = .cell:=by simpa using hk
              subst hk'
              have ne:¬ x=y':=fun z=>hp (by rw [z]; exact List.mem_cons_self)
              rw [ih _ _ fun z=>hp (List.mem_cons_of_mem _ z),List.lookup_cons,show (x == y')=false by simpa using ne]
            · exact ih _ _ fun z=>hp (List.mem_cons_of_mem _ z)
        rw [key r _ _ hr] at e
        simp only [List.lookup_cons,beq_self_eq_true] at e
        cases e; exact Nat.le_refl _
      · exact absurd z hr
theorem zcK {x:Str}:∀ (names:List (Str × NameKind)) (n:Nat) (acc:List (Str × Addr)),(x,NameKind.cell) ∉ names→(cellsFrom n names acc).lookup x=acc.lookup x
  | [],_,_,_=>rfl
  | (y,k) :: r,n,acc,h=>by
    unfold cellsFrom
    split
    · rename_i hk
      have hk':k = .cell:=by simpa using hk
      subst hk'
      have ne:¬ x=y:=fun z=>h (by rw [z]; exact List.mem_cons_self)
      rw [zcK r _ _ fun z=>h (List.mem_cons_of_mem _ z),List.lookup_cons,show (x == y)=false by simpa using ne]
    · exact zcK r _ _ fun z=>h (List.mem_cons_of_mem _ z)
theorem zdD:∀ (names:List (Str × NameKind)) (n:Nat) (acc:List (Str × Addr)),(∀ x c,acc.lookup x=some c→c < n)→(∀ x y c,acc.lookup x=some c→acc.lookup y=some c→x=y) →
    ∀ x y c,(cellsFrom n names acc).lookup x=some c→(cellsFrom n names acc).lookup y=some c→x=y
  | [],_,_,_,h=>h
  | (z,k) :: r,n,acc,h1,h2=>by
    unfold cellsFrom
    split
    · have lk:∀ x c,((z,n) :: acc).lookup x=some c→(x=z∧c=n)∨acc.lookup x=some c:=fun x c h=>by
        rw [List.lookup_cons] at h
        cases hb:x == z with
        | true=>rw [hb] at h; cases h; exact .inl ⟨by simpa using hb,rfl⟩
        | false=>rw [hb] at h; exact .inr h
      refine zdD r (n + 1) _ (fun x c h=>?_) fun x y c e1 e2=>?_
      · rcases lk x c h with ⟨_,z⟩ | z
        · rw [z]; exact Nat.lt_succ_self _
        · exact Nat.lt_succ_of_lt (h1 x c z)
      · rcases lk x c e1 with ⟨a1,a2⟩ | a <;> rcases lk y c e2 with ⟨b1,b2⟩ | b
        · rw [a1,b1]
        · have:=h1 y c b; rw [a2] at this; exact absurd this (Nat.lt_irrefl _)
        · have:=h1 x c a; rw [b2] at this; exact absurd this (Nat.lt_irrefl _)
        · exact h2 x y c a b
    · exact zdD r n acc h1 h2
theorem ziL {M:Model} {A:Around} {E:Value→Shared→Prop} {s:Shared} {scope:Scope} {globals:Addr} {cl:List (Str × Addr)} {qual:Str} {env:Env} {Q:Env→Shared→Prop}
    (hQ:Q (newEnv scope s.heap.objs.size globals (cellsFrom (s.heap.objs.size + 1) scope.names cl) qual none .none (some env) builtinsNs) { s with heap:=pushCells (s.heap.push { cls:=.type "dict",data:=.dict #[] }) scope.names }) :
    wpAny M A (newFunctionEnv scope globals cl [] qual none .none (some env)) Q E s:=by
  simp only [newFunctionEnv,Option.isSome_some,if_true]
  refine wpAny_bind (wpAny_alloc ?_)
  refine wpAny_bind (wpAny_layCells _ (fun name kind cells=>by cases hkc:kind == NameKind.cell <;> simp [hkc]) _ _ _ _ ?_)
  rw [show ({ s with heap:=s.heap.push { cls:=.type "dict",data:=.dict #[] } }:Shared).heap.objs.size=s.heap.objs.size + 1 from Heap.size_push ..]
  refine wpAny_bind ?_
  rw [List.forIn_nil]
  exact wpAny_pure (wpAny_pure hQ)
section
variable {X:Cx} {scope:Scope} {N':List Str} {ix:List Nat} {n:Nat} {tg elt iter:Expr} {ifs:List Expr} {g:TG} {tc:Option TT} {te:TE} {pos:Pos}
theorem zkc {pins:List (Addr × Obj)} {σ:St} {H:Hp} {s:Shared} {fp:List Addr} {cl:List (Str × Addr)} {h1:Heap} {tk:Nat} {m:Str→Option Value} (B:CompOk X scope N' ix n tg elt ifs g tc te) (I:Inv X pins σ H s)
    (hf:∀ b ∈ fp,FpOk X pins H b) (hfo:∀ b ∈ fp,∃ o,s.heap.get? b=some o) (hcl:∀ x c,cl.lookup x=some c→X.env.cells.lookup x=some c∨(s.heap.objs.size + 1 < c∧∃ v,h1.IsCell c v)) (hcf:∀ y ∈ scope.names,y.2 = .free→cl.lookup y.1=X.env.cells.lookup y.1)
    (hinj:∀ x y c,cl.lookup x=some c→cl.lookup y=some c→x=y) (hown:∀ x,scope.names.lookup x=some .cell→∃ c,cl.lookup x=some c) (hnew:∀ x c,scope.names.lookup x=some .cell→cl.lookup x=some c→s.heap.objs.size + 1 < c)
    (hk:∀ b o,s.heap.get? b=some o→h1.get? b=some o) (hD:h1.get? s.heap.objs.size=some { cls:=.type "list",data:=.seq #[] 0 }) (hC:h1.Ns (s.heap.objs.size + 1) m) :
    Inv (X.comp scope cl (s.heap.objs.size + 1) N' s H fp pins) [] (zcQ σ ix n) (upd H s.heap.objs.size (.lst [])) { s with heap:=h1,toks:=tk }:=by
  have hn:H s.heap.objs.size=none:=I.hok.fresh (Nat.le_refl _)
  have lt:∀ {b:Addr} {o:Obj},s.heap.get? b=some o→b ≠ s.heap.objs.size∧b ≠ s.heap.objs.size + 1:=fun e=>⟨Nat.ne_of_lt (Heap.lt_size e),Nat.ne_of_lt (Nat.lt_succ_of_lt (Heap.lt_size e))⟩
  have cellLt:∀ x c,X.env.cells.lookup x=some c→c < s.heap.objs.size:=fun x c e=>by
    obtain ⟨v,o,ho,_⟩:=I.cell x c e
    exact Heap.lt_size ho
  have fpLt:∀ b ∈ fp,b ≠ s.heap.objs.size + 1:=fun b hb=>by
    obtain ⟨o,e⟩:=hfo b hb
    exact (lt e).2
  · have keep:Un (frs X.stack) fp H (upd H s.heap.objs.size (.lst [])) s.heap h1:=Un.laid hk (Nat.le_refl _) hn
    refine ⟨⟨I.ok.mod, ?_, I.ok.glob, I.ok.blt, Nat.le_succ _, hinj, fun x hx => ?_, fun x c z e => Nat.le_of_lt (Nat.lt_trans (Nat.lt_succ_self _) (hnew x c (by simpa using (show (scope.names.lookup x == some NameKind.cell) = true from z)) e)), I.ok.hd, I.ok.frames, .inl rfl, fun b hb => ⟨fpLt b hb, fun x c e => (hcl x c e).elim (fun z => (hf b hb).2.2.2.2.1 x c z) fun z w => by
          obtain ⟨o,ho⟩:=hfo b hb
          have:=Heap.lt_size ho
          rw [← w] at this; exact Nat.lt_irrefl _ (Nat.lt_trans (Nat.lt_trans (Nat.lt_succ_self _) z.1) this)⟩,
        I.bs,Nat.le_trans I.ok.bsz I.sz,fun b o e hb=>?_,fun b hb z=>?_,I.stack,I.stkFree,I.ok.tb.grown I.base.tbls⟩,
      rfl,I.bare,keep,⟨m,hC,fun i x v e1 e2 e3=>?_⟩,fun x c e=>?_,?_,fun x c e=>?_,fun p hp=>?_,?_,?_⟩
    · show (relabel scope X.env).kind = .function
      exact B.kind
    · show ∃ c,cl.lookup x=some c
      rcases zfA hx with hx' | hx'
      case inr=>exact hown x hx'.1
      have z:=hcf _ hx' rfl
      dsimp only at z
      rw [z]
      exact I.ok.has x (B.free _ hx' rfl)
    · obtain ⟨_,_,_,f3,_⟩:=hf b hb
      rcases f3 with z | z
      · exact I.ok.noex b o e z
      · exact absurd (Nat.lt_of_lt_of_le (Heap.lt_size e) (Nat.le_trans I.ok.bsz z)) (Nat.lt_irrefl _)
    · rcases List.mem_cons.mp (I.stkSub b z) with e | e
      · exact (hf b hb).2.1 e
      · exact (hf b hb).2.2.1 e
    · have hj:i < ix.length:=by
        unfold zcQ at e2
        by_cases hj:i < ix.length
        · exact hj
        · rw [List.getElem?_append_right (by simpa using hj),List.getElem?_replicate] at e2
          split at e2 <;> cases e2
      obtain ⟨j,hj2⟩:∃ j,ix[i]?=some j:=⟨ix[i],by simp [hj]⟩
      obtain ⟨y,y1,y2,y3⟩:=B.take i j hj2
      have exy:x=y:=by
        have z:N'[i]?=some x:=e1
        rw [y1] at z
        exact (Option.some.inj z).symm
      subst exy
      have ev:σ[j]?=some (some v):=by
        unfold zcQ at e2
        rw [List.getElem?_append_left (by simpa using hj),List.getElem?_map,hj2] at e2
        have z:(σ[j]?).getD none=some v:=Option.some.inj e2
        cases q:σ[j]? with
        | none=>rw [q] at z; cases z
        | some w=>rw [q] at z; exact congrArg some z
      obtain ⟨m0,hn0,hl⟩:=I.loc
      have hm:(x,NameKind.free) ∈ scope.names:=PySem.mem_of_lookup y3
      have kx:=B.free _ hm rfl
      have vis:Vis X.env.scope x:=kx.elim (fun z=>.inr (.inl z)) fun z=>.inr (.inr z)
      obtain ⟨u,ru,lu⟩:=hl j x v y2 ev vis
      refine ⟨u,ru,.inr ⟨?_,?_⟩⟩
      · exact zcN y3
      · rcases lu with ⟨z,_⟩ | ⟨_,c,hc,hcell⟩
        · rcases kx with w | w <;> (rw [w] at z; cases z)
        · refine ⟨c,?_,?_⟩
          · show cl.lookup x=some c
            rw [hcf _ hm rfl]
            exact hc
          · obtain ⟨o,ho,hd⟩:=hcell
            exact ⟨o,hk c o ho,hd⟩
    · rcases hcl x c e with z | ⟨_,z⟩
      · obtain ⟨v,o,ho,hd⟩:=I.cell x c z
        exact ⟨v,o,hk c o ho,hd⟩
      · exact z
    · show upd H s.heap.objs.size (.lst []) (s.heap.objs.size + 1)=none
      rw [zar (Nat.succ_ne_self _)]
      exact I.hok.fresh (Nat.le_succ _)
    · rcases hcl x c e with z | ⟨z,_⟩
      · have:=cellLt x c z
        rw [zar (Nat.ne_of_lt this)]
        exact I.freeC x c z
      · rw [zar (Nat.ne_of_gt (Nat.lt_trans (Nat.lt_succ_self _) z))]
        exact I.hok.fresh (Nat.le_of_lt (Nat.lt_trans (Nat.lt_succ_self _) z))
    · rw [List.append_nil] at hp
      obtain ⟨q1,q2,q3,q4,q5⟩:=I.pin p hp
      refine ⟨hk _ _ q1,by rw [zar (lt q1).1]; exact q2,(lt q1).2,fun z=>?_,q5⟩
      rcases List.mem_cons.mp (I.stkSub _ z) with e | e
      · exact q3 e
      · exact q4 e
    · exact I.hok.laid hk (Nat.le_refl _) ⟨Nat.zero_le _,[],0,.nil,hD⟩
    · show (zcQ σ ix n).length=N'.length
      unfold zcQ
      rw [List.length_append,List.length_map,List.length_replicate]
      exact B.len
theorem zk6 {pins:List (Addr × Obj)} {σ σ':St} {H H':Hp} {s s':Shared} {fp:List Addr} {cl:List (Str × Addr)} {C:Addr} (I:Inv X pins σ H s) (hf:∀ b ∈ fp,FpOk X pins H b)
    (J:Inv (X.comp scope cl C N' s H fp pins) [] σ' H' s'):Inv X pins σ H' s':=by
  obtain ⟨hh,g,d,t,os'⟩:=s'
  obtain rfl:os'=s.os:=J.os
  exact I.call (h':=hh) (g':=g) (d':=d) (t':=t) (ch:=fp) J.base J.hok J.bare fun b hb=>⟨(hf b hb).2.2.2.1,(hf b hb).2.1,(hf b hb).2.2.2.2.1,(hf b hb).2.2.2.2.2⟩
theorem ziZ {pins:List (Addr × Obj)} {σ:St} {H:Hp} {s:Shared} {Q:VK} {it:Addr} {fp:List Addr} {tn:Nat→Heap→Prop} {J:It} {cl:List (Str × Addr)} {RR:Value→Addr→Result→Shared→Prop} {E:Value→Shared→Prop}
    (B:CompOk X scope N' ix n tg elt ifs g tc te) (hc:X.calm=true) (I:Inv X pins σ H s) (T:Turn X.prog X.w X.K tg J fp it tn) (st:tn 0 s.heap) (hf:∀ b ∈ fp,FpOk X pins H b)
    (hcl:∀ x c,cl.lookup x=some c→X.env.cells.lookup x=some c) (hcf:∀ y ∈ scope.names,y.2 = .free→cl.lookup y.1=X.env.cells.lookup y.1)
    (body:∀ D,H D=none→znS D J g tc te Q (zcQ σ ix n) (upd H D (.lst [])))
    (hRR:∀ D C H' s' m,Inv X pins σ H' s'→s'.heap.Ns C m→FpOk X pins H' C→Q (.ref D) H'→RR (.ref D) C (.ok .next) s') :
    wpAny (model X.prog X.w) X.A (newList []) (fun acc s₃=>wpAny (model X.prog X.w) X.A (newFunctionEnv scope X.env.globals cl [] X.env.qual none .none (some X.env)) (fun cenv s₄ =>
      codeAny (model X.prog X.w) X.A (.compStart (.ListComp elt [⟨tg,iter,ifs,0⟩] scope pos) 0 (.ref it) acc { cenv with scope:=relabel scope X.env }) (RR acc cenv.locals) s₄) E s₃) E s:=by
  refine wpAny_newObj_type (ziL ?_)
  dsimp only
  generalize hH2:s.heap.push { cls:=.type "list",dict:=none,data:=.seq ([]:List Value).toArray }=H2
  have hC:H2.objs.size=s.heap.objs.size + 1:=by rw [← hH2,Heap.size_push]
  obtain ⟨cs,ecs⟩:∃ cs,cs=cellsFrom (H2.objs.size + 1) scope.names cl:=⟨_,rfl⟩
  rw [← ecs]
  obtain ⟨h₁,eh⟩:∃ h₁,h₁=pushCells (H2.push { cls:=.type "dict",data:=.dict #[] }) scope.names:=⟨_,rfl⟩
  rw [← eh]
  have kp:∀ b o,H2.get? b=some o→h₁.get? b=some o:=fun b o e=>by rw [eh]; exact pushCells_keeps _ _ b o (Heap.get?_push_of_some _ e)
  have hns₁:h₁.Ns H2.objs.size fun _=>none:=by rw [eh]; exact (Heap.Ns.new H2 (.type "dict")).keeps (pushCells_keeps _ _)
  have below:∀ b,b < s.heap.objs.size→b ≠ H2.objs.size:=fun b hb=>by rw [hC]; exact Nat.ne_of_lt (Nat.lt_succ_of_lt hb)
  have old:∀ b o,s.heap.get? b=some o→h₁.get? b=some o:=fun b o e=>kp b o (hH2 ▸ Heap.get?_push_of_some _ e)
  have hacc:h₁.get? s.heap.objs.size=some { cls:=.type "list",data:=.seq #[] 0 }:=kp _ _ (hH2 ▸ Heap.get?_push_size _ rfl)
  have clt:∀ x c,cl.lookup x=some c→c < s.heap.objs.size:=fun x c e=>by
    obtain ⟨v,o,ho,_⟩:=I.cell x c (hcl x c e)
    exact Heap.lt_size ho
  have own:∀ x c,(x,NameKind.cell) ∈ scope.names→cs.lookup x=some c→s.heap.objs.size + 1 < c:=fun x c h e=>by
    rw [ecs] at e
    have:=zdG scope.names _ cl h e fun _ _=>.inr trivial
    omega
  have hcl2:∀ x c,cs.lookup x=some c→X.env.cells.lookup x=some c∨(s.heap.objs.size + 1 < c∧∃ v,h₁.IsCell c v):=fun x c e=>by
    by_cases hx:(x,NameKind.cell) ∈ scope.names
    · refine .inr ⟨own x c hx e,none,?_⟩
      have okc:=cellsFrom_ok scope.names (H2.push { cls:=.type "dict",data:=.dict #[] }) 0 [] ⟨fun _ _ hm=>(nomatch hm),List.Pairwise.nil⟩ (Nat.zero_le _)
      have e2:(cellsFrom (H2.objs.size + 1) scope.names []).lookup x=some c:=by
        have gen:∀ (names:List (Str × NameKind)) (n:Nat) (acc:List (Str × Addr)),(x,NameKind.cell) ∈ names→(cellsFrom n names acc).lookup x=(cellsFrom n names []).lookup x:=by
          have gen2:∀ (names:List (Str × NameKind)) (n:Nat) (acc acc':List (Str × Addr)),(x,NameKind.cell) ∈ names∨acc.lookup x=acc'.lookup x→(cellsFrom n names acc).lookup x=(cellsFrom n names acc').lookup x:=by
            intro names
            induction names with
            | nil=>intro n acc acc' h; exact h.elim (fun z=>by cases z) id
            | cons p r ih =>
              intro n acc acc' h
              obtain ⟨y,k⟩:=p
              unfold cellsFrom
              split
              · rename_i hk
                have hk':k = .cell:=by simpa using hk
                subst hk'
                refine ih _ _ _ ?_
                by_cases exy:x=y
                · subst exy; exact .inr (by simp only [List.lookup_cons,beq_self_eq_true])
                · rcases h with z | z
                  · rcases List.mem_cons.mp z with w | w
                    · cases w; exact absurd rfl exy
                    · exact .inl w
                  · exact .inr (by simp only [List.lookup_cons,show (x == y)=false by simpa using exy]; exact z)
              · rename_i hk
                refine ih _ _ _ ?_
                rcases h with z | z
                · rcases List.mem_cons.mp z with w | w
                  · cases w; exact absurd rfl hk
                  · exact .inl w
                · exact .inr z
          exact fun names n acc h=>gen2 names n acc [] (.inl h)
        rw [← gen scope.names _ cl hx,← ecs]; exact e
      rw [Heap.size_push] at okc
      rw [eh]
      exact (okc.empty x c (PySem.mem_of_lookup e2)).1
    · rw [ecs,zcK _ _ _ hx] at e
      exact .inl (hcl x c e)
  have hcf2:∀ y ∈ scope.names,y.2 = .free→cs.lookup y.1=X.env.cells.lookup y.1:=fun y hy hf=>by
    rw [ecs,zcK _ _ _ (B.nocell y hy hf)]
    exact hcf y hy hf
  have hinj:∀ x y c,cs.lookup x=some c→cs.lookup y=some c→x=y:=by
    rw [ecs]
    exact zdD scope.names _ cl (fun x c e=>Nat.lt_of_lt_of_le (clt x c e) (by rw [hC]; omega)) fun x y c e1 e2=>I.ok.inj x y c (hcl x c e1) (hcl y c e2)
  have hown:∀ x,scope.names.lookup x=some .cell→∃ c,cs.lookup x=some c:=fun x h=>by
    rw [ecs]
    exact Option.isSome_iff_exists.mp (PySem.W.cellsFrom_some scope.names _ cl (.inl h))
  have hnew:∀ x c,scope.names.lookup x=some .cell→cs.lookup x=some c→s.heap.objs.size + 1 < c:=fun x c h e=>own x c (PySem.mem_of_lookup h) e
  have cne:∀ b,b < s.heap.objs.size→(∀ x c,X.env.cells.lookup x=some c→c ≠ b)→∀ x c,cs.lookup x=some c→c ≠ b:=fun b hb hold x c e z=>by
    rcases hcl2 x c e with w | ⟨w,_⟩
    · exact hold x c w z
    · rw [z] at w; exact Nat.lt_irrefl _ (Nat.lt_trans (Nat.lt_trans (Nat.lt_succ_self _) w) hb)
  have hfo:∀ b ∈ fp,∃ o,s.heap.get? b=some o:=fun b hb=>let ⟨o,e,_⟩:=T.obj 0 _ st b hb; ⟨o,e⟩
  have st1:tn 0 h₁:=T.keep 0 _ _ st fun b _ o e=>old b o e
  have hD0:H s.heap.objs.size=none:=I.hok.fresh (Nat.le_refl _)
  obtain ⟨W,⟨m0,w0⟩,turn⟩:=body _ hD0
  have J0:Inv (X.comp scope cs H2.objs.size N' s H fp pins) [] (zcQ σ ix n) (upd H s.heap.objs.size (.lst [])) { s with heap:=h₁ }:=by
    rw [hC] at hns₁ ⊢
    exact zkc (tk:=s.toks) B I hf hfo hcl2 hcf2 hinj hown hnew old hacc hns₁
  have fpOk:∀ {H':Hp},(∀ b ∈ fp,H' b=none)→∀ b ∈ fp,FpOk (X.comp scope cs H2.objs.size N' s H fp pins) [] H' b:=fun hn b hb=>by
    obtain ⟨f0,f1,f2,f3,f4,f5⟩:=hf b hb
    obtain ⟨o,e⟩:=hfo b hb
    refine ⟨hn b hb,below b (Heap.lt_size e),fun z=>?_,.inl hb,cne b (Heap.lt_size e) f4,fun p hp=>f5 p ?_⟩
    · rcases List.mem_cons.mp (I.stkSub b z) with q | q
      · exact f1 q
      · exact f2 q
    · rw [List.append_nil] at hp
      exact hp
  have fp0:∀ b ∈ fp,upd H s.heap.objs.size (.lst []) b=none:=fun b hb=>by
    obtain ⟨o,e⟩:=hfo b hb
    rw [zar (Nat.ne_of_lt (Heap.lt_size e))]
    exact (hf b hb).1
  have loop:∀ s₃:Shared,s₃ = { s with heap:=h₁ } →
      codeAny (model X.prog X.w) X.A (.compLoop (.ListComp elt [⟨tg,iter,ifs,0⟩] scope pos) 0 (.ref it) (.ref s.heap.objs.size) (compEnvC scope cs H2.objs.size X.env)) (RR (.ref s.heap.objs.size) H2.objs.size) s₃:=by
    rintro s₃ rfl
    refine zif (fun k s'=>∃ i ys σ2 H3,Inv (X.comp scope cs H2.objs.size N' s H fp pins) [] σ2 H3 s'∧tn i s'.heap∧(∀ b ∈ fp,H3 b=none)∧W i k ys σ2 H3) ?_ m0 ⟨0,[],_,_,J0,st1,fp0,w0⟩
    rintro k s3 ⟨i,ys,σ3,H3,I3,st3,fr3,w3⟩
    obtain ⟨hD3,alt⟩:=turn i k ys σ3 H3 w3
    rcases alt with ⟨stop,q⟩ | ⟨go,N,hN,step⟩
    · refine thn (T.done (X.comp scope cs H2.objs.size N' s H fp pins) rfl rfl rfl hc i [] s3 σ3 H3 _ I3 (fpOk fr3) st3 stop) fun r s4 ⟨hr,I4⟩=>?_
      subst hr
      obtain ⟨m4,hn4,_⟩:=I4.loc
      refine hRR _ _ H3 s4 m4 (zk6 I hf I4) hn4 ⟨I4.free,fun z=>?_,fun z=>?_,.inr (Nat.le_trans I.sz (by omega)),fun x c e z=>?_,fun p hp z=>?_⟩ q
      · have lt:=I.lt
        rw [← z,hC] at lt
        exact absurd lt (Nat.not_lt.mpr (Nat.le_succ _))
      · exact I.nofs (show s.heap.objs.size ≤ H2.objs.size by omega) z
      · obtain ⟨v,o,ho,_⟩:=I.cell x c e
        have lt:=Heap.lt_size ho
        rw [z,hC] at lt
        exact absurd lt (Nat.not_lt.mpr (Nat.le_succ _))
      · have lt:=Heap.lt_size (I.pin p hp).1
        rw [z,hC] at lt
        exact absurd lt (Nat.not_lt.mpr (Nat.le_succ _))
    · refine thn (T.item (X.comp scope cs H2.objs.size N' s H fp pins) rfl rfl rfl hc i [] s3 σ3 H3 _ I3 (fpOk fr3) st3 go) fun r s4 ⟨u,hr,h4⟩=>?_
      subst hr
      refine thn h4 fun _ s5 ⟨x,H5,I5,r5,y5,st5,fr5⟩=>?_
      have I5':=I5.pinned (fpOk fr5) (T.obj _ _ st5)
      have back:∀ {σ7:St} {H7:Hp} {s7:Shared} {ys':List V},Inv (X.comp scope cs H2.objs.size N' s H fp pins) ([] ++ zgz fp s5.heap) σ7 H7 s7→N ys' σ7 H7 →
          ∃ m,m < k∧∃ i ys σ2 H3,Inv (X.comp scope cs H2.objs.size N' s H fp pins) [] σ2 H3 s7∧tn i s7.heap∧(∀ b ∈ fp,H3 b=none)∧W i m ys σ2 H3:=fun {σ7 H7 s7 ys'} I7 n7=>by
        obtain ⟨m',hm,w7⟩:=hN ys' σ7 H7 n7
        refine ⟨m',hm,i + 1,ys',σ7,H7,I7.unpinned,T.keep _ _ _ st5 fun b hb o e=>(I7.pin (b,o) (List.mem_append_right _ (List.mem_append_right _ (zdo hb e)))).1,fun b hb=>?_,w7⟩
        obtain ⟨o,e,d⟩:=T.obj _ _ st5 b hb
        exact (I7.pin (b,o) (List.mem_append_right _ (List.mem_append_right _ (zdo hb e)))).2.1
      refine thn (B.tgt cs H2.objs.size s H fp pins _ s5 σ3 H5 x u _ I5' r5 (step x H5 y5)) fun _ s6 ⟨σ6,H6,I6,q6⟩=>?_
      have fin:∀ (b:Bool) (s7:Shared),TP (X.comp scope cs H2.objs.size N' s H fp pins) ([] ++ zgz fp s5.heap) σ6
          (fun b H4=>if b=true then te σ6 H4 fun y H5=>H5 s.heap.objs.size=some (.lst ys)∧ys.length < sizeLine∧N (ys ++ [y]) σ6 (upd H5 s.heap.objs.size (.lst (ys ++ [y]))) else N ys σ6 H4) b s7 →
          if b=true then wpAny (model X.prog X.w) X.A (eval elt (compEnvC scope cs H2.objs.size X.env)) (fun x s₄ =>
              wpAny (model X.prog X.w) X.A (call (.builtin "list.append") [.ref s.heap.objs.size,x]) (fun _ s₅=>∃ m,m < k∧∃ i ys σ2 H3,Inv (X.comp scope cs H2.objs.size N' s H fp pins) [] σ2 H3 s₅∧tn i s₅.heap∧(∀ b ∈ fp,H3 b=none)∧W i m ys σ2 H3) (fun _ _=>False) s₄) (fun _ _=>False) s7
            else ∃ m,m < k∧∃ i ys σ2 H3,Inv (X.comp scope cs H2.objs.size N' s H fp pins) [] σ2 H3 s7∧tn i s7.heap∧(∀ b ∈ fp,H3 b=none)∧W i m ys σ2 H3:=by
        rintro b s7 ⟨H7,I7,q7⟩
        cases b with
        | false =>
          rw [if_neg Bool.false_ne_true] at q7 ⊢
          exact back I7 q7
        | true =>
          rw [if_pos rfl] at q7 ⊢
          refine thn (B.elt cs H2.objs.size s H fp pins _ s7 σ6 H7 _ I7 q7) fun y s8 ⟨yv,H8,I8,r8,hD8,hz,n8⟩=>?_
          refine thn (zfe _ s8 σ6 H8 (.ref s.heap.objs.size) [yv] (.ref s.heap.objs.size) [y] (fun _ H9=>N (ys ++ [yv]) σ6 H9) I8 rfl (.cons r8 .nil) ⟨_,ys,yv,rfl,rfl,hD8,hz,n8⟩) fun _ s9 ⟨_,H9,I9,_,n9⟩=>?_
          exact back I9 n9
      rcases B.test with ⟨e1,e2⟩ | ⟨c,t,e1,e2,ht⟩
      · subst e1; subst e2
        exact wpAny_tests_nil (fin true s6 ⟨H6,I6,q6⟩)
      · subst e1; subst e2
        exact wpAny_tests_one (thn (ht cs H2.objs.size s H fp pins _ s6 σ6 H6 _ I6 q6) fun b s7 z=>fin b s7 z)
  exact codeAny_compStart_list (loop _ rfl) (T.self X.A 0 _ _ _ st1 (loop _ rfl))
theorem zcc {wi:TI} (hc:X.calm=true) (hi:PI X tg iter wi) (B:CompOk X scope N' ix n tg elt ifs g tc te) (hs:∀ x,foldedSetIterable iter X.env x=pure x:=by intro _; rfl) :
    PE X (.ListComp elt [⟨tg,iter,ifs,0⟩] scope pos) (zmb wi ix n g tc te):=by
  intro pins s σ H Q I h
  rw [eval_ListComp]
  obtain ⟨cl,hclos,hcl,hcf⟩:=ze1 (scope:=scope) (env:=X.env) fun y hy hf=>I.ok.has _ (B.free y hy hf)
  refine wpAny_comprehension_free (use:=none) rfl hs hclos B.kind B.names (thn (hi pins s σ H _ I h) fun v s1 h1=>thn h1 fun itv s2 h2=>?_)
  obtain ⟨it,fp,tn,J,H2,rfl,I2,T,st2,f2,body⟩:=h2
  refine ziZ (RR:=fun acc C=>compPost (model X.prog X.w) X.A X.xe none (EP X pins σ Q) acc C) B hc I2 T st2 f2 hcl hcf body fun D C H' s' m I' hn hC q=>⟨m,hn,fun h' hs'=>?_⟩
  obtain ⟨f0,f1,f2',f3,f4,f5⟩:=hC
  exact ⟨.ref D,H',I'.turned (t':=s'.toks) (fun b o hb e=>(hs'.2 b hb).trans e) f0 f1 f3 f4 f5,rfl,q⟩
theorem ziT {wi:TI} {i:Nat} {y:Str} {py spos:Pos} (hN:X.N.Nodup) (hiN:X.N[i]?=some y) (hy:Loc X.env.scope y) (hc:X.calm=true) (hi:PI X tg iter wi) (B:CompOk X scope N' ix n tg elt ifs g tc te)
    (hsw:swapsWith (.ListComp elt [⟨tg,iter,ifs,0⟩] scope pos) (some (.Name y py)) spos.line X.env=pure true) (hf:X.fn y=true∨X.env.scope.names.lookup y=some .local:=by first | exact .inl rfl | exact .inr rfl | assumption)
    (hs:∀ x,foldedSetIterable iter X.env x=pure x:=by intro _; rfl) :
    PS X (.Assign [.Name y py] (.ListComp elt [⟨tg,iter,ifs,0⟩] scope pos) spos) (tAsg (zmb wi ix n g tc te) (zfN i)):=by
  intro pins s σ H D I h
  rw [exec_Assign_Name_used _ _ _ _ hsw]
  refine wpAny_bind (wpAny_standAt (wpAny_bind ?_))
  show wpAny _ X.A (do let _ ← comprehension (.ListComp elt [⟨tg,iter,ifs,0⟩] scope pos) scope X.env _ (newList []) false (eval iter X.env) (some (assign (.Name y py) X.env))) _ _ s
  obtain ⟨cl,hclos,hcl,hcf⟩:=ze1 (scope:=scope) (env:=X.env) fun y hy hf=>I.ok.has _ (B.free y hy hf)
  refine wpAny_bind (wpAny_mono (wpAny_comprehension_free (use:=some (assign (.Name y py) X.env)) (Q:=fun _ s'=>SP X pins D .next s') rfl hs hclos B.kind B.names
    (thn (hi pins s σ H _ I h) fun v s1 h1=>thn h1 fun itv s2 h2=>?_)) (fun _ s' hq=>wpAny_pure (wpAny_pure hq)) fun _ _ e=>e)
  obtain ⟨it,fp,tn,J,H2,rfl,I2,T,st2,f2,body⟩:=h2
  refine ziZ (Q:=fun x H1=>zfN i x σ H1 D.nx) (RR:=fun acc C=>compPost (model X.prog X.w) X.A X.xe (some (assign (.Name y py) X.env)) (fun _ s'=>SP X pins D .next s') acc C) B hc I2 T st2 f2 hcl hcf body fun D' C H' s' m I' hn hC q=>?_
  obtain ⟨f0,f1,f2',f3,f4,f5⟩:=hC
  have Ip := I'.pinned (fp := [C]) (fun b hb => by have e : b = C := by simpa using hb
                                                   subst e; exact ⟨f0,f1,f2',f3,f4,f5⟩) (fun b hb=>by
    have e:b=C:=by simpa using hb
    subst e
    obtain ⟨o,es,ep,ho,hd,_⟩:=hn
    exact ⟨o,ho,fun v z=>by rw [hd] at z; cases z⟩)
  refine wpAny_assign_Name (zeh Ip hN hiN hy (v:=.ref D') rfl (fun s'' I''=>?_) hf)
  obtain ⟨o,es,ep,ho,hd,hr⟩:=hn
  have pinC:=I''.pin (C,o) (List.mem_append_right _ (List.mem_append_right _ (zdo (by simp) ho)))
  refine ⟨m,⟨o,es,ep,pinC.1,hd,hr⟩,fun h' hs'=>?_⟩
  exact ⟨_,H',(I''.unpinned).turned (t':=s''.toks) (fun b o hb e=>(hs'.2 b hb).trans e) pinC.2.1 f1 f3 f4 f5,q⟩
end
end L2
namespace L2
open PySem PySem.Spec PyProof.Rows
section
variable {X:Cx} {scope:Scope} {tg elt:Expr} {ifs:List Expr} {g:TG} {tc:Option TT} {te:TE}
theorem zcm (osc:Scope) (oN N':List Str) (ix:List Nat) (n:Nat) (hosc:X.env.scope=osc) (hoN:X.N=oN) (kind:scope.kind = .function) (nocell:(scope.names.all fun y=>y.2 != .free || scope.names.all fun z=>!(z.1 == y.1) || z.2 != .cell)=true) (names:∀ y ∈ scope.names,y.2 = .local→scope.names.lookup y.1=some .local)
    (free:(scope.names.all fun y=>y.2 != .free || (osc.names.lookup y.1 == some .cell || osc.names.lookup y.1 == some .free))=true) (len:ix.length + n=N'.length)
    (take:((List.range ix.length).all fun j=>match N'[j]?,oN[ix.getD j 0]? with | some x,some y=>x == y && scope.names.lookup x == some .free | _,_=>false)=true)
    (tgt:∀ (cl:List (Str × Addr)) (C:Addr) (s:Shared) (H:Hp) (fp:List Addr) (pins:List (Addr × Obj)),PG (X.comp scope cl C N' s H fp pins) tg g)
    (elt':∀ (cl:List (Str × Addr)) (C:Addr) (s:Shared) (H:Hp) (fp:List Addr) (pins:List (Addr × Obj)),PE (X.comp scope cl C N' s H fp pins) elt te)
    (test:(ifs = []∧tc=none)∨∃ c t,ifs = [c]∧tc=some t∧∀ (cl:List (Str × Addr)) (C:Addr) (s:Shared) (H:Hp) (fp:List Addr) (pins:List (Addr × Obj)),PT (X.comp scope cl C N' s H fp pins) c t) :
    CompOk X scope N' ix n tg elt ifs g tc te :=
  ⟨kind,fun y hy e hc=>by
    have z:=List.all_eq_true.mp nocell y hy
    rw [e] at z
    have z2:(scope.names.all fun w=>!(w.1 == y.1) || w.2 != .cell)=true:=by simpa using z
    have z3:=List.all_eq_true.mp z2 _ hc
    simp at z3,names,fun y hy e=>by
    have z:=List.all_eq_true.mp free y hy
    rw [e] at z
    have z':(osc.names.lookup y.1 == some .cell || osc.names.lookup y.1 == some .free)=true:=by simpa using z
    show X.env.scope.names.lookup y.1=_∨X.env.scope.names.lookup y.1=_
    rw [hosc]
    simpa using z',len,fun j i e=>by
    obtain ⟨hj,_⟩:=List.getElem?_eq_some_iff.mp e
    have e2:ix.getD j 0=i:=by
      rw [List.getD_eq_getElem?_getD,e]
      rfl
    have z:=List.all_eq_true.mp take j (List.mem_range.mpr hj)
    rw [e2] at z
    cases h1:N'[j]? with
    | none=>rw [h1] at z; cases z
    | some x =>
      cases h2:oN[i]? with
      | none=>rw [h1,h2] at z; cases z
      | some y =>
        rw [h1,h2] at z
        have z':x=y∧scope.names.lookup x=some .free:=by simpa using z
        obtain ⟨rfl,z2⟩:=z'
        exact ⟨x,rfl,by rw [hoN]; exact h2,z2⟩,tgt,elt',test⟩
end
structure Has (P:Program) (w:World) (K:PySem.W.Frag) (mg:Str→Option Value) (base:Heap) (CX:CXT) (k:Nat) (x:Str) (ps:List Str) (sp:Sp):Prop where
  ex:∃ (f:Addr) (fd:FuncData),FnOk P w K mg base CX k f fd ps sp∧mg x=some (.ref f)∧PySem.W.keepIn K (.ref f)=true∧Binds K fd ps []
section
variable {X:Cx} {CX:CXT} {k:Nat} {x:Str} {ps:List Str} {sp:Sp} {E:XK} {p pos:Pos} {e:Expr} {es:List Expr} {t:TA}
theorem zaW (G:Has X.prog X.w X.K X.mg X.base CX k x ps sp) (hr:Room k X.A) (hg:Gl X x) (hx:zdI CX X E)
    (ha:PA X (e :: es) t) (hdb:(x == ("__debug__" : Str))=false:=by decide) (he:starEach (e :: es) X.env=(false,eval e X.env) :: starEach es X.env:=by rfl) (hpl:(backTo pos (starEach es X.env)).any (·.1)=false:=by rfl) :
    PE X (.Call (.Name x p) (e :: es) [] pos) (zjI sp [] E t):=by
  obtain ⟨f,fd,F,hm,hk,hb⟩:=G.ex
  exact znM F hr hg hm hk hb .nil hx ha hdb he hpl
end
structure DefAt (K:PySem.W.Frag) (x:Str) (st:Stmt) (f:Addr) (fd:FuncData):Prop where
  ns:PySem.W.nsIn K mainGlobals x=some (some (.ref f))
  fn:Fun K x x st f fd
theorem defAt_mk {K:PySem.W.Frag} {x:Str} {st:Stmt} {f:Addr} {oc:Value} {od an:Option Addr} {osl:Array (Option Value)} {kV doc pm cdv ct:Value} (a:PySem.W.nsIn K mainGlobals x=some (some (.ref f)))
    (l:K.lookup f=some ⟨oc,od,.func (PySem.W.fnOf x x (zdW st) (zc9 st) (zai st) .none kV doc pm an cdv ct),osl⟩) (c:PySem.W.codeIn K cdv x=true) (k:PySem.W.keepIn K (.ref f)=true):∃ f fd,DefAt K x st f fd :=
  ⟨f,_,a,zlJ l c k⟩
theorem DefAt.has {P:Program} {w:World} {K:PySem.W.Frag} {mg:Str→Option Value} {base h:Heap} {CX:CXT} {k:Nat} {x:Str} {st:Stmt} {f:Addr} {fd:FuncData} {ps:List Str} {sp:Sp} (D:DefAt K x st f fd) (X:K.In h) (G:h.Ns mainGlobals mg)
    (ok:FnOk P w K mg base CX k f fd ps sp) (b:Binds K fd ps []):Has P w K mg base CX k x ps sp:=⟨f,fd,ok,PySem.W.mg_of X G D.ns,D.fn.kp,b⟩
theorem zn3 {H:Hp} {a b:Addr} {o u:HO} (hn:H b=none) (h:H a=some o):upd H b u a=some o:=(zar (zaw h hn)).trans h
theorem Same.upd {H:Hp} {b:Addr} {u:HO} (hn:H b=none):Same H (upd H b u):=fun _ _ h=>zn3 hn h
end L2
namespace L2
open PySem PySem.Spec PyProof.Rows
section
variable {X:Cx} {pos:Pos}
end
end L2
namespace L2
open PySem PySem.Spec PyProof.Rows
theorem kit_self {K:PySem.W.Frag} {T:String}:PySem.W.kitOne K (.type T) (.type T)=some true:=by
  unfold PySem.W.kitOne
  rw [if_pos (by simp)]
theorem kit_no {K:PySem.W.Frag} {S T:String} (h1:((Value.type S) == (Value.type T))=false) (h2:PySem.W.kitMeta T=true) (h3:(PySem.fastBuiltinMro S).map (·.contains (.type T))=some false):PySem.W.kitOne K (.type S) (.type T)=some false:=by
  unfold PySem.W.kitOne
  rw [h1,if_neg Bool.false_ne_true]
  show (if PySem.W.kitMeta T=true then PySem.W.subIn K (.type S) (.type T) else none)=some false
  rw [if_pos h2]
  exact h3
theorem kit_int_bool {K:PySem.W.Frag}:PySem.W.kitOne K (.type "int") (.type "bool")=some false:=kit_no (by decide +kernel) (by decide +kernel) (by decide +kernel)
end L2
namespace L2
open PySem PySem.Spec PyProof.Rows
structure Tr (h:Heap) (e T:Addr) (cls:Value) (dct:Option Addr) (fl:Value):Prop where
  ex:∃ (oe:Obj) (vs:Array Value) (oT:Obj) (ts:Array Value),h.get? e=some oe∧oe.cls=cls∧oe.dict=dct∧oe.data = .fields vs∧vs[1]?=some (.ref T)∧h.get? T=some oT∧oT.data = .fields ts∧ts[3]?=some fl
  ne:T ≠ e
structure FlyD (B:Heap) (l:List Env) (e:Addr) (cls:Value) (dct:Option Addr) (fl:Value) (h:Heap):Prop where
  stays:B.StaysIn h
  out:B.get? e=none
  fun':h.FunFrames B l
  tr:∃ T,B.get? T=none∧Tr h e T cls dct fl
theorem Obj.dict_mapFields (o:Obj) (f):(o.mapFields f).dict=o.dict:=by
  obtain ⟨c,d,dt,sl⟩:=o
  cases dt <;> rfl
theorem zcu {h:Heap} {a b:Addr} {o u:Obj} {vs:Array Value} (ha:h.get? a=some o) (hd:o.data = .fields vs) (hb:h.get? b=some u) (hn:∀ ws,u.data ≠ .fields ws):b ≠ a:=by
  intro z
  subst z
  rw [ha] at hb
  cases hb
  exact hn vs hd
section
variable {M:Model} {A:Around} {E:Value→Shared→Prop} {s:Shared} {B:Heap} {env:Env} {outer l:List Env} {L e:Addr} {cls:Value} {dct:Option Addr} {Q:Unit→Shared→Prop}
theorem zmW {oe:Obj} {vs:Array Value} {head:Value} {had:Bool} (hfr:A.frames=some (env :: outer)) (hl:s.heap.FunFrames B (env :: outer)) (hf:env.frame=some L) (he:s.heap.get? e=some oe) (hd:oe.data = .fields vs) (hsz:1 < vs.size)
    (hst:B.StaysIn s.heap) (hen:B.get? e=none) (h:∀ h',FlyD B (env :: outer) e oe.cls oe.dict (rawInt L) h'→s.heap.UpToSlots h'→Q () { s with heap:=h' }) :
    wpAny M A (do let a ← frameOf env; let pl ← entryPlaceOf L had; let b ← EntryCells.newEntry head a .none (rawInt L) .none pl; setField (.ref e) 1 b) Q E s:=by
  have noF:e ∉ (env :: outer).filterMap (·.frame):=fun hm=>by
    obtain ⟨_,o,ho,hn⟩:=hl.mem hm
    exact zcu he hd ho hn rfl
  refine wpAny_bind (wpAny_frameOf_fun hfr hl hf fun h₁ hs₁=>wpAny_bind (wpAny_entryPlaceOf fun pl hpl=>?_))
  have e1:h₁.get? e=some oe:=(hs₁.2.1 e noF).trans he
  have st1:B.StaysIn h₁:=fun b o q=>(hs₁.2.1 b fun hm=>by rw [(hl.mem hm).1] at q; cases q).trans (hst b o q)
  unfold EntryCells.newEntry newFields
  refine wpAny_bind (wpAny_newObj_type ?_ (hpl.sizeOk5 _ _ _ _ _))
  generalize hto:({ cls:=.type "traceback",dict:=none,data:=.fields ([head,.ref L,.none,rawInt L,.none] ++ (if pl.isEmpty then List.replicate 6 Value.none else pl)).toArray }:Obj)=ot
  have td:∃ ts,ot.data = .fields ts∧ts[3]?=some (rawInt L):=by
    subst hto
    refine ⟨_,rfl,?_⟩
    rcases hpl with rfl | ⟨_,_,_,_,_,_,_,rfl⟩ <;> simp
  have nfr:ot.isFreed=false:=by
    obtain ⟨ts,d,_⟩:=td
    exact Obj.isFreed_of_fields d
  have e2:(h₁.push ot).get? e=some oe:=Heap.get?_push_of_some _ e1
  refine wpAny_setField e2 hd hsz (h _ ?_ ?_)
  · have ne1:h₁.objs.size ≠ e:=Nat.ne_of_gt (Heap.lt_size e1)
    have kp:∀ b o,b ≠ e→h₁.get? b=some o→((h₁.push ot).update e (Obj.mapFields (·.setIfInBounds 1 (Value.ref h₁.objs.size)))).get? b=some o:=fun b o hb q=>by
      rw [Heap.get?_update_other _ _ (Ne.symm hb)]
      exact Heap.get?_push_of_some _ q
    have d3:=Obj.data_mapFields hd (·.setIfInBounds 1 (Value.ref h₁.objs.size))
    refine ⟨fun b o q=>kp b o (fun z=>by rw [z,hen] at q; cases q) (st1 b o q),hen,hl.of_keeps fun b o hb hn=>?_,h₁.objs.size,st1.fresh,⟨?_,ne1⟩⟩
    · obtain ⟨sl,q⟩:=hs₁.2.2 b o hb
      exact ⟨_,kp b _ (zcu he hd hb hn) q,rfl⟩
    · obtain ⟨ts,t1,t2⟩:=td
      refine ⟨_,_,ot,ts,Heap.get?_update_self _ e2 (Obj.isFreed_of_fields d3),Obj.cls_mapFields _ _,Obj.dict_mapFields _ _,d3,by simp [hsz],?_,t1,t2⟩
      rw [Heap.get?_update_other _ _ (Ne.symm ne1)]
      exact Heap.get?_push_size _ nfr
  · intro b o hb hn
    obtain ⟨sl,q⟩:=hs₁.2.2 b o hb
    refine ⟨sl,?_⟩
    rw [Heap.get?_update_other _ _ (Ne.symm (zcu he hd hb hn))]
    exact Heap.get?_push_of_some _ q
theorem zl6 {fl:Value} (F:FlyD B l e cls dct fl s.heap) (h:∀ h',FlyD B l e cls dct .none h'→s.heap.UpToSlots h'→Q () { s with heap:=h' }):wpAny M A (setFlight (.ref e) none) Q E s:=by
  obtain ⟨T,bT,⟨oe,vs,oT,ts,he,hc,hdc,hd,h1,hT,hdT,h3⟩,ne⟩:=F.tr
  have sz:3 < ts.size:=(Array.getElem?_eq_some_iff.mp h3).1
  have oth:∀ b o,b ≠ T→s.heap.get? b=some o→(s.heap.update T (Obj.mapFields (·.setIfInBounds 3 Value.none))).get? b=some o:=fun b o hb q=>by
    rw [Heap.get?_update_other _ _ (Ne.symm hb)]
    exact q
  unfold setFlight
  refine wpAny_bind (wpAny_field he hd h1 ?_)
  rw [if_pos (show (Value.ref T != Value.none)=true by simp)]
  refine wpAny_setField hT hdT sz (h _ ⟨fun b o q=>oth b o (fun z=>by rw [z,bT] at q; cases q) (F.stays b o q),F.out,F.fun'.of_keeps fun b o hb hn=>⟨o,oth b o (zcu hT hdT hb hn) hb,rfl⟩,T,bT,⟨?_,ne⟩⟩ fun b o hb hn=>⟨o.slots,oth b o (zcu hT hdT hb hn) hb⟩)
  exact ⟨oe,vs,_,_,oth e oe (Ne.symm ne) he,hc,hdc,hd,h1,Heap.get?_update_self _ hT (Obj.isFreed_of_fields (Obj.data_mapFields hdT _)),Obj.data_mapFields hdT _,by simp [sz]⟩
theorem zl1 {h:Heap} {args:List Value} (hfr:A.frames=some (env :: outer)) (hf:env.frame=some L) (hst:B.StaysIn h) (hl:h.FunFrames B (env :: outer)) (hx:Heap.MadeExcOf h s.heap e cls args)
    (k:∀ h',FlyD B (env :: outer) e cls none (rawInt L) h'→s.heap.UpToSlots h'→Q () { s with heap:=h' }):wpAny M A (noteFrame (.ref e) env) Q E s:=by
  obtain ⟨t,he,_,_⟩:=hx.there
  have oe:B.get? e=none:=by
    cases q:B.get? e with
    | none=>rfl
    | some o=>have z:=hst e o q; rw [hx.new] at z; cases z
  unfold noteFrame
  simp only [hf]
  refine wpAny_bind (wpAny_field he rfl (x:=Value.none) rfl ?_)
  rw [if_neg (by decide)]
  exact zmW hfr (hl.of_keeps fun b o hb _=>⟨o,hx.keeps b o hb,rfl⟩) hf he rfl (by simp) (fun b o q=>hx.keeps b o (hst b o q)) oe k
theorem zm0 (hfr:A.frames=some (env :: outer)) (hf:env.frame=some L) (F:FlyD B (env :: outer) e cls dct .none s.heap)
    (k:∀ h',FlyD B (env :: outer) e cls dct (rawInt L) h'→s.heap.UpToSlots h'→Q () { s with heap:=h' }):wpAny M A (noteFrame (.ref e) env) Q E s:=by
  obtain ⟨T,bT,⟨oe,vs,oT,ts,he,hc,hdc,hd,h1,hT,hdT,h3⟩,ne⟩:=F.tr
  have sz:3 < ts.size:=(Array.getElem?_eq_some_iff.mp h3).1
  have oth:∀ b o,b ≠ T→s.heap.get? b=some o→(s.heap.update T (Obj.mapFields (·.setIfInBounds 3 Value.none))).get? b=some o:=fun b o hb q=>by
    rw [Heap.get?_update_other _ _ (Ne.symm hb)]
    exact q
  subst hc
  subst hdc
  unfold noteFrame
  simp only [hf]
  refine wpAny_bind (wpAny_field he hd h1 ?_)
  rw [if_pos (show (Value.ref T != Value.none)=true by simp)]
  refine wpAny_bind (wpAny_field hT hdT h3 ?_)
  rw [if_neg (show ¬ ((Value.none == rawInt L)=true) by simp [rawInt])]
  refine wpAny_bind (wpAny_setField hT hdT sz ?_)
  refine zmW hfr (F.fun'.of_keeps fun b o hb hn=>⟨o,oth b o (zcu hT hdT hb hn) hb,rfl⟩) hf (oth e oe (Ne.symm ne) he) hd (Array.getElem?_eq_some_iff.mp h1).1 (fun b o q=>oth b o (fun z=>by rw [z,bT] at q; cases q) (F.stays b o q)) F.out fun h' F' up=>?_
  exact k h' F' fun b o hb hn=>up b o (oth b o (zcu hT hdT hb hn) hb) hn
theorem FlyD.pop {h:Heap} {fl:Value} (F:FlyD B (env :: outer) e cls dct fl h):FlyD B outer e cls dct fl h:=⟨F.stays,F.out,F.fun'.2.2,F.tr⟩
end
end L2
namespace L2
open PySem PySem.Spec PyProof.Rows
structure Fly (P:Program) (w:World) (outer:List Env) (H:Hp) (s:Shared) (e:Addr) (cls:Value) (dct:Option Addr) (H':Hp) (s':Shared):Prop where
  os:s'.os=s.os
  bare:AllBare s'.gens
  un:Un (frs outer) [] H H' s.heap s'.heap
  lay:∃ B,FlyD B outer e cls dct .none s'.heap∧HOk P w H' B∧∀ b o,s.heap.get? b=some o→b ∉ frs outer→∃ o',B.get? b=some o'∧(H b=none→o'=o)
def CX1 (P:Program) (w:World):CXT:=fun outer H s E e s'=>∃ (ea C:Addr) (dct:Option Addr) (H':Hp),e = .ref ea∧Fly P w outer H s ea (.ref C) dct H' s'∧E (.ref C) dct H'
theorem HOk.fly {P:Program} {w:World} {H:Hp} {B h:Heap} (x:HOk P w H B) (st:B.StaysIn h):HOk P w H h:=x.kept fun b u q=>st b u q
theorem HOk.none_of {P:Program} {w:World} {H:Hp} {B:Heap} {a:Addr} (x:HOk P w H B) (n:B.get? a=none):H a=none:=by
  cases q:H a with
  | none=>rfl
  | some o =>
    have z:=x.lt q
    have z2:=(x a o q)
    exfalso
    cases o with
    | lst xs=>obtain ⟨_,_,_,_,e⟩:=z2; rw [n] at e; cases e
    | tup xs=>obtain ⟨_,_,_,o,e,_⟩:=z2; rw [n] at e; cases e
    | dK kvs=>obtain ⟨_,_,_,_,o,_,_,e,_⟩:=z2; rw [n] at e; cases e
    | dT kvs=>obtain ⟨_,_,_,_,o,_,_,e,_⟩:=z2; rw [n] at e; cases e
    | set S n'=>obtain ⟨o,_,_,_,e,_⟩:=z2; rw [n] at e; cases e
    | ins C dx fs=>obtain ⟨_,_,_,e,_⟩:=z2; rw [n] at e; cases e
    | own y=>obtain ⟨_,e⟩:=z2; rw [n] at e; cases e
    | xd fs=>obtain ⟨_,⟨_,_,_,e,_⟩,_⟩:=z2; rw [n] at e; cases e
    | rng lo hi=>obtain ⟨_,_,_,e⟩:=z2; rw [n] at e; cases e
    | frz ob u=>obtain ⟨e,_⟩:=z2; rw [n] at e; cases e
    | tbl ps=>obtain ⟨_,_,_,_,_,_,_,e,_⟩:=z2; rw [n] at e; cases e
    | met f y=>have e:B.get? a=some _:=z2; rw [n] at e; cases e
    | ext φ=>obtain ⟨_,⟨_,e⟩,_⟩:=z2; rw [n] at e; cases e
theorem zlp {fs fr:List Addr} {H0 H1 H2:Hp} {h0 h1 h2 h3 B:Heap} {L:Addr} (U:Un fs [] H0 H1 h0 h1) (V:Un fr [] H1 H2 h1 h2) (hL:h0.objs.size ≤ L) (sub:∀ b ∈ fr,b ∈ L :: fs) (sup:∀ b ∈ fs,b ∈ fr) (frf:∀ b ∈ fs,H0 b=none)
    (ndat:∀ b ∈ fs,∀ o,h2.get? b=some o→∀ vs,o.data ≠ .fields vs) (up:h2.UpToSlots h3) (st:B.StaysIn h3) (all:∀ b o,h1.get? b=some o→b ∉ fr→∃ o',B.get? b=some o'∧(H1 b=none→o'=o)) :
    Un fs [] H0 H2 h0 h3∧∀ b o,h0.get? b=some o→b ∉ fs→∃ o',B.get? b=some o'∧(H0 b=none→o'=o):=by
  have nfr:∀ b o,h0.get? b=some o→b ∉ fs→b ∉ fr:=fun b o e hb hm=>by
    rcases List.mem_cons.mp (sub b hm) with z | z
    · exact absurd (Nat.lt_of_lt_of_le (Heap.lt_size e) hL) (by rw [z]; exact Nat.lt_irrefl _)
    · exact hb z
  have third:∀ b o,h0.get? b=some o→b ∉ fs→∃ o',B.get? b=some o'∧(H0 b=none→o'=o):=fun b o e hb=>by
    obtain ⟨o1,e1⟩:=U.there b o e (by simp)
    obtain ⟨o2,e2,z⟩:=all b o1 e1 (nfr b o e hb)
    refine ⟨o2,e2,fun n=>?_⟩
    have e1':=U.keep b o e n hb (by simp)
    rw [e1] at e1'
    cases e1'
    exact z (U.free b o e n (by simp))
  have slots:∀ b o,h0.get? b=some o→b ∈ fs→∃ sl,h3.get? b=some { o with slots:=sl }:=fun b o e hb=>by
    have n:=frf b hb
    obtain ⟨s1,e1⟩:=U.slot b o e n hb (by simp)
    obtain ⟨s2,e2⟩:=V.slot b _ e1 (U.free b o e n (by simp)) (sup b hb) (by simp)
    obtain ⟨s3,e3⟩:=up b _ e2 (ndat b hb _ e2)
    exact ⟨s3,e3⟩
  refine ⟨⟨fun b o e n hb _=>?_,fun b o e n hb _=>slots b o e hb,fun b o e n _=>?_,fun b o e _=>?_,fun b xs e=>V.tups b xs (U.tups b xs e),fun b o u e=>V.frzs b o u (U.frzs b o u e),fun b ps e=>?_⟩,third⟩
  · obtain ⟨o',e',z⟩:=third b o e hb
    rw [z n] at e'
    exact st b o e'
  · obtain ⟨o1,e1⟩:=U.there b o e (by simp)
    exact V.free b o1 e1 (U.free b o e n (by simp)) (by simp)
  · by_cases hb:b ∈ fs
    · obtain ⟨sl,q⟩:=slots b o e hb
      exact ⟨_,q⟩
    · obtain ⟨o',e',_⟩:=third b o e hb
      exact ⟨o',st b o' e'⟩
  · obtain ⟨m1,e1⟩:=U.tbls b ps e
    obtain ⟨m2,e2⟩:=V.tbls b _ e1
    exact ⟨m1 ++ m2,by rw [e2,Array.append_assoc]⟩
section
variable {P:Program} {w:World} {K:PySem.W.Frag} {mg:Str→Option Value} {base:Heap} {N:List Str} {qual:Str} {scope:Scope} {f:Addr} {cd:Value} {A:Around} {outer:List Env} {s0:Shared} {H0:Hp} {E:XK}
abbrev cx1 (P:Program) (w:World) (K:PySem.W.Frag) (mg:Str→Option Value) (base:Heap) (N:List Str) (qual:Str) (scope:Scope) (f:Addr) (cd:Value) (A:Around) (outer:List Env) (s0:Shared) (H0:Hp) (E:XK):Cx:=cxOf (CX1 P w) P w K mg base N qual scope f cd A outer s0 H0 E
theorem zmz {pins:List (Addr × Obj)} {σ:St} {H:Hp} {s s':Shared} {ea C:Addr} {args:List Value} (I:Inv (cx1 P w K mg base N qual scope f cd A outer s0 H0 E) pins σ H s) (hm:Heap.MadeExcOf s.heap s'.heap ea (.ref C) args)
    (os:s'.os=s.os) (bare:AllBare s'.gens) (q:E (.ref C) none H):(cx1 P w K mg base N qual scope f cd A outer s0 H0 E).xe (.ref ea) s':=by
  have hin:∀ env ∈ (cx1 P w K mg base N qual scope f cd A outer s0 H0 E).stack,∀ a,env.frame=some a→a ∈ frs (cx1 P w K mg base N qual scope f cd A outer s0 H0 E).stack:=fun env he a ha=>List.mem_filterMap.mpr ⟨env,he,ha⟩
  have hstk:=I.stack
  show wpAny (model P w) _ (leaving _ (.ref ea)) _ _ s'
  unfold leaving
  refine wpAny_bind (zl1 (B:=PySem.W.hideAll s.heap (frs (cx1 P w K mg base N qual scope f cd A outer s0 H0 E).stack)) I.ok.frames rfl (fun b o e=>PySem.W.of_hideAll _ e) (PySem.W.funFrames_hide hstk hin) hm fun h1 F1 up1=>?_)
  refine zl6 F1 fun h2 F2 up2=>?_
  have keepS:∀ b o,s.heap.get? b=some o→b ∉ frs (cx1 P w K mg base N qual scope f cd A outer s0 H0 E).stack→(PySem.W.hideAll s.heap (frs (cx1 P w K mg base N qual scope f cd A outer s0 H0 E).stack)).get? b=some o:=fun b o e hb=>PySem.W.hideAll_get _ e hb
  obtain ⟨u,third⟩:=zlp (h2:=s.heap) (h3:=h2) (B:=PySem.W.hideAll s.heap (frs (cx1 P w K mg base N qual scope f cd A outer s0 H0 E).stack)) (fr:=frs (cx1 P w K mg base N qual scope f cd A outer s0 H0 E).stack) I.base Un.refl I.ok.above I.stkSub
    (fun b hb=>List.mem_cons_of_mem _ hb) I.ok.frf (fun b hb o e=>by
      obtain ⟨_,o',ho',hn⟩:=hstk.mem (List.mem_cons_of_mem _ hb)
      rw [e] at ho'
      cases ho'
      exact hn) ((Heap.UpToSlots.of_keeps hm.keeps).trans (up1.trans up2)) F2.stays (fun b o e hb=>⟨o,keepS b o e hb,fun _=>rfl⟩)
  refine ⟨ea,C,none,H,rfl,⟨os.trans I.os,bare,u,_,F2.pop,?_,third⟩,q⟩
  intro a o e
  refine (I.hok a o e).stay (fun b v hb q=>keepS b v q fun z=>?_) (fun _ q=>q) fun _ _ q=>q
  have n:=I.stkFree b z
  rcases hb with rfl | hb
  · rw [e] at n; cases n
  · rw [hb] at n; cases n
theorem zl7 {pins:List (Addr × Obj)} {σ:St} {H:Hp} {s s':Shared} {e:Value} (I:Inv (cx1 P w K mg base N qual scope f cd A outer s0 H0 E) pins σ H s) (h:CX1 P w (cx1 P w K mg base N qual scope f cd A outer s0 H0 E).stack H s E e s') :
    (cx1 P w K mg base N qual scope f cd A outer s0 H0 E).xe e s':=by
  obtain ⟨ea,C,dct,H',rfl,F,q⟩:=h
  obtain ⟨B,fl,hok,third⟩:=F.lay
  have hstk:=I.stack
  show wpAny (model P w) _ (leaving _ (.ref ea)) _ _ s'
  unfold leaving
  refine wpAny_bind (zm0 I.ok.frames rfl fl fun h1 F1 up1=>?_)
  refine zl6 F1 fun h2 F2 up2=>?_
  obtain ⟨u,third'⟩:=zlp (h3:=h2) (B:=B) I.base F.un I.ok.above I.stkSub (fun b hb=>List.mem_cons_of_mem _ hb) I.ok.frf (fun b hb o e=>by
      obtain ⟨_,o',ho',hn⟩:=fl.fun'.mem (List.mem_cons_of_mem _ hb)
      rw [e] at ho'
      cases ho'
      exact hn) (up1.trans up2) F2.stays third
  exact ⟨ea,C,dct,H',rfl,⟨F.os.trans I.os,F.bare,u,B,F2.pop,hok,third'⟩,q⟩
end
theorem zk0 {K:PySem.W.Frag} {h:Heap} {C:Addr} {bmB:List Value} {newId:String} (X:K.In h) (q:PySem.W.excIn K C bmB newId=true) :
    ∃ bm N nm qn bs hdct sn sub ab col dd k0 k1 k2 k3 k5 mN,h.get? C=some (excClassObj nm qn C N bs bm hdct sn sub ab col dd k0 k1 k2 k3 k5 newId)∧h.Ns N mN∧mN "__init__"=none∧OwnTail h bmB bm:=by
  unfold PySem.W.excIn at q
  split at q
  · rename_i dd cd sl ho
    split at q
    · rename_i C' bm k0 k1 k2 k3 n k5 hm hs
      simp only [Bool.and_eq_true,beq_iff_eq,Bool.not_eq_true'] at q
      obtain ⟨⟨⟨⟨⟨rfl,rfl⟩,hdel⟩,ht⟩,hok⟩,hni⟩:=q
      obtain ⟨nm,bs,mro,ns,qn,hd,sn,sub,ab,col,del⟩:=cd
      dsimp only at hm hdel hok hni
      subst hm hdel
      obtain ⟨sll⟩:=sl
      simp only at hs
      subst hs
      exact ⟨bm,ns,nm,qn,bs,hd,sn,sub,ab,col,dd,k0,k1,k2,k3,k5,_,X _ _ ho,.of_isNs (PySem.W.isNs_of_in X hok),PySem.W.nsMap_none_of_in X hok hni,PySem.W.tail_of_in X ht⟩
    · cases q
  · cases q
def Made (X:Cx) (E:St→XK):Prop:=∀ (pins:List (Addr × Obj)) (σ:St) (H:Hp) (s s':Shared) (ea C:Addr) (args:List Value),Inv X pins σ H s→Heap.MadeExcOf s.heap s'.heap ea (.ref C) args→s'.os=s.os→AllBare s'.gens→E σ (.ref C) none H→X.xe (.ref ea) s'
def zg8 (CX:CXT) (X:Cx) (E:St→XK):Prop:=∀ (pins:List (Addr × Obj)) (σ:St) (H:Hp) (s:Shared) (e:Value) (s':Shared),Inv X pins σ H s→CX X.stack H s (E σ) e s'→X.xe e s'
def zmV (C:Addr) (E:St→XK) (t:TA):TS:=fun _ σ H=>t σ H fun vs H1=>vs.length ≤ sizeLine∧E σ (.ref C) none H1
section
variable {X:Cx} {x:Str} {np cpos pos:Pos} {e₀:Expr} {rest:List Expr} {C:Addr} {bmB bmN:List Value} {newId Bn B nid inN initId:String} {E:St→XK} {t:TA}
theorem zg5 (hc:X.calm=true) (hg:Gl X x) (hmx:X.mg x=some (.ref C)) (hk:PySem.W.excIn X.K C bmB newId=true) (Fn:ExcBaseFacts Bn newId inN bmN) (hBn:bmB.contains (.type Bn)=true) (FB:ExcBaseFacts B nid initId bmB) (hE:Made X E)
    (ha:PA X (e₀ :: rest) t) (he:starEach (e₀ :: rest) X.env=(false,eval e₀ X.env) :: starEach rest X.env:=by rfl) (hplain:(backTo cpos (starEach rest X.env)).any (·.1)=false:=by rfl) (hdb:(x == ("__debug__" : Str))=false:=by decide) :
    PS X (.Raise (some (.Call (.Name x np) (e₀ :: rest) [] cpos)) none pos) (zmV C E t):=by
  intro pins s σ H D I h
  obtain ⟨tl,N,nm,qn,bs,hdct,sn,sub,ab,col,dd,k0,k1,k2,k3,k5,mN,hC,hN,hni,T⟩:=zk0 I.ok.mod.kin hk
  refine wpAny_Raise_call_subU (C:=C) (nm:=nm) (q:=qn) (N:=N) (bs:=bs) (bm:=tl) (hdct:=hdct) (sn:=sn) (sub:=sub) (ab:=ab) (col:=col) (dd:=dd) (k0:=k0) (k1:=k1) (k2:=k2) (k3:=k3) (k5:=k5)
    Fn hBn FB (mN:=mN) (T.hasType FB.hasBase) (I.ok.hd hc) (by rw [he]; show (false || (backTo cpos (starEach rest X.env)).any (·.1))=false; rw [hplain]; rfl) hni (zeL I hg hmx ⟨rfl,?_⟩ hdb)
  have hA:=ha cpos pins s σ H _ I h
  rw [he] at hA ⊢
  refine Calls.evalArgs_plain (thn hA fun us s1 ⟨vs,H1,I1,r1,z,q⟩=>?_)
  have bk:=I1.bk
  refine ⟨rfl,by rw [← r1.length]; exact z,bk _ _ hC,hN.keeps bk,T.keeps bk,fun h' ea hm=>?_⟩
  exact hE pins σ H1 s1 { s1 with heap:=h' } ea C us I1 hm rfl I1.bare q
end
def zmU (sp:Sp) (E:St→XK) (t:TA):TE:=fun σ H Q=>t σ H fun vs H1=>sp vs H1 Q (E σ)
section
variable {X:Cx} {CX:CXT} {k:Nat} {x:Str} {ps:List Str} {sp:Sp} {E:St→XK} {p pos:Pos} {e:Expr} {es:List Expr} {t:TA}
theorem zlM (G:Has X.prog X.w X.K X.mg X.base CX k x ps sp) (hr:Room k X.A) (hg:Gl X x) (hx:zg8 CX X E)
    (ha:PA X (e :: es) t) (hdb:(x == ("__debug__" : Str))=false:=by decide) (he:starEach (e :: es) X.env=(false,eval e X.env) :: starEach es X.env:=by rfl) (hpl:(backTo pos (starEach es X.env)).any (·.1)=false:=by rfl) :
    PE X (.Call (.Name x p) (e :: es) [] pos) (zmU sp E t):=by
  obtain ⟨f,fd,F,hm,hk,hb⟩:=G.ex
  intro pins s σ H Q I h
  refine wpAny_Call_Name_kw (zeL I hg hm ?_ hdb)
  refine PySem.W.callWith_K (h₀:=X.base) I.ok.mod.kin hk (thn (ha pos pins s σ H _ I h) fun us s1 ⟨vs,H1,I1,r,q⟩=>⟨I1.kIn,?_⟩) he hpl
  have hl:us.length=ps.length:=by rw [← r.length]; exact F.len _ _ _ _ q
  have bd:BindsTo s1 fd ⟨us,[]⟩ (ps.zip us):=by
    have z:=hb s1 us I1.kIn (by rw [List.append_nil]; exact hl)
    rw [List.append_nil] at z
    exact z
  refine wpAny_call (codeAny_mono (F.run X.A X.stack s1 H1 ⟨us,[]⟩ us vs Q (E σ) hr I1.env0 bd r q) fun rs s' hq=>?_)
  cases rs with
  | error e'=>exact hx pins σ H1 s1 e' s' I1 hq
  | ok fl =>
    cases fl with
    | ret u=>exact I1.after hq
    | next=>exact False.elim hq
    | brk=>exact False.elim hq
    | cont=>exact False.elim hq
end
theorem zkK {K:PySem.W.Frag} {M:Model} {A:Around} {E:Value→Shared→Prop} {s:Shared} {Q:Bool→Shared→Prop} {e C D:Addr} {oe:Obj} (X:K.In s.heap) (he:s.heap.get? e=some oe) (hc:oe.cls = .ref C)
    (h1:PySem.W.kitCls K (.ref C) (.ref D)=some true) (h2:PySem.W.mroIn K D (.type "BaseException")=some true) (q:Q true s):wpAny M A (excMatches (.ref e) (.ref D)) Q E s:=by
  obtain ⟨hp,g,d,tk,os⟩:=s
  obtain ⟨l1,l2,l3⟩:=PySem.W.kit_cls (M:=M) X h1
  have l4:=PySem.W.looks_mroIn (M:=M) X h2
  have l5:PySem.W.Looks M hp (isInstance (.ref D) (.type "tuple")) false:=l1.andThen (PySem.W.Looks.of_pure tc_notTuple)
  have l6:PySem.W.Looks M hp (typeOf (.ref e)) (.ref C):=by
    rw [← hc]
    exact (PySem.W.Looks.ld he).andThen .now
  have l7:PySem.W.Looks M hp (isExcClass (.ref D)) true:=l2.andThen (by rw [if_pos rfl]; exact l4)
  unfold excMatches
  repeat (first | with_reducible refine PySem.W.Looks.at l5 ?_ | with_reducible refine PySem.W.Looks.at l6 ?_ | with_reducible refine PySem.W.Looks.at l7 ?_ | with_reducible refine PySem.W.Looks.at l3 ?_ | wp_step)
  exact q
def excO (C:Addr) (dct:Option Addr) (ea:Addr):HO:=.ext fun h=>∃ ob,h.get? ea=some ob∧ob.cls = .ref C∧ob.dict=dct∧∃ vs,ob.data = .fields vs
theorem Inv.track {X:Cx} {pins:List (Addr × Obj)} {σ:St} {H:Hp} {s:Shared} {ea:Addr} {o:HO} (I:Inv X pins σ H s) (hn:H ea=none) (h0:X.s₀.heap.get? ea=none) (hL:ea ≠ X.env.locals) (hc:∀ x c,X.env.cells.lookup x=some c→c ≠ ea)
    (hp:∀ p ∈ X.pn ++ pins,p.1 ≠ ea) (hnew:ObjOk X.prog X.w (upd H ea o) s.heap ea o):Inv X pins σ (upd H ea o) s:=by
  have ne:∀ {b:Addr} {u:HO},H b=some u→b ≠ ea:=fun q z=>by rw [z,hn] at q; cases q
  refine ⟨I.ok,I.os,I.bare,⟨I.base.keep,I.base.slot,fun b ob q n hx=>?_,I.base.there,fun b xs q=>?_,fun b ob u q=>?_,fun b ps q=>?_⟩,I.loc,I.cell,?_,fun x c q=>?_,fun p q=>?_,fun b u q=>?_,I.len⟩
  · rw [zar (fun z=>by rw [z,h0] at q; cases q)]
    exact I.base.free b ob q n hx
  · have z:=I.base.tups b xs q
    rw [zar (ne z)]; exact z
  · have z:=I.base.frzs b ob u q
    rw [zar (ne z)]; exact z
  · obtain ⟨m,z⟩:=I.base.tbls b ps q
    exact ⟨m,by rw [zar (ne z)]; exact z⟩
  · rw [zar (Ne.symm hL)]; exact I.free
  · rw [zar (hc x c q)]; exact I.freeC x c q
  · obtain ⟨a1,a2,a3,a4,a5⟩:=I.pin p q
    exact ⟨a1,by rw [zar (hp p q)]; exact a2,a3,a4,a5⟩
  · by_cases hb:b=ea
    · subst hb
      rw [zaG] at q
      cases q
      exact hnew
    · rw [zar hb] at q
      exact (I.hok b u q).stay (fun c v _ z=>z) (fun c z=>by rw [zar (ne z)]; exact z) fun c xs z=>by rw [zar (ne z)]; exact z
def Cx.suite (X:Cx) (ea:Addr):Cx:={ X with A:=X.A.mark (some (.ref ea)),calm:=false,xe:=fun _ _=>False }
theorem Inv.suite {X:Cx} {pins:List (Addr × Obj)} {σ:St} {H:Hp} {s:Shared} (I:Inv X pins σ H s) (ea:Addr):Inv (X.suite ea) pins σ H s :=
  ⟨⟨I.ok.mod,I.ok.kind,I.ok.glob,I.ok.blt,I.ok.above,I.ok.inj,I.ok.has,I.ok.cab,fun z=>(by cases (show false=true from z)),I.ok.frames,I.ok.stk,I.ok.exf,I.ok.bs,I.ok.bsz,I.ok.noex,I.ok.exfs,I.ok.funs,I.ok.frf,I.ok.tb⟩,I.os,I.bare,I.base,I.loc,I.cell,I.free,I.freeC,I.pin,I.hok,I.len⟩
theorem Inv.unsuite {X:Cx} {pins:List (Addr × Obj)} {σ:St} {H:Hp} {s:Shared} {ea:Addr} (ok:X.Ok) (I:Inv (X.suite ea) pins σ H s):Inv X pins σ H s :=
  ⟨ok,I.os,I.bare,I.base,I.loc,I.cell,I.free,I.freeC,I.pin,I.hok,I.len⟩
def tTry (K:PySem.W.Frag) (D':Addr) (tb:(St→XK)→TS) (i:Nat) (th:TS):TS:=fun D σ H =>
  tb (fun σ' cls dct H'=>∃ C,cls = .ref C∧PySem.W.kitCls K (.ref C) (.ref D')=some true∧∀ ea,H' ea=none→th { nx:=fun σ2 H2=>D.nx (σ2.set i none) H2,rt:=D.rt,bk:=fun σ2 H2=>D.bk (σ2.set i none) H2,ct:=fun σ2 H2=>D.ct (σ2.set i none) H2 } (σ'.set i (some (.ref ea))) (upd H' ea (excO C dct ea))) D σ H
section
variable {P:Program} {w:World} {X:Cx} {x n:Str} {np hpos pos:Pos} {body:List Stmt} {b₀:Stmt} {suite:List Stmt} {D':Addr} {tb:(St→XK)→TS} {th:TS} {i:Nat}
theorem zeY {pins:List (Addr × Obj)} {σ:St} {H:Hp} {s:Shared} {Q:Unit→Shared→Prop} (I:Inv X pins σ H s) (hN:X.N.Nodup) (hi:X.N[i]?=some n) (hn:X.env.kindOf n=some .local)
    (k:∀ s',Inv X pins (σ.set i none) H s'→Q () s'):wpAny (model X.prog X.w) X.A (do bindName X.env n .none; unbindBehindTheSuite X.env n hpos) Q X.xe s:=by
  have hk:X.env.scope.names.lookup n=some .local:=hn
  refine wpAny_bind (wpAny_bindName (zeh I hN hi (.inl hk) (v:=.non) rfl (fun s1 I1=>?_) (.inr hk)))
  obtain ⟨m,hm,hl⟩:=I1.loc
  have li:i < σ.length:=by
    rw [I.len]
    exact (List.getElem?_eq_some_iff.mp hi).1
  obtain ⟨u,ru,lu⟩:=hl i n .non hi (by rw [List.getElem?_set_self li]) (.inl hk)
  have hv:m n=some u:=by
    rcases lu with ⟨_,z⟩ | ⟨z,_⟩
    · exact z
    · rcases z with z | z <;> (rw [hn] at z; cases z)
  unfold unbindBehindTheSuite
  refine wpAny_onRaise (wpAny_unbindName_local hn hm hv (by rw [I.ok.kind]; rfl) fun h' u' hm' hs'=>k _ ?_)
  have I2:Inv X pins (σ.set i none) H s1:=I1.weak (by simp) fun j v e=>by
    by_cases hj:j=i
    · subst hj
      rw [List.getElem?_set_self li] at e
      cases e
    · rw [List.getElem?_set_ne (Ne.symm hj)] at e ⊢
      exact e
  have kp:∀ b o,b ≠ X.env.locals→s1.heap.get? b=some o→h'.get? b=some o:=fun b o hb e=>(hs'.2 b hb).trans e
  have e0:∀ b o,X.s₀.heap.get? b=some o→b ≠ X.env.locals:=fun b o e=>Nat.ne_of_lt (Nat.lt_of_lt_of_le (Heap.lt_size e) I.ok.above)
  refine ⟨I2.ok,I2.os,I2.bare,⟨fun b o e n' hb hx=>kp b o (e0 b o e) (I2.base.keep b o e n' hb hx),fun b o e n' hb hx=>?_,I2.base.free,fun b o e hx=>?_,I2.base.tups,I2.base.frzs,I2.base.tbls⟩,⟨_,hm',fun j y v e1 e2 e3=>?_⟩,fun y c e=>?_,I2.free,I2.freeC,fun p hp=>?_,?_,I2.len⟩
  · obtain ⟨sl,q⟩:=I2.base.slot b o e n' hb hx
    exact ⟨sl,kp b _ (e0 b o e) q⟩
  · obtain ⟨o',q⟩:=I2.base.there b o e hx
    exact ⟨o',kp b o' (e0 b o e) q⟩
  · by_cases hj:j=i
    · subst hj
      rw [List.getElem?_set_self li] at e2
      cases e2
    · rw [List.getElem?_set_ne (Ne.symm hj)] at e2
      have ny:y ≠ n:=fun z=>by
        subst z
        exact hj (zhz hN e1 hi)
      obtain ⟨u2,r2,l2⟩:=hl j y v e1 (by rw [List.getElem?_set_ne (Ne.symm hj)]; exact e2) e3
      refine ⟨u2,r2,?_⟩
      rcases l2 with ⟨k1,k2⟩ | ⟨k1,c,k2,ob,k3,k4⟩
      · exact .inl ⟨k1,by show (if y=n then u' else m y)=_; rw [if_neg ny]; exact k2⟩
      · exact .inr ⟨k1,c,k2,ob,kp c ob (I1.cne y c k2) k3,k4⟩
  · obtain ⟨v,ob,k3,k4⟩:=I2.cell y c e
    exact ⟨v,ob,kp c ob (I2.cne y c e) k3,k4⟩
  · obtain ⟨a1,a2,a3,a4,a5⟩:=I2.pin p hp
    exact ⟨kp _ _ a3 a1,a2,a3,a4,a5⟩
  · intro a o e
    refine (I2.hok a o e).stay (fun b v hb q=>kp b v (fun z=>?_) q) (fun _ q=>q) fun _ _ q=>q
    have fr:=I2.free
    rcases hb with rfl | hb
    · rw [z,fr] at e; cases e
    · rw [z,fr] at hb; cases hb
def Cx.guard (X:Cx) (pl:List (Addr × Obj)) (xe:Value→Shared→Prop):Cx:={ X with pn:=pl,xe:=xe }
theorem Inv.guard {pins:List (Addr × Obj)} {σ:St} {H:Hp} {s:Shared} (I:Inv X pins σ H s) (xe:Value→Shared→Prop):Inv (X.guard (X.pn ++ pins) xe) [] σ H s :=
  ⟨⟨I.ok.mod,I.ok.kind,I.ok.glob,I.ok.blt,I.ok.above,I.ok.inj,I.ok.has,I.ok.cab,I.ok.hd,I.ok.frames,I.ok.stk,I.ok.exf,I.ok.bs,I.ok.bsz,I.ok.noex,I.ok.exfs,I.ok.funs,I.ok.frf,I.ok.tb⟩,I.os,I.bare,I.base,I.loc,I.cell,I.free,I.freeC,
    fun p hp=>I.pin p (by rw [List.append_nil] at hp; exact hp),I.hok,I.len⟩
theorem Inv.unguard {pins pins':List (Addr × Obj)} {σ:St} {H:Hp} {s:Shared} {xe:Value→Shared→Prop} (ok:X.Ok) (I:Inv (X.guard (X.pn ++ pins) xe) pins' σ H s):Inv X pins σ H s :=
  ⟨ok,I.os,I.bare,I.base,I.loc,I.cell,I.free,I.freeC,fun p hp=>I.pin p (List.mem_append_left _ hp),I.hok,I.len⟩
theorem zoG (hex:X.ex = []) (hst:X.stack=X.env :: X.outer) (hfr:X.env.frame=some X.env.locals) (hN:X.N.Nodup) (hi:X.N[i]?=some n) (hn:X.env.kindOf n=some .local) (hg:Gl X x) (hmx:X.mg x=some (.ref D')) (hD:PySem.W.mroIn X.K D' (.type "BaseException")=some true)
    (hb:∀ (E:St→XK) (pl:List (Addr × Obj)) (xe:Value→Shared→Prop),zg8 (CX1 X.prog X.w) (X.guard pl xe) E→PSs (X.guard pl xe) body (tb E)) (hh:∀ ea,PSs (X.suite ea) (b₀ :: suite) th) (hdb:(x == ("__debug__" : Str))=false:=by decide) :
    PS X (.Try body [.ExceptHandler (some (.Name x np)) (some n) (b₀ :: suite) hpos] [] [] pos) (tTry X.K D' tb i th):=by
  intro pins s σ H D I h
  have ok:=I.ok
  refine wpAny_Try_except ?_
  refine wpAny_mono (hb _ (X.pn ++ pins) (fun e s₁=>wpAny (model X.prog X.w) X.A (noteFrame e X.env) (fun _ s₂=>wpAny (model X.prog X.w) X.A (setFlight e none) (fun _ s₃=>wpAny (model X.prog X.w) X.A (handleBy e X.env [.ExceptHandler (some (.Name x np)) (some n) (b₀ :: suite) hpos]) (SP X pins D) X.xe s₃) X.xe s₂) X.xe s₁) ?_ [] s σ H D (I.guard _) h) (fun f s1 q=>?_) fun _ _ q=>q
  · -- an exception of the body
    intro pins' σ' H1 s1 e s2 I1 hcx
    obtain ⟨ea,C,dct,H',rfl,F,C',hC',hm,hth⟩:=hcx
    cases hC'
    have J1:Inv X pins σ' H1 s1:=I1.unguard ok
    have F':Fly X.prog X.w (X.env :: X.outer) H1 s1 ea (.ref C) dct H' s2:=by
      rw [← hst]
      exact F
    obtain ⟨Fos,Fbare,Fun,B,fl,hok,third⟩:=F'
    have fr2:X.A.frames=some (X.env :: X.outer):=by rw [← hst]; exact ok.frames
    -- whatever the heap behind
    have land:∀ h' ,FlyD B (X.env :: X.outer) ea (.ref C) dct .none h'→s2.heap.UpToSlots h'→Inv X pins σ' H' { s2 with heap:=h' }:=fun h' F' up=>by
      obtain ⟨u,_⟩:=zlp (fs:=frs (X.env :: X.outer)) (fr:=frs (X.env :: X.outer)) (h0:=s1.heap) (h1:=s1.heap) (h3:=h') (B:=B) (L:=s1.heap.objs.size) Un.refl Fun (Nat.le_refl _) (fun b hb=>List.mem_cons_of_mem _ hb) (fun b hb=>hb)
        (fun b hb=>J1.stkFree b (by rw [hst]; exact hb)) (fun b hb o e=>by
          obtain ⟨_,o',ho',hn'⟩:=fl.fun'.mem hb
          rw [e] at ho'
          cases ho'
          exact hn') up F'.stays third
      obtain ⟨hh2,g2,d2,t2,os2⟩:=s2
      obtain rfl:os2=s1.os:=Fos
      show Inv X pins σ' H' { s1 with heap:=h',gens:=g2,drawn:=d2,toks:=t2 }
      exact J1.call (h':=h') (g':=g2) (d':=d2) (t':=t2) (ch:=[]) (by rw [hst]; exact u) (hok.fly F'.stays) Fbare fun b z=>absurd z (by simp)
    show wpAny (model X.prog X.w) X.A (noteFrame (.ref ea) X.env) _ _ s2
    refine zm0 fr2 hfr fl fun h1 F1 up1=>?_
    refine zl6 F1 fun h2 F2 up2=>?_
    have J2:=land h2 F2 (up1.trans up2)
    obtain ⟨T,_,⟨oe,vs,_,_,he,hc,hdc,hd,_⟩,_⟩:=F2.tr
    refine wpAny_handleBy_cons (codeAny_handlers_test (zeL (X:=X.suite ea) (J2.suite ea) hg hmx ?_ hdb)) (by intro z; cases z)
    refine zkK (K:=X.K) J2.kIn he hc hm hD ?_
    refine codeAny_handlers_suite_as ?_
    refine zl6 F2 fun h3 F3 up3=>?_
    have J3:=land h3 F3 ((up1.trans up2).trans up3)
    obtain ⟨T3,_,⟨oe3,vs3,_,_,he3,hc3,hdc3,hd3,_⟩,_⟩:=F3.tr
    have nH:H' ea=none:=hok.none_of F3.out
    have nfr:ea ∉ frs X.stack:=fun z=>by
      rw [hst] at z
      obtain ⟨_,o',ho',hn'⟩:=F3.fun'.mem z
      exact zcu he3 hd3 ho' hn' rfl
    have nB:∀ b o,s1.heap.get? b=some o→b ∉ frs X.stack→b ≠ ea:=fun b o e hb z=>by
      obtain ⟨o',e',_⟩:=third b o e (by rw [← hst]; exact hb)
      rw [z,F3.out] at e'
      cases e'
    have nL:ea ≠ X.env.locals:=fun z=>nfr (by
      rw [hst,z]
      exact List.mem_filterMap.mpr ⟨X.env,List.mem_cons_self,hfr⟩)
    have J4:Inv (X.suite ea) pins σ' (upd H' ea (excO C dct ea)) { s2 with heap:=h3 }:=(J3.suite ea).track nH (by
        cases z:X.s₀.heap.get? ea with
        | none=>exact z
        | some o =>
          obtain ⟨o1,e1⟩:=J1.base.there ea o z (by rw [hex]; simp)
          exact absurd rfl (nB ea o1 e1 nfr)) nL (fun y c e z=>by
        obtain ⟨v,ob,k3,k4⟩:=J3.cell y c e
        rw [z] at k3
        have k3':h3.get? ea=some ob:=k3
        rw [he3] at k3'
        cases k3'
        rw [hd3] at k4
        cases k4) (fun p hp=>by
        obtain ⟨a1,_,a3,a4,_⟩:=J1.pin p hp
        exact nB p.1 p.2 a1 fun z=>(List.mem_cons.mp (J1.stkSub p.1 z)).elim a3 a4)
      ⟨⟨oe3,he3,hc3,hdc3,vs3,hd3⟩,⟨oe3,he3⟩,fun g1 g2 z k=>by
        obtain ⟨ob,z1,z2⟩:=z
        exact ⟨ob,k ob z1,z2⟩⟩
    refine zeh (X:=X.suite ea) J4 hN hi (.inl hn) (v:=.ref ea) rfl (fun s5 I5=>?_) (.inr hn)
    refine wpAny_mono (hh ea pins s5 _ _ _ I5 (hth ea nH)) (fun f s6 q6=>?_) fun _ _ z=>z.elim
    cases f with
    | next =>
      obtain ⟨σ6,H6,I6,q6⟩:=q6
      exact zeY (I6.unsuite ok) hN hi hn fun s7 I7=>⟨_,_,I7,q6⟩
    | brk =>
      obtain ⟨σ6,H6,I6,q6⟩:=q6
      exact zeY (I6.unsuite ok) hN hi hn fun s7 I7=>⟨_,_,I7,q6⟩
    | cont =>
      obtain ⟨σ6,H6,I6,q6⟩:=q6
      exact zeY (I6.unsuite ok) hN hi hn fun s7 I7=>⟨_,_,I7,q6⟩
    | ret v =>
      obtain ⟨v6,σ6,H6,I6,r6,q6⟩:=q6
      exact zeY (I6.unsuite ok) hN hi hn fun s7 I7=>⟨v6,_,_,I7,r6,q6⟩
  · cases f with
    | next =>
      obtain ⟨σ6,H6,I6,q6⟩:=q
      exact wpAny_execs_nil ⟨σ6,H6,I6.unguard ok,q6⟩
    | brk =>
      obtain ⟨σ6,H6,I6,q6⟩:=q
      exact ⟨σ6,H6,I6.unguard ok,q6⟩
    | cont =>
      obtain ⟨σ6,H6,I6,q6⟩:=q
      exact ⟨σ6,H6,I6.unguard ok,q6⟩
    | ret v =>
      obtain ⟨v6,σ6,H6,I6,r6,q6⟩:=q
      exact ⟨v6,σ6,H6,I6.unguard ok,r6,q6⟩
end
end L2
namespace L2
open PySem PySem.Spec PyProof.Rows
structure ExcCls (K:PySem.W.Frag) (C:Addr):Prop where
  ga:PySem.W.findIn K (.ref C) "__getattribute__"=some (some (.builtin "BaseException.__getattribute__"))
  gn:PySem.W.findIn K (.ref C) "__getattr__"=some none
  hd:PySem.W.hasDictIn K C=true
  ha:PySem.W.findIn K (.ref C) "__class__"=some (some (.builtin "object.__class__"))
  hn:PySem.W.specialIn K (.builtin "object.__class__") "__get__"=some (some (.builtin "getset_descriptor.__get__"))
  htk:PySem.W.takesIn K (.builtin "object.__class__")=some true
  hm:PySem.W.mroIn K C (.type "object")=some true
  hb:PySem.W.mroIn K C (.type "BaseException")=some true
theorem ziX {K:PySem.W.Frag} {C:Addr} {od:Option Obj} {name:Str} {a g:Value} (hc:(PySem.W.clsIn K C).isSome=true) (ha:PySem.W.findIn K (.ref C) name=some (some a)) (hg:PySem.W.specialIn K a "__get__"=some (some g)) (ht:PySem.W.takesIn K a=some true) :
    PySem.W.findObj K C od name=some (.bind g a):=by
  obtain ⟨cd,hc⟩:=Option.isSome_iff_exists.mp hc
  unfold PySem.W.findObj
  rw [hc,Option.bind_some,ha,Option.bind_some]
  simp only [hg]
  show (PySem.W.takesIn K a).bind _=_
  rw [ht]
  rfl
set_option maxHeartbeats 4000000 in
theorem zlo {K:PySem.W.Frag} {x C:Addr} {ox:Obj} {od:Option Obj} {prog:Program} {w:World} {A:Around} {E:Value→Shared→Prop} {Q:Option Value→Shared→Prop} {s:Shared} (Z:ExcCls K C) (X:K.In s.heap) (I:PySem.W.InstAt s.heap x ox C od)
    (k:Q (some (.ref C)) { s with toks:=s.toks + 1 }):wpAny (model prog w) A (getAttr? (.ref x) "__class__") Q E s:=by
  have hf:PySem.W.findObj K C od "__class__"=some (.bind (.builtin "getset_descriptor.__get__") (.builtin "object.__class__")):=ziX (by obtain ⟨cd,hc,_⟩:=PySem.W.any_some Z.hd; rw [hc]; rfl) Z.ha Z.hn Z.htk
  have X':=X
  have I':=I
  have Z':=Z
  obtain ⟨hh,g,d,t,os⟩:=s
  have L0:=I.type (M:=model prog w)
  have L1:=PySem.W.looks_findIn (M:=model prog w) X Z.ga
  have L2:=PySem.W.looks_findIn (M:=model prog w) X Z.gn
  have L3:=PySem.W.looks_find (M:=model prog w) X I hf
  have L4:PySem.W.Looks (model prog w) hh (isInstance (.ref x) (.type "BaseException")) true:=L0.andThen (PySem.W.looks_mroIn X Z.hb)
  have f3:=F.attr_ValueError.ga.bind (.ref x)
  have hx0:((false:Bool) && onTheHeap (Value.builtin "BaseException.__getattribute__"))=false:=rfl
  have hx2:(Value.builtin "BaseException.__getattribute__" == Value.builtin "object.__getattribute__")=false:=by decide +kernel
  have hx1:(onTheHeap (Value.ref C) && Value.builtin "BaseException.__getattribute__" == Value.builtin "object.__getattribute__")=false:=by rw [hx2]; rfl
  unfold getAttr? getAttrBy?
  refine wpAny_bind (wpAny_mkText (wpAny_bind (wpAny_attempt ?_)))
  repeat (any_goals (first | assumption | with_reducible refine PySem.W.Looks.at L0 ?_ | with_reducible refine PySem.W.Looks.at L1 ?_ | with_reducible refine PySem.W.Looks.at L2 ?_ | wp_step))
  have hk:builtinKind "BaseException.__getattribute__"=some .slot:=by decide +kernel
  have hsplit:splitId "BaseException.__getattribute__"=some ("BaseException","__getattribute__"):=by decide +kernel
  have har:=F.args_bexc_ga (.ref x) (.str "__class__" t)
  refine codeAny_call_builtin F.attr_ValueError.ga.plain F.entry_bexc_ga ?_
  simp only [checkBuiltinCall,hk,hsplit]
  refine wpAny_bind ?_
  refine PySem.W.Looks.at L4 ?_
  repeat (any_goals (first | assumption | with_reducible refine PySem.W.Looks.at L4 ?_ | with_reducible refine PySem.W.Looks.at L0 ?_ | with_reducible refine PySem.W.Looks.at L3 ?_ | wp_step))
  exact PySem.W.class_get (s:=⟨hh,g,d,t + 1,os⟩) (ox:=ox) (od:=od) X I Z.hm (wpAny_pure (PySem.W.handed_on rfl (wpAny_pure k)))
theorem zji {K:PySem.W.Frag} {x C:Addr} (Z:ExcCls K C):PySem.W.KitX K (.ref x) (.ref C) (fun h=>∃ ox od,PySem.W.InstAt h x ox C od) where
  ty:=fun _ _ _ I=>by
    obtain ⟨ox,od,I⟩:=I
    exact I.type
  it:=fun _ _ X _=>by
    obtain ⟨cd,hc,_⟩:=PySem.W.any_some Z.hd
    unfold PySem.W.clsIn at hc
    split at hc
    · rename_i ho
      intro A' Q' E' s' k q
      unfold isType loadHead
      exact wpAny_bind (wpAny_loadPart (k _ _ (X _ _ ho)) (wpAny_pure q))
    · cases hc
  ne:=fun h tp dd its n sl X htp=>by
    obtain ⟨cd,hc,_⟩:=PySem.W.any_some Z.hd
    refine Bool.eq_false_iff.mpr fun q=>?_
    have e:C=tp:=Value.ref.inj (beq_iff_eq.mp q)
    subst e
    unfold PySem.W.clsIn at hc
    split at hc
    · rename_i ho
      have z:=(X _ _ ho).symm.trans htp
      cases z
    · cases hc
  ca:=fun {prog w A E Q s} X I k=>by
    obtain ⟨ox,od,I⟩:=I
    exact zlo Z X I k
theorem zll {K:PySem.W.Frag} {C D:Addr} {b:Bool} (h1:PySem.W.hasDictIn K D=true) (h2:PySem.W.typeIn K (.ref D)=some (.type "type")) (h3:PySem.W.mroIn K C (.ref D)=some b):PySem.W.kitCls K (.ref C) (.ref D)=some b:=by
  obtain ⟨cd,hc,_⟩:=PySem.W.any_some h1
  show (if ((PySem.W.clsIn K D).isSome && PySem.W.typeIn K (.ref D) == some (.type "type"))=true then PySem.W.subIn K (.ref C) (.ref D) else none)=some b
  rw [hc,h2,if_pos (by simp)]
  exact h3
theorem ziH {K:PySem.W.Frag} {C D:Addr} {b:Bool} (h1:PySem.W.hasDictIn K D=true) (h2:PySem.W.typeIn K (.ref D)=some (.type "type")) (h3:PySem.W.mroIn K C (.ref D)=some b) (h4:PySem.W.mroIn K C (.ref C)=some true):PySem.W.kitOne K (.ref C) (.ref D)=some b:=by
  unfold PySem.W.kitOne
  by_cases e:C=D
  · subst e
    rw [if_pos (by simp)]
    exact h4.symm.trans h3
  · rw [if_neg (by simpa using e)]
    exact zll h1 h2 h3
section
variable {X:Cx}
def rIsX (K:PySem.W.Frag):List V→Hp→VK→Prop:=fun xs H Q=>∃ a C dct c cv b,xs = [.ref a,c]∧clsV c=some cv∧H a=some (excO C dct a)∧(∀ dx,dct=some dx→∃ fs,H dx=some (.xd fs))∧ExcCls K C∧PySem.W.kitOne K (.ref C) cv=some b∧Q (.bl b) H
theorem zfO:zgb X (.builtin "isinstance") (rIsX X.K):=by
  intro pins s σ H xs us Q I r h
  obtain ⟨a,C,dct,c,cv,b,rfl,hc,hH,hdx,Z,hk,q⟩:=h
  obtain ⟨u,v,rfl,rx,ry⟩:=zmr r
  cases zjn hc ry
  cases (show u=Value.ref a from rx)
  obtain ⟨⟨ob,h1,h2,h3,vs,h4⟩,_⟩:=I.hok a _ hH
  cases dct with
  | none=>exact PySem.W.kia_one (zji Z) I.kIn ⟨ob,none,h1,h2,by unfold PySem.W.notCls; rw [h4],by rw [h3]; trivial⟩ hk (fun z=>nomatch z) fun tk=>⟨.bl b,H,I.tok _,rfl,q⟩
  | some dx =>
    obtain ⟨fs,efs⟩:=hdx dx rfl
    obtain ⟨_,⟨od,_,_,hod,_⟩,_⟩:=(show ObjOk X.prog X.w H s.heap dx (.xd fs) from I.hok dx _ efs)
    exact PySem.W.kia_one (zji Z) I.kIn ⟨ob,some od,h1,h2,by unfold PySem.W.notCls; rw [h4],by rw [h3]; exact hod⟩ hk (fun z=>nomatch z) fun tk=>⟨.bl b,H,I.tok _,rfl,q⟩
end
section
variable {P:Program} {w:World} {K:PySem.W.Frag} {mg:Str→Option Value} {base:Heap} {N:List Str} {qual:Str} {scope:Scope} {f:Addr} {cd:Value} {A:Around} {outer:List Env} {s0:Shared} {H0:Hp} {E:XK}
theorem znP:Made (cx1 P w K mg base N qual scope f cd A outer s0 H0 E) (fun _=>E):=fun _ _ _ _ _ _ _ _ I hm os bare q=>zmz I hm os bare q
theorem zog:zg8 (CX1 P w) (cx1 P w K mg base N qual scope f cd A outer s0 H0 E) (fun _=>E):=fun _ _ _ _ _ _ I h=>zl7 I h
theorem zoD {X:Cx}:zdI (CX1 P w) X E0:=fun _ _ _ _ _ _ _ h=>by
  obtain ⟨_,_,_,_,_,_,z⟩:=h
  exact z.elim
theorem Fun.ok1 {x qual:Str} {st:Stmt} {f:Addr} {fd:FuncData} {N ps:List Str} {k:Nat} {sp:Sp} (F:Fun K x qual st f fd) (S:FnScope N ps (zai st)) (len:∀ vs H Q E,sp vs H Q E→vs.length=ps.length)
    (hbody:∀ (cdv:Value) (A:Around) (outer:List Env) (s:Shared) (H:Hp) (vs:List V) (Q:VK) (E:XK),Room k (A.deeper (envOfC qual (zai st) s.heap.objs.size f cdv))→sp vs H Q E →
      ∃ t,PSs (cx1 P w K mg base N qual (zai st) f cdv A outer s H E) (zc9 st) t∧t { nx:=fun _ H'=>Q .non H',rt:=Q } (start N vs) H):FnOk P w K mg base (CX1 P w) (k + 1) f fd ps sp:=by
  obtain ⟨oc,od,kV,doc,pm,an,cdv,ct,osl,rfl,lk,hcd⟩:=F.ex
  exact zoN lk hcd S len fun A outer s H vs Q E hr hsp=>hbody cdv A outer s H vs Q E hr hsp
end
end L2
namespace PM
open PySem L2
inductive D where
  | non | bl (b:Bool) | int (i:Int) | str (x:Str) | tup (l:List D) | lst (l:List D) | dct (ks:List Key) (l:List D) | scr (l:List Int) | exc (c:Nat) | fd (ks:List Key) (l:List D) | obj (c:Nat) (ks:List Str) (l:List D)
structure Kx where
  f:W.Frag
  ca:Nat→Addr
  an:Nat→Str
def XA (K:Kx) (F:Hp) (c:Nat) (dct:Option Addr):Prop:=if c < 16 then dct=none else ∃ dx,dct=some dx∧F dx=some (.xd [(K.an c,.int (((c / 16:Nat):Int) - 1))])
section
variable (K:Kx)
mutual
def Rep (F:Hp):D→V→Prop
  | .non,v=>v = .non
  | .bl b,v=>v = .bl b
  | .int i,v=>v = .int i
  | .str x,v=>v = .str x
  | .scr l,v=>∃ a,v = .ref a∧SqL K.f F a (l.map V.int)
  | .exc c,v=>∃ a dct,v = .ref a∧F a=some (excO (K.ca c) dct a)∧XA K F c dct
  | .tup l,v=>∃ a vs,v = .ref a∧F a=some (.tup vs)∧RepL F l vs
  | .fd ks l,v=>∃ a o kvs,v = .ref a∧F a=some (.frz o (.dK kvs))∧kvs.map (·.1)=ks∧RepL F l (kvs.map (·.2))
  | .obj c ks l,v=>∃ a dx fs,v = .ref a∧F a=some (.ins (K.ca c) dx fs)∧fs.map (·.1)=ks∧RepL F l (fs.map (·.2))
  | .lst l,v=>∃ a vs,v = .ref a∧Rd F a (.lst vs)∧RepL F l vs
  | .dct ks l,v=>∃ a kvs,v = .ref a∧F a=some (.dK kvs)∧kvs.map (·.1)=ks∧RepL F l (kvs.map (·.2))
def RepL (F:Hp):List D→List V→Prop
  | [],vs=>vs = []
  | d :: l,vs=>∃ v r,vs=v :: r∧Rep F d v∧RepL F l r
end
end
def ifC {α:Type} (p:Prop) (a b:α):α:=@ite α p (Classical.propDecidable p) a b
@[simp] theorem zba {α:Type} {p:Prop} {a b:α} (h:p):ifC p a b=a:=if_pos h
theorem zlv {α:Type} {p:Prop} {a b:α} (h:¬ p):ifC p a b=b:=if_neg h
structure Xc where
  c:Nat
inductive R (α:Type) where
  | no | ok (a:α) | ex (x:Xc)
namespace R
def bind {α β:Type}:R α→(α→R β)→R β
  | .no,_=>.no
  | .ok a,f=>f a
  | .ex x,_=>.ex x
@[simp] theorem bind_ok {α β:Type} (a:α) (f:α→R β):(R.ok a).bind f=f a:=rfl
@[simp] theorem zo7 {α β:Type} (f:α→R β):(R.no:R α).bind f = .no:=rfl
@[simp] theorem zo0 {α β:Type} (x:Xc) (f:α→R β):(R.ex x:R α).bind f = .ex x:=rfl
end R
inductive Tr where
  | d (x:D) | l (ts:List Tr) | t (ts:List Tr)
mutual
def trD:Tr→D
  | .d x=>x
  | .l ts=>.lst (trDL ts)
  | .t ts=>.tup (trDL ts)
def trDL:List Tr→List D
  | []=>[]
  | t :: ts=>trD t :: trDL ts
end
inductive Sl where
  | no | v (d:D) | o (d:D) | l (d:D) | p (T:Tr)
abbrev En:=List Sl
inductive O where
  | no | nx (δ:En) | rt (d:D) | ro (d:D) | bk (δ:En) | ct (δ:En) | ex (δ:En) (x:Xc)
structure Ext (F H F' H':Hp):Prop where
  ff:Same F F'
  hh:Same H H'
  fh:Same F' H'
  nw:∀ p o,F p=none→H p=some o→F' p=none
theorem Ext.refl {F H:Hp} (s:Same F H):Ext F H F H:=⟨.refl _,.refl _,s,fun _ _ h _=>h⟩
theorem Ext.trans {F H F1 H1 F2 H2:Hp} (a:Ext F H F1 H1) (b:Ext F1 H1 F2 H2):Ext F H F2 H2 :=
  ⟨a.ff.trans b.ff,a.hh.trans b.hh,b.fh,fun p o h1 h2=>b.nw p o (a.nw p o h1 h2) (a.hh p o h2)⟩
theorem Ext.new {F H:Hp} {p:Addr} {o:HO} (s:Same F H) (h:H p=none):Ext F H (upd F p o) (upd H p o):=by
  have hf:=s.free h
  refine ⟨Same.upd hf,Same.upd h,fun b u q=>?_,fun q u h1 h2=>?_⟩
  · by_cases e:b=p
    · subst e; rw [zaG] at q ⊢; exact q
    · rw [zar e] at q ⊢; exact s _ _ q
  · rw [zar (zaw h2 h)]; exact h1
theorem Ext.newO {F H:Hp} {p:Addr} {o:HO} (s:Same F H) (h:H p=none):Ext F H F (upd H p o):=by
  refine ⟨.refl _,Same.upd h,s.trans (Same.upd h),fun q u h1 h2=>h1⟩
theorem Same.rd {H H':Hp} {a:Addr} {u:HO} (e:Same H H') (h:Rd H a u):Rd H' a u:=h.elim (fun h=>.inl (e _ _ h)) fun ⟨o,h⟩=>.inr ⟨o,e _ _ h⟩
section
variable {K:Kx} {F F' H H':Hp}
theorem XA.mono {c:Nat} {dct:Option Addr} (h:XA K F c dct) (e:Same F F'):XA K F' c dct:=by
  unfold XA at h ⊢
  split
  · rename_i hc; rw [if_pos hc] at h; exact h
  · rename_i hc
    rw [if_neg hc] at h
    obtain ⟨dx,h1,h2⟩:=h
    exact ⟨dx,h1,e _ _ h2⟩
mutual
theorem Rep.mono (e:Same F F'):∀ (d:D) {v:V},Rep K F d v→Rep K F' d v
  | .non,v,h=>by simpa only [Rep] using h
  | .bl b,v,h=>by simpa only [Rep] using h
  | .int b,v,h=>by simpa only [Rep] using h
  | .str b,v,h=>by simpa only [Rep] using h
  | .exc c,v,h=>by
    simp only [Rep] at h ⊢
    obtain ⟨a,dct,h1,h2,h3⟩:=h
    exact ⟨a,dct,h1,e _ _ h2,h3.mono e⟩
  | .fd ks l,v,h=>by
    simp only [Rep] at h ⊢
    obtain ⟨a,o,vs,h1,h2,h0,h3⟩:=h
    exact ⟨a,o,vs,h1,e _ _ h2,h0,RepL.mono e l h3⟩
  | .obj c ks l,v,h=>by
    simp only [Rep] at h ⊢
    obtain ⟨a,o,vs,h1,h2,h0,h3⟩:=h
    exact ⟨a,o,vs,h1,e _ _ h2,h0,RepL.mono e l h3⟩
  | .scr l,v,h=>by
    simp only [Rep] at h ⊢
    obtain ⟨a,h1,h2⟩:=h
    exact ⟨a,h1,e.seq h2⟩
  | .tup l,v,h=>by
    simp only [Rep] at h ⊢
    obtain ⟨a,vs,h1,h2,h3⟩:=h
    exact ⟨a,vs,h1,e _ _ h2,RepL.mono e l h3⟩
  | .lst l,v,h=>by
    simp only [Rep] at h ⊢
    obtain ⟨a,vs,h1,h2,h3⟩:=h
    exact ⟨a,vs,h1,PM.Same.rd e h2,RepL.mono e l h3⟩
  | .dct ks l,v,h=>by
    simp only [Rep] at h ⊢
    obtain ⟨a,vs,h1,h2,h0,h3⟩:=h
    exact ⟨a,vs,h1,e _ _ h2,h0,RepL.mono e l h3⟩
theorem RepL.mono (e:Same F F'):∀ (l:List D) {vs:List V},RepL K F l vs→RepL K F' l vs
  | [],vs,h=>by simpa only [RepL] using h
  | d :: l,vs,h=>by
    simp only [RepL] at h ⊢
    obtain ⟨v,r,h1,h2,h3⟩:=h
    exact ⟨v,r,h1,Rep.mono e d h2,RepL.mono e l h3⟩
end
theorem RepL.length:∀ {l:List D} {vs:List V},RepL K F l vs→vs.length=l.length
  | [],vs,h=>by simp only [RepL] at h; subst h; rfl
  | d :: l,vs,h=>by
    simp only [RepL] at h
    obtain ⟨v,r,rfl,_,h3⟩:=h
    simp [RepL.length h3]
theorem RepL.get:∀ {l:List D} {vs:List V} {i:Nat} {d:D},RepL K F l vs→l[i]?=some d→∃ v,vs[i]?=some v∧Rep K F d v
  | [],vs,i,d,h,e=>by simp at e
  | x :: l,vs,0,d,h,e=>by
    simp only [RepL] at h
    obtain ⟨v,r,rfl,h2,h3⟩:=h
    simp at e; subst e
    exact ⟨v,rfl,h2⟩
  | x :: l,vs,i + 1,d,h,e=>by
    simp only [RepL] at h
    obtain ⟨v,r,rfl,h2,h3⟩:=h
    obtain ⟨u,h4,h5⟩:=RepL.get h3 (i:=i) (d:=d) (by simpa using e)
    exact ⟨u,by simpa using h4,h5⟩
theorem RepL.nil:RepL K F [] []:=by simp only [RepL]
theorem RepL.cons {d:D} {l:List D} {v:V} {vs:List V} (h1:Rep K F d v) (h2:RepL K F l vs):RepL K F (d :: l) (v :: vs):=by
  simp only [RepL]; exact ⟨v,vs,rfl,h1,h2⟩
theorem RepL.append:∀ {l:List D} {vs:List V} {l':List D} {vs':List V},RepL K F l vs→RepL K F l' vs'→RepL K F (l ++ l') (vs ++ vs')
  | [],vs,l',vs',h,h'=>by simp only [RepL] at h; subst h; exact h'
  | d :: l,vs,l',vs',h,h'=>by
    simp only [RepL] at h
    obtain ⟨v,r,rfl,h2,h3⟩:=h
    exact .cons h2 (RepL.append h3 h')
theorem RepL.drop:∀ {l:List D} {vs:List V} (n:Nat),RepL K F l vs→RepL K F (l.drop n) (vs.drop n)
  | l,vs,0,h=>h
  | [],vs,n + 1,h=>by simp only [RepL] at h; subst h; exact .nil
  | d :: l,vs,n + 1,h=>by
    simp only [RepL] at h
    obtain ⟨v,r,rfl,h2,h3⟩:=h
    exact RepL.drop n h3
theorem RepL.take:∀ {l:List D} {vs:List V} (n:Nat),RepL K F l vs→RepL K F (l.take n) (vs.take n)
  | l,vs,0,h=>by simpa using RepL.nil
  | [],vs,n + 1,h=>by simp only [RepL] at h; subst h; exact .nil
  | d :: l,vs,n + 1,h=>by
    simp only [RepL] at h
    obtain ⟨v,r,rfl,h2,h3⟩:=h
    exact .cons h2 (RepL.take n h3)
theorem RepL.ints {ns:List Int}:RepL K F (ns.map .int) (ns.map .int):=by
  induction ns with
  | nil=>exact .nil
  | cons a l ih=>exact .cons rfl ih
end
section
variable (K:Kx)
def Top (F H:Hp):D→V→Prop
  | .lst l,v=>∃ a vs,v = .ref a∧Rd H a (.lst vs)∧RepL K F l vs
  | .dct ks l,v=>∃ a kvs,v = .ref a∧H a=some (.dK kvs)∧kvs.map (·.1)=ks∧RepL K F l (kvs.map (·.2))
  | .obj c ks l,v=>∃ a dx fs,v = .ref a∧H a=some (.ins (K.ca c) dx fs)∧fs.map (·.1)=ks∧RepL K F l (fs.map (·.2))
  | d,v=>Rep K F d v
def Own (F H:Hp):D→Addr→Prop
  | .lst l,a=>∃ vs,H a=some (.lst vs)∧RepL K F l vs
  | .dct ks l,a=>∃ kvs,H a=some (.dK kvs)∧kvs.map (·.1)=ks∧RepL K F l (kvs.map (·.2))
  | .obj c ks l,a=>∃ dx fs,H a=some (.ins (K.ca c) dx fs)∧fs.map (·.1)=ks∧RepL K F l (fs.map (·.2))
  | _,_=>False
mutual
def TrOk (F H:Hp):Tr→V→List Addr→Prop
  | .d x,v,fp=>fp = []∧Rep K F x v
  | .l ts,v,fp=>∃ a vs fs,v = .ref a∧fp=a :: fs∧H a=some (.lst vs)∧TrOkL F H ts vs fs
  | .t ts,v,fp=>∃ a vs,v = .ref a∧F a=some (.tup vs)∧TrOkL F H ts vs fp
def TrOkL (F H:Hp):List Tr→List V→List Addr→Prop
  | [],vs,fp=>vs = []∧fp = []
  | t :: ts,vs,fp=>∃ v r f1 f2,vs=v :: r∧fp=f1 ++ f2∧TrOk F H t v f1∧TrOkL F H ts r f2
end
structure Tab (F H:Hp) (a:Addr) (bs:List Addr) (T:Tr):Prop where
  ok:TrOk K F H T (.ref a) (a :: bs)
  nd:(a :: bs).Nodup
def SlOk (H0 F H:Hp):Option Sl→Option (Option V)→Prop
  | some (.v d),s=>∃ u,s=some (some u)∧Rep K F d u
  | some (.o d),s=>∃ a,s=some (some (.ref a))∧H0 a=none∧F a=none∧Own K F H d a
  | some (.l d),s=>∃ a,s=some (some (.ref a))∧H0 a=none∧F a=none∧Own K F H d a
  | some (.p T),s=>∃ a bs,s=some (some (.ref a))∧Tab K F H a bs T∧∀ b ∈ a :: bs,H0 b=none∧F b=none
  | _,_=>True
end
def Sl.own:Option Sl→Bool
  | some (.o _)=>true
  | some (.l _)=>true
  | some (.p _)=>true
  | _=>false
structure EnvOk (K:Kx) (Λ:List (Nat × Addr × HO)) (F0 H0 F H:Hp) (σ:St) (δ:En):Prop where
  ext:Ext F0 H0 F H
  len:σ.length=δ.length
  slot:∀ i:Nat,SlOk K H0 F H δ[i]? σ[i]?
  dist:∀ (i j:Nat) (a:Addr),i ≠ j→Sl.own δ[i]?=true→Sl.own δ[j]?=true→σ[i]?=some (some (.ref a))→σ[j]?=some (some (.ref a))→False
  lent:∀ x ∈ Λ,(∃ d,δ[x.1]?=some (.l d))∧σ[x.1]?=some (some (.ref x.2.1))∧H x.2.1=some x.2.2
  tabs:∀ (i:Nat) (T:Tr),δ[i]?=some (.p T)→∃ a bs,σ[i]?=some (some (.ref a))∧Tab K F H a bs T∧(∀ b ∈ a :: bs,H0 b=none∧F b=none)∧(∀ (j:Nat) (b:Addr),j ≠ i→Sl.own δ[j]?=true→σ[j]?=some (some (.ref b))→b ∉ a :: bs)∧∀ (j:Nat) (T':Tr),δ[j]?=some (.p T')→j=i
section
variable {K:Kx} {Λ:List (Nat × Addr × HO)} {F0 H0 F H F' H' F1 H1:Hp} {σ:St} {δ:En}
theorem Own.mono (e1:Same F F') (e2:Same H H'):∀ {d:D} {a:Addr},Own K F H d a→Own K F' H' d a
  | .lst l,a,h=>let ⟨vs,h1,h2⟩:=h; ⟨vs,e2 _ _ h1,h2.mono e1⟩
  | .dct ks l,a,h=>let ⟨vs,h1,h0,h2⟩:=h; ⟨vs,e2 _ _ h1,h0,h2.mono e1⟩
  | .non,_,h=>h.elim
  | .bl _,_,h=>h.elim
  | .int _,_,h=>h.elim
  | .str _,_,h=>h.elim
  | .tup _,_,h=>h.elim
  | .scr _,_,h=>h.elim
  | .exc _,_,h=>h.elim
  | .fd _ _,_,h=>h.elim
  | .obj c ks l,a,h=>let ⟨dx,vs,h1,h0,h2⟩:=h; ⟨dx,vs,e2 _ _ h1,h0,h2.mono e1⟩
theorem Own.obj:∀ {d:D} {a:Addr},Own K F H d a→∃ o,H a=some o
  | .lst l,a,h=>let ⟨vs,h1,h2⟩:=h; ⟨_,h1⟩
  | .dct ks l,a,h=>let ⟨vs,h1,h2⟩:=h; ⟨_,h1⟩
  | .non,_,h=>h.elim
  | .bl _,_,h=>h.elim
  | .int _,_,h=>h.elim
  | .str _,_,h=>h.elim
  | .tup _,_,h=>h.elim
  | .scr _,_,h=>h.elim
  | .exc _,_,h=>h.elim
  | .fd _ _,_,h=>h.elim
  | .obj c ks l,a,h=>let ⟨dx,vs,h1,h2⟩:=h; ⟨_,h1⟩
theorem Own.at (e:H' a=H a):∀ {d:D},Own K F H d a→Own K F H' d a
  | .lst l,h=>let ⟨vs,h1,h2⟩:=h; ⟨vs,e.trans h1,h2⟩
  | .dct ks l,h=>let ⟨vs,h1,h0,h2⟩:=h; ⟨vs,e.trans h1,h0,h2⟩
  | .non,h=>h.elim
  | .bl _,h=>h.elim
  | .int _,h=>h.elim
  | .str _,h=>h.elim
  | .tup _,h=>h.elim
  | .scr _,h=>h.elim
  | .exc _,h=>h.elim
  | .fd _ _,h=>h.elim
  | .obj c ks l,h=>let ⟨dx,vs,h1,h0,h2⟩:=h; ⟨dx,vs,e.trans h1,h0,h2⟩
theorem Rep.top (s:Same F H):∀ {d:D} {v:V},Rep K F d v→Top K F H d v
  | .lst l,v,h=>by
    simp only [Rep] at h
    obtain ⟨a,vs,h1,h2,h3⟩:=h
    exact ⟨a,vs,h1,PM.Same.rd s h2,h3⟩
  | .dct ks l,v,h=>by
    simp only [Rep] at h
    obtain ⟨a,vs,h1,h2,h3⟩:=h
    exact ⟨a,vs,h1,s _ _ h2,h3⟩
  | .non,_,h=>h
  | .bl _,_,h=>h
  | .int _,_,h=>h
  | .str _,_,h=>h
  | .tup _,_,h=>h
  | .scr _,_,h=>h
  | .exc _,_,h=>h
  | .fd _ _,_,h=>h
  | .obj c ks l,v,h=>by
    simp only [Rep] at h
    obtain ⟨a,dx,vs,h1,h2,h3⟩:=h
    exact ⟨a,dx,vs,h1,s _ _ h2,h3⟩
theorem Own.top:∀ {d:D} {a:Addr},Own K F H d a→Top K F H d (.ref a)
  | .lst l,a,h=>let ⟨vs,h1,h2⟩:=h; ⟨a,vs,rfl,.inl h1,h2⟩
  | .dct ks l,a,h=>let ⟨vs,h1,h2⟩:=h; ⟨a,vs,rfl,h1,h2⟩
  | .non,_,h=>h.elim
  | .bl _,_,h=>h.elim
  | .int _,_,h=>h.elim
  | .str _,_,h=>h.elim
  | .tup _,_,h=>h.elim
  | .scr _,_,h=>h.elim
  | .exc _,_,h=>h.elim
  | .fd _ _,_,h=>h.elim
  | .obj c ks l,a,h=>let ⟨dx,vs,h1,h2⟩:=h; ⟨a,dx,vs,rfl,h1,h2⟩
theorem Top.mono (e1:Same F F') (e2:Same H H'):∀ {d:D} {v:V},Top K F H d v→Top K F' H' d v
  | .lst l,v,h=>let ⟨a,vs,h1,h2,h3⟩:=h; ⟨a,vs,h1,PM.Same.rd e2 h2,h3.mono e1⟩
  | .dct ks l,v,h=>let ⟨a,vs,h1,h2,h0,h3⟩:=h; ⟨a,vs,h1,e2 _ _ h2,h0,h3.mono e1⟩
  | .non,_,h=>h
  | .bl _,_,h=>h
  | .int _,_,h=>h
  | .str _,_,h=>h
  | .tup l,v,h=>Rep.mono e1 (.tup l) h
  | .scr l,v,h=>Rep.mono e1 (.scr l) h
  | .exc l,v,h=>Rep.mono e1 (.exc l) h
  | .fd ks l,v,h=>Rep.mono e1 (.fd ks l) h
  | .obj c ks l,v,h=>let ⟨a,dx,vs,h1,h2,h0,h3⟩:=h; ⟨a,dx,vs,h1,e2 _ _ h2,h0,h3.mono e1⟩
theorem Own.freeze {p:Addr} {d:D} (x:Ext F H F' H') (h0:F' p=none) (h1:H p=none) (o:Own K F' H' d p):∃ F'',Ext F H F'' H'∧Same F' F''∧Rep K F'' d (.ref p):=by
  obtain ⟨u,hu⟩:=o.obj
  have hs:Same F' (upd F' p u):=Same.upd h0
  refine ⟨upd F' p u,⟨x.ff.trans hs,x.hh,fun b w q=>?_,fun q w h2 h3=>?_⟩,hs,?_⟩
  · by_cases e:b=p
    · subst e; rw [zaG] at q; cases q; exact hu
    · rw [zar e] at q; exact x.fh _ _ q
  · rw [zar (zaw h3 h1)]; exact x.nw q w h2 h3
  · cases d with
    | lst l =>
      obtain ⟨vs,h2,h3⟩:=o
      rw [hu] at h2; cases h2
      simp only [Rep]
      exact ⟨p,vs,rfl,.inl zaG,h3.mono hs⟩
    | dct ks l =>
      obtain ⟨vs,h2,h3,h4⟩:=o
      rw [hu] at h2; cases h2
      simp only [Rep]
      exact ⟨p,vs,rfl,zaG,h3,h4.mono hs⟩
    | obj c ks l =>
      obtain ⟨dx,vs,h2,h3,h4⟩:=o
      rw [hu] at h2; cases h2
      simp only [Rep]
      exact ⟨p,dx,vs,rfl,zaG,h3,h4.mono hs⟩
    | _=>exact o.elim
mutual
theorem TrOk.mono (e:Same F F') (e2:Same H H'):∀ (T:Tr) {v:V} {fp:List Addr},TrOk K F H T v fp→TrOk K F' H' T v fp
  | .d x,v,fp,h=>by
    simp only [TrOk] at h ⊢
    exact ⟨h.1,Rep.mono e x h.2⟩
  | .l ts,v,fp,h=>by
    simp only [TrOk] at h ⊢
    obtain ⟨a,vs,fs,h1,h2,h3,h4⟩:=h
    exact ⟨a,vs,fs,h1,h2,e2 _ _ h3,TrOkL.mono e e2 ts h4⟩
  | .t ts,v,fp,h=>by
    simp only [TrOk] at h ⊢
    obtain ⟨a,vs,h1,h3,h4⟩:=h
    exact ⟨a,vs,h1,e _ _ h3,TrOkL.mono e e2 ts h4⟩
theorem TrOkL.mono (e:Same F F') (e2:Same H H'):∀ (ts:List Tr) {vs:List V} {fp:List Addr},TrOkL K F H ts vs fp→TrOkL K F' H' ts vs fp
  | [],vs,fp,h=>by simpa only [TrOkL] using h
  | t :: ts,vs,fp,h=>by
    simp only [TrOkL] at h ⊢
    obtain ⟨v,r,f1,f2,h1,h2,h3,h4⟩:=h
    exact ⟨v,r,f1,f2,h1,h2,TrOk.mono e e2 t h3,TrOkL.mono e e2 ts h4⟩
end
mutual
theorem TrOk.obj:∀ (T:Tr) {v:V} {fp:List Addr},TrOk K F H T v fp→∀ b ∈ fp,∃ o,H b=some o
  | .d x,v,fp,h,b,hb=>by
    simp only [TrOk] at h
    rw [h.1] at hb; cases hb
  | .l ts,v,fp,h,b,hb=>by
    simp only [TrOk] at h
    obtain ⟨a,vs,fs,h1,h2,h3,h4⟩:=h
    rw [h2] at hb
    rcases List.mem_cons.mp hb with e | hb
    · subst e; exact ⟨_,h3⟩
    · exact TrOkL.obj ts h4 b hb
  | .t ts,v,fp,h,b,hb=>by
    simp only [TrOk] at h
    obtain ⟨a,vs,h1,h3,h4⟩:=h
    exact TrOkL.obj ts h4 b hb
theorem TrOkL.obj:∀ (ts:List Tr) {vs:List V} {fp:List Addr},TrOkL K F H ts vs fp→∀ b ∈ fp,∃ o,H b=some o
  | [],vs,fp,h,b,hb=>by
    simp only [TrOkL] at h
    rw [h.2] at hb; cases hb
  | t :: ts,vs,fp,h,b,hb=>by
    simp only [TrOkL] at h
    obtain ⟨v,r,f1,f2,h1,h2,h3,h4⟩:=h
    rw [h2] at hb
    rcases List.mem_append.mp hb with hb | hb
    · exact TrOk.obj t h3 b hb
    · exact TrOkL.obj ts h4 b hb
end
mutual
theorem TrOk.at':∀ (T:Tr) {v:V} {fp:List Addr},TrOk K F H T v fp→(∀ b ∈ fp,H' b=H b)→TrOk K F H' T v fp
  | .d x,v,fp,h,_=>by simpa only [TrOk] using h
  | .l ts,v,fp,h,e=>by
    simp only [TrOk] at h ⊢
    obtain ⟨a,vs,fs,h1,h2,h3,h4⟩:=h
    subst h2
    exact ⟨a,vs,fs,h1,rfl,(e a (by simp)).trans h3,TrOkL.at' ts h4 fun b hb=>e b (List.mem_cons_of_mem _ hb)⟩
  | .t ts,v,fp,h,e=>by
    simp only [TrOk] at h ⊢
    obtain ⟨a,vs,h1,h3,h4⟩:=h
    exact ⟨a,vs,h1,h3,TrOkL.at' ts h4 e⟩
theorem TrOkL.at':∀ (ts:List Tr) {vs:List V} {fp:List Addr},TrOkL K F H ts vs fp→(∀ b ∈ fp,H' b=H b)→TrOkL K F H' ts vs fp
  | [],vs,fp,h,_=>by simpa only [TrOkL] using h
  | t :: ts,vs,fp,h,e=>by
    simp only [TrOkL] at h ⊢
    obtain ⟨v,r,f1,f2,h1,h2,h3,h4⟩:=h
    subst h2
    exact ⟨v,r,f1,f2,h1,rfl,TrOk.at' t h3 fun b hb=>e b (List.mem_append_left _ hb),TrOkL.at' ts h4 fun b hb=>e b (List.mem_append_right _ hb)⟩
end
theorem Tab.mono {a:Addr} {bs:List Addr} {T:Tr} (e1:Same F F') (e:Same H H') (t:Tab K F H a bs T):Tab K F' H' a bs T:=⟨TrOk.mono e1 e T t.ok,t.nd⟩
theorem Tab.obj {a:Addr} {bs:List Addr} {T:Tr} (t:Tab K F H a bs T):∀ b ∈ a :: bs,∃ o,H b=some o:=TrOk.obj T t.ok
theorem Tab.at' {a:Addr} {bs:List Addr} {T:Tr} (t:Tab K F H a bs T) (e:∀ b ∈ a :: bs,H' b=H b):Tab K F H' a bs T:=⟨TrOk.at' T t.ok e,t.nd⟩
theorem SlOk.mono (e:Ext F H F' H'):∀ {x:Option Sl} {s:Option (Option V)},SlOk K H0 F H x s→SlOk K H0 F' H' x s
  | some (.v d),s,h=>let ⟨u,h1,h2⟩:=h; ⟨u,h1,Rep.mono e.ff d h2⟩
  | some (.o d),s,h=>let ⟨a,h1,h2,h3,h4⟩:=h; let ⟨o,ho⟩:=h4.obj; ⟨a,h1,h2,e.nw a o h3 ho,h4.mono e.ff e.hh⟩
  | some (.l d),s,h=>let ⟨a,h1,h2,h3,h4⟩:=h; let ⟨o,ho⟩:=h4.obj; ⟨a,h1,h2,e.nw a o h3 ho,h4.mono e.ff e.hh⟩
  | some (.p T),s,h=>let ⟨a,bs,h1,h2,h3⟩:=h; ⟨a,bs,h1,h2.mono e.ff e.hh,fun b hb=>let ⟨o,ho⟩:=h2.obj b hb; ⟨(h3 b hb).1,e.nw b o (h3 b hb).2 ho⟩⟩
  | some .no,_,_=>trivial
  | none,_,_=>trivial
theorem EnvOk.tab (I:EnvOk K Λ F0 H0 F H σ δ) {i:Nat} {T:Tr} (hx:δ[i]?=some (.p T)):∃ a bs,σ[i]?=some (some (.ref a))∧Tab K F H a bs T∧(∀ b ∈ a :: bs,H0 b=none∧F b=none)∧(∀ (j:Nat) (b:Addr),j ≠ i→Sl.own δ[j]?=true→σ[j]?=some (some (.ref b))→b ∉ a :: bs)∧∀ (j:Nat) (T':Tr),δ[j]?=some (.p T')→j=i:=I.tabs i T hx
theorem EnvOk.tabsOf {δ':En} {σ':St} (I:EnvOk K Λ F0 H0 F H σ δ) (h1:∀ (i:Nat) (T:Tr),δ'[i]?=some (.p T)→δ[i]?=some (.p T)∧σ'[i]?=σ[i]?)
    (h2:∀ (i:Nat) (a:Addr) (bs:List Addr) (T:Tr),δ[i]?=some (.p T)→σ[i]?=some (some (.ref a))→Tab K F H a bs T→(∀ b ∈ a :: bs,H0 b=none∧F b=none)→(∀ (j:Nat) (b:Addr),j ≠ i→Sl.own δ[j]?=true→σ[j]?=some (some (.ref b))→b ∉ a :: bs)→Tab K F' H' a bs T∧∀ b ∈ a :: bs,F' b=none)
    (h3:∀ (i j:Nat) (T:Tr) (a b:Addr) (bs:List Addr),δ[i]?=some (.p T)→σ[i]?=some (some (.ref a))→Tab K F H a bs T→j ≠ i→Sl.own δ'[j]?=true→σ'[j]?=some (some (.ref b))→(Sl.own δ[j]?=true∧σ[j]?=some (some (.ref b)))∨b ∉ a :: bs) :
    ∀ (i:Nat) (T:Tr),δ'[i]?=some (.p T)→∃ a bs,σ'[i]?=some (some (.ref a))∧Tab K F' H' a bs T∧(∀ b ∈ a :: bs,H0 b=none∧F' b=none)∧(∀ (j:Nat) (b:Addr),j ≠ i→Sl.own δ'[j]?=true→σ'[j]?=some (some (.ref b))→b ∉ a :: bs)∧∀ (j:Nat) (T':Tr),δ'[j]?=some (.p T')→j=i:=by
  intro i T g1
  obtain ⟨d1,d2⟩:=h1 i T g1
  obtain ⟨a,bs,t1,t2,t3,t4,t5⟩:=I.tab d1
  obtain ⟨u1,u2⟩:=h2 i a bs T d1 t1 t2 t3 t4
  refine ⟨a,bs,d2.trans t1,u1,fun b hb=>⟨(t3 b hb).1,u2 b hb⟩,fun j b hj ho hs hb=>?_,fun j T' hj=>t5 j T' (h1 j T' hj).1⟩
  rcases h3 i j T a b bs d1 t1 t2 hj ho hs with ⟨o1,o2⟩ | o
  · exact t4 j b hj o1 o2 hb
  · exact o hb
theorem zjp (e:Ext F H F' H') {a:Addr} {bs:List Addr} {T:Tr} (t:Tab K F H a bs T) (f:∀ b ∈ a :: bs,H0 b=none∧F b=none):Tab K F' H' a bs T∧∀ b ∈ a :: bs,F' b=none :=
  ⟨t.mono e.ff e.hh,fun b hb=>let ⟨o,ho⟩:=t.obj b hb; e.nw b o (f b hb).2 ho⟩
theorem EnvOk.grow (I:EnvOk K Λ F0 H0 F H σ δ) (e:Ext F H F' H'):EnvOk K Λ F0 H0 F' H' σ δ :=
  ⟨I.ext.trans e,I.len,fun i=>(I.slot i).mono e,I.dist,fun x hx=>let ⟨h1,h2,h3⟩:=I.lent x hx; ⟨h1,h2,e.hh _ _ h3⟩,I.tabsOf (fun i T h=>⟨h,rfl⟩) (fun i a bs T _ _ t f _=>zjp e t f) fun i j T a b bs _ _ _ _ ho hs=>.inl ⟨ho,hs⟩⟩
theorem EnvOk.same (I:EnvOk K Λ F0 H0 F H σ δ):Same F H:=I.ext.fh
theorem Ext.base (a:Ext F0 H0 F1 H1) (b:Ext F1 H0 F' H'):Ext F0 H0 F' H' :=
  ⟨a.ff.trans b.ff,b.hh,b.fh,fun p o h1 h2=>b.nw p o (a.nw p o h1 h2) h2⟩
theorem EnvOk.up (I:EnvOk K Λ F0 H0 F H σ δ):EnvOk K Λ F H0 F H σ δ :=
  ⟨⟨.refl _,I.ext.hh,I.ext.fh,fun p o h1 h2=>h1⟩,I.len,I.slot,I.dist,I.lent,I.tabs⟩
theorem EnvOk.down (a:Ext F0 H0 F1 H1) (I:EnvOk K Λ F1 H0 F H σ δ):EnvOk K Λ F0 H0 F H σ δ :=
  ⟨a.base I.ext,I.len,I.slot,I.dist,I.lent,I.tabs⟩
theorem EnvOk.put {i:Nat} {d:D} {v:V} (I:EnvOk K Λ F0 H0 F H σ δ) (hl:∃ x,δ[i]?=some x∧∀ d,x ≠ .l d) (r:Rep K F d v):EnvOk K Λ F0 H0 F H (σ.set i (some v)) (δ.set i (.v d)):=by
  obtain ⟨x,hx,hn⟩:=hl
  have hi:i < δ.length:=(List.getElem?_eq_some_iff.mp hx).1
  have hi':i < σ.length:=by rw [I.len]; exact hi
  refine ⟨I.ext,by simp [I.len],fun j=>?_,fun j k a hjk h1 h2 h3 h4=>?_,fun y hy=>?_,I.tabsOf (fun k ll h=>by
      by_cases e:i=k
      · subst e; rw [List.getElem?_set_self hi] at h; cases h
      · rw [List.getElem?_set_ne e] at h; exact ⟨h,List.getElem?_set_ne e⟩) (fun _ _ _ _ _ _ t f _=>⟨t,fun b hb=>(f b hb).2⟩) fun k j ll a b bs _ _ _ _ ho hs=>.inl (by
      by_cases e:i=j
      · subst e; rw [List.getElem?_set_self hi] at ho; cases ho
      · rw [List.getElem?_set_ne e] at ho hs; exact ⟨ho,hs⟩)⟩
  · by_cases e:i=j
    · subst e
      rw [List.getElem?_set_self hi,List.getElem?_set_self hi']
      exact ⟨v,rfl,r⟩
    · rw [List.getElem?_set_ne e,List.getElem?_set_ne e]
      exact I.slot j
  · have ne:∀ k:Nat,Sl.own (δ.set i (.v d))[k]?=true→i ≠ k:=by
      rintro k h rfl
      rw [List.getElem?_set_self hi] at h
      cases h
    have n1:=ne j h1
    have n2:=ne k h2
    rw [List.getElem?_set_ne n1] at h1 h3
    rw [List.getElem?_set_ne n2] at h2 h4
    exact I.dist j k a hjk h1 h2 h3 h4
  · obtain ⟨⟨d',h1⟩,h2,h3⟩:=I.lent y hy
    have n:i ≠ y.1:=by
      intro e
      rw [← e,hx] at h1
      exact hn d' (Option.some.inj h1)
    exact ⟨⟨d',by rw [List.getElem?_set_ne n]; exact h1⟩,by rw [List.getElem?_set_ne n]; exact h2,h3⟩
theorem EnvOk.putO {i:Nat} {d:D} {p:Addr} (I:EnvOk K Λ F0 H0 F H σ δ) (hl:∃ x,δ[i]?=some x∧∀ d,x ≠ .l d) (e:Ext F H F' H') (h0:F' p=none) (h1:H p=none) (o:Own K F' H' d p) :
    EnvOk K Λ F0 H0 F' H' (σ.set i (some (.ref p))) (δ.set i (.o d)):=by
  obtain ⟨x,hx,hn⟩:=hl
  have hi:i < δ.length:=(List.getElem?_eq_some_iff.mp hx).1
  have hi':i < σ.length:=by rw [I.len]; exact hi
  have fresh:∀ k:Nat,Sl.own δ[k]?=true→σ[k]? ≠ some (some (V.ref p)):=fun k hk e=>by
    have z:=I.slot k
    cases q:δ[k]? with
    | none=>rw [q] at hk; cases hk
    | some y =>
      rw [q] at hk z
      cases y with
      | no=>cases hk
      | v d=>cases hk
      | o d =>
        obtain ⟨a,z1,_,_,z4⟩:=z
        rw [e] at z1; cases z1
        obtain ⟨u,hu⟩:=z4.obj
        rw [h1] at hu; cases hu
      | l d =>
        obtain ⟨a,z1,_,_,z4⟩:=z
        rw [e] at z1; cases z1
        obtain ⟨u,hu⟩:=z4.obj
        rw [h1] at hu; cases hu
      | p ll =>
        obtain ⟨a,bs,z1,z2,_⟩:=z
        rw [e] at z1; cases z1
        obtain ⟨u,hu⟩:=z2.obj p (by simp)
        rw [h1] at hu; cases hu
  have J:=I.grow e
  refine ⟨J.ext,by simp [I.len],fun j=>?_,fun j k a hjk g1 g2 g3 g4=>?_,fun y hy=>?_,I.tabsOf (fun k ll h=>by
      by_cases e:i=k
      · subst e; rw [List.getElem?_set_self hi] at h; cases h
      · rw [List.getElem?_set_ne e] at h; exact ⟨h,List.getElem?_set_ne e⟩) (fun k a bs T _ _ t f _=>zjp e t f) fun k j ll a b bs _ _ t _ ho hs=>by
      by_cases e:i=j
      · subst e
        rw [List.getElem?_set_self hi'] at hs
        cases hs
        refine .inr fun hb=>?_
        obtain ⟨u,hu⟩:=t.obj p hb
        rw [h1] at hu; cases hu
      · rw [List.getElem?_set_ne e] at ho hs; exact .inl ⟨ho,hs⟩⟩
  · by_cases e:i=j
    · subst e
      rw [List.getElem?_set_self hi,List.getElem?_set_self hi']
      exact ⟨p,rfl,I.ext.hh.free h1,h0,o⟩
    · rw [List.getElem?_set_ne e,List.getElem?_set_ne e]
      exact J.slot j
  · by_cases e1:i=j
    · subst e1
      rw [List.getElem?_set_self hi'] at g3
      cases g3
      rw [List.getElem?_set_ne hjk] at g2 g4
      exact fresh k g2 g4
    · by_cases e2:i=k
      · subst e2
        rw [List.getElem?_set_self hi'] at g4
        cases g4
        rw [List.getElem?_set_ne e1] at g1 g3
        exact fresh j g1 g3
      · rw [List.getElem?_set_ne e1] at g1 g3
        rw [List.getElem?_set_ne e2] at g2 g4
        exact I.dist j k a hjk g1 g2 g3 g4
  · obtain ⟨⟨d',g1⟩,g2,g3⟩:=J.lent y hy
    have n:i ≠ y.1:=by
      intro e
      rw [← e,hx] at g1
      exact hn d' (Option.some.inj g1)
    exact ⟨⟨d',by rw [List.getElem?_set_ne n]; exact g1⟩,by rw [List.getElem?_set_ne n]; exact g2,g3⟩
theorem EnvOk.chg {i:Nat} {d d':D} {a:Addr} {u:HO} (I:EnvOk K Λ F0 H0 F H σ δ) (hx:δ[i]?=some (.o d)) (ha:σ[i]?=some (some (.ref a))) (o:Own K F (upd H a u) d' a) :
    EnvOk K Λ F0 H0 F (upd H a u) σ (δ.set i (.o d')):=by
  have hi:i < δ.length:=(List.getElem?_eq_some_iff.mp hx).1
  have z:=I.slot i
  rw [hx] at z
  obtain ⟨a',z1,z2,z3,z4⟩:=z
  rw [ha] at z1; cases z1
  have oth:∀ (k:Nat) (b:Addr),i ≠ k→Sl.own δ[k]?=true→σ[k]?=some (some (.ref b))→b ≠ a:=fun k b hk h1 h2 e=>by
    subst e
    exact I.dist i k b hk (by rw [hx]; rfl) h1 ha h2
  refine ⟨⟨I.ext.ff,fun b w q=>?_,fun b w q=>?_,I.ext.nw⟩,by simp [I.len],fun j=>?_,fun j k b hjk g1 g2 g3 g4=>?_,fun y hy=>?_,I.tabsOf (fun k ll h=>by
      by_cases e:i=k
      · subst e; rw [List.getElem?_set_self hi] at h; cases h
      · rw [List.getElem?_set_ne e] at h; exact ⟨h,rfl⟩) (fun k r bs T g1 g2 t f dj=>by
      have e:i ≠ k:=fun e=>by subst e; rw [hx] at g1; cases g1
      exact ⟨t.at' fun b hb=>zar fun e'=>dj i a e (by rw [hx]; rfl) ha (e' ▸ hb),fun b hb=>(f b hb).2⟩) fun k j ll r b bs _ _ _ _ ho hs=>.inl (by
      by_cases e:i=j
      · subst e; exact ⟨by rw [hx]; rfl,hs⟩
      · rw [List.getElem?_set_ne e] at ho; exact ⟨ho,hs⟩)⟩
  · rw [zar (zaw q z2)]; exact I.ext.hh b w q
  · rw [zar (zaw q z3)]; exact I.ext.fh b w q
  · by_cases e:i=j
    · subst e
      rw [List.getElem?_set_self hi]
      exact ⟨a,ha,z2,z3,o⟩
    · rw [List.getElem?_set_ne e]
      have w:=I.slot j
      cases q:δ[j]? with
      | none=>trivial
      | some y =>
        rw [q] at w
        cases y with
        | no=>trivial
        | v d=>exact w
        | o d =>
          obtain ⟨b,w1,w2,w3,w4⟩:=w
          exact ⟨b,w1,w2,w3,w4.at (zar (oth j b e (by rw [q]; rfl) w1))⟩
        | l d =>
          obtain ⟨b,w1,w2,w3,w4⟩:=w
          exact ⟨b,w1,w2,w3,w4.at (zar (oth j b e (by rw [q]; rfl) w1))⟩
        | p ll =>
          obtain ⟨r,bs,t1,t2,t3,t4,t5⟩:=I.tab q
          exact ⟨r,bs,t1,t2.at' fun b hb=>zar fun e'=>t4 i a e (by rw [hx]; rfl) ha (e' ▸ hb),t3⟩
  · have ow:∀ k:Nat,Sl.own (δ.set i (.o d'))[k]?=true→Sl.own δ[k]?=true:=by
      intro k h
      by_cases e:i=k
      · subst e; rw [hx]; rfl
      · rw [List.getElem?_set_ne e] at h; exact h
    exact I.dist j k b hjk (ow j g1) (ow k g2) g3 g4
  · obtain ⟨⟨d2,g1⟩,g2,g3⟩:=I.lent y hy
    have n:i ≠ y.1:=by
      intro e
      rw [← e,hx] at g1
      cases g1
    exact ⟨⟨d2,by rw [List.getElem?_set_ne n]; exact g1⟩,g2,by rw [zar (oth y.1 y.2.1 n (by rw [g1]; rfl) g2)]; exact g3⟩
end
end PM
namespace PM
open PySem L2
abbrev XOT:=Xc→Hp→Hp→Value→Option Addr→Prop
def Aft {α:Type} (E:St→XK) (XO:XOT) (σ:St) (F H:Hp) (P:α→Hp→Hp→Prop):R α→Prop
  | .no=>False
  | .ok a=>∀ F' H',Ext F H F' H'→P a F' H'
  | .ex x=>∀ C dct F' H',Ext F H F' H'→XO x F' H' C dct→E σ C dct H'
section
variable {E:St→XK} {XO:XOT} {σ:St} {F H F1 H1:Hp} {α β:Type} {P P':α→Hp→Hp→Prop}
theorem Aft.mono (e:Ext F H F1 H1):∀ {r:R α},Aft E XO σ F H P r→Aft E XO σ F1 H1 P r
  | .no,h=>h
  | .ok _,h=>fun F' H' e'=>h F' H' (e.trans e')
  | .ex _,h=>fun C dct F' H' e' x=>h C dct F' H' (e.trans e') x
theorem Aft.imp (i:∀ a F1 H1,Ext F H F1 H1→P a F1 H1→P' a F1 H1):∀ {r:R α},Aft E XO σ F H P r→Aft E XO σ F H P' r
  | .no,h=>h
  | .ok _,h=>fun F' H' e'=>i _ F' H' e' (h F' H' e')
  | .ex _,h=>h
theorem Aft.bind {P:β→Hp→Hp→Prop} {f:α→R β}:∀ {r:R α},Aft E XO σ F H P (r.bind f)→Aft E XO σ F H (fun a F1 H1=>Aft E XO σ F1 H1 P (f a)) r
  | .no,h=>h
  | .ok _,h=>fun F' H' e'=>Aft.mono e' h
  | .ex _,h=>h
end
inductive Prd (T:D→V→Prop):List D→List V→Prop where
  | nil:Prd T [] []
  | cons {d:D} {v:V} {ds:List D} {vs:List V}:T d v→Prd T ds vs→Prd T (d :: ds) (v :: vs)
section
variable (K:Kx) (XO:XOT) (E:St→XK)
def SE (t:TE) (m:En→R D):Prop:=∀ Λ F0 H0 F H σ δ Q,EnvOk K Λ F0 H0 F H σ δ→Aft E XO σ F H (fun d F' H'=>∀ v,Rep K F' d v→Q v H') (m δ)→t σ H Q
def SEr (t:TE) (m:En→R D):Prop:=∀ Λ F0 H0 F H σ δ Q,EnvOk K Λ F0 H0 F H σ δ→Aft E XO σ F H (fun d F' H'=>∀ v,Top K F' H' d v→Q v H') (m δ)→t σ H Q
def SEo (t:TE) (m:En→R D):Prop:=∀ Λ F0 H0 F H σ δ Q,EnvOk K Λ F0 H0 F H σ δ→Aft E XO σ F H (fun d F' H'=>∀ p,F' p=none→H p=none→Own K F' H' d p→Q (.ref p) H') (m δ)→t σ H Q
def ST (t:TT) (m:En→R Bool):Prop:=∀ Λ F0 H0 F H σ δ Q,EnvOk K Λ F0 H0 F H σ δ→Aft E XO σ F H (fun b _ H'=>Q b H') (m δ)→t σ H Q
def SA (t:TA) (m:En→R (List D)):Prop:=∀ Λ F0 H0 F H σ δ Q,EnvOk K Λ F0 H0 F H σ δ→Aft E XO σ F H (fun ds F' H'=>∀ vs,RepL K F' ds vs→Q vs H') (m δ)→t σ H Q
def SAr (t:TA) (m:En→R (List D)):Prop:=∀ Λ F0 H0 F H σ δ Q,EnvOk K Λ F0 H0 F H σ δ→Aft E XO σ F H (fun ds F' H'=>∀ vs,Prd (Top K F' H') ds vs→Q vs H') (m δ)→t σ H Q
end
section
variable {K:Kx} {XO:XOT} {E:St→XK} {t ta tb te:TE} {m ma mb me:En→R D}
theorem SE.r (h:SE K XO E t m):SEr K XO E t m:=fun Λ F0 H0 F H σ δ Q I a=>h Λ F0 H0 F H σ δ Q I (a.imp fun d F1 H1 e p v r=>p v (r.top e.fh))
theorem SEo.e (h:SEo K XO E t m):SE K XO E t m:=fun Λ F0 H0 F H σ δ Q I a=>h Λ F0 H0 F H σ δ Q I (by
  cases q:m δ with
  | no=>rw [q] at a; exact a
  | ex x=>rw [q] at a; exact a
  | ok d =>
    rw [q] at a
    intro F1 H1 e p h0 h1 o
    obtain ⟨F2,e2,s2,r⟩:=o.freeze e h0 h1
    exact a F2 H1 e2 _ r)
def mVar (i:Nat) (δ:En):R D:=match δ[i]? with | some (.v d)=>.ok d | _=>.no
def mRd (i:Nat) (δ:En):R D:=match δ[i]? with | some (.v d)=>.ok d | some (.o d)=>.ok d | some (.l d)=>.ok d | _=>.no
theorem zaf {i:Nat}:SE K XO E (tVar i) (mVar i):=by
  intro Λ F0 H0 F H σ δ Q I a
  unfold mVar at a
  have z:=I.slot i
  split at a
  · rename_i d q
    rw [q] at z
    obtain ⟨u,h1,h2⟩:=z
    exact ⟨u,h1,a F H (.refl I.same) u h2⟩
  · exact a.elim
theorem zac {i:Nat}:SEr K XO E (tVar i) (mRd i):=by
  intro Λ F0 H0 F H σ δ Q I a
  unfold mRd at a
  have z:=I.slot i
  split at a
  · rename_i d q
    rw [q] at z
    obtain ⟨u,h1,h2⟩:=z
    exact ⟨u,h1,a F H (.refl I.same) u (h2.top I.same)⟩
  · rename_i d q
    rw [q] at z
    obtain ⟨u,h1,_,_,h2⟩:=z
    exact ⟨_,h1,a F H (.refl I.same) _ h2.top⟩
  · rename_i d q
    rw [q] at z
    obtain ⟨u,h1,_,_,h2⟩:=z
    exact ⟨_,h1,a F H (.refl I.same) _ h2.top⟩
  · exact a.elim
def mC (d:D) (_:En):R D:=.ok d
theorem zal {i:Int}:SE K XO E (tC (.int i)) (mC (.int i)):=fun Λ F0 H0 F H σ δ Q I a=>a F H (.refl I.same) _ (by simp only [Rep])
theorem zd0 {i:Bool}:SE K XO E (tC (.bl i)) (mC (.bl i)):=fun Λ F0 H0 F H σ δ Q I a=>a F H (.refl I.same) _ (by simp only [Rep])
theorem zm2:SE K XO E (tC .non) (mC .non):=fun Λ F0 H0 F H σ δ Q I a=>a F H (.refl I.same) _ (by simp only [Rep])
theorem zlH {i:Str}:SE K XO E (tC (.str i)) (mC (.str i)):=fun Λ F0 H0 F H σ δ Q I a=>a F H (.refl I.same) _ (by simp only [Rep])
def R.of {α:Type}:Option α→R α
  | some a=>.ok a
  | none=>.no
@[simp] theorem R.of_some {α:Type} (a:α):R.of (some a) = .ok a:=rfl
@[simp] theorem R.of_none {α:Type}:R.of (none:Option α) = .no:=rfl
def m2 (f:D→D→Option D) (ma mb:En→R D) (δ:En):R D:=(ma δ).bind fun x=>(mb δ).bind fun y=>R.of (f x y)
def m1 (f:D→Option D) (ma:En→R D) (δ:En):R D:=(ma δ).bind fun x=>R.of (f x)
@[simp] theorem zck {f:D→D→Option D} {ma mb:En→R D} {δ:En}:m2 f ma mb δ=(ma δ).bind fun x=>(mb δ).bind fun y=>R.of (f x y):=rfl
@[simp] theorem ziS {f:D→Option D} {ma:En→R D} {δ:En}:m1 f ma δ=(ma δ).bind fun x=>R.of (f x):=rfl
variable (K) in
def SR (r:R2) (f:D→D→Option D):Prop:=∀ F H x y dx dy d Q,Same F H→Top K F H dx x→Top K F H dy y→f dx dy=some d→(∀ v F' H',Ext F H F' H'→Rep K F' d v→Q v H')→r x y H Q
variable (K) in
def SRo (r:R2) (f:D→D→Option D):Prop:=∀ F H x y dx dy d Q,Same F H→Top K F H dx x→Top K F H dy y→f dx dy=some d→(∀ p F' H',Ext F H F' H'→F' p=none→H p=none→Own K F' H' d p→Q (.ref p) H')→r x y H Q
theorem zan {r:R2} {f:D→D→Option D} (hr:SR K r f) (ha:SEr K XO E ta ma) (hb:SEr K XO E tb mb):SE K XO E (tOp r ta tb) (m2 f ma mb):=by
  intro Λ F0 H0 F H σ δ Q I a
  refine ha Λ F0 H0 F H σ δ _ I (a.bind.imp fun dx F1 H1 e1 a1 x rx=>?_)
  refine hb Λ F0 H0 F1 H1 σ δ _ (I.grow e1) (a1.bind.imp fun dy F2 H2 e2 a2 y ry=>?_)
  cases q:f dx dy with
  | none=>rw [q] at a2; exact a2.elim
  | some d =>
    rw [q] at a2
    exact hr F2 H2 x y dx dy d Q e2.fh (rx.mono e2.ff e2.hh) ry q fun v F' H' e r=>a2 F' H' e v r
theorem zgN {r:R2} {f:D→D→Option D} (hr:SRo K r f) (ha:SEr K XO E ta ma) (hb:SEr K XO E tb mb):SEo K XO E (tOp r ta tb) (m2 f ma mb):=by
  intro Λ F0 H0 F H σ δ Q I a
  refine ha Λ F0 H0 F H σ δ _ I (a.bind.imp fun dx F1 H1 e1 a1 x rx=>?_)
  refine hb Λ F0 H0 F1 H1 σ δ _ (I.grow e1) (a1.bind.imp fun dy F2 H2 e2 a2 y ry=>?_)
  cases q:f dx dy with
  | none=>rw [q] at a2; exact a2.elim
  | some d =>
    rw [q] at a2
    exact hr F2 H2 x y dx dy d Q e2.fh (rx.mono e2.ff e2.hh) ry q fun p F' H' e h0 h1 o=>a2 F' H' e p h0 (e1.hh.free (e2.hh.free h1)) o
variable (K) in
def SU (r:V→Hp→VK→Prop) (f:D→Option D):Prop:=∀ F H x dx d Q,Same F H→Top K F H dx x→f dx=some d→(∀ v F' H',Ext F H F' H'→Rep K F' d v→Q v H')→r x H Q
theorem zgs {r:V→Hp→VK→Prop} {f:D→Option D} (hr:SU K r f) (ha:SEr K XO E ta ma):SE K XO E (tUn r ta) (m1 f ma):=by
  intro Λ F0 H0 F H σ δ Q I a
  refine ha Λ F0 H0 F H σ δ _ I (a.bind.imp fun dx F1 H1 e1 a1 x rx=>?_)
  cases q:f dx with
  | none=>rw [q] at a1; exact a1.elim
  | some d =>
    rw [q] at a1
    exact hr F1 H1 x dx d Q e1.fh rx q fun v F' H' e r=>a1 F' H' e v r
def mNil (_:En):R (List D):=.ok []
def zaa (ma:En→R D) (mr:En→R (List D)) (δ:En):R (List D):=(ma δ).bind fun x=>(mr δ).bind fun l=>.ok (x :: l)
theorem zak:SA K XO E tNil mNil:=fun Λ F0 H0 F H σ δ Q I a=>a F H (.refl I.same) _ .nil
theorem zad {tr:TA} {mr:En→R (List D)} (ha:SE K XO E ta ma) (hr:SA K XO E tr mr):SA K XO E (zc4 ta tr) (zaa ma mr):=by
  intro Λ F0 H0 F H σ δ Q I a
  refine ha Λ F0 H0 F H σ δ _ I (a.bind.imp fun dx F1 H1 e1 a1 x rx=>?_)
  refine hr Λ F0 H0 F1 H1 σ δ _ (I.grow e1) (a1.bind.imp fun dy F2 H2 e2 a2 y ry=>?_)
  exact a2 F2 H2 (.refl e2.fh) _ (.cons (Rep.mono e2.ff _ rx) ry)
theorem zaJ:SAr K XO E tNil mNil:=fun Λ F0 H0 F H σ δ Q I a=>a F H (.refl I.same) _ .nil
theorem zav {tr:TA} {mr:En→R (List D)} (ha:SEr K XO E ta ma) (hr:SAr K XO E tr mr):SAr K XO E (zc4 ta tr) (zaa ma mr):=by
  intro Λ F0 H0 F H σ δ Q I a
  refine ha Λ F0 H0 F H σ δ _ I (a.bind.imp fun dx F1 H1 e1 a1 x rx=>?_)
  refine hr Λ F0 H0 F1 H1 σ δ _ (I.grow e1) (a1.bind.imp fun dy F2 H2 e2 a2 y ry=>?_)
  exact a2 F2 H2 (.refl e2.fh) _ (.cons (rx.mono e2.ff e2.hh) ry)
def mTup (ml:En→R (List D)) (δ:En):R D:=(ml δ).bind fun l=>ifC (l.length ≤ sizeLine) (.ok (.tup l)) .no
def mLst (ml:En→R (List D)) (δ:En):R D:=(ml δ).bind fun l=>ifC (l.length ≤ sizeLine) (.ok (.lst l)) .no
theorem zlP {tl:TA} {ml:En→R (List D)} (h:SA K XO E tl ml):SE K XO E (tTup tl) (mTup ml):=by
  intro Λ F0 H0 F H σ δ Q I a
  refine h Λ F0 H0 F H σ δ _ I (a.bind.imp fun ds F1 H1 e1 a1 vs r=>?_)
  unfold ifC at a1
  split at a1
  · rename_i hl
    refine ⟨by rw [r.length]; exact hl,fun p hp=>a1 _ _ (.new e1.fh hp) _ ?_⟩
    simp only [Rep]
    exact ⟨p,vs,rfl,zaG,r.mono (Same.upd (e1.fh.free hp))⟩
  · exact a1.elim
theorem zeC {tl:TA} {ml:En→R (List D)} (h:SA K XO E tl ml):SEo K XO E (tLst tl) (mLst ml):=by
  intro Λ F0 H0 F H σ δ Q I a
  refine h Λ F0 H0 F H σ δ _ I (a.bind.imp fun ds F1 H1 e1 a1 vs r=>?_)
  unfold ifC at a1
  split at a1
  · rename_i hl
    refine ⟨by rw [r.length]; exact hl,fun p hp=>a1 _ _ (.newO e1.fh hp) _ (e1.fh.free hp) (e1.hh.free hp) ⟨vs,zaG,r⟩⟩
  · exact a1.elim
def asB:D→Option Bool
  | .bl b=>some b
  | _=>none
def zao (me:En→R D) (δ:En):R Bool:=(me δ).bind fun d=>R.of (asB d)
theorem zbc (h:SE K XO E te me):ST K XO E (znY te) (zao me):=by
  intro Λ F0 H0 F H σ δ Q I a
  refine h Λ F0 H0 F H σ δ _ I (a.bind.imp fun d F1 H1 e1 a1 v r=>?_)
  cases d with
  | bl b=>simp only [Rep] at r; exact ⟨b,r,a1 F1 H1 (.refl e1.fh)⟩
  | _=>exact a1.elim
theorem st_b (h:SE K XO E te me):ST K XO E (tB te) (zao me):=zbc h
variable {tA tB':TT} {nA nB:En→R Bool}
def mAnd (nA nB:En→R Bool) (δ:En):R Bool:=(nA δ).bind fun b=>if b=true then nB δ else .ok false
def mOr (nA nB:En→R Bool) (δ:En):R Bool:=(nA δ).bind fun b=>if b=true then .ok true else nB δ
def mNot (nA:En→R Bool) (δ:En):R Bool:=(nA δ).bind fun b=>.ok (!b)
theorem znZ (h:ST K XO E tA nA) (h':ST K XO E tB' nB):ST K XO E (tAnd tA tB') (mAnd nA nB):=by
  intro Λ F0 H0 F H σ δ Q I a
  refine h Λ F0 H0 F H σ δ _ I (a.bind.imp fun b F1 H1 e1 a1=>?_)
  cases b with
  | true=>exact h' Λ F0 H0 F1 H1 σ δ _ (I.grow e1) a1
  | false=>exact a1 F1 H1 (.refl e1.fh)
theorem zgm (h:ST K XO E tA nA) (h':ST K XO E tB' nB):ST K XO E (tOr tA tB') (mOr nA nB):=by
  intro Λ F0 H0 F H σ δ Q I a
  refine h Λ F0 H0 F H σ δ _ I (a.bind.imp fun b F1 H1 e1 a1=>?_)
  cases b with
  | false=>exact h' Λ F0 H0 F1 H1 σ δ _ (I.grow e1) a1
  | true=>exact a1 F1 H1 (.refl e1.fh)
theorem zcC (h:ST K XO E tA nA):ST K XO E (tNot tA) (mNot nA):=by
  intro Λ F0 H0 F H σ δ Q I a
  exact h Λ F0 H0 F H σ δ _ I (a.bind.imp fun b F1 H1 e1 a1=>a1 F1 H1 (.refl e1.fh))
def zgW (ma mb:En→R D) (δ:En):R D:=(ma δ).bind fun d=>(R.of (asB d)).bind fun b=>if b=true then mb δ else .ok (.bl false)
def znd (ma:En→R D) (δ:En):R D:=(ma δ).bind fun d=>(R.of (asB d)).bind fun b=>.ok (.bl (!b))
theorem zis (h:SE K XO E ta ma) (h':SE K XO E tb mb):SE K XO E (zn6 ta tb) (zgW ma mb):=by
  intro Λ F0 H0 F H σ δ Q I a
  refine h Λ F0 H0 F H σ δ _ I (a.bind.imp fun d F1 H1 e1 a1 v r=>?_)
  cases d with
  | bl b =>
    simp only [Rep] at r
    refine ⟨b,r,?_⟩
    cases b with
    | true=>exact h' Λ F0 H0 F1 H1 σ δ _ (I.grow e1) a1
    | false=>exact a1 F1 H1 (.refl e1.fh) _ (by simp only [Rep])
  | _=>exact a1.elim
theorem znT (h:SE K XO E ta ma):SE K XO E (zon ta) (znd ma):=by
  intro Λ F0 H0 F H σ δ Q I a
  refine h Λ F0 H0 F H σ δ _ I (a.bind.imp fun d F1 H1 e1 a1 v r=>?_)
  cases d with
  | bl b =>
    simp only [Rep] at r
    exact ⟨b,r,a1 F1 H1 (.refl e1.fh) _ (by simp only [Rep])⟩
  | _=>exact a1.elim
def mIf (n:En→R Bool) (ma mb:En→R D) (δ:En):R D:=(n δ).bind fun b=>if b=true then ma δ else mb δ
theorem zoW (h:ST K XO E tA nA) (ha:SE K XO E ta ma) (hb:SE K XO E tb mb):SE K XO E (tIf tA ta tb) (mIf nA ma mb):=by
  intro Λ F0 H0 F H σ δ Q I a
  refine h Λ F0 H0 F H σ δ _ I (a.bind.imp fun b F1 H1 e1 a1=>?_)
  cases b with
  | true=>exact ha Λ F0 H0 F1 H1 σ δ _ (I.grow e1) a1
  | false=>exact hb Λ F0 H0 F1 H1 σ δ _ (I.grow e1) a1
def spM (K:Kx) (XO:XOT) (f:List D→R D):Sp:=fun vs H Q E=>∃ F ds,Same F H∧RepL K F ds vs∧Aft (fun _=>E) XO [] F H (fun d F' H'=>∀ v,Rep K F' d v→Q v H') (f ds)
def ziC (f:List D→R D) (ml:En→R (List D)) (δ:En):R D:=(ml δ).bind f
def R.nev {α:Type}:R α→R α
  | .ex _=>.no
  | r=>r
@[simp] theorem R.nev_ok {α:Type} (a:α):(R.ok a).nev = .ok a:=rfl
def zag (f:List D→R D) (ml:En→R (List D)) (δ:En):R D:=(ml δ).bind fun l=>(f l).nev
theorem Aft.any {α:Type} {E E':St→XK} {σ σ':St} {F H:Hp} {P:α→Hp→Hp→Prop} {r:R α} (h:Aft E XO σ F H P r.nev):Aft E' XO σ' F H P r:=by
  cases r with
  | no=>exact h
  | ok a=>exact h
  | ex x=>exact h.elim
theorem zi6 {f:List D→R D} {tl:TA} {ml:En→R (List D)} (h:SA K XO E tl ml):SE K XO E (zmU (spM K XO f) E tl) (ziC f ml):=by
  intro Λ F0 H0 F H σ δ Q I a
  refine h Λ F0 H0 F H σ δ _ I (a.bind.imp fun ds F1 H1 e1 a1 vs r=>⟨F1,ds,e1.fh,r,?_⟩)
  cases q:f ds with
  | no=>rw [q] at a1; exact a1
  | ok d=>rw [q] at a1; exact a1
  | ex x=>rw [q] at a1; exact a1
theorem zaM {f:List D→R D} {tl:TA} {ml:En→R (List D)} {E':XK} (h:SA K XO E tl ml):SE K XO E (zjI (spM K XO f) [] E' tl) (zag f ml):=by
  intro Λ F0 H0 F H σ δ Q I a
  refine h Λ F0 H0 F H σ δ _ I (a.bind.imp fun ds F1 H1 e1 a1 vs r=>⟨F1,ds,e1.fh,by rw [List.append_nil]; exact r,a1.any⟩)
variable (K) in
def SG (g:TG) (b:D→En→Option En):Prop:=∀ Λ F0 H0 F H σ δ d v δ' Q,EnvOk K Λ F0 H0 F H σ δ→Rep K F d v→b d δ=some δ'→(∀ σ',EnvOk K Λ F0 H0 F H σ' δ'→Q σ' H)→g v σ H Q
variable (K) in
def SGs (g:TGs) (b:List D→En→Option En):Prop:=∀ Λ F0 H0 F H σ δ d v δ' Q,EnvOk K Λ F0 H0 F H σ δ→RepL K F d v→b d δ=some δ'→(∀ σ',EnvOk K Λ F0 H0 F H σ' δ'→Q σ' H)→g v σ H Q
def zax (i:Nat) (d:D) (δ:En):Option En:=match δ[i]? with | none=>none | some (.l _)=>none | some _=>some (δ.set i (.v d))
def zaU (i:Nat) (d:D) (δ:En):Option En:=match δ[i]? with | some .no=>some (δ.set i (.v d)) | _=>none
def bNil (l:List D) (δ:En):Option En:=match l with | []=>some δ | _=>none
def zgn (b:D→En→Option En) (c:List D→En→Option En) (l:List D) (δ:En):Option En:=match l with | d :: r=>(b d δ).bind (c r) | []=>none
def bTup (n:Nat) (c:List D→En→Option En) (d:D) (δ:En):Option En:=match d with | .tup l=>if l.length=n then c l δ else none | _=>none
theorem zaE {i:Nat}:SG K (zfN i) (zax i):=by
  intro Λ F0 H0 F H σ δ d v δ' Q I r e q
  unfold zax at e
  split at e
  · cases e
  · cases e
  · rename_i x h2 h1
    cases e
    exact q _ (I.put ⟨x,h1,fun d' z=>h2 d' (by rw [z])⟩ r)
theorem zbi {i:Nat}:SG K (zfN i) (zaU i):=by
  intro Λ F0 H0 F H σ δ d v δ' Q I r e q
  unfold zaU at e
  split at e
  · rename_i h1
    cases e
    exact q _ (I.put ⟨_,h1,fun d' z=>by cases z⟩ r)
  · cases e
theorem zln:SGs K gNil bNil:=by
  intro Λ F0 H0 F H σ δ d v δ' Q I r e q
  cases d with
  | nil=>simp only [RepL] at r; cases e; exact ⟨r,q _ I⟩
  | cons x l=>cases e
theorem zfP {g:TG} {h:TGs} {b:D→En→Option En} {c:List D→En→Option En} (hg:SG K g b) (hh:SGs K h c):SGs K (zok g h) (zgn b c):=by
  intro Λ F0 H0 F H σ δ d v δ' Q I r e q
  cases d with
  | nil=>cases e
  | cons x l =>
    simp only [RepL] at r
    obtain ⟨u,w,rfl,r1,r2⟩:=r
    change (b x δ).bind (c l)=some δ' at e
    cases z:b x δ with
    | none=>rw [z] at e; cases e
    | some δ1 =>
      rw [z] at e
      exact ⟨u,w,rfl,hg Λ F0 H0 F H σ δ x u δ1 _ I r1 z fun σ1 I1=>hh Λ F0 H0 F H σ1 δ1 l w δ' Q I1 r2 e q⟩
theorem zmY {n:Nat} {h:TGs} {c:List D→En→Option En} (hh:SGs K h c):SG K (gTup K.f n h) (bTup n c):=by
  intro Λ F0 H0 F H σ δ d v δ' Q I r e q
  cases d with
  | tup l =>
    simp only [Rep] at r
    obtain ⟨a,vs,rfl,h1,h2⟩:=r
    simp only [bTup] at e
    split at e
    · rename_i hn
      exact ⟨a,vs,rfl,.inl (.inl (I.same _ _ h1)),by rw [h2.length]; exact hn,hh Λ F0 H0 F H σ δ l vs δ' Q I h2 e q⟩
    · cases e
  | _=>cases e
def Weak (δ δ':En):Prop:=δ.length=δ'.length∧∀ i:Nat,δ[i]?=some .no∨δ[i]?=δ'[i]?
theorem Weak.refl (δ:En):Weak δ δ:=⟨rfl,fun _=>.inr rfl⟩
theorem Weak.trans {a b c:En} (h:Weak a b) (h':Weak b c):Weak a c:=⟨h.1.trans h'.1,fun i=>by
  rcases h.2 i with z | z
  · exact .inl z
  · rcases h'.2 i with y | y
    · exact .inl (z.trans y)
    · exact .inr (z.trans y)⟩
def BW (b:D→En→Option En):Prop:=∀ d δ δ',b d δ=some δ'→Weak δ δ'
def BWs (b:List D→En→Option En):Prop:=∀ d δ δ',b d δ=some δ'→Weak δ δ'
theorem zbA {i:Nat}:BW (zaU i):=by
  intro d δ δ' e
  unfold zaU at e
  split at e
  · rename_i h1
    cases e
    refine ⟨by simp,fun j=>?_⟩
    by_cases h:i=j
    · subst h; exact .inl h1
    · exact .inr (by rw [List.getElem?_set_ne h])
  · cases e
theorem zm6:BWs bNil:=by
  intro d δ δ' e
  cases d with
  | nil=>cases e; exact .refl _
  | cons x l=>cases e
theorem zjm {b:D→En→Option En} {c:List D→En→Option En} (h:BW b) (h':BWs c):BWs (zgn b c):=by
  intro d δ δ' e
  cases d with
  | nil=>cases e
  | cons x l =>
    change (b x δ).bind (c l)=some δ' at e
    cases z:b x δ with
    | none=>rw [z] at e; cases e
    | some δ1=>rw [z] at e; exact (h _ _ _ z).trans (h' _ _ _ e)
theorem zoO {n:Nat} {c:List D→En→Option En} (h:BWs c):BW (bTup n c):=by
  intro d δ δ' e
  cases d with
  | tup l =>
    simp only [bTup] at e
    split at e
    · exact h _ _ _ e
    · cases e
  | _=>cases e
variable (K) in
def IsIt (J:It) (P:Hp→Hp→Prop) (ds:List D):Prop:=∀ F2 H2,P F2 H2→∀ i:Nat,(∀ d,ds[i]?=some d→J.go i H2∧∀ x H',J.yld i H2 x H'→∃ F3,Ext F2 H2 F3 H'∧Rep K F3 d x)∧(ds[i]?=none→J.stop i H2)
variable (K XO E) in
def SI (wi:TI) (m:En→R (List D)):Prop:=∀ Λ F0 H0 F H σ δ R,EnvOk K Λ F0 H0 F H σ δ→Aft E XO σ F H (fun ds F1 H1=>∀ J,IsIt K J (fun F2 H2=>Same F1 F2∧Same F2 H2) ds→R J H1) (m δ)→wi σ H R
variable (K XO E) in
def SIc (wi:TI) (m:En→R (List D)):Prop:=∀ Λ F0 H0 F H σ δ R,EnvOk K Λ F0 H0 F H σ δ→Aft E XO σ F H (fun ds F1 H1=>∀ J,IsIt K J (fun F2 H2=>Ext F1 H1 F2 H2) ds→R J H1) (m δ)→wi σ H R
theorem SI.c {wi:TI} {m:En→R (List D)} (h:SI K XO E wi m):SIc K XO E wi m:=fun Λ F0 H0 F H σ δ R I a=>h Λ F0 H0 F H σ δ R I (a.imp fun ds F1 H1 e p J hJ=>p J fun F2 H2 x=>hJ F2 H2 ⟨x.ff,x.fh⟩)
def asL:D→Option (List D)
  | .lst l=>some l
  | .scr l=>some (l.map .int)
  | _=>none
def mItL (ml:En→R D) (δ:En):R (List D):=(ml δ).bind fun d=>R.of (asL d)
theorem zhU {a:Addr} {ds:List D} {vs:List V} {F1:Hp} {P:Hp→Hp→Prop} (r:RepL K F1 ds vs) (h:∀ F2 H2,P F2 H2→Same F1 F2∧Same F2 H2∧SqL K.f H2 a vs):IsIt K (Itl K.f a) P ds:=by
  intro F2 H2 p i
  obtain ⟨s1,s2,q⟩:=h F2 H2 p
  refine ⟨fun d hd=>?_,fun hn=>?_⟩
  · obtain ⟨v,hv,rv⟩:=r.get hd
    refine ⟨⟨vs,v,q,hv⟩,fun x H' y=>?_⟩
    obtain ⟨rfl,y⟩:=y
    have z:=y vs q
    rw [hv] at z; cases z
    exact ⟨F2,.refl s2,Rep.mono s1 _ rv⟩
  · exact ⟨vs,q,by rw [r.length]; exact List.getElem?_eq_none_iff.mp hn⟩
theorem zdC (h:SEr K XO E te me):SIc K XO E (zkZ K.f te) (mItL me):=by
  intro Λ F0 H0 F H σ δ R I a
  refine h Λ F0 H0 F H σ δ _ I (a.bind.imp fun d F1 H1 e1 a1 v r=>?_)
  cases d with
  | lst l =>
    obtain ⟨a,vs,rfl,h1,h2⟩:=r
    exact ⟨a,rfl,⟨vs,.inl h1⟩,a1 F1 H1 (.refl e1.fh) _ (zhU h2 fun F2 H2 x=>⟨x.ff,x.fh,.inl (PM.Same.rd x.hh h1)⟩)⟩
  | scr l =>
    simp only [Top,Rep] at r
    obtain ⟨a,rfl,h1⟩:=r
    exact ⟨a,rfl,⟨_,e1.fh.seq h1⟩,a1 F1 H1 (.refl e1.fh) _ (zhU .ints fun F2 H2 x=>⟨x.ff,x.fh,x.fh.seq (x.ff.seq h1)⟩)⟩
  | _=>exact a1.elim
def zeT (lo:Int) (n:Nat):List D:=(List.range n).map fun (k:Nat)=>D.int (lo + (k:Int))
theorem zgJ {lo:Int} {n:Nat} {P:Hp→Hp→Prop} (h:∀ F2 H2,P F2 H2→Same F2 H2):IsIt K (Itr lo n) P (zeT lo n):=by
  intro F2 H2 p i
  unfold zeT
  rw [List.getElem?_map]
  have er:(List.range n)[i]?=if i < n then some i else none:=by
    by_cases hi:i < n
    · rw [if_pos hi,List.getElem?_range hi]
    · rw [if_neg hi,List.getElem?_eq_none_iff]; simpa using hi
  rw [er]
  refine ⟨fun d hd=>?_,fun hn=>?_⟩
  · by_cases hi:i < n
    · rw [if_pos hi] at hd
      cases hd
      refine ⟨hi,fun x H' y=>?_⟩
      obtain ⟨rfl,rfl⟩:=y
      exact ⟨F2,.refl (h F2 _ p),by simp only [Rep]⟩
    · rw [if_neg hi] at hd; cases hd
  · by_cases hi:i < n
    · rw [if_pos hi] at hn; cases hn
    · exact Nat.le_of_not_lt hi
def rng (l:List D):Option (List D):=match l with
  | [.int j]=>ifC (-(2 ^ 62) ≤ j∧j < 2 ^ 62) (some (zeT 0 j.toNat)) none
  | [.int i,.int j]=>ifC (-(2 ^ 62) ≤ i∧i < 2 ^ 62∧-(2 ^ 62) ≤ j∧j < 2 ^ 62) (some (zeT i (j - i).toNat)) none
  | _=>none
def mRng (ml:En→R (List D)) (δ:En):R (List D):=(ml δ).bind fun l=>R.of (rng l)
theorem RepL.one {F:Hp} {d:D} {vs:List V} (r:RepL K F [d] vs):∃ v,vs = [v]∧Rep K F d v:=by
  simp only [RepL] at r
  obtain ⟨v,r',rfl,h,rfl⟩:=r
  exact ⟨v,rfl,h⟩
theorem RepL.two {F:Hp} {d e:D} {vs:List V} (r:RepL K F [d,e] vs):∃ v u,vs = [v,u]∧Rep K F d v∧Rep K F e u:=by
  simp only [RepL] at r
  obtain ⟨v,r',rfl,h,v2,r2,rfl,h2,rfl⟩:=r
  exact ⟨v,v2,rfl,h,h2⟩
theorem za4 {tl:TA} {ml:En→R (List D)} (hn:∀ δ l,ml δ = .ok l→l.length=1) (h:SA K XO E tl ml):SI K XO E (zoh tl) (mRng ml):=by
  intro Λ F0 H0 F H σ δ R I a
  unfold mRng at a
  cases hm:ml δ with
  | no=>rw [hm] at a; exact a.elim
  | ex x=>refine h Λ F0 H0 F H σ δ _ I ?_; rw [hm] at a ⊢; exact a
  | ok l =>
    refine h Λ F0 H0 F H σ δ _ I ?_
    rw [hm] at a ⊢
    intro F1 H1 e1 vs r
    have h1:=hn δ l hm
    match l,h1 with
    | [d],_ =>
      obtain ⟨v,rfl,rv⟩:=r.one
      have a1:=Aft.mono e1 a
      cases d with
      | int j =>
        simp only [Rep] at rv
        subst rv
        change Aft E XO σ F1 H1 _ (PM.R.of (ifC (-(2 ^ 62) ≤ j∧j < 2 ^ 62) _ _)) at a1
        by_cases hj : -(2 ^ 62) ≤ j∧j < 2 ^ 62
        · rw [zba hj] at a1
          exact ⟨j,rfl,hj.1,hj.2,a1 F1 H1 (.refl e1.fh) _ (zgJ fun F2 H2 x=>x.2)⟩
        · rw [zlv hj] at a1; exact a1.elim
      | _=>exact a1.elim
theorem zhZ {tl:TA} {ml:En→R (List D)} (hn:∀ δ l,ml δ = .ok l→l.length=2) (h:SA K XO E tl ml):SI K XO E (zoC tl) (mRng ml):=by
  intro Λ F0 H0 F H σ δ R I a
  unfold mRng at a
  cases hm:ml δ with
  | no=>rw [hm] at a; exact a.elim
  | ex x=>refine h Λ F0 H0 F H σ δ _ I ?_; rw [hm] at a ⊢; exact a
  | ok l =>
    refine h Λ F0 H0 F H σ δ _ I ?_
    rw [hm] at a ⊢
    intro F1 H1 e1 vs r
    have h1:=hn δ l hm
    match l,h1 with
    | [d,d'],_ =>
      obtain ⟨v,u,rfl,rv,ru⟩:=r.two
      have a1:=Aft.mono e1 a
      cases d with
      | int i =>
        cases d' with
        | int j =>
          simp only [Rep] at rv ru
          subst rv ru
          change Aft E XO σ F1 H1 _ (PM.R.of (ifC (-(2 ^ 62) ≤ i∧i < 2 ^ 62∧-(2 ^ 62) ≤ j∧j < 2 ^ 62) _ _)) at a1
          by_cases hj : -(2 ^ 62) ≤ i∧i < 2 ^ 62∧-(2 ^ 62) ≤ j∧j < 2 ^ 62
          · rw [zba hj] at a1
            exact ⟨i,j,rfl,hj,a1 F1 H1 (.refl e1.fh) _ (zgJ fun F2 H2 x=>x.2)⟩
          · rw [zlv hj] at a1; exact a1.elim
        | _=>exact a1.elim
      | _=>exact a1.elim
theorem len1 {ma:En→R D}:∀ δ l,zaa ma mNil δ = .ok l→l.length=1:=by
  intro δ l h
  unfold zaa mNil at h
  cases e:ma δ with
  | ok d=>rw [e] at h; cases h; rfl
  | no=>rw [e] at h; cases h
  | ex x=>rw [e] at h; cases h
theorem len2 {ma mb:En→R D}:∀ δ l,zaa ma (zaa mb mNil) δ = .ok l→l.length=2:=by
  intro δ l h
  unfold zaa mNil at h
  cases e:ma δ with
  | ok d =>
    rw [e] at h
    cases e2:mb δ with
    | ok d=>rw [R.bind_ok,e2] at h; cases h; rfl
    | no=>rw [R.bind_ok,e2] at h; cases h
    | ex x=>rw [R.bind_ok,e2] at h; cases h
  | no=>rw [e] at h; cases h
  | ex x=>rw [e] at h; cases h
def zhS (l:List D):List D:=l.mapIdx fun i d=>.tup [.int i,d]
theorem zkC {a:Addr} {ds:List D} {vs:List V} {F1:Hp} {P:Hp→Hp→Prop} (r:RepL K F1 ds vs) (h:∀ F2 H2,P F2 H2→Same F1 F2∧Same F2 H2∧SqL K.f H2 a vs):IsIt K (Ite K.f a) P (zhS ds):=by
  intro F2 H2 p i
  obtain ⟨s1,s2,q⟩:=h F2 H2 p
  unfold zhS
  rw [List.getElem?_mapIdx]
  refine ⟨fun d hd=>?_,fun hn=>?_⟩
  · cases e:ds[i]? with
    | none=>rw [e] at hd; cases hd
    | some x =>
      rw [e] at hd
      cases hd
      obtain ⟨v,hv,rv⟩:=r.get e
      refine ⟨⟨vs,v,q,hv⟩,fun x' H' y=>?_⟩
      obtain ⟨p',y',rfl,hp,rfl,y⟩:=y
      have z:=y vs q
      rw [hv] at z; cases z
      refine ⟨_,.new s2 hp,?_⟩
      simp only [Rep]
      exact ⟨p',_,rfl,zaG,.cons (by simp only [Rep]) (.cons (Rep.mono (s1.trans (Same.upd (s2.free hp))) _ rv) .nil)⟩
  · cases e:ds[i]? with
    | none=>exact ⟨vs,q,by rw [r.length]; exact List.getElem?_eq_none_iff.mp e⟩
    | some x=>rw [e] at hn; cases hn
def asL':D→Option (List D)
  | .lst l=>some l
  | _=>none
def zni:List D→Option (List D)
  | [d]=>(asL' d).map zhS
  | _=>none
def znq (ml:En→R (List D)) (δ:En):R (List D):=(ml δ).bind fun l=>R.of (zni l)
theorem zjP {l r:List D} (h:zni l=some r):∃ x,l = [.lst x]∧r=zhS x:=by
  cases l with
  | nil=>cases h
  | cons d t =>
    cases t with
    | cons _ _=>cases h
    | nil =>
      cases d with
      | lst x=>cases h; exact ⟨x,rfl,rfl⟩
      | _=>cases h
theorem zl8 {tl:TA} {ml:En→R (List D)} (h:SAr K XO E tl ml):SIc K XO E (zoi K.f tl) (znq ml):=by
  intro Λ F0 H0 F H σ δ R I a
  refine h Λ F0 H0 F H σ δ _ I (a.bind.imp fun ds F1 H1 e1 a1 vs r=>?_)
  cases q:zni ds with
  | none=>rw [q] at a1; exact a1.elim
  | some z =>
    rw [q] at a1
    obtain ⟨l,rfl,rfl⟩:=zjP q
    cases r with
    | cons r r' =>
      cases r'
      obtain ⟨a,vs,rfl,h1,h2⟩:=r
      exact ⟨a,rfl,⟨vs,.inl h1⟩,a1 F1 H1 (.refl e1.fh) _ (zkC h2 fun F2 H2 x=>⟨x.ff,x.fh,.inl (PM.Same.rd x.hh h1)⟩)⟩
end
end PM
namespace PM
open PySem L2
section
variable (K:Kx) (XO:XOT) (E:St→XK)
def AftS (Λ:List (Nat × Addr × HO)) (F0 H0:Hp) (Dn:Ends):O→Prop
  | .no=>False
  | .nx δ=>∀ σ F H,EnvOk K Λ F0 H0 F H σ δ→Dn.nx σ H
  | .bk δ=>∀ σ F H,EnvOk K Λ F0 H0 F H σ δ→Dn.bk σ H
  | .ct δ=>∀ σ F H,EnvOk K Λ F0 H0 F H σ δ→Dn.ct σ H
  | .rt d=>∀ v F H,Ext F0 H0 F H→Rep K F d v→Dn.rt v H
  | .ro d=>∀ p F H,Ext F0 H0 F H→F p=none→H0 p=none→Own K F H d p→Dn.rt (.ref p) H
  | .ex δ x=>∀ σ F H C dct,EnvOk K Λ F0 H0 F H σ δ→XO x F H C dct→E σ C dct H
def SS (t:TS) (m:En→O):Prop:=∀ Λ F0 H0 F H σ δ Dn,EnvOk K Λ F0 H0 F H σ δ→AftS K XO E Λ F0 H0 Dn (m δ)→t Dn σ H
end
def R.toO {α:Type} (r:R α) (δ:En) (f:α→O):O:=match r with | .no=>.no | .ok a=>f a | .ex x=>.ex δ x
@[simp] theorem R.toO_ok {α:Type} (a:α) (δ:En) (f:α→O):(R.ok a).toO δ f=f a:=rfl
@[simp] theorem R.toO_no {α:Type} (δ:En) (f:α→O):(R.no:R α).toO δ f = .no:=rfl
@[simp] theorem R.toO_ex {α:Type} (x:Xc) (δ:En) (f:α→O):(R.ex x:R α).toO δ f = .ex δ x:=rfl
section
variable {K:Kx} {XO:XOT} {E:St→XK} {ta tb te:TE} {ma mb me:En→R D} {t u:TS} {m n:En→O} {Λ:List (Nat × Addr × HO)} {F0 H0 F H F1 H1:Hp} {σ:St} {δ:En} {Dn:Ends}
theorem AftS.of {α:Type} {r:R α} {f:α→O} (I:EnvOk K Λ F0 H0 F H σ δ) (a:AftS K XO E Λ F0 H0 Dn (r.toO δ f)):Aft E XO σ F H (fun a _ _=>AftS K XO E Λ F0 H0 Dn (f a)) r:=by
  cases r with
  | no=>exact a
  | ok b=>exact fun _ _ _=>a
  | ex x=>exact fun C dct F' H' e h=>a σ F' H' C dct (I.grow e) h
theorem AftS.up (e:Ext F0 H0 F1 H1):∀ {o:O},AftS K XO E Λ F0 H0 Dn o→AftS K XO E Λ F1 H0 Dn o
  | .no,h=>h
  | .nx _,h=>fun σ F H I=>h σ F H (I.down e)
  | .bk _,h=>fun σ F H I=>h σ F H (I.down e)
  | .ct _,h=>fun σ F H I=>h σ F H (I.down e)
  | .rt _,h=>fun v F H x=>h v F H (e.base x)
  | .ro _,h=>fun p F H x=>h p F H (e.base x)
  | .ex _ _,h=>fun σ F H C d I=>h σ F H C d (I.down e)
def zbr (δ:En):O:=.nx δ
def mSeq (m n:En→O) (δ:En):O:=match m δ with | .nx δ'=>n δ' | r=>r
theorem zbn:SS K XO E zoc zbr:=fun Λ F0 H0 F H σ δ Dn I a=>a σ F H I
theorem zaD (h:SS K XO E t m) (h':SS K XO E u n):SS K XO E (tSeq t u) (mSeq m n):=by
  intro Λ F0 H0 F H σ δ Dn I a
  refine h Λ F0 H0 F H σ δ _ I ?_
  unfold mSeq at a
  cases q:m δ with
  | no=>rw [q] at a; exact a
  | nx δ'=>rw [q] at a; exact fun σ' F' H' I'=>h' Λ F0 H0 F' H' σ' δ' Dn I' a
  | rt d=>rw [q] at a; exact a
  | ro d=>rw [q] at a; exact a
  | bk δ'=>rw [q] at a; exact a
  | ct δ'=>rw [q] at a; exact a
  | ex δ' x=>rw [q] at a; exact a
def mRet (me:En→R D) (δ:En):O:=(me δ).toO δ .rt
theorem za6 (h:SE K XO E te me):SS K XO E (tRet te) (mRet me):=by
  intro Λ F0 H0 F H σ δ Dn I a
  exact h Λ F0 H0 F H σ δ _ I ((AftS.of I a).imp fun d F1 H1 e p v r=>p v F1 H1 (I.ext.trans e) r)
def zec (me:En→R D) (δ:En):O:=(me δ).toO δ .ro
theorem zfh (h:SEo K XO E te me):SS K XO E (tRet te) (zec me):=by
  intro Λ F0 H0 F H σ δ Dn I a
  exact h Λ F0 H0 F H σ δ _ I ((AftS.of I a).imp fun d F1 H1 e p v h0 h1 o=>p v F1 H1 (I.ext.trans e) h0 (I.ext.hh.free h1) o)
def mDo (me:En→R D) (δ:En):O:=(me δ).toO δ fun _=>.nx δ
theorem zlX (h:SE K XO E te me):SS K XO E (ziG te) (mDo me):=by
  intro Λ F0 H0 F H σ δ Dn I a
  exact h Λ F0 H0 F H σ δ _ I ((AftS.of I a).imp fun d F1 H1 e p v r=>p σ F1 H1 (I.grow e))
def mIfS (n:En→R Bool) (m m':En→O) (δ:En):O:=(n δ).toO δ fun b=>if b=true then m δ else m' δ
theorem zcI {tc:TT} {nc:En→R Bool} (h:ST K XO E tc nc) (ha:SS K XO E t m) (hb:SS K XO E u n):SS K XO E (tIfS tc t u) (mIfS nc m n):=by
  intro Λ F0 H0 F H σ δ Dn I a
  refine h Λ F0 H0 F H σ δ _ I ((AftS.of I a).imp fun b F1 H1 e p=>?_)
  cases b with
  | true=>exact ha Λ F0 H0 F1 H1 σ δ Dn (I.grow e) p
  | false=>exact hb Λ F0 H0 F1 H1 σ δ Dn (I.grow e) p
def O.of:Option En→O
  | some δ=>.nx δ
  | none=>.no
@[simp] theorem O.of_some (δ:En):O.of (some δ) = .nx δ:=rfl
@[simp] theorem O.of_none:O.of none = .no:=rfl
def mAsg (me:En→R D) (b:D→En→Option En) (δ:En):O:=(me δ).toO δ fun d=>O.of (b d δ)
theorem zbg {g:TG} {b:D→En→Option En} (h:SE K XO E te me) (hg:SG K g b):SS K XO E (tAsg te g) (mAsg me b):=by
  intro Λ F0 H0 F H σ δ Dn I a
  refine h Λ F0 H0 F H σ δ _ I ((AftS.of I a).imp fun d F1 H1 e p v r=>?_)
  cases q:b d δ with
  | none=>rw [q] at p; exact p.elim
  | some δ'=>rw [q] at p; exact hg Λ F0 H0 F1 H1 σ δ d v δ' _ (I.grow e) r q fun σ' I'=>p σ' F1 H1 I'
def bNew (i:Nat) (d:D) (δ:En):Option En:=match δ[i]? with | none=>none | some (.l _)=>none | some _=>some (δ.set i (.o d))
theorem zov {i:Nat} (h:SEo K XO E te me):SS K XO E (tAsg te (zfN i)) (mAsg me (bNew i)):=by
  intro Λ F0 H0 F H σ δ Dn I a
  refine h Λ F0 H0 F H σ δ _ I ((AftS.of I a).imp fun d F1 H1 e p v h0 h1 o=>?_)
  unfold bNew at p
  split at p
  · exact p.elim
  · exact p.elim
  · rename_i x h3 h2
    exact p _ F1 H1 (I.putO ⟨x,h2,fun d' z=>h3 d' (by rw [z])⟩ e h0 h1 o)
def zdd (b:D→En→Option En) (m:En→O):List D→En→O
  | [],δ=>.nx δ
  | d :: l,δ=>match b d δ with
    | none=>.no
    | some δ1=>match m δ1 with
      | .nx δ2=>zdd b m l δ2
      | .ct δ2=>zdd b m l δ2
      | .bk δ2=>.nx δ2
      | r=>r
def mFor (mi:En→R (List D)) (b:D→En→Option En) (m:En→O) (δ:En):O:=(mi δ).toO δ fun l=>zdd b m l δ
theorem zne {J:It} {P:Hp→Hp→Prop} {g:TG} {b:D→En→Option En} {ds:List D} (hJ:IsIt K J P ds) (hP:∀ σ δ F H,EnvOk K Λ F0 H0 F H σ δ→P F H) (hg:SG K g b) (hb:SS K XO E t m) (I:EnvOk K Λ F0 H0 F H σ δ)
    (a:AftS K XO E Λ F0 H0 Dn (zdd b m ds δ)):∃ W:Nat→Nat→St→Hp→Prop,(∃ k,W 0 k σ H)∧∀ i k σ H,W i k σ H →
      (J.stop i H∧Dn.nx σ H)∨(J.go i H∧∃ N:St→Hp→Prop,(∀ σ' H',N σ' H'→∃ k',k' < k∧W (i + 1) k' σ' H')∧∀ x H',J.yld i H x H'→g x σ H' fun σ2 H2=>t { Dn with nx:=N,ct:=N,bk:=Dn.nx } σ2 H2):=by
  let W:Nat→Nat→St→Hp→Prop:=fun i k σ H=>∃ F δ,EnvOk K Λ F0 H0 F H σ δ∧k=ds.length - i∧i ≤ ds.length∧AftS K XO E Λ F0 H0 Dn (zdd b m (ds.drop i) δ)
  refine ⟨W,⟨ds.length,F,δ,I,rfl,Nat.zero_le _,a⟩,?_⟩
  rintro i k σ H ⟨F,δ,I,rfl,hi,a⟩
  have hP':=hP σ δ F H I
  by_cases hlt:i < ds.length
  · have e:ds.drop i=ds[i] :: ds.drop (i + 1):=List.drop_eq_getElem_cons hlt
    obtain ⟨h1,h2⟩:=(hJ F H hP' i).1 ds[i] (by simp [hlt])
    refine .inr ⟨h1,W (i + 1) (ds.length - (i + 1)),fun σ' H' w=>⟨_,by omega,w⟩,fun x H' y=>?_⟩
    obtain ⟨F3,e3,r⟩:=h2 x H' y
    rw [e] at a
    unfold zdd at a
    cases q:b ds[i] δ with
    | none=>rw [q] at a; exact a.elim
    | some δ1 =>
      rw [q] at a
      refine hg Λ F0 H0 F3 H' σ δ _ x δ1 _ (I.grow e3) r q fun σ1 I1=>hb Λ F0 H0 F3 H' σ1 δ1 _ I1 ?_
      cases q2:m δ1 with
      | no=>simp only [q2] at a; exact a
      | nx δ2=>simp only [q2] at a; exact fun σ' F' H' I'=>⟨F',δ2,I',rfl,hlt,a⟩
      | ct δ2=>simp only [q2] at a; exact fun σ' F' H' I'=>⟨F',δ2,I',rfl,hlt,a⟩
      | bk δ2=>simp only [q2] at a; exact a
      | rt d=>simp only [q2] at a; exact a
      | ro d=>simp only [q2] at a; exact a
      | ex δ' x=>simp only [q2] at a; exact a
  · have e:i=ds.length:=by omega
    subst e
    rw [List.drop_length] at a
    exact .inl ⟨(hJ F H hP' _).2 (by simp),a σ F H I⟩
theorem zdH {wi:TI} {mi:En→R (List D)} {g:TG} {b:D→En→Option En} (hi:SI K XO E wi mi) (hg:SG K g b) (hb:SS K XO E t m):SS K XO E (tFor wi g t) (mFor mi b m):=by
  intro Λ F0 H0 F H σ δ Dn I a
  refine hi Λ F0 H0 F H σ δ _ I ((AftS.of I a).imp fun ds F1 H1 e p J hJ=>?_)
  have I1:=I.grow e
  exact zne (F0:=F1) hJ (fun σ δ F H I=>⟨I.ext.ff,I.ext.fh⟩) hg hb I1.up (p.up I1.ext)
end
end PM
namespace PM
open PySem L2
section
variable {K:Kx} {F H:Hp}
end
section
variable {K:Kx} {XO:XOT} {E:St→XK} {ta tb te ty td:TE} {ma mb me my md:En→R D} {t u:TS} {m n:En→O} {Λ:List (Nat × Addr × HO)} {F0 H0 F H F1 H1:Hp} {σ:St} {δ:En} {Dn:Ends}
theorem EnvOk.own {i:Nat} {d:D} (I:EnvOk K Λ F0 H0 F H σ δ) (hx:δ[i]?=some (.o d)):∃ a,σ[i]?=some (some (.ref a))∧Own K F H d a:=by
  have z:=I.slot i
  rw [hx] at z
  obtain ⟨a,z1,z2,z3,z4⟩:=z
  exact ⟨a,z1,z4⟩
def zfZ (i:Nat) (me:En→R D) (δ:En):O:=match δ[i]? with
  | some (.o (.lst l))=>(me δ).toO δ fun d=>ifC (l.length < sizeLine) (.nx (δ.set i (.o (.lst (l ++ [d]))))) .no
  | _=>.no
theorem zlI {i:Nat} (h:SE K XO E te me):SS K XO E (ziG (tBM K.f "list" ziD (tVar i) (zc4 te tNil))) (zfZ i me):=by
  intro Λ F0 H0 F H σ δ Dn I a
  unfold zfZ at a
  split at a
  · rename_i l q
    obtain ⟨p,s1,vs,s2,s3⟩:=I.own q
    refine ⟨_,s1,.inl ⟨rfl,vs,.inl (.inl s2)⟩,?_⟩
    refine h Λ F0 H0 F H σ δ _ I ((AftS.of I a).imp fun d F1 H1 e c v r=>?_)
    unfold ifC at c
    split at c
    · rename_i hl
      refine ⟨p,vs,v,rfl,rfl,e.hh _ _ s2,by rw [s3.length]; exact hl,?_⟩
      exact c σ F1 _ ((I.grow e).chg q s1 ⟨_,zaG,(s3.mono e.ff).append (.cons r .nil)⟩)
    · exact c.elim
  · exact a.elim
def i2 (f:Int→Int→D) (x y:D):Option D:=match x,y with | .int i,.int j=>some (f i j) | _,_=>none
def i2c (C:Int→Int→Prop) (f:Int→Int→D) (x y:D):Option D:=match x,y with | .int i,.int j=>ifC (C i j) (some (f i j)) none | _,_=>none
theorem zlO {g:Int→Int→V} {f:Int→Int→D} (h:∀ i j F,Rep K F (f i j) (g i j)):SR K (rI0 g) (i2 f):=by
  intro F H x y dx dy d Q s hx hy e q
  cases dx with
  | int i =>
    cases dy with
    | int j =>
      cases e
      simp only [Top,Rep] at hx hy
      exact ⟨i,j,hx,hy,q _ F H (.refl s) (h i j F)⟩
    | _=>cases e
  | _=>cases e
theorem zjg {C:Int→Int→Prop} {g:Int→Int→V} {f:Int→Int→D} (h:∀ i j F,Rep K F (f i j) (g i j)):SR K (rI C g) (i2c C f):=by
  intro F H x y dx dy d Q s hx hy e q
  cases dx with
  | int i =>
    cases dy with
    | int j =>
      simp only [Top,Rep] at hx hy
      simp only [i2c] at e
      unfold ifC at e
      split at e
      · rename_i hc
        cases e
        exact ⟨i,j,hx,hy,hc,q _ F H (.refl s) (h i j F)⟩
      · cases e
    | _=>cases e
  | _=>cases e
def oAdd:D→D→Option D:=i2 fun i j=>.int (i + j)
def oSub:D→D→Option D:=i2 fun i j=>.int (i - j)
def oMul:D→D→Option D:=i2c (fun i j=>Fit i∧Fit j) fun i j=>.int (i * j)
def oDiv:D→D→Option D:=i2c (fun _ j=>j ≠ 0∧Fit j) fun i j=>.int (i.fdiv j)
def oMod:D→D→Option D:=i2c (fun _ j=>0 < j) fun i j=>.int (i % j)
def oPow:D→D→Option D:=i2c CPow fun i j=>.int (i ^ j.toNat)
def oLt:D→D→Option D:=i2 fun i j=>.bl (decide (i < j))
def oGt:D→D→Option D:=i2 fun i j=>.bl (decide (j < i))
def oGe:D→D→Option D:=i2 fun i j=>.bl (decide (j ≤ i))
theorem zbI:SR K (rI0 fun i j=>.int (i + j)) oAdd:=zlO fun _ _ _=>by simp only [Rep]
theorem zer:SR K (rI0 fun i j=>.int (i - j)) oSub:=zlO fun _ _ _=>by simp only [Rep]
theorem zfF:SR K (rI (fun i j=>Fit i∧Fit j) fun i j=>.int (i * j)) oMul:=zjg fun _ _ _=>by simp only [Rep]
theorem zlB:SR K (rI (fun _ j=>j ≠ 0∧Fit j) fun i j=>.int (i.fdiv j)) oDiv:=zjg fun _ _ _=>by simp only [Rep]
theorem zdl:SR K (rI (fun _ j=>0 < j) fun i j=>.int (i % j)) oMod:=zjg fun _ _ _=>by simp only [Rep]
theorem zlV:SR K (rI CPow fun i j=>.int (i ^ j.toNat)) oPow:=zjg fun _ _ _=>by simp only [Rep]
theorem zhI:SR K (rI0 fun i j=>.bl (decide (i < j))) oLt:=zlO fun _ _ _=>by simp only [Rep]
theorem zlQ:SR K (rI0 fun i j=>.bl (decide (j < i))) oGt:=zlO fun _ _ _=>by simp only [Rep]
theorem zoT:SR K (rI0 fun i j=>.bl (decide (j ≤ i))) oGe:=zlO fun _ _ _=>by simp only [Rep]
def oNeg:D→Option D
  | .int i=>some (.int (-i))
  | _=>none
theorem zet:SU K (rU fun i=>.int (-i)) oNeg:=by
  intro F H x dx d Q s hx e q
  cases dx with
  | int i=>cases e; simp only [Top,Rep] at hx; exact ⟨i,hx,q _ F H (.refl s) (by simp only [Rep])⟩
  | _=>cases e
def fl:D→Option V
  | .non=>some .non
  | .bl b=>some (.bl b)
  | .int i=>some (.int i)
  | .str x=>some (.str x)
  | _=>none
theorem zjo {d:D} {v x:V} (h:fl d=some v) (r:Top K F H d x):x=v:=by
  cases d with
  | non=>cases h; simpa only [Top,Rep] using r
  | bl _=>cases h; simpa only [Top,Rep] using r
  | int _=>cases h; simpa only [Top,Rep] using r
  | str _=>cases h; simpa only [Top,Rep] using r
  | _=>cases h
def oEq (x y:D):Option D:=match fl x,fl y with | some a,some b=>if scal a b=true then some (.bl (decide (a=b))) else none | _,_=>none
def oNe (x y:D):Option D:=match fl x,fl y with | some a,some b=>if scal a b=true then some (.bl (!decide (a=b))) else none | _,_=>none
theorem zjS:SR K rEq oEq:=by
  intro F H x y dx dy d Q s hx hy e q
  unfold oEq at e
  split at e
  · rename_i a b h1 h2
    split at e
    · rename_i hs
      cases e
      cases zjo h1 hx; cases zjo h2 hy
      exact ⟨hs,q _ F H (.refl s) (by simp only [Rep])⟩
    · cases e
  · cases e
theorem zm5:SR K rNe oNe:=by
  intro F H x y dx dy d Q s hx hy e q
  unfold oNe at e
  split at e
  · rename_i a b h1 h2
    split at e
    · rename_i hs
      cases e
      cases zjo h1 hx; cases zjo h2 hy
      exact ⟨hs,q _ F H (.refl s) (by simp only [Rep])⟩
    · cases e
  · cases e
def isN:D→Bool
  | .non=>true
  | _=>false
theorem znH {d:D} {x:V} (r:Top K F H d x):decide (x = .non)=isN d:=by
  cases d with
  | non=>simp only [Top,Rep] at r; subst r; rfl
  | bl _=>simp only [Top,Rep] at r; subst r; rfl
  | int _=>simp only [Top,Rep] at r; subst r; rfl
  | str _=>simp only [Top,Rep] at r; subst r; rfl
  | tup _=>simp only [Top,Rep] at r; obtain ⟨a,_,rfl,_⟩:=r; rfl
  | lst _=>obtain ⟨a,_,rfl,_⟩:=r; rfl
  | dct _ _=>obtain ⟨a,_,rfl,_⟩:=r; rfl
  | scr _=>simp only [Top,Rep] at r; obtain ⟨a,rfl,_⟩:=r; rfl
  | exc _=>simp only [Top,Rep] at r; obtain ⟨a,_,rfl,_⟩:=r; rfl
  | fd _ _=>simp only [Top,Rep] at r; obtain ⟨a,_,_,rfl,_⟩:=r; rfl
  | obj _ _ _=>simp only [Top,Rep] at r; obtain ⟨a,_,_,rfl,_⟩:=r; rfl
def zmX (x y:D):Option D:=match y with | .non=>some (.bl (!isN x)) | _=>none
theorem zmp:SR K (fun x y H Q=>y = .non∧Q (.bl (!decide (x = .non))) H) zmX:=by
  intro F H x y dx dy d Q s hx hy e q
  cases dy with
  | non=>cases e; simp only [Top,Rep] at hy; exact ⟨hy,q _ F H (.refl s) (by simp only [Rep]; rw [znH hx])⟩
  | _=>cases e
def oIxL (x y:D):Option D:=match x,y with | .lst l,.int i=>atI l i | .scr l,.int i=>(atI l i).map .int | _,_=>none
def oIxT (x y:D):Option D:=match x,y with | .tup l,.int i=>atI l i | _,_=>none
theorem ziQ {l:List D} {vs:List V} {i:Int} {d:D} (r:RepL K F l vs) (h:atI l i=some d):∃ v,atI vs i=some v∧Rep K F d v:=by
  unfold atI at h ⊢
  rw [r.length]
  cases q:ixN l.length i with
  | none=>rw [q] at h; cases h
  | some j=>rw [q] at h; exact r.get h
theorem zaX:SR K (rIxL K.f) oIxL:=by
  intro F H x y dx dy d Q s hx hy e q
  cases dx with
  | lst l =>
    cases dy with
    | int i =>
      obtain ⟨a,vs,rfl,h1,h2⟩:=hx
      simp only [Top,Rep] at hy
      obtain ⟨v,g1,g2⟩:=ziQ h2 e
      exact ⟨a,vs,i,v,rfl,hy,.inl h1,g1,q _ F H (.refl s) g2⟩
    | _=>cases e
  | scr l =>
    cases dy with
    | int i =>
      simp only [Top,Rep] at hx hy
      obtain ⟨a,rfl,h1⟩:=hx
      simp only [oIxL] at e
      cases z:atI l i with
      | none=>rw [z] at e; cases e
      | some n =>
        rw [z] at e; cases e
        obtain ⟨v,g1,g2⟩:=ziQ (F:=F) (K:=K) (l:=l.map .int) (vs:=l.map V.int) (i:=i) (d:=.int n) .ints (by
          unfold atI at z ⊢
          rw [List.length_map]
          cases q:ixN l.length i with
          | none=>rw [q] at z; cases z
          | some j =>
            rw [q] at z
            change l[j]?=some n at z
            show (l.map D.int)[j]?=_
            rw [List.getElem?_map,z]; rfl)
        exact ⟨a,_,i,v,rfl,hy,s.seq h1,g1,q _ F H (.refl s) g2⟩
    | _=>cases e
  | _=>cases e
theorem zkI:SR K (rIxT K.f) oIxT:=by
  intro F H x y dx dy d Q s hx hy e q
  cases dx with
  | tup l =>
    cases dy with
    | int i =>
      simp only [Top,Rep] at hx hy
      obtain ⟨a,vs,rfl,h1,h2⟩:=hx
      obtain ⟨v,g1,g2⟩:=ziQ h2 e
      exact ⟨a,vs,i,v,rfl,hy,.inl (.inl (s _ _ h1)),g1,q _ F H (.refl s) g2⟩
    | _=>cases e
  | _=>cases e
end
end PM
namespace PM
open PySem L2
section
variable {K:Kx} {XO:XOT} {E:St→XK} {ta tb te ty td:TE} {ma mb me my md:En→R D} {t u:TS} {m n:En→O} {Λ:List (Nat × Addr × HO)} {F0 H0 F H F1 H1:Hp} {σ:St} {δ:En} {Dn:Ends}
abbrev EN:St→XK:=fun _ _ _ _=>False
def zl2:Sl→Sl
  | .o d=>.l d
  | .p _=>.no
  | s=>s
def zaQ (δ:En) (ix:List Nat) (n:Nat):En:=ix.map (fun i=>zl2 (δ[i]?.getD .no)) ++ List.replicate n .no
def zc2 (f:D→R (Option D)):List D→R (List D)
  | []=>.ok []
  | d :: l=>(f d).bind fun o=>(zc2 f l).bind fun r=>.ok (o.toList ++ r)
def zda (b:D→En→Option En) (nc:Option (En→R Bool)) (me:En→R D) (δ:En) (d:D):R (Option D):=match b d δ with
  | none=>.no
  | some δ1=>(match nc with
    | none=>(me δ1).nev.bind fun x=>.ok (some x)
    | some c=>(c δ1).nev.bind fun k=>if k=true then (me δ1).nev.bind fun x=>.ok (some x) else .ok none)
def zd7 (mi:En→R (List D)) (ix:List Nat) (n:Nat) (b:D→En→Option En) (nc:Option (En→R Bool)) (me:En→R D) (δ:En):R D :=
  (mi δ).bind fun ds=>ifC (ds.length ≤ sizeLine) ((zc2 (zda b nc me (zaQ δ ix n)) ds).nev.bind fun l=>.ok (.lst l)) .no
theorem zik {ix:List Nat} {n:Nat} (I:EnvOk K Λ F0 H0 F H σ δ) (hix:ix.Nodup) :
    ∃ Λc,EnvOk K Λc F0 H0 F H (zcQ σ ix n) (zaQ δ ix n)∧(∀ i:Nat,Sl.own (zaQ δ ix n)[i]?=true→∃ x ∈ Λc,x.1=i)∧∀ x ∈ Λc,∃ o,H x.2.1=some o:=by
  have gd:∀ j:Nat,j < ix.length→(zaQ δ ix n)[j]?=some (zl2 (δ[ix.getD j 0]?.getD .no)):=fun j hj=>by
    unfold zaQ
    rw [List.getElem?_append_left (by simpa using hj),List.getElem?_map,List.getElem?_eq_getElem hj]
    simp [List.getD_eq_getElem?_getD,List.getElem?_eq_getElem hj]
  have gs:∀ j:Nat,j < ix.length→(zcQ σ ix n)[j]?=some ((σ[ix.getD j 0]?).getD none):=fun j hj=>by
    unfold zcQ
    rw [List.getElem?_append_left (by simpa using hj),List.getElem?_map,List.getElem?_eq_getElem hj]
    simp [List.getD_eq_getElem?_getD,List.getElem?_eq_getElem hj]
  have gn:∀ j:Nat,¬ j < ix.length→(zaQ δ ix n)[j]?=some .no∨(zaQ δ ix n)[j]?=none:=fun j hj=>by
    unfold zaQ
    rw [List.getElem?_append_right (by simpa using hj),List.getElem?_replicate]
    split
    · exact .inl rfl
    · exact .inr rfl
  have own:∀ j:Nat,Sl.own (zaQ δ ix n)[j]?=true→j < ix.length∧∃ d a o,δ[ix.getD j 0]?=some d∧Sl.own (some d)=true∧(zaQ δ ix n)[j]?=some (zl2 d)∧(∃ e,zl2 d = .l e)∧σ[ix.getD j 0]?=some (some (.ref a))∧(zcQ σ ix n)[j]?=some (some (.ref a))∧H a=some o∧H0 a=none∧F a=none:=fun j h=>by
    by_cases hj:j < ix.length
    · refine ⟨hj,?_⟩
      rw [gd j hj] at h
      have z:=I.slot (ix.getD j 0)
      cases q:δ[ix.getD j 0]? with
      | none=>rw [q] at h; cases h
      | some s =>
        rw [q] at h z
        cases s with
        | no=>cases h
        | v d=>cases h
        | o d =>
          obtain ⟨a,z1,z2,z3,z4⟩:=z
          obtain ⟨o,ho⟩:=z4.obj
          exact ⟨_,a,o,rfl,rfl,by rw [gd j hj,q]; rfl,⟨d,rfl⟩,z1,by rw [gs j hj,z1]; rfl,ho,z2,z3⟩
        | l d =>
          obtain ⟨a,z1,z2,z3,z4⟩:=z
          obtain ⟨o,ho⟩:=z4.obj
          exact ⟨_,a,o,rfl,rfl,by rw [gd j hj,q]; rfl,⟨d,rfl⟩,z1,by rw [gs j hj,z1]; rfl,ho,z2,z3⟩
        | p ll=>cases h
    · rcases gn j hj with z | z <;> (rw [z] at h; cases h)
  let Λc:List (Nat × Addr × HO):=(List.range ix.length).filterMap fun (j:Nat)=>match (zcQ σ ix n)[j]? with
    | some (some (V.ref a))=>if Sl.own (zaQ δ ix n)[j]?=true then (H a).map fun o=>(j,a,o) else none
    | _=>none
  have mem:∀ x ∈ Λc,(zcQ σ ix n)[x.1]?=some (some (.ref x.2.1))∧Sl.own (zaQ δ ix n)[x.1]?=true∧H x.2.1=some x.2.2:=fun x hx=>by
    obtain ⟨j,_,h⟩:=List.mem_filterMap.mp hx
    split at h
    · rename_i a q
      split at h
      · rename_i ow
        cases q2:H a with
        | none=>rw [q2] at h; cases h
        | some o=>rw [q2] at h; cases h; exact ⟨q,ow,q2⟩
      · cases h
    · cases h
  have zij:∀ (j:Nat) (ll:Tr),(zaQ δ ix n)[j]? ≠ some (.p ll):=fun j ll h=>by
    by_cases hj:j < ix.length
    · rw [gd j hj] at h
      cases q:δ[ix.getD j 0]? with
      | none=>rw [q] at h; cases h
      | some s=>rw [q] at h; cases s <;> cases h
    · rcases gn j hj with z | z <;> (rw [z] at h; cases h)
  refine ⟨Λc,⟨I.ext,?_,fun j=>?_,fun i j a hij h1 h2 h3 h4=>?_,fun x hx=>?_,fun j ll h=>absurd h (zij j ll)⟩,fun j h=>?_,fun x hx=>⟨_,(mem x hx).2.2⟩⟩
  · unfold zcQ zaQ
    simp
  · by_cases hj:j < ix.length
    · rw [gd j hj,gs j hj]
      have z:=I.slot (ix.getD j 0)
      cases q:δ[ix.getD j 0]? with
      | none=>trivial
      | some s =>
        rw [q] at z
        cases s with
        | no=>trivial
        | v d=>obtain ⟨u,z1,z2⟩:=z; exact ⟨u,by rw [z1]; rfl,z2⟩
        | o d=>obtain ⟨a,z1,z2⟩:=z; exact ⟨a,by rw [z1]; rfl,z2⟩
        | l d=>obtain ⟨a,z1,z2⟩:=z; exact ⟨a,by rw [z1]; rfl,z2⟩
        | p ll=>trivial
    · rcases gn j hj with z | z <;> (rw [z]; trivial)
  · obtain ⟨i1,d1,a1,o1,i2,i3,i4,i5,i6,i7,i8⟩:=own i h1
    obtain ⟨j1,d2,a2,o2,j2,j3,j4,j5,j6,j7,j8⟩:=own j h2
    rw [i7] at h3; cases h3
    rw [j7] at h4; cases h4
    refine I.dist (ix.getD i 0) (ix.getD j 0) a (fun e=>hij ?_) (by rw [i2]; exact i3) (by rw [j2]; exact j3) i6 j6
    rw [List.getD_eq_getElem?_getD,List.getD_eq_getElem?_getD,List.getElem?_eq_getElem i1,List.getElem?_eq_getElem j1] at e
    exact ((List.getElem?_inj i1 hix).mp (by rw [List.getElem?_eq_getElem i1,List.getElem?_eq_getElem j1]; exact congrArg some e))
  · obtain ⟨m1,m2,m3⟩:=mem x hx
    obtain ⟨_,d,_,_,_,_,h4,⟨e,h5⟩,_⟩:=own x.1 m2
    exact ⟨⟨e,by rw [h4,h5]⟩,m1,m3⟩
  · obtain ⟨i1,d1,a1,o1,i2,i3,i4,i5,i6,i7,i8,_⟩:=own j h
    refine ⟨(j,a1,o1),List.mem_filterMap.mpr ⟨j,List.mem_range.mpr i1,?_⟩,rfl⟩
    rw [i7]
    show (if Sl.own (zaQ δ ix n)[j]?=true then (H a1).map fun o=>(j,a1,o) else none)=_
    rw [if_pos h,i8]
    rfl
theorem EnvOk.side {p:Addr} {w:HO} (I:EnvOk K Λ F0 H0 F H σ δ) (ho:∀ i:Nat,Sl.own δ[i]?=true→∃ x ∈ Λ,x.1=i) (hp:∀ x ∈ Λ,x.2.1 ≠ p) (h0:H0 p=none) (h1:F p=none):EnvOk K Λ F0 H0 F (upd H p w) σ δ:=by
  have ne:∀ (i:Nat) (a:Addr),Sl.own δ[i]?=true→σ[i]?=some (some (.ref a))→a ≠ p:=fun i a h h'=>by
    obtain ⟨x,hx,e⟩:=ho i h
    have z:=(I.lent x hx).2.1
    rw [e,h'] at z
    cases z
    exact hp x hx
  have zij:∀ (j:Nat) (ll:Tr),δ[j]? ≠ some (.p ll):=fun j ll h=>by
    obtain ⟨x,hx,e⟩:=ho j (by rw [h]; rfl)
    obtain ⟨d,hd⟩:=(I.lent x hx).1
    rw [e,h] at hd; cases hd
  refine ⟨⟨I.ext.ff,fun b o q=>?_,fun b o q=>?_,I.ext.nw⟩,I.len,fun i=>?_,I.dist,fun x hx=>?_,fun j ll h=>absurd h (zij j ll)⟩
  · rw [zar (zaw q h0)]; exact I.ext.hh b o q
  · rw [zar (zaw q h1)]; exact I.ext.fh b o q
  · have z:=I.slot i
    cases q:δ[i]? with
    | none=>trivial
    | some s =>
      rw [q] at z
      cases s with
      | no=>trivial
      | v d=>exact z
      | o d=>obtain ⟨a,z1,z2,z3,z4⟩:=z; exact ⟨a,z1,z2,z3,z4.at (zar (ne i a (by rw [q]; rfl) z1))⟩
      | l d=>obtain ⟨a,z1,z2,z3,z4⟩:=z; exact ⟨a,z1,z2,z3,z4.at (zar (ne i a (by rw [q]; rfl) z1))⟩
      | p ll=>exact absurd q (zij i ll)
  · obtain ⟨z1,z2,z3⟩:=I.lent x hx
    exact ⟨z1,z2,by rw [zar (hp x hx)]; exact z3⟩
theorem EnvOk.weakL {δ':En} (w:Weak δ δ') (hl:∀ x ∈ Λ,∃ d,δ[x.1]?=some (.l d)) (I:EnvOk K Λ F0 H0 F H σ δ'):EnvOk K Λ F0 H0 F H σ δ:=by
  refine ⟨I.ext,I.len.trans w.1.symm,fun i=>?_,fun i j a hij h1 h2 h3 h4=>?_,fun x hx=>⟨hl x hx,(I.lent x hx).2⟩,I.tabsOf (fun k ll h=>⟨(w.2 k).elim (fun z=>by rw [z] at h; cases h) fun z=>by rw [← z]; exact h,rfl⟩) (fun _ _ _ _ _ _ t f _=>⟨t,fun b hb=>(f b hb).2⟩) fun k j ll r b bs _ _ _ _ ho hs=>.inl ⟨(w.2 j).elim (fun z=>by rw [z] at ho; cases ho) fun z=>by rw [← z]; exact ho,hs⟩⟩
  · rcases w.2 i with z | z
    · rw [z]; trivial
    · rw [z]; exact I.slot i
  · have ow:∀ k:Nat,Sl.own δ[k]?=true→Sl.own δ'[k]?=true:=fun k h=>by
      rcases w.2 k with z | z
      · rw [z] at h; cases h
      · rw [← z]; exact h
    exact I.dist i j a hij (ow i h1) (ow j h2) h3 h4
theorem ziF {f:D→R (Option D)} {d:D} {l r:List D} (h:(zc2 f (d :: l)).nev = .ok r):∃ o r',f d = .ok o∧(zc2 f l).nev = .ok r'∧r=o.toList ++ r':=by
  unfold zc2 at h
  cases q:f d with
  | no=>rw [q] at h; cases h
  | ex x=>rw [q] at h; cases h
  | ok o =>
    rw [q] at h
    cases q2:zc2 f l with
    | no=>rw [R.bind_ok,q2] at h; cases h
    | ex x=>rw [R.bind_ok,q2] at h; cases h
    | ok r'=>rw [R.bind_ok,q2] at h; cases h; exact ⟨o,r',rfl,rfl,rfl⟩
theorem nev_ok {α:Type} {r:R α} {a:α} (h:r.nev = .ok a):r = .ok a:=by
  cases r with
  | no=>cases h
  | ok b=>cases h; rfl
  | ex x=>cases h
theorem zbZ {wi:TI} {mi:En→R (List D)} {ix:List Nat} {n:Nat} {g:TG} {b:D→En→Option En} {tc:Option TT} {nc:Option (En→R Bool)}
    (hi:SIc K XO E wi mi) (hix:ix.Nodup) (hg:SG K g b) (hw:BW b) (hc:(tc=none∧nc=none)∨∃ c k,tc=some c∧nc=some k∧ST K XO EN c k) (he:SE K XO EN te me):SEo K XO E (zmb wi ix n g tc te) (zd7 mi ix n b nc me):=by
  intro Λ F0 H0 F H σ δ Q I a
  refine hi Λ F0 H0 F H σ δ _ I (a.bind.imp fun ds F1 H1 e1 a1 J hJ p hp=>?_)
  unfold ifC at a1
  split at a1
  case isFalse=>exact a1.elim
  rename_i hsz
  have I1:=I.grow e1
  obtain ⟨Λc,Ic,hown,hall⟩:=zik (n:=n) I1 hix
  cases qg:(zc2 (zda b nc me (zaQ δ ix n)) ds).nev with
  | no=>rw [qg] at a1; exact a1.elim
  | ex x=>cases q2:zc2 (zda b nc me (zaQ δ ix n)) ds <;> (rw [q2] at qg; cases qg)
  | ok l =>
  rw [qg] at a1
  have hlent:∀ x ∈ Λc,∃ d,(zaQ δ ix n)[x.1]?=some (.l d):=fun x hx=>(Ic.lent x hx).1
  have hpn:∀ x ∈ Λc,x.2.1 ≠ p:=fun x hx e=>by
    obtain ⟨o,ho⟩:=hall x hx
    rw [e,hp] at ho; cases ho
  have p0:H0 p=none:=I1.ext.hh.free hp
  have f1:F1 p=none:=e1.fh.free hp
  refine ⟨fun i k ys σ2 H2=>∃ F2 l1 l2,EnvOk K Λc F0 H0 F2 H2 σ2 (zaQ δ ix n)∧Ext F1 H1 F2 H2∧H2 p=some (.lst ys)∧F2 p=none∧RepL K F2 l1 ys∧(zc2 (zda b nc me (zaQ δ ix n)) (ds.drop i)).nev = .ok l2∧l=l1 ++ l2∧k=ds.length - i∧i ≤ ds.length∧ys.length ≤ i,
    ⟨_,F1,[],l,?_,.newO e1.fh hp,zaG,f1,.nil,qg,rfl,rfl,Nat.zero_le _,Nat.le_refl _⟩,?_⟩
  · exact Ic.grow (.newO e1.fh hp)
  rintro i k ys σ2 H2 ⟨F2,l1,l2,I2,x2,hD,hF,r,qd,rfl,rfl,hil,hys⟩
  refine ⟨hD,?_⟩
  by_cases hlt:i < ds.length
  · have e:ds.drop i=ds[i] :: ds.drop (i + 1):=List.drop_eq_getElem_cons hlt
    rw [e] at qd
    obtain ⟨o,l3,q1,q3,rfl⟩:=ziF qd
    obtain ⟨h1,h2⟩:=(hJ F2 H2 x2 i).1 ds[i] (by simp [hlt])
    refine .inr ⟨h1,fun ys' σ' H'=>∃ F' l1',EnvOk K Λc F0 H0 F' H' σ' (zaQ δ ix n)∧Ext F1 H1 F' H'∧H' p=some (.lst ys')∧F' p=none∧RepL K F' l1' ys'∧l1 ++ (o.toList ++ l3)=l1' ++ l3∧ys'.length ≤ i + 1,
      fun ys' σ' H' ⟨F',l1',w1,w2,w3,w4,w5,w6,w7⟩=>⟨_,by omega,F',l1',l3,w1,w2,w3,w4,w5,q3,w6,rfl,hlt,w7⟩,fun x H' y=>?_⟩
    obtain ⟨F3,e3,rx⟩:=h2 x H' y
    have hp2:∀ {F5 H5:Hp},Ext F2 H2 F5 H5→H5 p=some (.lst ys)∧F5 p=none:=fun z=>⟨z.hh _ _ hD,z.nw p _ hF hD⟩
    unfold zda at q1
    cases qb:b ds[i] (zaQ δ ix n) with
    | none=>rw [qb] at q1; cases q1
    | some δ1 =>
      rw [qb] at q1
      have hwk:=hw _ _ _ qb
      refine hg Λc F0 H0 F3 H' σ2 _ _ x δ1 _ (I2.grow e3) rx qb fun σ3 I3=>?_
      have fin:∀ F4 H4,Ext F3 H' F4 H4→(me δ1).nev.bind (fun x=>R.ok (some x)) = .ok o→te σ3 H4 fun y H5=>H5 p=some (.lst ys)∧ys.length < sizeLine ∧
          ∃ F' l1',EnvOk K Λc F0 H0 F' (upd H5 p (.lst (ys ++ [y]))) σ3 (zaQ δ ix n)∧Ext F1 H1 F' (upd H5 p (.lst (ys ++ [y])))∧upd H5 p (.lst (ys ++ [y])) p=some (.lst (ys ++ [y]))∧F' p=none∧RepL K F' l1' (ys ++ [y])∧l1 ++ (o.toList ++ l3)=l1' ++ l3∧(ys ++ [y]).length ≤ i + 1:=by
        intro F4 H4 e4 qe
        cases qm:me δ1 with
        | no=>rw [qm] at qe; cases qe
        | ex x=>rw [qm] at qe; cases qe
        | ok d =>
          rw [qm] at qe
          cases qe
          refine he Λc F0 H0 F4 H4 σ3 δ1 _ (I3.grow e4) ?_
          rw [qm]
          intro F5 H5 e5 v rv
          have z:=e3.trans (e4.trans e5)
          obtain ⟨z1,z2⟩:=hp2 z
          refine ⟨z1,by omega,F5,l1 ++ [d],(((I3.grow e4).grow e5).weakL hwk hlent).side hown hpn p0 z2,?_,zaG,z2,(r.mono z.ff).append (.cons rv .nil),by simp,by simpa using hys⟩
          have w:=x2.trans z
          exact ⟨w.ff,fun c o q=>by rw [zar (zaw q hp)]; exact w.hh c o q,fun c o q=>by rw [zar (zaw q z2)]; exact w.fh c o q,w.nw⟩
      rcases hc with ⟨rfl,rfl⟩ | ⟨c,kc,rfl,rfl,hcc⟩
      · have z:=fin F3 H' (.refl e3.fh) q1
        unfold zkF
        simp only [if_true]
        exact z
      · simp only at q1
        refine hcc Λc F0 H0 F3 H' σ3 δ1 _ I3 ?_
        cases qk:kc δ1 with
        | no=>rw [qk] at q1; cases q1
        | ex x=>rw [qk] at q1; cases q1
        | ok bb =>
          rw [qk] at q1
          intro F4 H4 e4
          cases bb with
          | true=>rw [if_pos rfl]; exact fin F4 H4 e4 q1
          | false =>
            rw [if_neg Bool.false_ne_true]
            have eo:o=none:=by
              rw [R.nev_ok,R.bind_ok,if_neg Bool.false_ne_true] at q1
              cases q1; rfl
            subst eo
            have z:=e3.trans e4
            obtain ⟨z1,z2⟩:=hp2 z
            exact ⟨F4,l1,(I3.grow e4).weakL hwk hlent,x2.trans z,z1,z2,r.mono z.ff,rfl,by omega⟩
  · have e:i=ds.length:=by omega
    subst e
    rw [List.drop_length] at qd
    cases qd
    refine .inl ⟨(hJ F2 H2 x2 _).2 (by simp),a1 F2 H2 x2 p hF (e1.hh.free hp) ⟨ys,hD,?_⟩⟩
    rw [List.append_nil]
    exact r
def zc1 (n:Nat) (ds:List D):En:=ds.map .v ++ List.replicate n .no
def runF (np nv:Nat) (m:En→O) (ds:List D):R D:=if ds.length=np then (match m (zc1 nv ds) with | .rt d=>.ok d | .nx _=>.ok .non | .ex _ x=>.ex x | _=>.no) else .no
theorem zhi {np nv:Nat} {N:List Str} {ds:List D} {vs:List V} (s:Same F H) (r:RepL K F ds vs) (hn:N.length=np + nv) (hl:ds.length=np):EnvOk K [] F H F H (L2.start N vs) (zc1 nv ds):=by
  have hv:=r.length
  unfold L2.start zc1
  have en:N.length - vs.length=nv:=by omega
  rw [en]
  refine ⟨.refl s,by simp [hv],fun i=>?_,fun i j a _ h1 _ _ _=>?_,fun x hx=>(by cases hx),fun i ll h1=>(by
    by_cases hi:i < ds.length
    · rw [List.getElem?_append_left (by simpa using hi),List.getElem?_map,List.getElem?_eq_getElem hi] at h1
      cases h1
    · rw [List.getElem?_append_right (by simpa using hi),List.getElem?_replicate] at h1
      split at h1 <;> cases h1)⟩
  · by_cases hi:i < ds.length
    · rw [List.getElem?_append_left (by simpa using hi),List.getElem?_append_left (by simp; omega),List.getElem?_map,List.getElem?_map,List.getElem?_eq_getElem hi]
      obtain ⟨v,h1,h2⟩:=r.get (List.getElem?_eq_getElem hi)
      rw [h1]
      exact ⟨v,rfl,h2⟩
    · rw [List.getElem?_append_right (by simpa using hi),List.getElem?_replicate]
      split <;> trivial
  · by_cases hi:i < ds.length
    · rw [List.getElem?_append_left (by simpa using hi),List.getElem?_map,List.getElem?_eq_getElem hi] at h1
      cases h1
    · rw [List.getElem?_append_right (by simpa using hi),List.getElem?_replicate] at h1
      split at h1 <;> cases h1
theorem zcE {np nv:Nat} {N:List Str} {vs:List V} {Q:VK} {E:XK} (h:SS K XO (fun _=>E) t m) (hn:N.length=np + nv) (sp:spM K XO (runF np nv m) vs H Q E):t { nx:=fun _ H'=>Q .non H',rt:=Q } (L2.start N vs) H:=by
  obtain ⟨F,ds,s,r,a⟩:=sp
  unfold runF at a
  split at a
  · rename_i hl
    refine h [] F H F H _ _ _ (zhi s r hn hl) ?_
    cases q:m (zc1 nv ds) with
    | no=>rw [q] at a; exact a
    | nx δ=>rw [q] at a; exact fun σ F' H' I=>a F' H' I.ext _ (by simp only [Rep])
    | rt d=>rw [q] at a; exact fun v F' H' e r=>a F' H' e v r
    | ro d=>rw [q] at a; exact a.elim
    | bk δ=>rw [q] at a; exact a.elim
    | ct δ=>rw [q] at a; exact a.elim
    | ex δ x=>rw [q] at a; exact fun σ F' H' C dct I w=>a C dct F' H' I.ext w
  · exact a.elim
def runO (np nv:Nat) (m:En→O) (ds:List D):R D:=if ds.length=np then (match m (zc1 nv ds) with | .ro d=>.ok d | .ex _ x=>.ex x | _=>.no) else .no
def spO (K:Kx) (XO:XOT) (f:List D→R D):Sp:=fun vs H Q E=>∃ F ds,Same F H∧RepL K F ds vs∧Aft (fun _=>E) XO [] F H (fun d F' H'=>∀ p,F' p=none→H p=none→Own K F' H' d p→Q (.ref p) H') (f ds)
theorem zfX {np nv:Nat} {N:List Str} {vs:List V} {Q:VK} {E:XK} (h:SS K XO (fun _=>E) t m) (hn:N.length=np + nv) (sp:spO K XO (runO np nv m) vs H Q E):t { nx:=fun _ H'=>Q .non H',rt:=Q } (L2.start N vs) H:=by
  obtain ⟨F,ds,s,r,a⟩:=sp
  unfold runO at a
  split at a
  · rename_i hl
    refine h [] F H F H _ _ _ (zhi s r hn hl) ?_
    cases q:m (zc1 nv ds) with
    | no=>rw [q] at a; exact a
    | nx δ=>rw [q] at a; exact a.elim
    | rt d=>rw [q] at a; exact a.elim
    | ro d=>rw [q] at a; exact fun p F' H' e h0 h1 o=>a F' H' e p h0 h1 o
    | bk δ=>rw [q] at a; exact a.elim
    | ct δ=>rw [q] at a; exact a.elim
    | ex δ x=>rw [q] at a; exact fun σ F' H' C dct I w=>a C dct F' H' I.ext w
  · exact a.elim
theorem zeF {np nv:Nat} {vs:List V} {Q:VK} {E:XK} (sp:spO K XO (runO np nv m) vs H Q E):vs.length=np:=by
  obtain ⟨F,ds,s,r,a⟩:=sp
  unfold runO at a
  split at a
  · rename_i hl; rw [r.length]; exact hl
  · exact a.elim
theorem zbj {np nv:Nat} {vs:List V} {Q:VK} {E:XK} (sp:spM K XO (runF np nv m) vs H Q E):vs.length=np:=by
  obtain ⟨F,ds,s,r,a⟩:=sp
  unfold runF at a
  split at a
  · rename_i hl; rw [r.length]; exact hl
  · exact a.elim
theorem zoa {f:List D→R D} {ns:List Int} {a:Addr} {Q:VK} {E:XK} (hf:f [.scr ns] = .ok (.bl true)) (h:SqL K.f H a (ns.map V.int)) (q:∀ H',Q (.bl true) H'):spM K XO f [.ref a] H Q E:=by
  refine ⟨fun b=>if b=a then H b else none,[.scr ns],fun b o e=>?_,.cons ?_ .nil,?_⟩
  · dsimp only at e
    split at e
    · exact e
    · cases e
  · simp only [Rep]
    refine ⟨a,rfl,?_⟩
    rcases h with (h | ⟨o,h⟩) | h
    · exact .inl (.inl (by dsimp only; rw [if_pos rfl]; exact h))
    · exact .inl (.inr ⟨o,by dsimp only; rw [if_pos rfl]; exact h⟩)
    · exact .inr h
  · rw [hf]
    intro F' H' _ v r
    simp only [Rep] at r
    subst r
    exact q H'
theorem zd1 {f:List D→R D} {tl:TA} {ml:En→R (List D)} {E':XK} (h:SA K XO E tl ml):SEo K XO E (zjI (spO K XO f) [] E' tl) (zag f ml):=by
  intro Λ F0 H0 F H σ δ Q I a
  refine h Λ F0 H0 F H σ δ _ I (a.bind.imp fun ds F1 H1 e1 a1 vs r=>⟨F1,ds,e1.fh,by rw [List.append_nil]; exact r,?_⟩)
  exact Aft.imp (fun d F2 H2 e2 p q h0 h1 o=>p q h0 (e1.hh.free h1) o) (Aft.any a1)
mutual
def zdQ:D→Bool
  | .tup l=>zjk l
  | .lst _=>false
  | .dct _ _=>false
  | .scr _=>false
  | .exc _=>false
  | .fd _ _=>false
  | .obj _ _ _=>false
  | _=>true
def zjk:List D→Bool
  | []=>true
  | d :: l=>zdQ d && zjk l
end
variable (K) in
def Bor (F H:Hp) (d:D) (v:V):Prop:=Rep K F d v∨(∃ a,v = .ref a∧Own K F H d a)∨∃ T fp,d=trD T∧TrOk K F H T v fp
variable (K XO E) in
def SAb (t:TA) (m:En→R (List D)):Prop:=∀ Λ F0 H0 F H σ δ Q,EnvOk K Λ F0 H0 F H σ δ→Aft E XO σ F H (fun ds F' H'=>∀ vs,Prd (Bor K F' H') ds vs→Q vs H') (m δ)→t σ H Q
theorem Bor.mono {F H F' H':Hp} (e:Ext F H F' H') {d:D} {v:V}:Bor K F H d v→Bor K F' H' d v
  | .inl h=>.inl (Rep.mono e.ff _ h)
  | .inr (.inl ⟨a,h1,h2⟩)=>.inr (.inl ⟨a,h1,h2.mono e.ff e.hh⟩)
  | .inr (.inr ⟨T,fp,h1,h2⟩)=>.inr (.inr ⟨T,fp,h1,TrOk.mono e.ff e.hh T h2⟩)
theorem zfg:SAb K XO E tNil mNil:=fun Λ F0 H0 F H σ δ Q I a=>a F H (.refl I.same) _ .nil
theorem zfS {tr:TA} {mr:En→R (List D)} (ha:SE K XO E ta ma) (hr:SAb K XO E tr mr):SAb K XO E (zc4 ta tr) (zaa ma mr):=by
  intro Λ F0 H0 F H σ δ Q I a
  refine ha Λ F0 H0 F H σ δ _ I (a.bind.imp fun dx F1 H1 e1 a1 x rx=>?_)
  refine hr Λ F0 H0 F1 H1 σ δ _ (I.grow e1) (a1.bind.imp fun dy F2 H2 e2 a2 y ry=>?_)
  exact a2 F2 H2 (.refl e2.fh) _ (.cons (.inl (Rep.mono e2.ff _ rx)) ry)
theorem zkT {i:Nat} {tr:TA} {mr:En→R (List D)} (hr:SAb K XO E tr mr):SAb K XO E (zc4 (tVar i) tr) (zaa (mRd i) mr):=by
  intro Λ F0 H0 F H σ δ Q I a
  have key:∀ d v,mRd i δ = .ok d→σ[i]?=some (some v)→Bor K F H d v→zc4 (tVar i) tr σ H Q:=fun d v hm hs b=>by
    unfold zaa at a
    rw [hm] at a
    refine ⟨v,hs,hr Λ F0 H0 F H σ δ _ I (Aft.imp (fun dy F2 H2 e2 a2 y ry=>?_) (Aft.bind a))⟩
    exact a2 F2 H2 (.refl e2.fh) _ (.cons (b.mono e2) ry)
  have z:=I.slot i
  unfold zaa at a
  cases q:δ[i]? with
  | none =>
    have e:mRd i δ = .no:=by unfold mRd; rw [q]
    rw [e] at a; exact a.elim
  | some s =>
    rw [q] at z
    cases s with
    | no =>
      have e:mRd i δ = .no:=by unfold mRd; rw [q]
      rw [e] at a; exact a.elim
    | v d=>obtain ⟨u,z1,z2⟩:=z; exact key d u (by unfold mRd; rw [q]) z1 (.inl z2)
    | o d=>obtain ⟨u,z1,_,_,z2⟩:=z; exact key d _ (by unfold mRd; rw [q]) z1 (.inr (.inl ⟨u,rfl,z2⟩))
    | l d=>obtain ⟨u,z1,_,_,z2⟩:=z; exact key d _ (by unfold mRd; rw [q]) z1 (.inr (.inl ⟨u,rfl,z2⟩))
    | p ll =>
      have e:mRd i δ = .no:=by unfold mRd; rw [q]
      rw [e] at a; exact a.elim
def mTr (i:Nat) (δ:En):R D:=match δ[i]? with
  | some (.p T)=>.ok (trD T)
  | _=>.no
theorem zjc {i:Nat} {tr:TA} {mr:En→R (List D)} (hr:SAb K XO E tr mr):SAb K XO E (zc4 (tVar i) tr) (zaa (mTr i) mr):=by
  intro Λ F0 H0 F H σ δ Q I a
  unfold zaa mTr at a
  split at a
  · rename_i T q
    obtain ⟨p,bs,s1,s2,_⟩:=I.tab q
    refine ⟨_,s1,hr Λ F0 H0 F H σ δ _ I (Aft.imp (fun dy F2 H2 e2 a2 y ry=>?_) (Aft.bind a))⟩
    exact a2 F2 H2 (.refl e2.fh) _ (.cons (.inr (.inr ⟨T,_,rfl,TrOk.mono e2.ff e2.hh T s2.ok⟩)) ry)
  · exact a.elim
def zbL (F H:Hp):Hp:=fun b=>match F b with
  | some o=>some o
  | none=>match H b with
    | some (.lst vs)=>some (.lst vs)
    | some (.dK kvs)=>some (.dK kvs)
    | some (.frz o u)=>some (.frz o u)
    | some (.ins C dx fs)=>some (.ins C dx fs)
    | _=>none
theorem zc8 {F H:Hp}:Same F (zbL F H):=fun b o h=>by unfold zbL; rw [h]
theorem zhb {F H:Hp} (s:Same F H):Same (zbL F H) H:=fun b o h=>by
  unfold zbL at h
  cases q:F b with
  | some u=>rw [q] at h; cases h; exact s _ _ q
  | none =>
    simp only [q] at h
    cases q2:H b with
    | none=>rw [q2] at h; cases h
    | some u=>cases u <;> simp only [q2] at h <;> cases h <;> rfl
theorem znD {a:Addr} {vs:List V} (s:Same F H) (h:H a=some (.lst vs)):zbL F H a=some (.lst vs):=by
  unfold zbL
  cases q:F a with
  | some u=>rw [s _ _ q] at h; exact h
  | none=>simp only [h]
mutual
theorem zhg (s:Same F H):∀ (T:Tr) {v:V} {fp:List Addr},TrOk K F H T v fp→Rep K (zbL F H) (trD T) v
  | .d x,v,fp,h=>by
    simp only [TrOk] at h
    simp only [trD]
    exact Rep.mono zc8 x h.2
  | .l ts,v,fp,h=>by
    simp only [TrOk] at h
    obtain ⟨a,vs,fs,rfl,h2,h3,h4⟩:=h
    simp only [trD,Rep]
    exact ⟨a,vs,rfl,.inl (znD s h3),zf9 s ts h4⟩
  | .t ts,v,fp,h=>by
    simp only [TrOk] at h
    obtain ⟨a,vs,rfl,h3,h4⟩:=h
    simp only [trD,Rep]
    exact ⟨a,vs,rfl,zc8 _ _ h3,zf9 s ts h4⟩
theorem zf9 (s:Same F H):∀ (ts:List Tr) {vs:List V} {fp:List Addr},TrOkL K F H ts vs fp→RepL K (zbL F H) (trDL ts) vs
  | [],vs,fp,h=>by
    simp only [TrOkL] at h
    rw [h.1]
    simp only [trDL]
    exact .nil
  | t :: ts,vs,fp,h=>by
    simp only [TrOkL] at h
    obtain ⟨v,r,f1,f2,rfl,h2,h3,h4⟩:=h
    simp only [trDL]
    exact .cons (zhg s t h3) (zf9 s ts h4)
end
theorem zhq {F H:Hp} (s:Same F H):∀ {d:D} {v:V},Bor K F H d v→Rep K (zbL F H) d v:=by
  intro d v h
  rcases h with h | ⟨a,rfl,h⟩ | ⟨T,fp,rfl,h⟩
  · exact Rep.mono zc8 _ h
  · cases d with
    | lst l =>
      obtain ⟨vs,h1,h2⟩:=h
      simp only [Rep]
      refine ⟨a,vs,rfl,.inl ?_,h2.mono zc8⟩
      unfold zbL
      cases q:F a with
      | some u=>rw [s _ _ q] at h1; exact h1
      | none=>simp only [h1]
    | dct ks l =>
      obtain ⟨vs,h1,h0,h2⟩:=h
      simp only [Rep]
      refine ⟨a,vs,rfl,?_,h0,h2.mono zc8⟩
      unfold zbL
      cases q:F a with
      | some u=>rw [s _ _ q] at h1; exact h1
      | none=>simp only [h1]
    | obj c ks l =>
      obtain ⟨dx,vs,h1,h0,h2⟩:=h
      simp only [Rep]
      refine ⟨a,dx,vs,rfl,?_,h0,h2.mono zc8⟩
      unfold zbL
      cases q:F a with
      | some u=>rw [s _ _ q] at h1; exact h1
      | none=>simp only [h1]
    | _=>exact h.elim
  · exact zhg s T h
theorem zhu {F H:Hp} (s:Same F H):∀ {ds:List D} {vs:List V},Prd (Bor K F H) ds vs→RepL K (zbL F H) ds vs
  | _,_,.nil=>.nil
  | _,_,.cons h t=>.cons (zhq s h) (zhu s t)
open Classical in
def minH (F H F':Hp):Hp:=fun b=>if F b=none∧H b ≠ none then none else F' b
theorem zmR {F H F' H':Hp} (e:Ext (zbL F H) H F' H') {a:Addr} {o:HO} (h:F' a=some o) (h1:∀ vs,o ≠ .lst vs) (h2:∀ kvs,o ≠ .dK kvs) (h3:∀ q u,o ≠ .frz q u) (h4:∀ C dx fs,o ≠ .ins C dx fs):minH F H F' a=some o:=by
  unfold minH
  split
  · rename_i hc
    exfalso
    cases qh:H a with
    | none=>exact hc.2 qh
    | some u =>
      have np:zbL F H a=match H a with | some (.lst vs)=>some (.lst vs) | some (.dK kvs)=>some (.dK kvs) | some (.frz o u)=>some (.frz o u) | some (.ins C dx fs)=>some (.ins C dx fs) | _=>none:=by
        unfold zbL; rw [hc.1]
      cases u with
      | lst vs=>rw [qh] at np; have z:=e.ff a _ np; rw [h] at z; cases z; exact h1 vs rfl
      | dK vs=>rw [qh] at np; have z:=e.ff a _ np; rw [h] at z; cases z; exact h2 vs rfl
      | frz q w=>rw [qh] at np; have z:=e.ff a _ np; rw [h] at z; cases z; exact h3 q w rfl
      | ins C dx fs=>rw [qh] at np; have z:=e.ff a _ np; rw [h] at z; cases z; exact h4 C dx fs rfl
      | _=>rw [qh] at np; have z:=e.nw a _ np qh; rw [h] at z; cases z
  · exact h
mutual
theorem zht {F H F' H':Hp} (e:Ext (zbL F H) H F' H'):∀ (d:D) {v:V},zdQ d=true→Rep K F' d v→Rep K (minH F H F') d v
  | .non,v,_,h=>by simp only [Rep] at h ⊢; exact h
  | .bl _,v,_,h=>by simp only [Rep] at h ⊢; exact h
  | .int _,v,_,h=>by simp only [Rep] at h ⊢; exact h
  | .str _,v,_,h=>by simp only [Rep] at h ⊢; exact h
  | .lst _,v,c,h=>by simp only [zdQ] at c; cases c
  | .dct _ _,v,c,h=>by simp only [zdQ] at c; cases c
  | .scr _,v,c,h=>by simp only [zdQ] at c; cases c
  | .exc _,v,c,h=>by simp only [zdQ] at c; cases c
  | .fd _ _,v,c,h=>by simp only [zdQ] at c; cases c
  | .obj _ _ _,v,c,h=>by simp only [zdQ] at c; cases c
  | .tup l,v,c,h=>by
    simp only [zdQ] at c
    simp only [Rep] at h ⊢
    obtain ⟨a,vs,h1,h2,h3⟩:=h
    exact ⟨a,vs,h1,zmR e h2 (fun _ z=>by cases z) (fun _ z=>by cases z) (fun _ _ z=>by cases z) (fun _ _ _ z=>by cases z),zjl e l c h3⟩
theorem zjl {F H F' H':Hp} (e:Ext (zbL F H) H F' H'):∀ (l:List D) {vs:List V},zjk l=true→RepL K F' l vs→RepL K (minH F H F') l vs
  | [],vs,_,h=>by simp only [RepL] at h ⊢; exact h
  | d :: l,vs,c,h=>by
    simp only [zjk,Bool.and_eq_true] at c
    simp only [RepL] at h ⊢
    obtain ⟨v,r,h1,h2,h3⟩:=h
    exact ⟨v,r,h1,zht e d c.1 h2,zjl e l c.2 h3⟩
end
theorem zgS {F H F' H':Hp} (e:Ext (zbL F H) H F' H'):Ext F H (minH F H F') H':=by
  refine ⟨fun b o h=>?_,e.hh,fun b o h=>?_,fun p o h1 h2=>?_⟩
  · unfold minH
    rw [if_neg (fun hc=>by rw [h] at hc; cases hc.1)]
    exact e.ff b o (zc8 b o h)
  · unfold minH at h
    split at h
    · cases h
    · exact e.fh b o h
  · unfold minH
    rw [if_pos ⟨h1,by rw [h2]; intro z; cases z⟩]
def zf2 (f:List D→R D) (ml:En→R (List D)) (δ:En):R D:=(ml δ).bind fun l=>(f l).nev.bind fun d=>if zdQ d=true then .ok d else .no
theorem zi1 {f:List D→R D} {tl:TA} {ml:En→R (List D)} {E':XK} (h:SAb K XO E tl ml):SE K XO E (zjI (spM K XO f) [] E' tl) (zf2 f ml):=by
  intro Λ F0 H0 F H σ δ Q I a
  refine h Λ F0 H0 F H σ δ _ I (a.bind.imp fun ds F1 H1 e1 a1 vs r=>⟨zbL F1 H1,ds,zhb e1.fh,by rw [List.append_nil]; exact zhu e1.fh r,?_⟩)
  cases q:f ds with
  | no=>rw [q] at a1; exact a1.elim
  | ex x=>rw [q] at a1; exact a1.elim
  | ok d =>
    rw [q] at a1
    intro F2 H2 e2 v rv
    simp only [R.nev_ok,R.bind_ok] at a1
    split at a1
    · rename_i hc
      exact a1 _ H2 (zgS e2) v (zht e2 d hc rv)
    · exact a1.elim
variable (K) in
def SC (r:List V→Hp→VK→Prop) (f:List D→Option D):Prop:=∀ F H vs ds d Q,Same F H→Prd (Top K F H) ds vs→f ds=some d→(∀ v F' H',Ext F H F' H'→Rep K F' d v→Q v H')→r vs H Q
variable (K) in
def SCo (r:List V→Hp→VK→Prop) (f:List D→Option D):Prop:=∀ F H vs ds d Q,Same F H→Prd (Top K F H) ds vs→f ds=some d→(∀ p F' H',Ext F H F' H'→F' p=none→H p=none→Own K F' H' d p→Q (.ref p) H')→r vs H Q
def mCB (f:List D→Option D) (ml:En→R (List D)) (δ:En):R D:=(ml δ).bind fun l=>R.of (f l)
theorem zbO {r:List V→Hp→VK→Prop} {f:List D→Option D} {tl:TA} {ml:En→R (List D)} (hr:SC K r f) (h:SAr K XO E tl ml):SE K XO E (tCB r tl) (mCB f ml):=by
  intro Λ F0 H0 F H σ δ Q I a
  refine h Λ F0 H0 F H σ δ _ I (a.bind.imp fun ds F1 H1 e1 a1 vs rv=>?_)
  cases q:f ds with
  | none=>rw [q] at a1; exact a1.elim
  | some d=>rw [q] at a1; exact hr F1 H1 vs ds d Q e1.fh rv q fun v F' H' e r=>a1 F' H' e v r
theorem zd8 {r:List V→Hp→VK→Prop} {f:List D→Option D} {tl:TA} {ml:En→R (List D)} (hr:SCo K r f) (h:SAr K XO E tl ml):SEo K XO E (tCB r tl) (mCB f ml):=by
  intro Λ F0 H0 F H σ δ Q I a
  refine h Λ F0 H0 F H σ δ _ I (a.bind.imp fun ds F1 H1 e1 a1 vs rv=>?_)
  cases q:f ds with
  | none=>rw [q] at a1; exact a1.elim
  | some d=>rw [q] at a1; exact hr F1 H1 vs ds d Q e1.fh rv q fun p F' H' e h0 h1 o=>a1 F' H' e p h0 (e1.hh.free h1) o
def fLen:List D→Option D
  | [.lst l]=>some (.int l.length)
  | [.scr l]=>some (.int l.length)
  | [.tup l]=>some (.int l.length)
  | _=>none
theorem zbt:SC K (fun xs H Q=>∃ p ys,xs = [.ref p]∧(SqL K.f H p ys∨SqT K.f H p ys)∧Q (.int ys.length) H) fLen:=by
  intro F H vs ds d Q s r e q
  unfold fLen at e
  split at e
  · cases e
    cases r with
    | cons r r' =>
      cases r'
      obtain ⟨a,xs,rfl,h1,h2⟩:=r
      exact ⟨a,xs,rfl,.inl (.inl h1),q _ F H (.refl s) (by simp only [Rep]; rw [h2.length])⟩
  · cases e
    cases r with
    | cons r r' =>
      cases r'
      simp only [Top,Rep] at r
      obtain ⟨a,rfl,h1⟩:=r
      exact ⟨a,_,rfl,.inl (s.seq h1),q _ F H (.refl s) (by simp only [Rep]; rw [List.length_map])⟩
  · cases e
    cases r with
    | cons r r' =>
      cases r'
      simp only [Top,Rep] at r
      obtain ⟨a,xs,rfl,h1,h2⟩:=r
      exact ⟨a,xs,rfl,.inr (.inl (.inl (s _ _ h1))),q _ F H (.refl s) (by simp only [Rep]; rw [h2.length])⟩
  · cases e
def fAbs:List D→Option D
  | [.int i]=>some (.int (if i < 0 then -i else i))
  | _=>none
theorem zoy:SC K (fun xs H Q=>∃ i,xs = [.int i]∧Q (.int (if i < 0 then -i else i)) H) fAbs:=by
  intro F H vs ds d Q s r e q
  unfold fAbs at e
  split at e
  · rename_i i
    cases e
    cases r with
    | cons r r' =>
      cases r'
      simp only [Top,Rep] at r
      subst r
      exact ⟨i,rfl,q _ F H (.refl s) (by simp only [Rep])⟩
  · cases e
def zb2:List D→Option D
  | [.lst l]=>some (.lst l)
  | [.tup l]=>some (.lst l)
  | _=>none
theorem zcX:SCo K (fun xs H Q=>∃ p ys,xs = [.ref p]∧(SqL K.f H p ys∨SqT K.f H p ys)∧∀ l,H l=none→Q (.ref l) (upd H l (.lst ys))) zb2:=by
  intro F H vs ds d Q s r e q
  unfold zb2 at e
  split at e
  · cases e
    cases r with
    | cons r r' =>
      cases r'
      obtain ⟨a,xs,rfl,h1,h2⟩:=r
      exact ⟨a,xs,rfl,.inl (.inl h1),fun p hp=>q _ F _ (.newO s hp) (s.free hp) hp ⟨xs,zaG,h2⟩⟩
  · cases e
    cases r with
    | cons r r' =>
      cases r'
      simp only [Top,Rep] at r
      obtain ⟨a,xs,rfl,h1,h2⟩:=r
      exact ⟨a,xs,rfl,.inr (.inl (.inl (s _ _ h1))),fun p hp=>q _ F _ (.newO s hp) (s.free hp) hp ⟨xs,zaG,h2⟩⟩
  · cases e
def asI:D→Option Int
  | .int i=>some i
  | _=>none
def mNoP (_:En):R (Option Int):=.ok none
def zlj (me:En→R D) (δ:En):R (Option Int):=(me δ).bind fun d=>(R.of (asI d)).bind fun i=>.ok (some i)
variable (K XO E) in
def SO (t:TO) (m:En→R (Option Int)):Prop:=∀ Λ F0 H0 F H σ δ Q,EnvOk K Λ F0 H0 F H σ δ→Aft E XO σ F H (fun o _ H'=>Q o H') (m δ)→t σ H Q
theorem zpb:SO K XO E zk4 mNoP:=fun Λ F0 H0 F H σ δ Q I a=>a F H (.refl I.same)
theorem znK (h:SE K XO E te me):SO K XO E (zoR te) (zlj me):=by
  intro Λ F0 H0 F H σ δ Q I a
  refine h Λ F0 H0 F H σ δ _ I (a.bind.imp fun d F1 H1 e1 a1 v r=>?_)
  cases d with
  | int i=>simp only [Rep] at r; exact ⟨i,r,a1 F1 H1 (.refl e1.fh)⟩
  | _=>exact a1.elim
def cutD (xs:List D) (lo hi:Option Int):List D:=(xs.drop (HT.sIx xs.length 0 lo)).take (HT.sIx xs.length xs.length hi - HT.sIx xs.length 0 lo)
def mSl (me:En→R D) (ml mh:En→R (Option Int)) (δ:En):R D:=(me δ).bind fun d=>(ml δ).bind fun lo=>(mh δ).bind fun hi=>(R.of (asL d)).bind fun l=>.ok (.lst (cutD l lo hi))
theorem zkp {tl th:TO} {ml mh:En→R (Option Int)} (h:SEr K XO E te me) (hl:SO K XO E tl ml) (hh:SO K XO E th mh):SEo K XO E (tSl (rSlL K.f) te tl th) (mSl me ml mh):=by
  intro Λ F0 H0 F H σ δ Q I a
  refine h Λ F0 H0 F H σ δ _ I (a.bind.imp fun d F1 H1 e1 a1 v r=>?_)
  refine hl Λ F0 H0 F1 H1 σ δ _ (I.grow e1) (a1.bind.imp fun lo F2 H2 e2 a2=>?_)
  refine hh Λ F0 H0 F2 H2 σ δ _ ((I.grow e1).grow e2) (a2.bind.imp fun hi F3 H3 e3 a3=>?_)
  cases d with
  | lst l =>
    obtain ⟨p,vs,rfl,h1,h2⟩:=r
    refine ⟨p,vs,rfl,.inl (PM.Same.rd e3.hh (PM.Same.rd e2.hh h1)),fun q hq=>a3 F3 _ (.newO e3.fh hq) q (e3.fh.free hq) (e1.hh.free (e2.hh.free (e3.hh.free hq))) ⟨_,zaG,?_⟩⟩
    unfold cutD cutV
    rw [← h2.length]
    exact (((h2.mono e2.ff).mono e3.ff).drop _).take _
  | scr l =>
    simp only [Top,Rep] at r
    obtain ⟨p,rfl,h1⟩:=r
    refine ⟨p,_,rfl,e3.hh.seq (e2.hh.seq (e1.fh.seq h1)),fun q hq=>a3 F3 _ (.newO e3.fh hq) q (e3.fh.free hq) (e1.hh.free (e2.hh.free (e3.hh.free hq))) ⟨_,zaG,?_⟩⟩
    unfold cutD cutV
    rw [List.length_map,List.length_map]
    exact (RepL.ints.drop _).take _
  | _=>exact a3.elim
end
end PM
namespace PM
open PySem L2
def oCat (x y:D):Option D:=match x,y with | .lst l,.lst r=>ifC (l.length + r.length ≤ sizeLine) (some (.lst (l ++ r))) none | _,_=>none
def zb0:Nat→D→Bool
  | _,.non=>true
  | _,.int _=>true
  | n + 1,.tup l=>l.all (zb0 n)
  | n + 1,.lst l=>l.all (zb0 n)
  | _,_=>false
open Classical in
def oNeD (x y:D):Option D:=ifC (zb0 8 x=true∧zb0 8 y=true) (some (.bl (!decide (x=y)))) none
def isiB:String→D→Bool
  | "int",.int _=>true
  | "int",.bl _=>true
  | "bool",.bl _=>true
  | "list",.lst _=>true
  | "tuple",.tup _=>true
  | "str",.str _=>true
  | _,_=>false
def okI:D→Bool
  | .scr _=>false
  | .exc _=>false
  | .fd _ _=>false
  | .obj _ _ _=>false
  | _=>true
def oIsi (c:String) (d:D):Option D:=match d with | .scr _=>none | .exc _=>none | .fd _ _=>none | .obj _ _ _=>none | d=>some (.bl (isiB c d))
def asIs:List D→Option (List Int)
  | []=>some []
  | .int i :: l=>(asIs l).map (i :: ·)
  | _=>none
theorem zc0 (ns:List Int):asIs (ns.map .int)=some ns:=by
  induction ns with
  | nil=>rfl
  | cons a l ih=>simp [asIs,ih]
theorem zd5 {l:List D} {ns:List Int} (h:asIs l=some ns):l=ns.map .int:=by
  induction l generalizing ns with
  | nil=>cases h; rfl
  | cons d l ih =>
    cases d with
    | int i =>
      simp only [asIs] at h
      cases q:asIs l with
      | none=>rw [q] at h; cases h
      | some m=>rw [q] at h; cases h; rw [ih q]; rfl
    | _=>cases h
def fSum:List D→Option D
  | [.lst l]=>(asIs l).map fun ns=>.int ns.sum
  | _=>none
def maxI:List Int→Int→Int
  | [],m=>m
  | a :: l,m=>maxI l (if a > m then a else m)
theorem zei {β:Type} {f:D→R (Option D)} (enc:β→D) (g:β→Option D):∀ (l:List β),(∀ x ∈ l,f (enc x) = .ok (g x))→zc2 f (l.map enc) = .ok (l.filterMap g)
  | [],_=>rfl
  | x :: l,h=>by
    rw [List.map_cons]
    unfold zc2
    rw [h x List.mem_cons_self,R.bind_ok,zei enc g l fun y hy=>h y (List.mem_cons_of_mem _ hy)]
    cases q:g x with
    | none=>rw [List.filterMap_cons_none q]; rfl
    | some d=>rw [List.filterMap_cons_some q]; rfl
theorem zoS {n:Nat} (h:n ≤ 100000):n ≤ sizeLine:=Nat.le_trans h (by decide)
end PM
namespace PM
open PySem L2
theorem fitN {i:Int} (n:Nat) (h:i.natAbs ≤ n) (h2:n < 2 ^ 8000:=by decide +kernel):Fit i:=Nat.lt_of_le_of_lt h h2
@[simp] theorem zfD (i j:Int):oAdd (.int i) (.int j)=some (.int (i + j)):=rfl
@[simp] theorem zgf (i j:Int):oSub (.int i) (.int j)=some (.int (i - j)):=rfl
theorem zfL {i j:Int} (h:Fit i) (h':Fit j):oMul (.int i) (.int j)=some (.int (i * j)):=zba (p:=Fit i∧Fit j) ⟨h,h'⟩
theorem zol {i j:Int} (h:j ≠ 0) (h':Fit j):oDiv (.int i) (.int j)=some (.int (i.fdiv j)):=zba (p:=j ≠ 0∧Fit j) ⟨h,h'⟩
theorem zkm {i j:Int} (h:0 < j) (h':Fit j):oDiv (.int i) (.int j)=some (.int (i / j)):=by
  rw [zol (by omega) h',Int.fdiv_eq_ediv_of_nonneg _ (by omega)]
theorem zdm {i j:Int} (h:0 < j):oMod (.int i) (.int j)=some (.int (i % j)):=zba (p:=0 < j) h
theorem zk1 {i j:Int} (h:CPow i j):oPow (.int i) (.int j)=some (.int (i ^ j.toNat)):=zba (p:=CPow i j) h
@[simp] theorem zoZ (i j:Int):oLt (.int i) (.int j)=some (.bl (decide (i < j))):=rfl
@[simp] theorem zph (i j:Int):oGt (.int i) (.int j)=some (.bl (decide (j < i))):=rfl
@[simp] theorem zoY (i j:Int):oGe (.int i) (.int j)=some (.bl (decide (j ≤ i))):=rfl
@[simp] theorem zjb (i:Int):oNeg (.int i)=some (.int (-i)):=rfl
@[simp] theorem zpj (i j:Int):oEq (.int i) (.int j)=some (.bl (decide (i=j))):=by simp [oEq,fl,scal]
@[simp] theorem zpk (i j:Int):oNe (.int i) (.int j)=some (.bl (!decide (i=j))):=by simp [oNe,fl,scal]
@[simp] theorem zpf (b:Bool):asB (.bl b)=some b:=rfl
@[simp] theorem zpg (l:List D):asL (.lst l)=some l:=rfl
@[simp] theorem zpl (i:Int):asI (.int i)=some i:=rfl
@[simp] theorem zpe (l:List D):fLen [.lst l]=some (.int l.length):=rfl
@[simp] theorem zpc (l:List D):fLen [.tup l]=some (.int l.length):=rfl
@[simp] theorem zpa (l:List D):zb2 [.lst l]=some (.lst l):=rfl
@[simp] theorem zo5 (a b:D):oIxT (.tup [a,b]) (.int 0)=some a:=rfl
@[simp] theorem zoV (a b:D):oIxT (.tup [a,b]) (.int 1)=some b:=rfl
theorem atI_nat {α:Type} {l:List α} {k:Nat} {d:α} (h:l[k]?=some d):atI l (k:Int)=some d:=by
  have hk:=(List.getElem?_eq_some_iff.mp h).1
  unfold atI ixN
  rw [if_pos (by omega),if_pos (by omega)]
  exact h
theorem znX {l:List D} {k:Nat} {d:D} (h:l[k]?=some d):oIxL (.lst l) (.int (k:Int))=some d:=atI_nat h
theorem zmG {l:List D} {i:Int} {d:D} (h0:0 ≤ i) (h:l[i.toNat]?=some d):oIxL (.lst l) (.int i)=some d:=by
  have e:i=((i.toNat:Nat):Int):=by omega
  rw [e]
  exact znX h
theorem rng1 {n:Int} (h0:0 ≤ n) (h:n ≤ 100000):rng [.int n]=some (zeT 0 n.toNat):=by
  show ifC _ _ _=_
  rw [zba (by omega)]
theorem rng2 {a b:Int} (h0 : -100000 ≤ a∧a ≤ 100000) (h : -100000 ≤ b∧b ≤ 100000):rng [.int a,.int b]=some (zeT a (b - a).toNat):=by
  show ifC _ _ _=_
  rw [zba (by omega)]
theorem znv (n:Nat):zeT 0 n=(List.range n).map fun (k:Nat)=>D.int (k:Int):=by
  unfold zeT
  exact List.map_congr_left fun k _=>by simp
theorem zmw (l:List D):zhS l=(l.zipIdx).map fun p=>D.tup [.int (p.2:Int),p.1]:=by
  unfold zhS
  rw [List.mapIdx_eq_zipIdx_map]
@[simp] theorem zpi (a b:α):([a,b].length ≤ sizeLine)=True:=by simp [sizeLine]
end PM
namespace PM
open PySem L2
def sv:Option D→Sl
  | none=>.no
  | some d=>.v d
theorem za2 {i:Nat} {d:D} {δ:En} {o:Option D} (h:δ[i]?=some (sv o)):zax i d δ=some (δ.set i (.v d)):=by
  unfold zax
  rw [h]
  cases o <;> rfl
@[simp] theorem zo8:sv none = .no:=rfl
@[simp] theorem zoX (d:D):sv (some d) = .v d:=rfl
def iL (l:List Int):D:=.lst (l.map .int)
theorem zdy {α:Type} {f:D→R (Option D)} (enc:α→D) (p:α→Bool) (l:List α) (h:∀ x ∈ l,f (enc x) = .ok (if p x=true then some (enc x) else none)):zc2 f (l.map enc) = .ok ((l.filter p).map enc):=by
  rw [zei enc (fun x=>if p x=true then some (enc x) else none) l h]
  congr 1
  induction l with
  | nil=>rfl
  | cons a l ih =>
    have ih':=ih fun x hx=>h x (List.mem_cons_of_mem _ hx)
    by_cases hp:p a=true
    · rw [List.filterMap_cons_some (b:=enc a) (by simp [hp]),ih',List.filter_cons_of_pos hp,List.map_cons]
    · rw [List.filterMap_cons_none (by simp [hp]),ih',List.filter_cons_of_neg hp]
theorem zcg {α:Type} {f:D→R (Option D)} (enc:α→D) (g:α→D) (l:List α) (h:∀ x ∈ l,f (enc x) = .ok (some (g x))):zc2 f (l.map enc) = .ok (l.map g):=by
  rw [zei enc (fun x=>some (g x)) l h,List.filterMap_eq_map']
end PM
namespace PM
open PySem L2
theorem zb5 {mi:En→R (List D)} {ix:List Nat} {n:Nat} {b:D→En→Option En} {nc:Option (En→R Bool)} {me:En→R D} {δ:En} {l r:List D} (h1:mi δ = .ok l) (hl:l.length ≤ 100000)
    (h2:zc2 (zda b nc me (zaQ δ ix n)) l = .ok r):zd7 mi ix n b nc me δ = .ok (.lst r):=by
  unfold zd7
  rw [h1,R.bind_ok,zba (zoS hl),h2]
  rfl
theorem zeM {mi:En→R (List D)} {b:D→En→Option En} {m:En→O} {δ:En} {l:List D} (h:mi δ = .ok l):mFor mi b m δ=zdd b m l δ:=by
  unfold mFor
  rw [h]
  rfl
theorem zbo {np nv:Nat} {m:En→O} {ds:List D} {d:D} (h:m (zc1 nv ds) = .rt d) (hl:ds.length=np:=by rfl):runF np nv m ds = .ok d:=by
  unfold runF
  rw [if_pos hl,h]
theorem znJ {np nv:Nat} {m:En→O} {ds:List D} {δ:En} (h:m (zc1 nv ds) = .nx δ) (hl:ds.length=np:=by rfl):runF np nv m ds = .ok .non:=by
  unfold runF
  rw [if_pos hl,h]
theorem zeJ {np nv:Nat} {m:En→O} {ds:List D} {d:D} (h:m (zc1 nv ds) = .ro d) (hl:ds.length=np:=by rfl):runO np nv m ds = .ok d:=by
  unfold runO
  rw [if_pos hl,h]
theorem zap {m n:En→O} {δ δ':En} (h:m δ = .nx δ'):mSeq m n δ=n δ':=by unfold mSeq; rw [h]
theorem za3 {me:En→R D} {b:D→En→Option En} {δ δ':En} {d:D} (h:me δ = .ok d) (h2:b d δ=some δ'):mAsg me b δ = .nx δ':=by unfold mAsg; rw [h,R.toO_ok,h2]; rfl
theorem ze6 {n:En→R Bool} {m m':En→O} {δ:En} (h:n δ = .ok true):mIfS n m m' δ=m δ:=by unfold mIfS; rw [h]; rfl
theorem zbM {n:En→R Bool} {m m':En→O} {δ:En} (h:n δ = .ok false):mIfS n m m' δ=m' δ:=by unfold mIfS; rw [h]; rfl
theorem zb7 {β:Type} {b:D→En→Option En} {m:En→O} (enc:β→D) (P:List β→En→Prop) (all:List β)
    (step:∀ pre x post δ,all=pre ++ x :: post→P pre δ→∃ δ1 δ2,b (enc x) δ=some δ1∧(m δ1 = .nx δ2∨m δ1 = .ct δ2)∧P (pre ++ [x]) δ2) (δ:En) (h:P [] δ):∃ δ2,zdd b m (all.map enc) δ = .nx δ2∧P all δ2:=by
  have key:∀ (post pre:List β) (δ:En),all=pre ++ post→P pre δ→∃ δ2,zdd b m (post.map enc) δ = .nx δ2∧P all δ2:=by
    intro post
    induction post with
    | nil=>intro pre δ e h; exact ⟨δ,rfl,by rw [e,List.append_nil]; exact h⟩
    | cons x post ih =>
      intro pre δ e h
      obtain ⟨δ1,δ2,h1,h2,h3⟩:=step pre x post δ e h
      obtain ⟨δ3,h4,h5⟩:=ih (pre ++ [x]) δ2 (by rw [e]; simp) h3
      refine ⟨δ3,?_,h5⟩
      rw [List.map_cons]
      unfold zdd
      rw [h1]
      rcases h2 with h2 | h2 <;> (simp only [h2]; exact h4)
  exact key all [] δ rfl h
end PM
namespace PM
open PySem L2
@[simp] theorem ziP (l:List Int):fLen [iL l]=some (.int l.length):=by simp [iL]
@[simp] theorem zpd (l:List Int):asL (iL l)=some (l.map .int):=rfl
end PM
namespace PM
open PySem L2
theorem zlZ {l:List D} {k:Nat} (h:k ≤ l.length):cutD l (some (k:Int)) none=l.drop k:=by
  unfold cutD
  have e:HT.sIx l.length 0 (some (k:Int))=k:=by
    show (if (k:Int) < 0 then ((k:Int) + (l.length:Int)).toNat else min (k:Int).toNat l.length)=k
    rw [if_neg (by omega)]; omega
  rw [e]
  show (l.drop k).take (l.length - k)=_
  rw [List.take_of_length_le (by simp)]
theorem zna {x y:D} (hx:zb0 8 x=true) (hy:zb0 8 y=true) (h:x=y):oNeD x y=some (.bl false):=by
  unfold oNeD
  rw [zba ⟨hx,hy⟩]
  simp [h]
end PM
namespace PM
open PySem L2 PyProof.Rows
section
variable {K:Kx} {ca:Nat→Addr} {an:Nat→Str} {XO:XOT} {E:L2.St→XK} {ta tb te:TE} {ma mb me:En→R D} {X:Cx}
def zoF:R2:=fun x y H Q=>∃ l b xs zs,x = .ref l∧y = .ref b∧Rd H l (.lst xs)∧Rd H b (.lst zs)∧xs.length + zs.length ≤ sizeLine∧∀ p,H p=none→Q (.ref p) (upd H p (.lst (xs ++ zs)))
theorem zfq:OpR X (binaryOp .Add) zoF:=by
  intro pins s σ H x y v u Q I rx ry h
  obtain ⟨l,b,xs,zs,rfl,rfl,hH,hB,hz,q⟩:=h
  cases rx
  cases ry
  obtain ⟨z,its,n,r,e⟩:=hH.ok I.hok
  obtain ⟨z2,its2,n2,r2,e2⟩:=hB.ok I.hok
  have hl:=r.length
  have hl2:=r2.length
  refine PySem.P.add_list e e2 ?_ (by rw [List.size_toArray,List.size_toArray]; omega)
  have ea:its.toArray ++ its2.toArray=(its ++ its2).toArray:=by simp
  rw [ea]
  exact ⟨.ref _,_,I.lnew (t':=s.toks) (r.append r2) (by rw [List.length_append]; omega),rfl,q _ I.fresh⟩
theorem zgC:SRo K zoF oCat:=by
  intro F H x y dx dy d Q s hx hy e q
  cases dx with
  | lst l =>
    cases dy with
    | lst r =>
      simp only [oCat] at e
      unfold ifC at e
      split at e
      · rename_i hc
        cases e
        obtain ⟨a,vs,rfl,h1,h2⟩:=hx
        obtain ⟨b,ws,rfl,g1,g2⟩:=hy
        exact ⟨a,b,vs,ws,rfl,rfl,h1,g1,by rw [h2.length,g2.length]; exact hc,fun p hp=>q p F _ (.newO s hp) (s.free hp) hp ⟨_,zaG,h2.append g2⟩⟩
      · cases e
    | _=>cases e
  | _=>cases e
theorem zdq {F:Hp}:∀ {ns:List Int} {xs:List V},RepL K F (ns.map .int) xs→xs=ns.map V.int
  | [],xs,h=>by simpa only [List.map_nil,RepL] using h
  | n :: ns,xs,h=>by
    simp only [List.map_cons,RepL,Rep] at h
    obtain ⟨v,r,rfl,rfl,h3⟩:=h
    rw [zdq h3]; rfl
def rSum:List V→Hp→VK→Prop:=fun xs H Q=>∃ (p:Addr) (ns:List Int),xs = [.ref p]∧Rd H p (.lst (ns.map V.int))∧Q (.int ns.sum) H
theorem zlb {ds:List D} {d:D} (h:fSum ds=some d):∃ ns:List Int,ds = [.lst (ns.map .int)]∧d = .int ns.sum:=by
  unfold fSum at h
  split at h
  · rename_i l
    cases z:asIs l with
    | none=>rw [z] at h; cases h
    | some ns=>rw [z] at h; cases h; exact ⟨ns,by rw [zd5 z],rfl⟩
  · cases h
theorem zmK:SC K rSum fSum:=by
  intro F H vs ds d Q s r e q
  obtain ⟨ns,rfl,rfl⟩:=zlb e
  cases r with
  | cons r r' =>
    cases r'
    obtain ⟨a,xs,rfl,h1,h2⟩:=r
    have ex:=zdq h2
    subst ex
    exact ⟨a,ns,rfl,h1,q _ F H (.refl s) (by simp only [Rep])⟩
theorem zfd (hc:X.calm=true):zgb X (.builtin "sum") rSum:=by
  intro pins s σ H xs us Q I r h
  obtain ⟨p,ns,rfl,hq,q⟩:=h
  obtain ⟨u,rfl,rx⟩:=zhX r
  cases rx
  obtain ⟨z,its,n,rv,e⟩:=hq.ok I.hok
  obtain ⟨ts,rfl,htl⟩:∃ ts:List Tok,its=(ns.zip ts).map (fun p=>Value.int p.1 p.2)∧ts.length=ns.length:=by
    clear e hq q z
    induction ns generalizing its with
    | nil=>cases rv; exact ⟨[],rfl,rfl⟩
    | cons a l ih =>
      cases rv with
      | cons h t =>
        obtain ⟨tk,rfl⟩:=h
        obtain ⟨ts,rfl,hl⟩:=ih _ t
        exact ⟨tk :: ts,rfl,by simp [hl]⟩
  have ei:((ns.zip ts).map (fun p=>Value.int p.1 p.2)).toArray=intItems (ns.zip ts).toArray:=by simp [intItems]
  rw [ei] at e
  refine sum_intListG (I.ok.hd hc) ⟨_,e,rfl,n,rfl⟩ fun h' tk t' hk=>?_
  have es:preSum (numAt (ns.zip ts).toArray) (ns.zip ts).toArray.size=ns.sum:=by
    rw [preSum_eq,List.take_of_length_le (by simp)]
    have:(ns.zip ts).map (·.1)=ns:=List.map_fst_zip (by omega)
    show ((ns.zip ts).map (·.1)).sum=_
    rw [this]
  rw [es]
  exact ⟨.int ns.sum,H,I.kept (t':=tk) hk,⟨_,rfl⟩,q⟩
theorem znR {K:W.Frag} {S T:String} (h2:PySem.W.kitMeta T=true) (h3:(PySem.fastBuiltinMro S).map (·.contains (.type T))=some true):PySem.W.kitOne K (.type S) (.type T)=some true:=by
  unfold PySem.W.kitOne
  split
  · rfl
  · show (if PySem.W.kitMeta T=true then PySem.W.subIn K (.type S) (.type T) else none)=some true
    rw [if_pos h2]
    exact h3
def zia:D→String
  | .non=>"NoneType"
  | .bl _=>"bool"
  | .int _=>"int"
  | .str _=>"str"
  | .tup _=>"tuple"
  | .lst _=>"list"
  | .dct _ _=>"dict"
  | .scr _=>"list"
  | .exc _=>"object"
  | .fd _ _=>"object"
  | .obj _ _ _=>"object"
theorem zfM {K:W.Frag}:PySem.W.kitOne K (.type "NoneType") (.type "int")=some false:=L2.kit_no (by decide +kernel) (by decide +kernel) (by decide +kernel)
theorem kit_int_bool {K:W.Frag}:PySem.W.kitOne K (.type "bool") (.type "int")=some true:=znR (by decide +kernel) (by decide +kernel)
theorem ziw {K:W.Frag}:PySem.W.kitOne K (.type "int") (.type "int")=some true:=L2.kit_self
theorem ziA {K:W.Frag}:PySem.W.kitOne K (.type "str") (.type "int")=some false:=L2.kit_no (by decide +kernel) (by decide +kernel) (by decide +kernel)
theorem zhv {K:W.Frag}:PySem.W.kitOne K (.type "tuple") (.type "int")=some false:=L2.kit_no (by decide +kernel) (by decide +kernel) (by decide +kernel)
theorem zh3 {K:W.Frag}:PySem.W.kitOne K (.type "list") (.type "int")=some false:=L2.kit_no (by decide +kernel) (by decide +kernel) (by decide +kernel)
theorem zhF {K:W.Frag}:PySem.W.kitOne K (.type "dict") (.type "int")=some false:=L2.kit_no (by decide +kernel) (by decide +kernel) (by decide +kernel)
theorem zfk {K:W.Frag}:PySem.W.kitOne K (.type "NoneType") (.type "bool")=some false:=L2.kit_no (by decide +kernel) (by decide +kernel) (by decide +kernel)
theorem zha {K:W.Frag}:PySem.W.kitOne K (.type "bool") (.type "bool")=some true:=L2.kit_self
theorem zhV {K:W.Frag}:PySem.W.kitOne K (.type "int") (.type "bool")=some false:=L2.kit_no (by decide +kernel) (by decide +kernel) (by decide +kernel)
theorem zhE {K:W.Frag}:PySem.W.kitOne K (.type "str") (.type "bool")=some false:=L2.kit_no (by decide +kernel) (by decide +kernel) (by decide +kernel)
theorem zgv {K:W.Frag}:PySem.W.kitOne K (.type "tuple") (.type "bool")=some false:=L2.kit_no (by decide +kernel) (by decide +kernel) (by decide +kernel)
theorem zgQ {K:W.Frag}:PySem.W.kitOne K (.type "list") (.type "bool")=some false:=L2.kit_no (by decide +kernel) (by decide +kernel) (by decide +kernel)
theorem zg1 {K:W.Frag}:PySem.W.kitOne K (.type "dict") (.type "bool")=some false:=L2.kit_no (by decide +kernel) (by decide +kernel) (by decide +kernel)
theorem zfv {K:W.Frag}:PySem.W.kitOne K (.type "NoneType") (.type "list")=some false:=L2.kit_no (by decide +kernel) (by decide +kernel) (by decide +kernel)
theorem zhw {K:W.Frag}:PySem.W.kitOne K (.type "bool") (.type "list")=some false:=L2.kit_no (by decide +kernel) (by decide +kernel) (by decide +kernel)
theorem zh9 {K:W.Frag}:PySem.W.kitOne K (.type "int") (.type "list")=some false:=L2.kit_no (by decide +kernel) (by decide +kernel) (by decide +kernel)
theorem zhN {K:W.Frag}:PySem.W.kitOne K (.type "str") (.type "list")=some false:=L2.kit_no (by decide +kernel) (by decide +kernel) (by decide +kernel)
theorem zgh {K:W.Frag}:PySem.W.kitOne K (.type "tuple") (.type "list")=some false:=L2.kit_no (by decide +kernel) (by decide +kernel) (by decide +kernel)
theorem zhj {K:W.Frag}:PySem.W.kitOne K (.type "list") (.type "list")=some true:=L2.kit_self
theorem zhn {K:W.Frag}:PySem.W.kitOne K (.type "dict") (.type "list")=some false:=L2.kit_no (by decide +kernel) (by decide +kernel) (by decide +kernel)
theorem zmk {K:W.Frag} (d:D) (h:okI d=true):PySem.W.kitOne K (.type (zia d)) (.type "int")=some (isiB "int" d):=by
  cases d with
  | non=>exact zfM
  | bl b=>exact kit_int_bool
  | int b=>exact ziw
  | str b=>exact ziA
  | tup b=>exact zhv
  | lst b=>exact zh3
  | dct b b'=>exact zhF
  | scr b=>cases h
  | exc b=>cases h
  | fd b b'=>cases h
  | obj b b' b''=>cases h
theorem zku {K:W.Frag} (d:D) (h:okI d=true):PySem.W.kitOne K (.type (zia d)) (.type "bool")=some (isiB "bool" d):=by
  cases d with
  | non=>exact zfk
  | bl b=>exact zha
  | int b=>exact zhV
  | str b=>exact zhE
  | tup b=>exact zgv
  | lst b=>exact zgQ
  | dct b b'=>exact zg1
  | scr b=>cases h
  | exc b=>cases h
  | fd b b'=>cases h
  | obj b b' b''=>cases h
theorem zkW {K:W.Frag} (d:D) (h:okI d=true):PySem.W.kitOne K (.type (zia d)) (.type "list")=some (isiB "list" d):=by
  cases d with
  | non=>exact zfv
  | bl b=>exact zhw
  | int b=>exact zh9
  | str b=>exact zhN
  | tup b=>exact zgh
  | lst b=>exact zhj
  | dct b b'=>exact zhn
  | scr b=>cases h
  | exc b=>cases h
  | fd b b'=>cases h
  | obj b b' b''=>cases h
theorem zlF {c:String} (hk:∀ d,okI d=true→PySem.W.kitOne K.f (.type (zia d)) (.type c)=some (isiB c d)) (ha:SEr K XO E ta ma):SE K XO E (tCB (rIs K.f) (zc4 ta (zc4 (tC (.ty c)) tNil))) (m1 (oIsi c) ma):=by
  intro Λ F0 H0 F H σ δ Q I a
  refine ha Λ F0 H0 F H σ δ _ I (a.bind.imp fun d F1 H1 e1 a1 x rx=>?_)
  by_cases hs':okI d=true
  case neg =>
    cases d with
    | scr _=>exact a1.elim
    | exc _=>exact a1.elim
    | fd _ _=>exact a1.elim
    | obj _ _ _=>exact a1.elim
    | _=>exact absurd rfl hs'
  have a2:Aft E XO σ F1 H1 (fun d F' H'=>∀ v,Rep K F' d v→Q v H') (.ok (.bl (isiB c d))):=by
    cases d with
    | scr l=>cases hs'
    | exc l=>cases hs'
    | fd _ _=>cases hs'
    | obj _ _ _=>cases hs'
    | _=>exact a1
  have fin:=a2 F1 H1 (.refl e1.fh) (.bl (isiB c d)) (by simp only [Rep])
  suffices h:TyOf K.f H1 x (.type (zia d)) from ⟨x,.ty c,.type c,_,_,rfl,rfl,h,hk d hs',fin⟩
  cases d with
  | non=>simp only [Top,Rep] at rx; subst rx; exact .non
  | bl b=>simp only [Top,Rep] at rx; subst rx; exact .bl _
  | int b=>simp only [Top,Rep] at rx; subst rx; exact .int _
  | str b=>simp only [Top,Rep] at rx; subst rx; exact .str _
  | tup l =>
    simp only [Top,Rep] at rx
    obtain ⟨p,vs,rfl,h1,h2⟩:=rx
    exact .tup (e1.fh _ _ h1)
  | lst l =>
    obtain ⟨p,vs,rfl,h1,h2⟩:=rx
    rcases h1 with h | ⟨o,h⟩
    · exact .lst h
    · exact .frz h
  | dct ks l=>obtain ⟨p,kvs,rfl,h1,h2⟩:=rx; exact .dK h1
  | scr l=>cases hs'
  | exc l=>cases hs'
  | fd _ _=>cases hs'
  | obj _ _ _=>cases hs'
def toPy:Nat→D→PyData
  | _,.non=>.none
  | _,.int i=>.int i
  | n + 1,.tup l=>.tuple (l.map (toPy n))
  | n + 1,.lst l=>.list (l.map (toPy n))
  | _,_=>.none
theorem zjr:∀ (n:Nat) (d:D),zb0 n d=true→(toPy n d).canLay0=true∧(toPy n d).depth ≤ n:=by
  intro n
  induction n with
  | zero =>
    intro d h
    cases d with
    | non=>exact ⟨rfl,Nat.le_refl _⟩
    | int i=>exact ⟨rfl,Nat.le_refl _⟩
    | _=>cases h
  | succ n ih =>
    have all:∀ l:List D,l.all (zb0 n)=true→PyData.canLayAll0 (l.map (toPy n))=true∧PyData.depthAll (l.map (toPy n)) ≤ n:=by
      intro l
      induction l with
      | nil=>intro _; exact ⟨rfl,Nat.zero_le _⟩
      | cons a l ih2 =>
        intro h
        rw [List.all_cons,Bool.and_eq_true] at h
        obtain ⟨h1,h2⟩:=ih a h.1
        obtain ⟨h3,h4⟩:=ih2 h.2
        refine ⟨?_,?_⟩
        · simp only [List.map_cons,PyData.canLayAll0,h1,h3,Bool.and_self]
        · simp only [List.map_cons,PyData.depthAll]; omega
    intro d h
    cases d with
    | non=>exact ⟨rfl,Nat.zero_le _⟩
    | int i=>exact ⟨rfl,Nat.zero_le _⟩
    | tup l=>obtain ⟨h1,h2⟩:=all l h; exact ⟨by simpa only [toPy,PyData.canLay0] using h1,by simp only [toPy,PyData.depth]; omega⟩
    | lst l=>obtain ⟨h1,h2⟩:=all l h; exact ⟨by simpa only [toPy,PyData.canLay0] using h1,by simp only [toPy,PyData.depth]; omega⟩
    | _=>cases h
open Classical in
theorem znl:∀ (n:Nat) (d d':D),zb0 n d=true→zb0 n d'=true→PyData.eqv (toPy n d) (toPy n d')=decide (d=d'):=by
  intro n
  induction n with
  | zero =>
    intro d d' h h'
    cases d with
    | non=>cases d' <;> first | (simp [toPy,PyData.eqv]; done) | cases h'
    | int i =>
      cases d' with
      | int j=>simp only [toPy,PyData.eqv]; by_cases e:i=j <;> simp [e]
      | _=>first | (simp [toPy,PyData.eqv]; done) | cases h'
    | _=>cases h
  | succ n ih =>
    have all:∀ l l':List D,l.all (zb0 n)=true→l'.all (zb0 n)=true→PyData.eqvAll (l.map (toPy n)) (l'.map (toPy n))=decide (l=l'):=by
      intro l
      induction l with
      | nil=>intro l' _ _; cases l' <;> simp [PyData.eqvAll]
      | cons a l ih2 =>
        intro l' h h'
        cases l' with
        | nil=>simp [PyData.eqvAll]
        | cons b l' =>
          rw [List.all_cons,Bool.and_eq_true] at h h'
          simp only [List.map_cons,PyData.eqvAll,ih a b h.1 h'.1,ih2 l' h.2 h'.2]
          by_cases e1:a=b <;> by_cases e2:l=l' <;> simp [e1,e2]
    intro d d' h h'
    cases d with
    | non=>cases d' <;> first | (simp [toPy,PyData.eqv]; done) | cases h'
    | int i =>
      cases d' with
      | int j=>simp only [toPy,PyData.eqv]; by_cases e:i=j <;> simp [e]
      | _=>first | (simp [toPy,PyData.eqv]; done) | cases h'
    | tup l =>
      cases d' with
      | tup l'=>simp only [toPy,PyData.eqv,all l l' h h']; simp
      | _=>first | (simp [toPy,PyData.eqv]; done) | cases h'
    | lst l =>
      cases d' with
      | lst l'=>simp only [toPy,PyData.eqv,all l l' h h']; simp
      | _=>first | (simp [toPy,PyData.eqv]; done) | cases h'
    | _=>cases h
theorem zmd {pins:List (Addr × Obj)} {σ:L2.St} {H F:Hp} {s:Shared} (I:Inv X pins σ H s) (sm:Same F H):∀ (n:Nat) (d:D) (v:V) (u:Value),zb0 n d=true→Rep ⟨X.K,ca,an⟩ F d v→RelV v u→∃ as,Reads s.heap u (toPy n d) as:=by
  intro n
  induction n with
  | zero =>
    intro d v u h r ru
    cases d with
    | non=>simp only [Rep] at r; subst r; cases ru; exact ⟨_,.none⟩
    | int i=>simp only [Rep] at r; subst r; obtain ⟨t,rfl⟩:=ru; exact ⟨_,.int i t⟩
    | _=>cases h
  | succ n ih =>
    have all:∀ (l:List D) (vs:List V) (us:List Value),l.all (zb0 n)=true→RepL ⟨X.K,ca,an⟩ F l vs→Vals vs us→∃ as,ReadsAll s.heap us (l.map (toPy n)) as:=by
      intro l
      induction l with
      | nil=>intro vs us _ r ru; simp only [RepL] at r; subst r; cases ru; exact ⟨_,.nil⟩
      | cons a l ih2 =>
        intro vs us h r ru
        rw [List.all_cons,Bool.and_eq_true] at h
        simp only [RepL] at r
        obtain ⟨v,r',rfl,r1,r2⟩:=r
        cases ru with
        | cons ru ru' =>
          obtain ⟨as,h1⟩:=ih a v _ h.1 r1 ru
          obtain ⟨bs,h2⟩:=ih2 r' _ h.2 r2 ru'
          exact ⟨_,.cons h1 h2⟩
    intro d v u h r ru
    cases d with
    | non=>simp only [Rep] at r; subst r; cases ru; exact ⟨_,.none⟩
    | int i=>simp only [Rep] at r; subst r; obtain ⟨t,rfl⟩:=ru; exact ⟨_,.int i t⟩
    | tup l =>
      simp only [Rep] at r
      obtain ⟨a,vs,rfl,h1,h2⟩:=r
      cases ru
      obtain ⟨its,rv,⟨o,e,c,k,dd⟩,_⟩:=I.tuple (show SqT X.K H a vs from .inl (.inl (sm _ _ h1)))
      obtain ⟨as,h3⟩:=all l vs its h h2 rv
      exact ⟨_,.tuple e c dd (by simpa using h3)⟩
    | lst l =>
      simp only [Rep] at r
      obtain ⟨a,vs,rfl,h1,h2⟩:=r
      cases ru
      obtain ⟨its,rv,⟨o,k,e,c,_,dd⟩,_⟩:=I.list (show SqL X.K H a vs from .inl (PM.Same.rd sm h1))
      obtain ⟨as,h3⟩:=all l vs its h h2 rv
      exact ⟨_,.list e c dd (by simpa using h3)⟩
    | _=>cases h
theorem zil {pins:List (Addr × Obj)} {σ:L2.St} {H F:Hp} {s:Shared} (I:Inv X pins σ H s) (sm:Same F H) {n:Nat} {d:D} {v:V} {u:Value} (h:zb0 n d=true) (r:Top ⟨X.K,ca,an⟩ F H d v) (ru:RelV v u):∃ as,Reads s.heap u (toPy n d) as:=by
  have r':Rep ⟨X.K,ca,an⟩ (zbL F H) d v:=by
    cases d with
    | lst l =>
      obtain ⟨a,vs,rfl,h1,h2⟩:=r
      rcases h1 with h1 | ⟨o,h1⟩
      · exact zhq sm (.inr (.inl ⟨a,rfl,vs,h1,h2⟩))
      · simp only [Rep]
        refine ⟨a,vs,rfl,.inr ⟨o,?_⟩,h2.mono zc8⟩
        unfold zbL
        cases q:F a with
        | some u=>rw [sm _ _ q] at h1; exact h1
        | none=>simp only [h1]
    | dct ks l=>cases n <;> cases h
    | obj c ks l=>cases n <;> cases h
    | _=>exact Rep.mono zc8 _ r
  exact zmd I (zhb sm) n d v u h r' ru
open Classical in
def rEqD (K:Kx) (neg:Bool):R2:=fun x y H Q=>∃ (F:Hp) (dx dy:D),Same F H∧Top K F H dx x∧Top K F H dy y∧zb0 8 dx=true∧zb0 8 dy=true∧Q (.bl (if neg=true then !decide (dx=dy) else decide (dx=dy))) H
theorem zn1 (hu:X.A.units + 64 < cLine):OpR X (compareOp .NotEq) (rEqD ⟨X.K,ca,an⟩ true):=by
  intro pins s σ H x y v u Q I rx ry h
  obtain ⟨F,dx,dy,sm,tx,ty,px,py,q⟩:=h
  obtain ⟨as,ra⟩:=zil I sm px tx rx
  obtain ⟨bs,rb⟩:=zil I sm py ty ry
  obtain ⟨l1,l2⟩:=zjr 8 dx px
  obtain ⟨m1,m2⟩:=zjr 8 dy py
  refine SeqAt.compareNe_reads ra rb l1 m1 (by omega) ?_
  rw [znl 8 dx dy px py]
  exact ⟨.bl _,H,I,rfl,q⟩
theorem zom:SR K (rEqD K true) oNeD:=by
  intro F H x y dx dy d Q s hx hy e q
  unfold oNeD ifC at e
  split at e
  · rename_i h
    cases e
    exact ⟨F,dx,dy,s,hx,hy,h.1,h.2,q _ F H (.refl s) (by simp only [Rep]; rfl)⟩
  · cases e
end
end PM
namespace L2
open PySem PySem.Spec PyProof.Rows
def zi3 (scope osc:Scope):Scope:={ scope with names:=scope.names.map fun (n,k)=>if (k == .free && osc.kind == .function && osc.names.lookup n == some .cell) then (n,.cell) else (n,k) }
section
variable {X:Cx}
end
end L2
namespace PM
open PySem L2
section
variable {K:Kx} {XO:XOT} {E:L2.St→XK}
end
end PM
namespace PM
open PySem L2
def xoK (K:Kx):XOT:=fun x F _ C dct=>C = .ref (K.ca x.c)∧XA K F x.c dct
def zgL (c:Nat) (ml:En→R (List D)) (δ:En):O:=(ml δ).toO δ fun l=>ifC (l.length ≤ sizeLine) (.ex δ ⟨c⟩) .no
section
variable {K:Kx} {E:L2.St→XK} {ta:TE} {ma:En→R D} {t u:TS} {m n:En→O} {Λ:List (Nat × Addr × HO)} {F0 H0 F H:Hp} {σ:L2.St} {δ:En}
theorem zg4 {C:Addr} {c:Nat} {tl:TA} {ml:En→R (List D)} (hC:C=K.ca c) (hax:c < 16) (h:SA K (xoK K) E tl ml):SS K (xoK K) E (zmV C E tl) (zgL c ml):=by
  intro Λ F0 H0 F H σ δ Dn I a
  refine h Λ F0 H0 F H σ δ _ I ((AftS.of I a).imp fun l F1 H1 e p vs r=>?_)
  unfold ifC at p
  split at p
  · rename_i hl
    exact ⟨by rw [r.length]; exact hl,p σ F1 H1 _ _ (I.grow e) ⟨by rw [hC],by unfold XA; rw [if_pos hax]⟩⟩
  · exact p.elim
theorem EnvOk.unset {i:Nat} (I:EnvOk K Λ F0 H0 F H σ δ) (hl:∃ x,δ[i]?=some x∧∀ d,x ≠ .l d):EnvOk K Λ F0 H0 F H (σ.set i none) (δ.set i .no):=by
  obtain ⟨x,hx,hn⟩:=hl
  have hi:i < δ.length:=(List.getElem?_eq_some_iff.mp hx).1
  refine ⟨I.ext,by simp [I.len],fun j=>?_,fun j k a hjk h1 h2 h3 h4=>?_,fun y hy=>?_,I.tabsOf (fun k ll h=>by
      by_cases e:i=k
      · subst e; rw [List.getElem?_set_self hi] at h; cases h
      · rw [List.getElem?_set_ne e] at h; exact ⟨h,List.getElem?_set_ne e⟩) (fun _ _ _ _ _ _ t f _=>⟨t,fun b hb=>(f b hb).2⟩) fun k j ll a b bs _ _ _ _ ho hs=>.inl (by
      by_cases e:i=j
      · subst e; rw [List.getElem?_set_self hi] at ho; cases ho
      · rw [List.getElem?_set_ne e] at ho hs; exact ⟨ho,hs⟩)⟩
  · by_cases e:i=j
    · subst e
      rw [List.getElem?_set_self hi]
      trivial
    · rw [List.getElem?_set_ne e,List.getElem?_set_ne e]
      exact I.slot j
  · have ne:∀ k:Nat,Sl.own (δ.set i .no)[k]?=true→i ≠ k:=by
      rintro k h rfl
      rw [List.getElem?_set_self hi] at h
      cases h
    have n1:=ne j h1
    have n2:=ne k h2
    rw [List.getElem?_set_ne n1] at h1 h3
    rw [List.getElem?_set_ne n2] at h2 h4
    exact I.dist j k a hjk h1 h2 h3 h4
  · obtain ⟨⟨d',h1⟩,h2,h3⟩:=I.lent y hy
    have n:i ≠ y.1:=by
      intro e
      rw [← e,hx] at h1
      exact hn d' (Option.some.inj h1)
    exact ⟨⟨d',by rw [List.getElem?_set_ne n]; exact h1⟩,by rw [List.getElem?_set_ne n]; exact h2,h3⟩
def zfI (i:Nat) (δ:En):Option En:=match δ[i]? with | none=>none | some (.l _)=>none | some _=>some (δ.set i .no)
theorem zf5 {i:Nat} {δ':En} (h:zfI i δ=some δ') (I:EnvOk K Λ F0 H0 F H σ δ):EnvOk K Λ F0 H0 F H (σ.set i none) δ':=by
  unfold zfI at h
  split at h
  · cases h
  · cases h
  · rename_i x h2 h1
    cases h
    exact I.unset ⟨x,h1,fun d' z=>h2 d' (by rw [z])⟩
def zjh (i:Nat):O→O
  | .nx δ=>(match zfI i δ with | some δ'=>.nx δ' | none=>.no)
  | .bk δ=>(match zfI i δ with | some δ'=>.bk δ' | none=>.no)
  | .ct δ=>(match zfI i δ with | some δ'=>.ct δ' | none=>.no)
  | .ex _ _=>.no
  | r=>r
def mTry (mb:En→O) (sub:Nat→Bool) (i:Nat) (mh:En→O) (δ:En):O:=match mb δ with
  | .ex δ' x=>if sub x.c=true then (match zax i (.exc x.c) δ' with | some δ1=>zjh i (mh δ1) | none=>.no) else .no
  | r=>r
theorem zn8 {D':Addr} {tb:(L2.St→XK)→TS} {th:TS} {mb mh:En→O} {sub:Nat→Bool} {i:Nat} (hsub:∀ c,sub c=true→PySem.W.kitCls K.f (.ref (K.ca c)) (.ref D')=some true)
    (hb:∀ E',SS K (xoK K) E' (tb E') mb) (hh:SS K (xoK K) EN th mh):SS K (xoK K) E (tTry K.f D' tb i th) (mTry mb sub i mh):=by
  intro Λ F0 H0 F H σ δ Dn I a
  refine hb _ Λ F0 H0 F H σ δ Dn I ?_
  unfold mTry at a
  cases q:mb δ with
  | no=>rw [q] at a; exact a
  | nx δ'=>rw [q] at a; exact a
  | rt d=>rw [q] at a; exact a
  | ro d=>rw [q] at a; exact a
  | bk δ'=>rw [q] at a; exact a
  | ct δ'=>rw [q] at a; exact a
  | ex δ' x =>
    rw [q] at a
    simp only at a
    split at a
    · rename_i hs
      rintro σ1 F1 H1 C dct I1 ⟨rfl,hxa⟩
      refine ⟨_,rfl,hsub _ hs,fun ea hea=>?_⟩
      have sF:Same F1 (upd F1 ea (excO (K.ca x.c) dct ea)):=Same.upd (I1.same.free hea)
      have I2:=I1.grow (Ext.new (o:=excO (K.ca x.c) dct ea) I1.same hea)
      cases qb:zax i (.exc x.c) δ' with
      | none=>rw [qb] at a; exact a.elim
      | some δ1 =>
        rw [qb] at a
        simp only at a
        refine zaE (K:=K) Λ F0 H0 _ _ σ1 δ' (.exc x.c) (.ref ea) δ1 (fun σ2 H2=>th { nx:=fun σ2 H2=>Dn.nx (σ2.set i none) H2,rt:=Dn.rt,bk:=fun σ2 H2=>Dn.bk (σ2.set i none) H2,ct:=fun σ2 H2=>Dn.ct (σ2.set i none) H2 } σ2 H2) I2 ?_ qb fun σ2 I3=>?_
        · simp only [Rep]
          exact ⟨ea,dct,rfl,zaG,hxa.mono sF⟩
        · refine hh Λ F0 H0 _ _ σ2 δ1 _ I3 ?_
          cases qh:mh δ1 with
          | no=>rw [qh] at a; exact a
          | rt d=>rw [qh] at a; exact a
          | ro d=>rw [qh] at a; exact a
          | ex _ _=>rw [qh] at a; exact a.elim
          | nx δ2 =>
            rw [qh] at a
            simp only [zjh] at a
            cases z:zfI i δ2 with
            | none=>rw [z] at a; exact a.elim
            | some δ3=>rw [z] at a; exact fun σ F H J=>a _ F H (zf5 z J)
          | bk δ2 =>
            rw [qh] at a
            simp only [zjh] at a
            cases z:zfI i δ2 with
            | none=>rw [z] at a; exact a.elim
            | some δ3=>rw [z] at a; exact fun σ F H J=>a _ F H (zf5 z J)
          | ct δ2 =>
            rw [qh] at a
            simp only [zjh] at a
            cases z:zfI i δ2 with
            | none=>rw [z] at a; exact a.elim
            | some δ3=>rw [z] at a; exact fun σ F H J=>a _ F H (zf5 z J)
    · exact a.elim
def znk (tab:Nat→Option Bool) (d:D):Option D:=match d with | .exc c=>(tab c).map .bl | _=>none
theorem znt {w:V} {cv:Value} {tab:Nat→Option Bool} (hw:clsV w=some cv) (hk:∀ c b,tab c=some b→ExcCls K.f (K.ca c)∧PySem.W.kitOne K.f (.ref (K.ca c)) cv=some b) (ha:SEr K XO E ta ma) :
    SE K XO E (tCB (rIsX K.f) (zc4 ta (zc4 (tC w) tNil))) (m1 (znk tab) ma):=by
  intro Λ F0 H0 F H σ δ Q I a
  refine ha Λ F0 H0 F H σ δ _ I (a.bind.imp fun d F1 H1 e1 a1 x rx=>?_)
  cases d with
  | exc c =>
    simp only [Top,Rep] at rx
    obtain ⟨p,dct,rfl,h1,hxa⟩:=rx
    simp only [znk] at a1
    cases z:tab c with
    | none=>rw [z] at a1; exact a1.elim
    | some b =>
      rw [z] at a1
      obtain ⟨k1,k2⟩:=hk c b z
      exact ⟨p,_,dct,w,cv,b,rfl,hw,e1.fh _ _ h1,fun dx ed=>by
        unfold XA at hxa
        split at hxa
        · rw [hxa] at ed; cases ed
        · obtain ⟨dx',e2,e3⟩:=hxa
          rw [e2] at ed; cases ed
          exact ⟨_,e1.fh _ _ e3⟩,k1,k2,a1 F1 H1 (.refl e1.fh) _ (by simp only [Rep])⟩
  | _=>exact a1.elim
end
end PM
namespace L2
open PySem PySem.Spec PyProof.Rows
section
variable {P:Program} {w:World} {B:Around} {Z:Result→Shared→Prop} {J S:Addr} {fp wr:List Addr} {n:Nat} {Pv:Nat→Value→Prop} {Sn:Nat→Heap→Prop}
end
section
variable {P:Program} {w:World} {B:Around} {E:Value→Shared→Prop} {s:Shared} {Q:Value→Shared→Prop} {l:Addr} {xs:Array (Int × Tok)} {df:Value}
end
end L2
namespace L2
open PySem PySem.Spec PyProof.Rows
theorem maxI_ge:∀ (l:List Int) (m:Int),m ≤ PM.maxI l m∧(∀ a ∈ l,a ≤ PM.maxI l m)∧(PM.maxI l m=m∨PM.maxI l m ∈ l)
  | [],m=>⟨Int.le_refl _,fun _ h=>(by cases h),.inl rfl⟩
  | a :: l,m=>by
    obtain ⟨h1,h2,h3⟩:=maxI_ge l (if a > m then a else m)
    unfold PM.maxI
    have e:(if a > m then a else m)=a∧a > m∨(if a > m then a else m)=m∧¬ a > m:=by split <;> simp_all
    refine ⟨by omega,fun b hb=>?_,?_⟩
    · rcases List.mem_cons.mp hb with rfl | hb
      · omega
      · exact h2 b hb
    · rcases h3 with h3 | h3
      · rcases e with ⟨e,_⟩ | ⟨e,_⟩
        · exact .inr (by rw [h3,e]; exact List.mem_cons_self)
        · exact .inl (by rw [h3,e])
      · exact .inr (List.mem_cons_of_mem _ h3)
section
variable {X:Cx}
end
end L2
namespace PM
open PySem L2
section
variable {K:Kx} {XO:XOT} {E:L2.St→XK} {td te:TE} {md me:En→R D}
end
end PM
namespace L2
open PySem PySem.Spec PyProof.Rows
section
variable {X:Cx}
end
end L2
namespace PM
open PySem L2
section
variable {K:Kx} {XO:XOT} {E:L2.St→XK} {td ty tx:TE} {md my mx:En→R D}
def zgg (x y:D):Option D:=match x,y with | .int i,.lst l=>(asIs l).map fun ns=>.bl (!decide (i ∈ ns)) | .int i,.tup l=>(asIs l).map fun ns=>.bl (!decide (i ∈ ns)) | _,_=>none
theorem zju {i:Int} {ns:List Int}:inV (.int i) (ns.map V.int)=decide (i ∈ ns):=by
  rw [Bool.eq_iff_iff]
  unfold inV
  simp only [List.any_map,List.any_eq_true,Function.comp,decide_eq_true_eq]
  constructor
  · rintro ⟨a,h1,h2⟩
    have:a=i:=by simpa [eqV] using h2
    subst this; exact h1
  · intro h
    exact ⟨i,h,by simp [eqV]⟩
theorem zhG {ns:List Int}:(ns.map V.int).all zhs=true:=by
  rw [List.all_map,List.all_eq_true]
  intro x _; rfl
theorem zjq:SR K (rIn K.f true) zgg:=by
  intro F H x y dx dy d Q s hx hy e q
  cases dx with
  | int i =>
    simp only [Top,Rep] at hx
    subst hx
    cases dy with
    | lst l =>
      obtain ⟨a,vs,rfl,h1,h2⟩:=hy
      simp only [zgg] at e
      cases z:asIs l with
      | none=>rw [z] at e; cases e
      | some ns =>
        rw [z] at e; cases e
        have el:=zd5 z; subst el
        have ev:=zdq h2; subst ev
        exact ⟨a,_,rfl,.inl (.inl h1),rfl,zhG,q _ F H (.refl s) (by simp only [Rep]; rw [zju]; rfl)⟩
    | tup l =>
      simp only [Top,Rep] at hy
      obtain ⟨a,vs,rfl,h1,h2⟩:=hy
      simp only [zgg] at e
      cases z:asIs l with
      | none=>rw [z] at e; cases e
      | some ns =>
        rw [z] at e; cases e
        have el:=zd5 z; subst el
        have ev:=zdq h2; subst ev
        exact ⟨a,_,rfl,.inr (.inl (.inl (s _ _ h1))),rfl,zhG,q _ F H (.refl s) (by simp only [Rep]; rw [zju]; rfl)⟩
    | _=>cases e
  | _=>cases e
end
end PM
namespace L2
open PySem PySem.Spec PyProof.Rows
section
variable {X:Cx}
end
end L2
namespace PM
open PySem L2
section
variable {K:Kx} {XO:XOT} {E:L2.St→XK}
end
end PM
namespace L2
open PySem PySem.Spec PyProof.Rows
theorem Inv.turnedL {X:Cx} {pins:List (Addr × Obj)} {σ:St} {H:Hp} {s:Shared} {h':Heap} {t':Nat} (ch:List Addr) (I:Inv X pins σ H s) (hf:∀ b ∈ ch,FpOk X pins H b) (k:∀ b o,b ∉ ch→s.heap.get? b=some o→h'.get? b=some o):Inv X pins σ H { s with heap:=h',toks:=t' }:=by
  have nit:∀ b u,H b=some u→b ∉ ch:=fun b u e z=>by
    obtain ⟨f0,_⟩:=hf b z
    rw [f0] at e; cases e
  refine I.step (g':=s.gens) (d':=s.drawn) (ch:=ch) (fun b hb=>?_) (fun b o _ _ hc e _=>k b o hc e) (fun b o _ _ hc e _=>⟨o.slots,k b o hc e⟩) (fun _ _ _ _ n=>n)
    (fun b o hc e=>⟨o,k b o hc e⟩) (fun _ _ e=>e) (fun _ _ _ e=>e) (fun b ps e=>⟨#[],by rw [e]; simp⟩) (fun m hm=>?_) (fun b u e=>?_) I.bare
  · obtain ⟨f0,f1,f2,f3,f4,f5⟩:=hf b hb
    exact ⟨f3,f1,f4,f5⟩
  · obtain ⟨o,es,ep,ho,r⟩:=hm
    refine ⟨o,es,ep,k _ o (fun z=>?_) ho,r⟩
    obtain ⟨_,f1,_⟩:=hf _ z
    exact f1 rfl
  · refine (I.hok b u e).stay (fun c v hc q=>k c v ?_ q) (fun _ q=>q) fun _ _ q=>q
    rcases hc with z | z
    · rw [z]; exact nit b u e
    · exact nit c _ z
theorem Inv.laidT {X:Cx} {pins:List (Addr × Obj)} {σ:St} {H:Hp} {s:Shared} {h':Heap} {t':Nat} (ch:List Addr) {xs:List V} {us:List Value} (I:Inv X pins σ H s) (hf:∀ b ∈ ch,FpOk X pins H b) (k:∀ b o,b ∉ ch→s.heap.get? b=some o→h'.get? b=some o)
    (hl:xs.length ≤ sizeLine) (rv:Vals xs us) (ht:h'.get? s.heap.objs.size=some { cls:=.type "tuple",data:=.seq us.toArray }):Inv X pins σ (upd H s.heap.objs.size (.tup xs)) { s with heap:=h',toks:=t' }:=by
  have hT:H s.heap.objs.size=none:=I.hok.fresh (Nat.le_refl _)
  have nit:∀ b u,H b=some u→b ∉ ch:=fun b u e z=>by
    obtain ⟨f0,_⟩:=hf b z
    rw [f0] at e; cases e
  refine I.step (h':=h') (g':=s.gens) (d':=s.drawn) (t':=t') (ch:=ch) (fun b hb=>?_) (fun b o _ _ hb q _=>k b o hb q) (fun b o _ _ hb q _=>⟨o.slots,k b o hb q⟩) (fun b o hb q n=>?_) (fun b o hb q=>⟨o,k b o hb q⟩) (fun b ys q=>?_) (fun b o ys q=>?_) (fun b ps q=>⟨#[],?_⟩) (fun m hm=>?_) ?_ I.bare
  · obtain ⟨f0,f1,f2,f3,f4,f5⟩:=hf b hb
    exact ⟨f3,f1,f4,f5⟩
  · rw [zar (Nat.ne_of_lt (Heap.lt_size q))]; exact n
  · rw [zar (zaw q hT)]; exact q
  · rw [zar (zaw q hT)]; exact q
  · rw [zar (zaw q hT),q]; simp
  · obtain ⟨o,es',ep,ho',r⟩:=hm
    refine ⟨o,es',ep,k _ o (fun z=>?_) ho',r⟩
    obtain ⟨_,f1,_⟩:=hf _ z
    exact f1 rfl
  · intro b o q
    by_cases hb:b=s.heap.objs.size
    · subst hb
      rw [zaG] at q; cases q
      exact ⟨hl,us,rv,⟨_,ht,rfl,_,rfl⟩⟩
    · rw [zar hb] at q
      refine (I.hok b o q).stay (fun c v hc' q'=>?_) (fun c q'=>by rw [zar (zaw q' hT)]; exact q') fun c ys q'=>by rw [zar (zaw q' hT)]; exact q'
      rcases hc' with rfl | hc'
      · exact k _ v (nit _ _ q) q'
      · exact k _ v (nit _ _ hc') q'
theorem zhD {h:Heap} {z TI TO i1 i2 a b:Addr} {f0 u v:Value} {k1 k2:Nat} {xs ys:Array Value} (hd : [z,TI,TO,i1,i2].Nodup) (h1:IsZip h z TI TO f0) (h3:IsPair h TO u v) (h4:h.IsListIter i1 a k1) (h5:h.IsListIter i2 b k2) (p:PlainL h a xs) (p':PlainL h b ys):ZipApart z TI TO i1 i2 a b:=by
  obtain ⟨o,n,e,c,_⟩:=p
  obtain ⟨o',n',e',c',_⟩:=p'
  obtain ⟨j1,g1,d1,_⟩:=h4
  obtain ⟨j2,g2,d2,_⟩:=h5
  simp only [List.nodup_cons,List.mem_cons,List.not_mem_nil,or_false,not_or,List.nodup_nil,and_true,not_false_eq_true] at hd
  obtain ⟨⟨z1,z2,z3,z4⟩,⟨y1,y2,y3⟩,⟨x1,x2⟩,w1⟩:=hd
  have q1:∀ {o:Obj} {l:Addr},h.get? l=some o→o.cls = .type "list"→l ≠ z:=fun e c r=>by subst r; rw [h1] at e; cases e; simp at c
  have q2:∀ {o:Obj} {l:Addr},h.get? l=some o→o.cls = .type "list"→l ≠ TO:=fun e c r=>by subst r; rw [h3] at e; cases e; simp at c
  have q3:∀ {o:Obj} {l:Addr},h.get? l=some o→o.cls = .type "list"→l ≠ i1:=fun e c r=>by subst r; rw [g1] at e; cases e; rw [d1] at c; simp at c
  have q4:∀ {o:Obj} {l:Addr},h.get? l=some o→o.cls = .type "list"→l ≠ i2:=fun e c r=>by subst r; rw [g2] at e; cases e; rw [d2] at c; simp at c
  exact ⟨Ne.symm z1,Ne.symm z2,Ne.symm z3,Ne.symm z4,y1,y2,y3,x1,x2,w1,q1 e c,q2 e c,q3 e c,q4 e c,q1 e' c',q2 e' c',q3 e' c',q4 e' c'⟩
def Itz (K:PySem.W.Frag) (a b:Addr):It :=
  ⟨fun i H=>∃ xs ys x y,SqL K H a xs∧SqL K H b ys∧xs[i]?=some x∧ys[i]?=some y,
   fun i H v H'=>∃ p x y,v = .ref p∧H p=none∧H'=upd H p (.tup [x,y])∧(∀ xs,SqL K H a xs→xs[i]?=some x)∧∀ ys,SqL K H b ys→ys[i]?=some y,
   fun i H=>∃ xs ys,SqL K H a xs∧SqL K H b ys∧(xs.length ≤ i∨ys.length ≤ i)⟩
theorem zmn {P:Program} {w:World} {K:PySem.W.Frag} {es:List Expr} {k} {pos:Pos} (a b z TI TO i1 i2:Addr) (hd : [z,TI,TO,i1,i2].Nodup) :
    Turn P w K (.Tuple es k pos) (Itz K a b) [z,TI,TO,i1,i2] z (fun i h=>IsZip h z TI TO .none∧IsPair h TI (.ref i1) (.ref i2)∧(∃ u v,IsPair h TO u v)∧h.IsListIter i1 a i∧h.IsListIter i2 b i) where
  mem:=by simp
  obj:=fun i h st c hc=>by
    obtain ⟨h1,h2,⟨u,v,h3⟩,⟨o1,h4,c1,d1⟩,o2,h5,c2,d2⟩:=st
    simp only [List.mem_cons,List.not_mem_nil,or_false] at hc
    rcases hc with rfl | rfl | rfl | rfl | rfl
    · exact ⟨_,h1,fun v z=>by cases (show Data.fields _=Data.cell v from z)⟩
    · exact ⟨_,h2,fun v z=>by cases (show Data.seq _=Data.cell v from z)⟩
    · exact ⟨_,h3,fun v z=>by cases (show Data.seq _=Data.cell v from z)⟩
    · exact ⟨o1,h4,fun v z=>by rw [d1] at z; cases z⟩
    · exact ⟨o2,h5,fun v z=>by rw [d2] at z; cases z⟩
  keep:=fun i h h' st q=>by
    obtain ⟨h1,h2,⟨u,v,h3⟩,h4,h5⟩:=st
    exact ⟨q z (by simp) _ h1,q TI (by simp) _ h2,⟨u,v,q TO (by simp) _ h3⟩,h4.at fun o e=>q i1 (by simp) o e,h5.at fun o e=>q i2 (by simp) o e⟩
  item:=by
    intro X hP hw hK hc i pins s σ H E I hf st hg
    subst hP hw hK
    obtain ⟨xs,ys,x,y,q1,q2,hx,hy⟩:=hg
    obtain ⟨its,rv,p,hz⟩:=I.list q1
    obtain ⟨its',rv',p',hz'⟩:=I.list q2
    obtain ⟨u,hu,ru⟩:=rv.get hx
    obtain ⟨u',hu',ru'⟩:=rv'.get hy
    obtain ⟨h1,h2,⟨f,g,h3⟩,h4,h5⟩:=st
    have D:=zhD hd h1 h3 h4 h5 p p'
    have hT:H s.heap.objs.size=none:=I.hok.fresh (Nat.le_refl _)
    have nT:∀ c o,s.heap.get? c=some o→c ≠ s.heap.objs.size:=fun c o e=>Nat.ne_of_lt (Heap.lt_size e)
    refine wpAny_pyNext_zip_item D h1 h2 h3 h4 h5 p.isList p'.isList (x:=u) (y:=u') (by simpa using hu) (by simpa using hu') fun h' a1 a2 a3 a4 a5 a6 hk=>⟨_,rfl,?_⟩
    refine wpAny_letOwnedTupleGo_zip a1 fun h'' b1 hs''=>?_
    have hs2:Heap.SameBut z h' h'':=hs''
    have nzT:=nT z _ h1
    have hk2:∀ c o,c ∉ [z,TI,TO,i1,i2]→s.heap.get? c=some o→h''.get? c=some o:=fun c o hc q=>by
      simp only [List.mem_cons,List.not_mem_nil,or_false,not_or] at hc
      exact (hs2.2 c hc.1).trans (hk c o hc.1 hc.2.2.1 hc.2.2.2.1 hc.2.2.2.2 q)
    refine ⟨.ref s.heap.objs.size,upd H s.heap.objs.size (.tup [x,y]),?_,rfl,⟨_,x,y,rfl,hT,rfl,fun xs' h=>by rw [I.list_inj h q1]; exact hx,fun ys' h=>by rw [I.list_inj h q2]; exact hy⟩,
      ⟨b1,(hs2.2 _ D.TIz).trans (hk _ _ D.TIz D.TITO D.TIi1 D.TIi2 h2),⟨u,u',(hs2.2 _ D.TOz).trans a2⟩,a3.at fun o e=>(hs2.2 _ D.i1z).trans e,a4.at fun o e=>(hs2.2 _ D.i2z).trans e⟩,fun c hc=>?_⟩
    · exact I.laidT (t':=s.toks) [z,TI,TO,i1,i2] hf hk2 (by show 2 ≤ sizeLine; decide) (.cons ru (.cons ru' .nil)) ((hs2.2 _ (Ne.symm nzT)).trans a5)
    · obtain ⟨f0,_⟩:=hf c hc
      rw [zar]
      · exact f0
      · obtain ⟨o1,e4,_⟩:=h4
        obtain ⟨o2,e5,_⟩:=h5
        simp only [List.mem_cons,List.not_mem_nil,or_false] at hc
        rcases hc with rfl | rfl | rfl | rfl | rfl
        · exact nT _ _ h1
        · exact nT _ _ h2
        · exact nT _ _ h3
        · exact nT _ _ e4
        · exact nT _ _ e5
  done:=by
    intro X hP hw hK hc i pins s σ H E I hf st hg
    subst hP hw hK
    obtain ⟨xs,ys,q1,q2,he⟩:=hg
    obtain ⟨its,rv,p,hz⟩:=I.list q1
    obtain ⟨its',rv',p',hz'⟩:=I.list q2
    obtain ⟨h1,h2,⟨f,g,h3⟩,h4,h5⟩:=st
    have D:=zhD hd h1 h3 h4 h5 p p'
    have l1:=rv.length
    have l2:=rv'.length
    refine wpAny_pyNext_zip_end (I.ok.hd hc) D h1 h2 h3 h4 h5 p.isList p'.isList (he.imp (fun z=>by simp; omega) fun z=>by simp; omega) fun h' hk=>⟨rfl,?_⟩
    exact I.turnedL (t':=s.toks) [z,TI,TO,i1,i2] hf fun c o hc q=>by
      simp only [List.mem_cons,List.not_mem_nil,or_false,not_or] at hc
      exact hk c o hc.1 hc.2.2.1 hc.2.2.2.1 hc.2.2.2.2 q
  self:=fun _ _ _ _ _ st h=>wpAny_pyIter_zip st.1 h
section
variable {X:Cx}
def iZip (K:PySem.W.Frag) (ta:TA):TI:=fun σ H R=>ta σ H fun vs H1=>∃ a b,vs = [.ref a,.ref b]∧(∃ xs,SqL K H1 a xs)∧(∃ ys,SqL K H1 b ys)∧R (Itz K a b) H1
theorem znV {es:List Expr} {k} {tp:Pos} {l l':Expr} {ta:TA} {p pos:Pos} (hg:Gl X "zip") (hm:X.mg "zip"=none) (ha:PA X [l,l'] ta) (hs:starEach [l,l'] X.env=(false,eval l X.env) :: starEach [l'] X.env:=by rfl) (hs2:(backTo pos (starEach [l'] X.env)).any (·.1)=false:=by rfl) :
    PI X (.Tuple es k tp) (.Call (.Name "zip" p) [l,l'] [] pos) (iZip X.K ta):=by
  intro pins s σ H R I h
  refine Call_ (zfE I hg hm PyProof.Rows.boot_zip (PyProof.Rows.callWith_type1 (thn (ha pos pins s σ H _ I h) fun us s1 ⟨vs,H1,I1,r1,q1⟩=>?_) hs hs2))
  obtain ⟨a,b,e,⟨xs,hq⟩,⟨ys,hq'⟩,q⟩:=q1
  subst e
  obtain ⟨u,v,rfl,rx,ry⟩:=zmr r1
  cases rx
  cases ry
  obtain ⟨its,rv,pl,hz⟩:=I1.list hq
  obtain ⟨its',rv',pl',hz'⟩:=I1.list hq'
  refine call_zip_2 pl.isList pl'.isList fun h' c1 c2 c3 c4 c5 hsz hk=>?_
  have I2:Inv X pins σ H1 { s1 with heap:=h' }:=I1.kept (t':=s1.toks) hk
  obtain ⟨m,em⟩:∃ m,m=s1.heap.objs.size:=⟨_,rfl⟩
  have hnd : [m + 4,m + 2,m + 3,m,m + 1].Nodup:=by simp
  rw [← em] at c1 c2 c3 c4 c5 ⊢
  refine wpAny_pyIter_zip c1 ⟨m + 4,[m + 4,m + 2,m + 3,m,m + 1],_,_,H1,rfl,I2,zmn a b _ _ _ _ _ hnd,⟨c1,c2,⟨_,_,c3⟩,c4,c5⟩,fun d hd=>?_,q⟩
  have hd':s1.heap.objs.size ≤ d:=by
    simp only [List.mem_cons,List.not_mem_nil,or_false] at hd
    rcases hd with rfl | rfl | rfl | rfl | rfl <;> omega
  exact I1.fpOk hd' (I1.hok.fresh hd')
end
end L2
namespace PM
open PySem L2
section
variable {K:Kx} {XO:XOT} {E:L2.St→XK}
def zipD (l r:List D):List D:=List.zipWith (fun x y=>.tup [x,y]) l r
def zip1:List D→Option (List D)
  | [x,y]=>(asL' x).bind fun l=>(asL' y).map (zipD l)
  | _=>none
def mZip (ml:En→R (List D)) (δ:En):R (List D):=(ml δ).bind fun l=>R.of (zip1 l)
theorem zkQ {l r:List D} (h:zip1 l=some r):∃ x y,l = [.lst x,.lst y]∧r=zipD x y:=by
  match l,h with
  | [x,y],h =>
    cases x with
    | lst x =>
      cases y with
      | lst y=>cases h; exact ⟨x,y,rfl,rfl⟩
      | _=>cases h
    | _=>cases h
theorem zmt {a b:Addr} {ds es:List D} {vs ws:List V} {F1:Hp} {P:Hp→Hp→Prop} (r:RepL K F1 ds vs) (r':RepL K F1 es ws) (h:∀ F2 H2,P F2 H2→Same F1 F2∧Same F2 H2∧SqL K.f H2 a vs∧SqL K.f H2 b ws):IsIt K (Itz K.f a b) P (zipD ds es):=by
  intro F2 H2 p i
  obtain ⟨s1,s2,q,q'⟩:=h F2 H2 p
  unfold zipD
  rw [List.getElem?_zipWith]
  refine ⟨fun d hd=>?_,fun hn=>?_⟩
  · cases e:ds[i]? with
    | none=>rw [e] at hd; cases hd
    | some x =>
      cases e':es[i]? with
      | none=>rw [e,e'] at hd; cases hd
      | some y =>
        rw [e,e'] at hd
        cases hd
        obtain ⟨v,hv,rv⟩:=r.get e
        obtain ⟨w,hw,rw'⟩:=r'.get e'
        refine ⟨⟨vs,ws,v,w,q,q',hv,hw⟩,fun x' H' y=>?_⟩
        obtain ⟨p',x1,y1,rfl,hp,rfl,z1,z2⟩:=y
        have z:=z1 vs q
        rw [hv] at z; cases z
        have z:=z2 ws q'
        rw [hw] at z; cases z
        refine ⟨_,.new s2 hp,?_⟩
        simp only [Rep]
        have m:=s1.trans (Same.upd (u:=.tup [v,w]) (s2.free hp))
        exact ⟨p',_,rfl,zaG,.cons (Rep.mono m _ rv) (.cons (Rep.mono m _ rw') .nil)⟩
  · cases e:ds[i]? with
    | none=>exact ⟨vs,ws,q,q',.inl (by rw [r.length]; exact List.getElem?_eq_none_iff.mp e)⟩
    | some x =>
      cases e':es[i]? with
      | none=>exact ⟨vs,ws,q,q',.inr (by rw [r'.length]; exact List.getElem?_eq_none_iff.mp e')⟩
      | some y=>rw [e,e'] at hn; cases hn
theorem zoe {tl:TA} {ml:En→R (List D)} (h:SA K XO E tl ml):SI K XO E (iZip K.f tl) (mZip ml):=by
  intro Λ F0 H0 F H σ δ R I a
  refine h Λ F0 H0 F H σ δ _ I (a.bind.imp fun ds F1 H1 e1 a1 vs r=>?_)
  cases q:zip1 ds with
  | none=>rw [q] at a1; exact a1.elim
  | some z =>
    rw [q] at a1
    obtain ⟨l,l',rfl,rfl⟩:=zkQ q
    obtain ⟨v,w,rfl,r1,r2⟩:=RepL.two r
    simp only [Rep] at r1 r2
    obtain ⟨a,vs,rfl,h1,h2⟩:=r1
    obtain ⟨b,ws,rfl,h3,h4⟩:=r2
    exact ⟨a,b,rfl,⟨vs,.inl (PM.Same.rd e1.fh h1)⟩,⟨ws,.inl (PM.Same.rd e1.fh h3)⟩,a1 F1 H1 (.refl e1.fh) _ (zmt h2 h4 fun F2 H2 x=>⟨x.1,x.2,.inl (PM.Same.rd x.2 (PM.Same.rd x.1 h1)),.inl (PM.Same.rd x.2 (PM.Same.rd x.1 h3))⟩)⟩
end
end PM
namespace PM
def minI:List Int→Int→Int
  | [],m=>m
  | a :: l,m=>minI l (if a < m then a else m)
end PM
namespace L2
open PySem PySem.Spec PyProof.Rows
theorem minI_le:∀ (l:List Int) (m:Int),PM.minI l m ≤ m∧(∀ a ∈ l,PM.minI l m ≤ a)∧(PM.minI l m=m∨PM.minI l m ∈ l)
  | [],m=>⟨Int.le_refl _,fun _ h=>(by cases h),.inl rfl⟩
  | a :: l,m=>by
    obtain ⟨h1,h2,h3⟩:=minI_le l (if a < m then a else m)
    unfold PM.minI
    have e:(if a < m then a else m)=a∧a < m∨(if a < m then a else m)=m∧¬ a < m:=by split <;> simp_all
    refine ⟨by omega,fun b hb=>?_,?_⟩
    · rcases List.mem_cons.mp hb with rfl | hb
      · omega
      · exact h2 b hb
    · rcases h3 with h3 | h3
      · rcases e with ⟨e,_⟩ | ⟨e,_⟩
        · exact .inr (by rw [h3,e]; exact List.mem_cons_self)
        · exact .inl (by rw [h3,e])
      · exact .inr (List.mem_cons_of_mem _ h3)
section
variable {X:Cx}
def zny (f:List Int→Int→Int):List V→Hp→VK→Prop:=fun xs H Q=>∃ (p:Addr) (n:Int) (l:List Int),xs = [.ref p]∧Rd H p (.lst ((n :: l).map V.int))∧Q (.int (f l n)) H
theorem zja {ns:List Int} {its:List Value} (rv:Vals (ns.map V.int) its):∃ ts:List Tok,its.toArray=intItems (ns.zip ts).toArray∧(ns.zip ts).toArray.size=ns.length∧∀ j,numAt (ns.zip ts).toArray j=ns.getD j 0:=by
  obtain ⟨ts,rfl,htl⟩:∃ ts:List Tok,its=(ns.zip ts).map (fun p=>Value.int p.1 p.2)∧ts.length=ns.length:=by
    induction ns generalizing its with
    | nil=>cases rv; exact ⟨[],rfl,rfl⟩
    | cons a l ih =>
      cases rv with
      | cons h t =>
        obtain ⟨tk,rfl⟩:=h
        obtain ⟨ts,rfl,hl⟩:=ih t
        exact ⟨tk :: ts,rfl,by simp [hl]⟩
  refine ⟨ts,by simp [intItems],by simp; omega,fun j=>?_⟩
  rw [numAt_eq]
  have:(ns.zip ts).map (·.1)=ns:=List.map_fst_zip (by omega)
  show ((ns.zip ts).map (·.1)).getD j 0=_
  rw [this]
theorem zmo {m:Int} {l:List Int} {f:Nat→Int} (hf:∀ j,f j=(m :: l).getD j 0):f (argBest (fun i j=>decide (f i > f j)) ((m :: l).length - 1))=PM.maxI l m:=by
  obtain ⟨g1,g2⟩:=argBest_gt f ((m :: l).length - 1)
  obtain ⟨k1,k2,k3⟩:=maxI_ge l m
  generalize argBest (fun i j=>decide (f i > f j)) ((m :: l).length - 1)=j at *
  have hj:j < (m :: l).length:=by have:(m :: l).length=l.length + 1:=rfl; omega
  have hm:(m :: l).getD j 0 ∈ m :: l:=by rw [List.getD_eq_getElem?_getD,List.getElem?_eq_getElem hj]; exact List.getElem_mem hj
  rw [← hf j] at hm
  refine Int.le_antisymm ?_ ?_
  · rcases List.mem_cons.mp hm with z | z
    · rw [z]; exact k1
    · exact k2 _ z
  · have hx:PM.maxI l m ∈ m :: l:=k3.elim (fun z=>by rw [z]; exact List.mem_cons_self) fun z=>List.mem_cons_of_mem _ z
    obtain ⟨i,hi,ei⟩:=List.getElem_of_mem hx
    have:=g2 i (by have:(m :: l).length=l.length + 1:=rfl; omega)
    rw [hf i,List.getD_eq_getElem?_getD,List.getElem?_eq_getElem hi,ei] at this
    exact this
theorem zmE {m:Int} {l:List Int} {f:Nat→Int} (hf:∀ j,f j=(m :: l).getD j 0):f (argBest (fun i j=>decide (f i < f j)) ((m :: l).length - 1))=PM.minI l m:=by
  obtain ⟨g1,g2⟩:=argBest_lt f ((m :: l).length - 1)
  obtain ⟨k1,k2,k3⟩:=minI_le l m
  generalize argBest (fun i j=>decide (f i < f j)) ((m :: l).length - 1)=j at *
  have hj:j < (m :: l).length:=by have:(m :: l).length=l.length + 1:=rfl; omega
  have hm:(m :: l).getD j 0 ∈ m :: l:=by rw [List.getD_eq_getElem?_getD,List.getElem?_eq_getElem hj]; exact List.getElem_mem hj
  rw [← hf j] at hm
  refine Int.le_antisymm ?_ ?_
  · have hx:PM.minI l m ∈ m :: l:=k3.elim (fun z=>by rw [z]; exact List.mem_cons_self) fun z=>List.mem_cons_of_mem _ z
    obtain ⟨i,hi,ei⟩:=List.getElem_of_mem hx
    have:=g2 i (by have:(m :: l).length=l.length + 1:=rfl; omega)
    rw [hf i,List.getD_eq_getElem?_getD,List.getElem?_eq_getElem hi,ei] at this
    exact this
  · rcases List.mem_cons.mp hm with z | z
    · rw [z]; exact k1
    · exact k2 _ z
theorem zhJ (hc:X.calm=true):zgb X (.builtin "max") (zny PM.maxI):=by
  intro pins s σ H xs us Q I r h
  obtain ⟨p,m,l,rfl,hq,q⟩:=h
  obtain ⟨u,rfl,rx⟩:=zhX r
  cases rx
  obtain ⟨z,its,n,rv,e⟩:=hq.ok I.hok
  obtain ⟨ts,e1,e2,e3⟩:=zja rv
  rw [e1] at e
  refine max_intList (I.ok.hd hc) ⟨_,e,rfl,n,rfl⟩ (by rw [e2]; simp) fun v h' tk hv hk=>?_
  obtain ⟨t,rfl⟩:=intItems_at hv
  refine ⟨.int (PM.maxI l m),H,I.kept (t':=tk) hk,⟨t,?_⟩,q⟩
  congr 1
  rw [e2]
  exact zmo e3
theorem zir (hc:X.calm=true):zgb X (.builtin "min") (zny PM.minI):=by
  intro pins s σ H xs us Q I r h
  obtain ⟨p,m,l,rfl,hq,q⟩:=h
  obtain ⟨u,rfl,rx⟩:=zhX r
  cases rx
  obtain ⟨z,its,n,rv,e⟩:=hq.ok I.hok
  obtain ⟨ts,e1,e2,e3⟩:=zja rv
  rw [e1] at e
  refine min_intList (I.ok.hd hc) ⟨_,e,rfl,n,rfl⟩ (by rw [e2]; simp) fun v h' tk hv hk=>?_
  obtain ⟨t,rfl⟩:=intItems_at hv
  refine ⟨.int (PM.minI l m),H,I.kept (t':=tk) hk,⟨t,?_⟩,q⟩
  congr 1
  rw [e2]
  exact zmE e3
end
end L2
namespace PM
open PySem L2
section
variable {K:Kx}
def zgT (f:List Int→Int→Int):List D→Option D
  | [.lst (.int a :: l)]=>(asIs l).map fun ns=>.int (f ns a)
  | _=>none
theorem zjM {f:List Int→Int→Int} {ds:List D} {d:D} (h:zgT f ds=some d):∃ (n:Int) (l:List Int),ds = [.lst ((n :: l).map .int)]∧d = .int (f l n):=by
  unfold zgT at h
  split at h
  · rename_i a l
    cases z:asIs l with
    | none=>rw [z] at h; cases h
    | some ns=>rw [z] at h; cases h; exact ⟨a,ns,by rw [zd5 z]; rfl,rfl⟩
  · cases h
theorem zhf {f:List Int→Int→Int}:SC K (zny f) (zgT f):=by
  intro F H vs ds d Q s r e q
  obtain ⟨n,l,rfl,rfl⟩:=zjM e
  cases r with
  | cons r r' =>
    cases r'
    obtain ⟨a,xs,rfl,h1,h2⟩:=r
    have ex:=zdq (ns:=n :: l) h2
    subst ex
    exact ⟨a,n,l,rfl,h1,q _ F H (.refl s) (by simp only [Rep])⟩
end
end PM
namespace L2
open PySem PySem.Spec PyProof.Rows
section
variable {X:Cx}
end
end L2
namespace PM
open PySem L2
section
variable {K:Kx}
end
end PM
namespace PM
open PySem L2
section
variable {K:Kx} {XO:XOT} {E:L2.St→XK} {te:TE} {me:En→R D}
end
end PM
namespace L2
open PySem PySem.Spec PyProof.Rows
section
variable {X:Cx}
end
end L2
namespace PM
open PySem L2
section
variable {K:Kx} {XO:XOT} {E:L2.St→XK} {tl te:TE} {ml me:En→R D}
end
end PM
namespace L2
open PySem PySem.Spec PyProof.Rows
open Sem (wp)
section
variable {P:Program} {w:World} {B:Around} {Er:Value→Shared→Prop} {hp:Heap} {gs:Array GenState} {dr:Drawn} {tk:Nat} {os:OsState}
variable {nm q:Str} {C N:Addr} {bs bm bmB:List Value} {hdct:Bool} {sn:List Str} {sub:List Value} {ab:Bool} {col:Option Bool} {dd:Option Addr} {k0 k1 k2 k3 k5:Option Value} {B0 Bn newId nid initId inN:String} {bmN:List Value}
end
end L2
namespace L2
open PySem PySem.Spec PyProof.Rows
section
variable {P:Program} {w:World} {B:Around} {Er:Value→Shared→Prop} {s:Shared}
end
end L2
namespace L2
open PySem PySem.Spec PyProof.Rows
section
variable {X:Cx}
end
end L2
namespace PM
open PySem L2
section
variable {K:Kx} {XO:XOT} {E:L2.St→XK}
end
end PM
namespace L2
open PySem PySem.Spec PyProof.Rows
section
variable {X:Cx}
end
end L2
namespace PM
open PySem L2
section
variable {K:Kx} {XO:XOT} {E:L2.St→XK}
end
end PM
namespace L2
open PySem PySem.Spec PyProof.Rows
section
variable {X:Cx}
end
end L2
namespace PM
open PySem L2
section
variable {K:Kx} {XO:XOT} {E:L2.St→XK} {tk te:TE} {mk me:En→R D}
end
end PM
namespace PM
open PySem L2
section
variable {K:Kx} {XO:XOT} {E:St→XK} {ta tb te:TE} {ma mb me:En→R D} {t u:TS} {m n:En→O} {Λ:List (Nat × Addr × HO)} {F0 H0 F H F' H' F1 H1:Hp} {σ:St} {δ:En} {Dn:Ends}
def tabD (ll:List (List Int)):D:=.lst (ll.map iL)
structure TabO (H:Hp) (a:Addr) (bs:List Addr) (ll:List (List Int)):Prop where
  top:H a=some (.lst (bs.map .ref))
  len:bs.length=ll.length
  row:∀ (i:Nat) (b:Addr) (l:List Int),bs[i]?=some b→ll[i]?=some l→H b=some (.lst (l.map .int))
  nd:(a :: bs).Nodup
theorem TabO.mono {a:Addr} {bs:List Addr} {ll:List (List Int)} (e:Same H H') (t:TabO H a bs ll):TabO H' a bs ll:=⟨e _ _ t.top,t.len,fun i b l h1 h2=>e _ _ (t.row i b l h1 h2),t.nd⟩
theorem TabO.obj {a:Addr} {bs:List Addr} {ll:List (List Int)} (t:TabO H a bs ll):∀ b ∈ a :: bs,∃ o,H b=some o:=fun b hb=>by
  rcases List.mem_cons.mp hb with rfl | hb
  · exact ⟨_,t.top⟩
  · obtain ⟨i,hi,e⟩:=List.getElem_of_mem hb
    have hl:i < ll.length:=by rw [← t.len]; exact hi
    exact ⟨_,t.row i b ll[i] (by rw [List.getElem?_eq_getElem hi,e]) (List.getElem?_eq_getElem hl)⟩
def rowT (l:List Int):Tr:=.l (l.map fun i=>.d (.int i))
def tabT (ll:List (List Int)):Tr:=.l (ll.map rowT)
theorem ints_iff:∀ {l:List Int} {vs:List V} {fp:List Addr},TrOkL K F H (l.map fun i=>.d (.int i)) vs fp ↔ vs=l.map .int∧fp = []
  | [],vs,fp=>by simp only [List.map_nil,TrOkL]
  | i :: l,vs,fp=>by
    simp only [List.map_cons,TrOkL,TrOk,Rep]
    constructor
    · rintro ⟨v,r,f1,f2,rfl,rfl,⟨rfl,rfl⟩,h⟩
      obtain ⟨rfl,rfl⟩:=ints_iff.mp h
      exact ⟨rfl,rfl⟩
    · rintro ⟨rfl,rfl⟩
      exact ⟨_,_,[],[],rfl,rfl,⟨rfl,rfl⟩,ints_iff.mpr ⟨rfl,rfl⟩⟩
theorem row_iff {l:List Int} {v:V} {fp:List Addr}:TrOk K F H (rowT l) v fp ↔ ∃ b,v = .ref b∧fp = [b]∧H b=some (.lst (l.map .int)):=by
  unfold rowT
  simp only [TrOk]
  constructor
  · rintro ⟨a,vs,fs,rfl,rfl,h1,h2⟩
    obtain ⟨rfl,rfl⟩:=ints_iff.mp h2
    exact ⟨a,rfl,rfl,h1⟩
  · rintro ⟨b,rfl,rfl,h⟩
    exact ⟨b,_,[],rfl,rfl,h,ints_iff.mpr ⟨rfl,rfl⟩⟩
theorem rows_iff:∀ {ll:List (List Int)} {vs:List V} {bs:List Addr},TrOkL K F H (ll.map rowT) vs bs ↔ vs=bs.map .ref∧bs.length=ll.length∧∀ (i:Nat) (b:Addr) (l:List Int),bs[i]?=some b→ll[i]?=some l→H b=some (.lst (l.map .int))
  | [],vs,bs=>by
    simp only [List.map_nil,TrOkL]
    constructor
    · rintro ⟨rfl,rfl⟩; exact ⟨rfl,rfl,fun i b l h=>by simp at h⟩
    · rintro ⟨rfl,h,_⟩
      cases bs with
      | nil=>exact ⟨rfl,rfl⟩
      | cons _ _=>simp at h
  | l :: ll,vs,bs=>by
    simp only [List.map_cons,TrOkL]
    constructor
    · rintro ⟨v,r,f1,f2,rfl,rfl,h1,h2⟩
      obtain ⟨b,rfl,rfl,h3⟩:=row_iff.mp h1
      obtain ⟨rfl,h4,h5⟩:=rows_iff.mp h2
      refine ⟨rfl,by simp [h4],fun i c r g1 g2=>?_⟩
      cases i with
      | zero=>simp at g1 g2; subst g1 g2; exact h3
      | succ i=>exact h5 i c r (by simpa using g1) (by simpa using g2)
    · rintro ⟨rfl,h,hr⟩
      cases bs with
      | nil=>simp at h
      | cons b bs=>exact ⟨_,_,[b],bs,rfl,rfl,row_iff.mpr ⟨b,rfl,rfl,hr 0 b l rfl rfl⟩,rows_iff.mpr ⟨rfl,by simpa using h,fun i c r g1 g2=>hr (i + 1) c r (by simpa using g1) (by simpa using g2)⟩⟩
theorem tab_iff {a:Addr} {bs:List Addr} {ll:List (List Int)}:Tab K F H a bs (tabT ll) ↔ TabO H a bs ll:=by
  constructor
  · intro t
    have:=t.ok
    unfold tabT at this
    simp only [TrOk] at this
    obtain ⟨a',vs,fs,h1,h2,h3,h4⟩:=this
    cases h1; cases h2
    obtain ⟨rfl,h5,h6⟩:=rows_iff.mp h4
    exact ⟨h3,h5,h6,t.nd⟩
  · intro t
    refine ⟨?_,t.nd⟩
    unfold tabT
    simp only [TrOk]
    exact ⟨a,_,bs,rfl,rfl,t.top,rows_iff.mpr ⟨rfl,t.len,t.row⟩⟩
def zmg:Tr→Option Int
  | .d (.int i)=>some i
  | _=>none
def zfK {α:Type} (f:Tr→Option α):List Tr→Option (List α)
  | []=>some []
  | t :: ts=>(f t).bind fun x=>(zfK f ts).bind fun r=>some (x :: r)
def zno:Tr→Option (List Int)
  | .l ts=>zfK zmg ts
  | _=>none
def zmh:Tr→Option (List (List Int))
  | .l ts=>zfK zno ts
  | _=>none
theorem zeG {α:Type} {f:Tr→Option α} {g:α→Tr} (h:∀ t x,f t=some x→t=g x):∀ {ts:List Tr} {l:List α},zfK f ts=some l→ts=l.map g
  | [],l,e=>by cases e; rfl
  | t :: ts,l,e=>by
    unfold zfK at e
    cases q:f t with
    | none=>rw [q] at e; cases e
    | some x =>
      rw [q] at e
      cases q2:zfK f ts with
      | none=>simp only [Option.bind] at e; rw [q2] at e; cases e
      | some r =>
        simp only [Option.bind] at e
        rw [q2] at e
        cases e
        rw [h t x q,zeG h q2]; rfl
theorem zfp {α:Type} {f:Tr→Option α} {g:α→Tr} (h:∀ x,f (g x)=some x):∀ (l:List α),zfK f (l.map g)=some l
  | []=>rfl
  | x :: l=>by
    show (f (g x)).bind _=_
    rw [h x]
    show (zfK f (l.map g)).bind _=_
    rw [zfp h l]; rfl
theorem zjR {t:Tr} {i:Int} (h:zmg t=some i):t = .d (.int i):=by
  unfold zmg at h
  split at h
  · cases h; rfl
  · cases h
theorem zj2 {t:Tr} {l:List Int} (h:zno t=some l):t=rowT l:=by
  unfold zno at h
  split at h
  · rw [zeG (fun _ _=>zjR) h]; rfl
  · cases h
theorem zj6 {t:Tr} {ll:List (List Int)} (h:zmh t=some ll):t=tabT ll:=by
  unfold zmh at h
  split at h
  · rw [zeG (fun _ _=>zj2) h]; rfl
  · cases h
@[simp] theorem zjJ (ll:List (List Int)):zmh (tabT ll)=some ll:=zfp (fun l=>zfp (f:=zmg) (fun _=>rfl) l) ll
theorem zgX:∀ (ts:List Tr),trDL ts=ts.map trD
  | []=>by simp only [trDL,List.map_nil]
  | t :: ts=>by simp only [trDL,List.map_cons,zgX ts]
@[simp] theorem zeg (ll:List (List Int)):trD (tabT ll)=tabD ll:=by
  unfold tabT tabD
  simp only [trD,zgX,List.map_map]
  congr 1
  apply List.map_congr_left
  intro l _
  show trD (rowT l)=iL l
  unfold rowT iL
  simp only [trD,zgX,List.map_map]
  rfl
def zn4:Sl→Sl
  | .o d=>.v d
  | .l d=>.v d
  | .p T=>.v (trD T)
  | s=>s
def peek (δ:En):En:=δ.map zn4
theorem znG (I:EnvOk K Λ F0 H0 F H σ δ):EnvOk K [] (zbL F H) H (zbL F H) H σ (peek δ):=by
  have pk:∀ i:Nat,(peek δ)[i]?=(δ[i]?).map zn4:=fun i=>by unfold peek; rw [List.getElem?_map]
  have no:∀ i:Nat,Sl.own (peek δ)[i]?=false:=fun i=>by
    rw [pk]
    cases q:δ[i]? with
    | none=>rfl
    | some s=>cases s <;> rfl
  refine ⟨.refl (zhb I.same),by rw [I.len]; simp [peek],fun i=>?_,fun i j a _ h1=>(by rw [no i] at h1; cases h1),fun x hx=>(by cases hx),fun i T h=>?_⟩
  · have z:=I.slot i
    rw [pk]
    cases q:δ[i]? with
    | none=>trivial
    | some s =>
      rw [q] at z
      cases s with
      | no=>trivial
      | v d=>obtain ⟨u,z1,z2⟩:=z; exact ⟨u,z1,Rep.mono zc8 d z2⟩
      | o d=>obtain ⟨a,z1,_,_,z4⟩:=z; exact ⟨_,z1,zhq I.same (.inr (.inl ⟨a,rfl,z4⟩))⟩
      | l d=>obtain ⟨a,z1,_,_,z4⟩:=z; exact ⟨_,z1,zhq I.same (.inr (.inl ⟨a,rfl,z4⟩))⟩
      | p T=>obtain ⟨a,bs,z1,z2,_⟩:=z; exact ⟨_,z1,zhg I.same T z2.ok⟩
  · have:=no i
    rw [h] at this; cases this
def zeD (m:En→R D) (δ:En):R D:=match m (peek δ) with | .ok d=>if zdQ d=true then .ok d else .no | _=>.no
theorem ziO (h:SE K XO E te me):SE K XO E te (zeD me):=by
  intro Λ F0 H0 F H σ δ Q I a
  refine h [] (zbL F H) H (zbL F H) H σ (peek δ) Q (znG I) ?_
  unfold zeD at a
  cases q:me (peek δ) with
  | no=>rw [q] at a; exact a
  | ex x=>rw [q] at a; exact a.elim
  | ok d =>
    rw [q] at a
    dsimp only at a
    split at a
    · rename_i hc
      intro F2 H2 e2 v rv
      exact a _ H2 (zgS e2) v (zht e2 d hc rv)
    · exact a.elim
variable (K XO E) in
def SEp (t:TE) (m:En→R (List (List Int))):Prop:=∀ Λ F0 H0 F H σ δ Q,EnvOk K Λ F0 H0 F H σ δ→Aft E XO σ F H (fun ll F' H'=>∀ a bs,TabO H' a bs ll→(∀ b ∈ a :: bs,F' b=none∧H b=none)→Q (.ref a) H') (m δ)→t σ H Q
def asIl:D→Option (List Int)
  | .lst l=>asIs l
  | _=>none
theorem zkl {d:D} {l:List Int} (h:asIl d=some l):d=iL l:=by
  cases d with
  | lst x=>rw [zd5 h]; rfl
  | _=>cases h
def zft (b:D→En→Option En) (me:En→R D) (δ:En) (d:D):R (List Int):=match b d δ with
  | none=>.no
  | some δ1=>(me δ1).nev.bind fun x=>R.of (asIl x)
def zb9 (f:D→R (List Int)):List D→R (List (List Int))
  | []=>.ok []
  | d :: l=>(f d).bind fun o=>(zb9 f l).bind fun r=>.ok (o :: r)
def zdN (mi:En→R (List D)) (ix:List Nat) (n:Nat) (b:D→En→Option En) (me:En→R D) (δ:En):R (List (List Int)) :=
  (mi δ).bind fun ds=>ifC (ds.length ≤ sizeLine) (zb9 (zft b me (zaQ δ ix n)) ds).nev .no
theorem zhO {f:D→R (List Int)} {d:D} {l:List D} {r:List (List Int)} (h:zb9 f (d :: l) = .ok r):∃ o r',f d = .ok o∧zb9 f l = .ok r'∧r=o :: r':=by
  unfold zb9 at h
  cases q:f d with
  | no=>rw [q] at h; cases h
  | ex x=>rw [q] at h; cases h
  | ok o =>
    rw [q] at h
    cases q2:zb9 f l with
    | no=>rw [R.bind_ok,q2] at h; cases h
    | ex x=>rw [R.bind_ok,q2] at h; cases h
    | ok r'=>rw [R.bind_ok,q2] at h; cases h; exact ⟨o,r',rfl,rfl,rfl⟩
theorem zeN {wi:TI} {mi:En→R (List D)} {ix:List Nat} {n:Nat} {g:TG} {b:D→En→Option En}
    (hi:SIc K XO E wi mi) (hix:ix.Nodup) (hg:SG K g b) (hw:BW b) (he:SEo K XO EN te me):SEp K XO E (zmb wi ix n g none te) (zdN mi ix n b me):=by
  intro Λ F0 H0 F H σ δ Q I a
  refine hi Λ F0 H0 F H σ δ _ I (a.bind.imp fun ds F1 H1 e1 a1 J hJ p hp=>?_)
  unfold ifC at a1
  split at a1
  case isFalse=>exact a1.elim
  rename_i hsz
  have I1:=I.grow e1
  obtain ⟨Λc,Ic,hown,hall⟩:=zik (n:=n) I1 hix
  cases qg':(zb9 (zft b me (zaQ δ ix n)) ds).nev with
  | no=>rw [qg'] at a1; exact a1.elim
  | ex x=>cases q2:zb9 (zft b me (zaQ δ ix n)) ds <;> (rw [q2] at qg'; cases qg')
  | ok l =>
  rw [qg'] at a1
  have qg:=nev_ok qg'
  have hlent:∀ x ∈ Λc,∃ d,(zaQ δ ix n)[x.1]?=some (.l d):=fun x hx=>(Ic.lent x hx).1
  have hpn:∀ x ∈ Λc,x.2.1 ≠ p:=fun x hx e=>by
    obtain ⟨o,ho⟩:=hall x hx
    rw [e,hp] at ho; cases ho
  have p0:H0 p=none:=I1.ext.hh.free hp
  have f1:F1 p=none:=e1.fh.free hp
  refine ⟨fun i k ys σ2 H2=>∃ F2 l1 l2 bs,EnvOk K Λc F0 H0 F2 H2 σ2 (zaQ δ ix n)∧Ext F1 H1 F2 H2∧ys=bs.map .ref∧TabO H2 p bs l1∧(∀ c ∈ p :: bs,F2 c=none∧H1 c=none)∧zb9 (zft b me (zaQ δ ix n)) (ds.drop i) = .ok l2∧l=l1 ++ l2∧k=ds.length - i∧i ≤ ds.length∧ys.length ≤ i,
    ⟨_,F1,[],l,[],?_,.newO e1.fh hp,rfl,⟨zaG,rfl,fun i c r h=>by simp at h,by simp⟩,fun c hc=>?_,qg,rfl,rfl,Nat.zero_le _,Nat.le_refl _⟩,?_⟩
  · exact Ic.grow (.newO e1.fh hp)
  · rw [List.mem_singleton.mp hc]; exact ⟨f1,hp⟩
  rintro i k ys σ2 H2 ⟨F2,l1,l2,bs,I2,x2,rfl,tb,hfr,qd,rfl,rfl,hil,hys⟩
  refine ⟨tb.top,?_⟩
  by_cases hlt:i < ds.length
  · have e:ds.drop i=ds[i] :: ds.drop (i + 1):=List.drop_eq_getElem_cons hlt
    rw [e] at qd
    obtain ⟨row,l3,q1,q3,rfl⟩:=zhO qd
    obtain ⟨h1,h2⟩:=(hJ F2 H2 x2 i).1 ds[i] (by simp [hlt])
    refine .inr ⟨h1,fun ys' σ' H'=>∃ F' bs',EnvOk K Λc F0 H0 F' H' σ' (zaQ δ ix n)∧Ext F1 H1 F' H'∧ys'=bs'.map .ref∧TabO H' p bs' (l1 ++ [row])∧(∀ c ∈ p :: bs',F' c=none∧H1 c=none)∧ys'.length ≤ i + 1,
      fun ys' σ' H' ⟨F',bs',w1,w2,w3,w4,w5,w6⟩=>⟨_,by omega,F',l1 ++ [row],l3,bs',w1,w2,w3,w4,w5,q3,by simp,rfl,hlt,w6⟩,fun x H' y=>?_⟩
    obtain ⟨F3,e3,rx⟩:=h2 x H' y
    unfold zft at q1
    cases qb:b ds[i] (zaQ δ ix n) with
    | none=>rw [qb] at q1; cases q1
    | some δ1 =>
      rw [qb] at q1
      dsimp only at q1
      have hwk:=hw _ _ _ qb
      refine hg Λc F0 H0 F3 H' σ2 _ _ x δ1 _ (I2.grow e3) rx qb fun σ3 I3=>?_
      unfold zkF
      simp only [if_true]
      cases qm:me δ1 with
      | no=>rw [qm] at q1; cases q1
      | ex x=>rw [qm] at q1; cases q1
      | ok d =>
        rw [qm] at q1
        simp only [R.nev_ok,R.bind_ok] at q1
        have ed:d=iL row:=by
          cases qa:asIl d with
          | none=>rw [qa] at q1; cases q1
          | some r=>rw [qa] at q1; cases q1; exact zkl qa
        subst ed
        refine he Λc F0 H0 F3 H' σ3 δ1 _ I3 ?_
        rw [qm]
        intro F5 H5 e5 c c0 c1 co
        have z:=e3.trans e5
        obtain ⟨vs,cv,cr⟩:=co
        have ex:=zdq cr
        subst ex
        have tb5:=tb.mono z.hh
        have z2:F5 p=none:=z.nw p _ (hfr p (by simp)).1 tb.top
        have cH2:H2 c=none:=e3.hh.free c1
        have cne:∀ q ∈ p :: bs,q ≠ c:=fun q hq ee=>by
          obtain ⟨o,ho⟩:=tb.obj q hq
          rw [ee,cH2] at ho; cases ho
        refine ⟨tb5.top,?_,F5,bs ++ [c],((I3.grow e5).weakL hwk hlent).side hown hpn p0 z2,?_,by simp,⟨?_,by simp [tb.len],fun j q r g1 g2=>?_,?_⟩,fun q hq=>?_,by simpa using hys⟩
        · simp at hys ⊢; omega
        · have w:=x2.trans z
          exact ⟨w.ff,fun c o q=>by rw [zar (zaw q hp)]; exact w.hh c o q,fun c o q=>by rw [zar (zaw q z2)]; exact w.fh c o q,w.nw⟩
        · rw [zaG]; simp
        · have qp:q ≠ p:=fun ee=>by
            have hm:=List.mem_of_getElem? g1
            rw [ee] at hm
            rcases List.mem_append.mp hm with w | w
            · exact (List.nodup_cons.mp tb.nd).1 w
            · exact cne p (by simp) (List.mem_singleton.mp w)
          rw [zar qp]
          by_cases hj:j < bs.length
          · rw [List.getElem?_append_left hj] at g1
            rw [List.getElem?_append_left (by rw [← tb.len]; exact hj)] at g2
            exact tb5.row j q r g1 g2
          · rw [List.getElem?_append_right (by omega)] at g1
            rw [List.getElem?_append_right (by rw [← tb.len]; omega),← tb.len] at g2
            have j0:j - bs.length=0:=by
              have:=(List.getElem?_eq_some_iff.mp g1).1
              simp at this; omega
            rw [j0] at g1 g2
            simp at g1 g2
            subst g1 g2
            exact cv
        · have nd:=tb.nd
          rw [← List.cons_append,List.nodup_append]
          exact ⟨nd,by simp,fun q hq r hr ee=>cne q hq (by rw [ee]; exact List.mem_singleton.mp hr)⟩
        · rw [← List.cons_append] at hq
          rcases List.mem_append.mp hq with w | w
          · obtain ⟨o,ho⟩:=tb.obj q w
            exact ⟨z.nw q o (hfr q w).1 ho,(hfr q w).2⟩
          · rw [List.mem_singleton.mp w]
            exact ⟨c0,x2.hh.free cH2⟩
  · have e:i=ds.length:=by omega
    subst e
    rw [List.drop_length] at qd
    cases qd
    refine .inl ⟨(hJ F2 H2 x2 _).2 (by simp),a1 F2 H2 x2 p bs (by rw [List.append_nil]; exact tb) fun c hc=>⟨(hfr c hc).1,e1.hh.free (hfr c hc).2⟩⟩
def zij (i:Nat) (δ:En):Bool:=(List.range δ.length).all fun j=>j == i || match δ[j]? with | some (.p _)=>false | _=>true
theorem zjt {i:Nat} (h:zij i δ=true) (j:Nat) (T:Tr) (hj:δ[j]?=some (.p T)):j=i:=by
  have:=List.all_eq_true.mp h j (List.mem_range.mpr (List.getElem?_eq_some_iff.mp hj).1)
  rw [hj] at this
  simpa using this
theorem EnvOk.putP {i:Nat} {T:Tr} {a:Addr} {bs:List Addr} (I:EnvOk K Λ F0 H0 F H σ δ) (hl:∃ x,δ[i]?=some x∧∀ d,x ≠ .l d) (hn:∀ (j:Nat) (T':Tr),δ[j]?=some (.p T')→j=i) (e:Ext F H F' H') (t:Tab K F' H' a bs T) (h0:∀ b ∈ a :: bs,F' b=none∧H b=none) :
    EnvOk K Λ F0 H0 F' H' (σ.set i (some (.ref a))) (δ.set i (.p T)):=by
  obtain ⟨x,hx,hnl⟩:=hl
  have hi:i < δ.length:=(List.getElem?_eq_some_iff.mp hx).1
  have hi':i < σ.length:=by rw [I.len]; exact hi
  have fresh:∀ (k:Nat) (b:Addr),k ≠ i→Sl.own δ[k]?=true→σ[k]?=some (some (.ref b))→b ∉ a :: bs:=fun k b hki hk hs hb=>by
    have z:=I.slot k
    have hn':=(h0 b hb).2
    cases q:δ[k]? with
    | none=>rw [q] at hk; cases hk
    | some y =>
      rw [q] at hk z
      cases y with
      | no=>cases hk
      | v d=>cases hk
      | o d=>obtain ⟨c,z1,_,_,z4⟩:=z; rw [hs] at z1; cases z1; obtain ⟨u,hu⟩:=z4.obj; rw [hn'] at hu; cases hu
      | l d=>obtain ⟨c,z1,_,_,z4⟩:=z; rw [hs] at z1; cases z1; obtain ⟨u,hu⟩:=z4.obj; rw [hn'] at hu; cases hu
      | p l2=>exact hki (hn k l2 q)
  have J:=I.grow e
  have f3:∀ b ∈ a :: bs,H0 b=none∧F' b=none:=fun b hb=>⟨I.ext.hh.free (h0 b hb).2,(h0 b hb).1⟩
  refine ⟨J.ext,by simp [I.len],fun j=>?_,fun j k b hjk g1 g2 g3 g4=>?_,fun y hy=>?_,fun j l2 g1=>?_⟩
  · by_cases ee:i=j
    · subst ee
      rw [List.getElem?_set_self hi,List.getElem?_set_self hi']
      exact ⟨a,bs,rfl,t,f3⟩
    · rw [List.getElem?_set_ne ee,List.getElem?_set_ne ee]
      exact J.slot j
  · by_cases e1:i=j
    · subst e1
      rw [List.getElem?_set_self hi'] at g3; cases g3
      rw [List.getElem?_set_ne hjk] at g2 g4
      exact fresh k a (Ne.symm hjk) g2 g4 (by simp)
    · by_cases e2:i=k
      · subst e2
        rw [List.getElem?_set_self hi'] at g4; cases g4
        rw [List.getElem?_set_ne e1] at g1 g3
        exact fresh j a (Ne.symm e1) g1 g3 (by simp)
      · rw [List.getElem?_set_ne e1] at g1 g3
        rw [List.getElem?_set_ne e2] at g2 g4
        exact I.dist j k b hjk g1 g2 g3 g4
  · obtain ⟨⟨d',g1⟩,g2,g3⟩:=J.lent y hy
    have ne:i ≠ y.1:=by
      intro ee
      rw [← ee,hx] at g1
      exact hnl d' (Option.some.inj g1)
    exact ⟨⟨d',by rw [List.getElem?_set_ne ne]; exact g1⟩,by rw [List.getElem?_set_ne ne]; exact g2,g3⟩
  · have ji:j=i:=by
      by_cases ee:i=j
      · exact ee.symm
      · rw [List.getElem?_set_ne ee] at g1; exact hn j l2 g1
    subst ji
    rw [List.getElem?_set_self hi] at g1; cases g1
    refine ⟨a,bs,List.getElem?_set_self hi',t,f3,fun k b hk ho hs hb=>?_,fun k l3 hk=>?_⟩
    · rw [List.getElem?_set_ne (Ne.symm hk)] at ho hs
      exact fresh k b hk ho hs hb
    · by_cases ee:j=k
      · exact ee.symm
      · rw [List.getElem?_set_ne ee] at hk; exact hn k l3 hk
def ziz (me:En→R (List (List Int))) (i:Nat) (δ:En):O:=(me δ).toO δ fun ll=>match δ[i]? with
  | none=>.no
  | some (.l _)=>.no
  | some _=>if zij i δ=true then .nx (δ.set i (.p (tabT ll))) else .no
theorem zlE {i:Nat} {mp:En→R (List (List Int))} (h:SEp K XO E te mp):SS K XO E (tAsg te (zfN i)) (ziz mp i):=by
  intro Λ F0 H0 F H σ δ Dn I a
  refine h Λ F0 H0 F H σ δ _ I ((AftS.of I a).imp fun ll F1 H1 e c p bs t h0=>?_)
  cases q:δ[i]? with
  | none=>simp only [q] at c; exact c.elim
  | some x =>
    simp only [q] at c
    cases x with
    | l d=>exact c.elim
    | no | v d | o d | p l2 =>
      dsimp only at c
      split at c
      · rename_i hn
        exact c _ F1 H1 (I.putP ⟨_,q,fun d z=>by cases z⟩ (zjt hn) e (tab_iff.mpr t) h0)
      · exact c.elim
structure TabAt (K:Kx) (H0 F H:Hp) (σ:St) (δ:En) (i:Nat) (a:Addr) (bs:List Addr) (T:Tr):Prop where
  is:δ[i]?=some (.p T)
  at':σ[i]?=some (some (.ref a))
  tab:Tab K F H a bs T
  free:∀ b ∈ a :: bs,H0 b=none∧F b=none
  dist:∀ (j:Nat) (b:Addr),j ≠ i→Sl.own δ[j]?=true→σ[j]?=some (some (.ref b))→b ∉ a :: bs
  one:∀ (j:Nat) (T':Tr),δ[j]?=some (.p T')→j=i
theorem EnvOk.tabAt (I:EnvOk K Λ F0 H0 F H σ δ) {i:Nat} {T:Tr} (hx:δ[i]?=some (.p T)):∃ a bs,TabAt K H0 F H σ δ i a bs T:=by
  obtain ⟨a,bs,s1,s2,s3,s4,s5⟩:=I.tab hx
  exact ⟨a,bs,hx,s1,s2,s3,s4,s5⟩
theorem TabAt.grow {i:Nat} {a:Addr} {bs:List Addr} {T:Tr} (t:TabAt K H0 F H σ δ i a bs T) (e:Ext F H F' H'):TabAt K H0 F' H' σ δ i a bs T :=
  ⟨t.is,t.at',t.tab.mono e.ff e.hh,fun b hb=>let ⟨o,ho⟩:=t.tab.obj b hb; ⟨(t.free b hb).1,e.nw b o (t.free b hb).2 ho⟩,t.dist,t.one⟩
theorem EnvOk.chgT {i:Nat} {T T':Tr} {a b:Addr} {bs bs':List Addr} {u:HO} (I:EnvOk K Λ F0 H0 F H σ δ) (t:TabAt K H0 F H σ δ i a bs T) (hb:b ∈ a :: bs) (t':Tab K F (upd H b u) a bs' T') (sub:∀ c ∈ bs',c ∈ bs) :
    EnvOk K Λ F0 H0 F (upd H b u) σ (δ.set i (.p T')):=by
  have hx:=t.is
  have hi:i < δ.length:=(List.getElem?_eq_some_iff.mp hx).1
  have fb:=t.free b hb
  have sub':∀ c ∈ a :: bs',c ∈ a :: bs:=fun c hc=>by
    rcases List.mem_cons.mp hc with rfl | hc
    · simp
    · exact List.mem_cons_of_mem _ (sub c hc)
  have oth:∀ (j:Nat) (c:Addr),i ≠ j→Sl.own δ[j]?=true→σ[j]?=some (some (.ref c))→c ≠ b:=fun j c hj ho hs ee=>t.dist j c (Ne.symm hj) ho hs (by rw [ee]; exact hb)
  have ow:∀ k2:Nat,Sl.own (δ.set i (.p T'))[k2]?=true→Sl.own δ[k2]?=true:=by
    intro k2 h
    by_cases ee:i=k2
    · subst ee; rw [hx]; rfl
    · rw [List.getElem?_set_ne ee] at h; exact h
  refine ⟨⟨I.ext.ff,fun c w q=>?_,fun c w q=>?_,I.ext.nw⟩,by simp [I.len],fun j=>?_,fun j k2 c hjk g1 g2 g3 g4=>?_,fun y hy=>?_,fun j l2 g1=>?_⟩
  · rw [zar (zaw q fb.1)]; exact I.ext.hh c w q
  · rw [zar (zaw q fb.2)]; exact I.ext.fh c w q
  · by_cases ee:i=j
    · subst ee
      rw [List.getElem?_set_self hi]
      exact ⟨a,bs',t.at',t',fun c hc=>t.free c (sub' c hc)⟩
    · rw [List.getElem?_set_ne ee]
      have w:=I.slot j
      cases q:δ[j]? with
      | none=>trivial
      | some y =>
        rw [q] at w
        cases y with
        | no=>trivial
        | v d=>exact w
        | o d=>obtain ⟨c,w1,w2,w3,w4⟩:=w; exact ⟨c,w1,w2,w3,w4.at (zar (oth j c ee (by rw [q]; rfl) w1))⟩
        | l d=>obtain ⟨c,w1,w2,w3,w4⟩:=w; exact ⟨c,w1,w2,w3,w4.at (zar (oth j c ee (by rw [q]; rfl) w1))⟩
        | p l2=>exact absurd (t.one j l2 q).symm ee
  · exact I.dist j k2 c hjk (ow j g1) (ow k2 g2) g3 g4
  · obtain ⟨⟨d2,g1⟩,g2,g3⟩:=I.lent y hy
    have ne:i ≠ y.1:=by
      intro ee
      rw [← ee,hx] at g1
      cases g1
    exact ⟨⟨d2,by rw [List.getElem?_set_ne ne]; exact g1⟩,g2,by rw [zar (oth y.1 y.2.1 ne (by rw [g1]; rfl) g2)]; exact g3⟩
  · have ji:j=i:=by
      by_cases ee:i=j
      · exact ee.symm
      · rw [List.getElem?_set_ne ee] at g1; exact t.one j l2 g1
    subst ji
    rw [List.getElem?_set_self hi] at g1; cases g1
    refine ⟨a,bs',t.at',t',fun c hc=>t.free c (sub' c hc),fun k2 c hk ho hs hc=>?_,fun k2 l3 hk=>?_⟩
    · exact t.dist k2 c hk (ow k2 ho) hs (sub' c hc)
    · by_cases ee:j=k2
      · exact ee.symm
      · rw [List.getElem?_set_ne ee] at hk; exact t.one k2 l3 hk
theorem EnvOk.chgP {i k:Nat} {ll:List (List Int)} {row:List Int} {a b:Addr} {bs:List Addr} (I:EnvOk K Λ F0 H0 F H σ δ) (t:TabAt K H0 F H σ δ i a bs (tabT ll)) (hb:bs[k]?=some b) :
    EnvOk K Λ F0 H0 F (upd H b (.lst (row.map .int))) σ (δ.set i (.p (tabT (ll.set k row)))):=by
  have tb:=tab_iff.mp t.tab
  have bm:b ∈ bs:=List.mem_of_getElem? hb
  have kl:k < bs.length:=(List.getElem?_eq_some_iff.mp hb).1
  have nd:=List.nodup_cons.mp tb.nd
  refine I.chgT t (List.mem_cons_of_mem _ bm) (tab_iff.mpr ⟨?_,by simp [tb.len],fun j c r h1 h2=>?_,tb.nd⟩) fun c hc=>hc
  · rw [zar (show a ≠ b from fun z=>nd.1 (z ▸ bm))]; exact tb.top
  · by_cases ej:k=j
    · subst ej
      rw [hb] at h1; cases h1
      rw [List.getElem?_set_self (by rw [← tb.len]; exact kl)] at h2; cases h2
      exact zaG
    · rw [List.getElem?_set_ne ej] at h2
      rw [zar (fun z=>ej ((List.getElem?_inj kl nd.2).mp (by rw [hb,h1,z])))]
      exact tb.row j c r h1 h2
def tabOf:Option Sl→Option (List (List Int))
  | some (.p T)=>zmh T
  | _=>none
theorem zkf {x:Option Sl} {ll:List (List Int)} (h:tabOf x=some ll):x=some (.p (tabT ll)):=by
  unfold tabOf at h
  split at h
  · rw [zj6 h]
  · cases h
@[simp] theorem zoU (ll:List (List Int)):tabOf (some (.p (tabT ll)))=some ll:=zjJ ll
def ze9 (i:Nat) (mk mj me:En→R D) (δ:En):O:=match tabOf δ[i]? with
  | some ll=>(me δ).toO δ fun v=>(mk δ).toO δ fun k=>match v,k with
    | .int v,.int k=>(match ixN ll.length k with
      | some k'=>(match ll[k']? with
        | some row=>(mj δ).toO δ fun j=>(match j with
          | .int j=>(match ixN row.length j with | some j'=>.nx (δ.set i (.p (tabT (ll.set k' (row.set j' v))))) | none=>.no)
          | _=>.no)
        | none=>.no)
      | none=>.no)
    | _,_=>.no
  | none=>.no
theorem zfT {i:Nat} {tk tj:TE} {mk mj:En→R D} (h1:SE K XO E tk mk) (h2:SE K XO E tj mj) (h:SE K XO E te me):SS K XO E (tAsg te (gSub (tOp (rIxL K.f) (tVar i) tk) tj zoM)) (ze9 i mk mj me):=by
  intro Λ F0 H0 F H σ δ Dn I a
  unfold ze9 at a
  split at a
  · rename_i ll q'
    have q:=zkf q'
    obtain ⟨p,bs,ta⟩:=I.tabAt q
    have s1:=ta.at'
    have s2:=tab_iff.mp ta.tab
    refine h Λ F0 H0 F H σ δ _ I ((AftS.of I a).imp fun v F1 H1 e c x rx=>⟨_,s1,?_⟩)
    refine h1 Λ F0 H0 F1 H1 σ δ _ (I.grow e) ((AftS.of (I.grow e) c).imp fun k F2 H2 e2 c2 y ry=>?_)
    have I2:=(I.grow e).grow e2
    have tt:=(s2.mono e.hh).mono e2.hh
    split at c2
    · rename_i v k
      simp only [Rep] at ry rx
      subst ry rx
      cases z:ixN ll.length k with
      | none=>rw [z] at c2; exact c2.elim
      | some k' =>
        rw [z] at c2
        dsimp only at c2
        cases z2:ll[k']? with
        | none=>rw [z2] at c2; exact c2.elim
        | some row =>
          rw [z2] at c2
          dsimp only at c2
          have kl:k' < bs.length:=by rw [s2.len]; exact (List.getElem?_eq_some_iff.mp z2).1
          have gb:bs[k']?=some bs[k']:=List.getElem?_eq_getElem kl
          refine ⟨p,bs.map .ref,k,.ref bs[k'],rfl,rfl,.inl (.inl tt.top),?_,?_⟩
          · unfold atI
            rw [List.length_map,s2.len,z]
            show (bs.map V.ref)[k']?=_
            rw [List.getElem?_map,gb]; rfl
          · refine h2 Λ F0 H0 F2 H2 σ δ _ I2 ((AftS.of I2 c2).imp fun j F3 H3 e3 c3 u ru=>?_)
            have I3:=I2.grow e3
            have t3:=tt.mono e3.hh
            split at c3
            · rename_i j
              simp only [Rep] at ru
              subst ru
              cases z3:ixN row.length j with
              | none=>rw [z3] at c3; exact c3.elim
              | some j' =>
                rw [z3] at c3
                dsimp only at c3
                refine ⟨bs[k'],row.map .int,j,j',rfl,rfl,t3.row k' _ row gb z2,by rw [List.length_map]; exact z3,?_⟩
                rw [← List.map_set]
                exact c3 σ F3 _ (I3.chgP (((ta.grow e).grow e2).grow e3) gb)
            · exact c3.elim
    · exact c2.elim
  · exact a.elim
def zmD (i:Nat) (δ:En):O:=match δ[i]? with | some (.p T)=>.ro (trD T) | _=>.no
open Classical in
def zdf (F H:Hp) (bs:List Addr):Hp:=fun b=>if b ∈ bs then H b else F b
mutual
theorem zki {F1:Hp} (s:Same F F1):∀ (T:Tr) {v:V} {fp:List Addr},TrOk K F H T v fp→(∀ b ∈ fp,F1 b=H b)→Rep K F1 (trD T) v
  | .d x,v,fp,h,_=>by
    simp only [TrOk] at h
    simp only [trD]
    exact Rep.mono s x h.2
  | .l ts,v,fp,h,e=>by
    simp only [TrOk] at h
    obtain ⟨a,vs,fs,rfl,h2,h3,h4⟩:=h
    subst h2
    simp only [trD,Rep]
    exact ⟨a,vs,rfl,.inl ((e a (by simp)).trans h3),zfQ s ts h4 fun b hb=>e b (List.mem_cons_of_mem _ hb)⟩
  | .t ts,v,fp,h,e=>by
    simp only [TrOk] at h
    obtain ⟨a,vs,rfl,h3,h4⟩:=h
    simp only [trD,Rep]
    exact ⟨a,vs,rfl,s _ _ h3,zfQ s ts h4 e⟩
theorem zfQ {F1:Hp} (s:Same F F1):∀ (ts:List Tr) {vs:List V} {fp:List Addr},TrOkL K F H ts vs fp→(∀ b ∈ fp,F1 b=H b)→RepL K F1 (trDL ts) vs
  | [],vs,fp,h,_=>by
    simp only [TrOkL] at h
    rw [h.1]
    simp only [trDL]
    exact .nil
  | t :: ts,vs,fp,h,e=>by
    simp only [TrOkL] at h
    obtain ⟨v,r,f1,f2,rfl,h2,h3,h4⟩:=h
    subst h2
    simp only [trDL]
    exact .cons (zki s t h3 fun b hb=>e b (List.mem_append_left _ hb)) (zfQ s ts h4 fun b hb=>e b (List.mem_append_right _ hb))
end
theorem znm {i:Nat}:SS K XO E (tRet (tVar i)) (zmD i):=by
  intro Λ F0 H0 F H σ δ Dn I a
  unfold zmD at a
  split at a
  · rename_i T q
    obtain ⟨p,bs,s1,s2,s3,_⟩:=I.tab q
    have nd:=List.nodup_cons.mp s2.nd
    have ff:Same F (zdf F H bs):=fun b o h=>by
      unfold zdf
      rw [if_neg fun z=>by rw [(s3 b (List.mem_cons_of_mem _ z)).2] at h; cases h]
      exact h
    have fh:Same (zdf F H bs) H:=fun b o h=>by
      unfold zdf at h
      split at h
      · exact h
      · exact I.same b o h
    have fp:zdf F H bs p=none:=by
      unfold zdf
      rw [if_neg nd.1]
      exact (s3 p (by simp)).2
    refine ⟨_,s1,a p (zdf F H bs) H ⟨I.ext.ff.trans ff,I.ext.hh,fh,fun b o h1 h2=>?_⟩ fp (s3 p (by simp)).1 ?_⟩
    · unfold zdf
      rw [if_neg fun z=>by rw [(s3 b (List.mem_cons_of_mem _ z)).1] at h2; cases h2]
      exact I.ext.nw b o h1 h2
    · have ok:=s2.ok
      have hb:∀ b ∈ bs,zdf F H bs b=H b:=fun b hb=>by unfold zdf; rw [if_pos hb]
      cases T with
      | d x=>simp only [TrOk] at ok; cases ok.1
      | t ts =>
        simp only [TrOk] at ok
        obtain ⟨a',vs,h1,h2,_⟩:=ok
        cases h1
        rw [(s3 p (by simp)).2] at h2; cases h2
      | l ts =>
        simp only [TrOk] at ok
        obtain ⟨a',vs,fs,h1,h2,h3,h4⟩:=ok
        cases h1; cases h2
        simp only [trD]
        exact ⟨vs,h3,zfQ ff ts h4 hb⟩
  · exact a.elim
end
end PM
namespace L2
open PySem PySem.Spec PyProof.Rows
section
variable {X:Cx} {x:Str} {np hpos pos:Pos} {body:List Stmt} {b₀:Stmt} {suite:List Stmt} {D':Addr} {tb:(St→XK)→TS} {th:TS}
end
end L2
namespace PM
open PySem L2
section
variable {K:Kx} {E:L2.St→XK}
end
end PM
namespace PM
end PM
namespace L2
open PySem PySem.Spec PyProof.Rows
section
variable {prog:Program} {w:World} {A:Around} {E:Value→Shared→Prop} {s:Shared}
end
section
variable {prog:Program} {w:World} {A:Around} {R:Result→Shared→Prop} {I S:Addr} {fp wr:List Addr} {n:Nat} {P:Nat→Value→Prop} {St:Nat→Heap→Prop} {bt:Nat→Nat→Bool}
end
section
variable {prog:Program} {w:World} {A:Around} {E:Value→Shared→Prop} {s:Shared}
end
section
variable {X:Cx}
end
end L2
namespace PM
open PySem L2
section
variable {K:Kx}
end
end PM
namespace L2
open PySem PySem.Spec PyProof.Rows
section
variable {X:Cx}
def zn7 (ta:TA):TE:=fun σ H Q=>ta σ H fun vs H1=>∃ i j:Int,vs = [.int i,.int j]∧∀ r,H1 r=none→Q (.ref r) (upd H1 r (.rng i j))
theorem zkY {a b:Expr} {ta:TA} {p pos:Pos} (hg:Gl X "range") (hm:X.mg "range"=none) (ha:PA X [a,b] ta) (hs:starEach [a,b] X.env = [(false,eval a X.env),(false,eval b X.env)]:=by rfl) (hs2:starEach [b] X.env = [(false,eval b X.env)]:=by rfl):PE X (.Call (.Name "range" p) [a,b] [] pos) (zn7 ta):=by
  intro pins s σ H Q I h
  refine Call_ (zfE I hg hm boot_range (PyProof.Rows.callWith_type1 (thn (ha pos pins s σ H _ I h) fun us s1 ⟨vs,H1,I1,r1,q1⟩=>?_) (by rw [hs,hs2]) (by rw [hs2]; rfl)))
  obtain ⟨i,j,e,q⟩:=q1
  subst e
  obtain ⟨u,w',rfl,⟨t,rfl⟩,⟨t',rfl⟩⟩:=zmr r1
  refine call_range_2 ⟨.ref s1.heap.objs.size,_,?_,rfl,q _ (I1.hok.fresh (Nat.le_refl _))⟩
  exact I1.laid (fun b o e=>Heap.get?_push_of_some _ e) (Nat.le_refl _) ⟨_,_,_,Heap.get?_push_size _ rfl⟩
def zk2:List V→Hp→VK→Prop:=fun xs H Q=>∃ (r:Addr) (i j:Int),xs = [.ref r]∧H r=some (.rng i j)∧(0 ≤ i∧i ≤ j∧j ≤ 100000)∧∀ l,H l=none→Q (.ref l) (upd H l (.lst ((List.range (j - i).toNat).map fun k:Nat=>.int (i + (k:Int)))))
theorem zgd (hc:X.calm=true):zgb X (.type "list") zk2:=by
  intro pins s σ H xs us Q I r h
  obtain ⟨ra,i,j,rfl,hr,hj,q⟩:=h
  obtain ⟨u,rfl,rx⟩:=zhX r
  cases rx
  obtain ⟨t1,t2,t3,e⟩:=I.hok ra _ hr
  have sz:Builtin.Range.rangeSize i j 1=((j - i).toNat:Int):=by rw [rangeSize_one]; split <;> omega
  refine call_list_range (I.ok.hd hc) e (small_one (by omega) (by omega) (by omega) (by omega)) sz (by omega) fun h' tk acc c' kp hl items=>?_
  refine ⟨.ref s.heap.objs.size,_,?_,rfl,q _ (I.hok.fresh (Nat.le_refl _))⟩
  obtain ⟨i1,i2⟩:=items
  refine I.laid kp (Nat.le_refl _) ⟨(by rw [List.length_map,List.length_range]; exact Nat.le_trans (show (j - i).toNat ≤ 100000 by omega) (show 100000 ≤ sizeLine by decide)),acc.toList,c',?_,by simpa using hl⟩
  have key:∀ (n:Nat) (l:List Value) (o:Nat),l.length=n→(∀ k v,l[k]?=some v→∃ t,v=Value.int (i + ((o + k:Nat):Int)) t)→Vals ((List.range' o n).map fun k:Nat=>V.int (i + (k:Int))) l:=by
    intro n
    induction n with
    | zero=>intro l o h1 _; rw [List.length_eq_zero_iff.mp h1]; exact .nil
    | succ n ih =>
      intro l o h1 h2
      cases l with
      | nil=>simp at h1
      | cons v l =>
        obtain ⟨t,rfl⟩:=h2 0 v rfl
        refine .cons ⟨t,rfl⟩ (ih l (o + 1) (by simpa using h1) fun k v hk=>?_)
        obtain ⟨t',e'⟩:=h2 (k + 1) v (by simpa using hk)
        exact ⟨t',by rw [e']; congr 3; try omega⟩
  have:=key (j - i).toNat acc.toList 0 (by simpa using i1) fun k v hk=>by
    obtain ⟨t,e'⟩:=i2 k v (by simpa using hk)
    exact ⟨t,by rw [e']; congr 1; first | done | simp⟩
  rw [List.range_eq_range']
  exact this
end
end L2
namespace PM
open PySem L2
section
variable {K:Kx} {XO:XOT} {E:L2.St→XK}
def zh8 (l:List D):Option D:=match l with
  | [.int i,.int j]=>ifC (0 ≤ i∧i ≤ j∧j ≤ 100000) (some (.lst ((List.range (j - i).toNat).map fun k:Nat=>.int (i + (k:Int))))) none
  | _=>none
def zfJ (ml:En→R (List D)) (δ:En):R D:=(ml δ).bind fun l=>R.of (zh8 l)
theorem zjC {l:List D} {d:D} (h:zh8 l=some d):∃ i j:Int,l = [.int i,.int j]∧(0 ≤ i∧i ≤ j∧j ≤ 100000)∧d = .lst ((List.range (j - i).toNat).map fun k:Nat=>.int (i + (k:Int))):=by
  unfold zh8 at h
  split at h
  · rename_i i j
    unfold ifC at h
    split at h
    · cases h; exact ⟨i,j,rfl,by assumption,rfl⟩
    · cases h
  · cases h
theorem zgy {tl:TA} {ml:En→R (List D)} (h:SA K XO E tl ml):SEo K XO E (tCB zk2 (zc4 (zn7 tl) tNil)) (zfJ ml):=by
  intro Λ F0 H0 F H σ δ Q I a
  refine h Λ F0 H0 F H σ δ _ I (a.bind.imp fun ds F1 H1 e1 a1 vs r=>?_)
  cases q:zh8 ds with
  | none=>rw [q] at a1; exact a1.elim
  | some d =>
    rw [q] at a1
    obtain ⟨i,j,rfl,hj,rfl⟩:=zjC q
    obtain ⟨v,r',rfl,rv,r2⟩:=r
    obtain ⟨v2,rfl,rv2⟩:=RepL.one r2
    simp only [Rep] at rv rv2
    subst rv rv2
    refine ⟨i,j,rfl,fun ra hra=>⟨ra,i,j,rfl,zaG,hj,fun l hl=>?_⟩⟩
    have x1:Ext F1 H1 F1 (upd H1 ra (.rng i j)):=.newO e1.fh hra
    have x2:=x1.trans (.newO (o:=.lst ((List.range (j - i).toNat).map fun k:Nat=>V.int (i + (k:Int)))) x1.fh hl)
    have hl1:H1 l=none:=x1.hh.free hl
    refine a1 F1 _ x2 l (e1.fh.free hl1) (e1.hh.free hl1) ⟨_,zaG,?_⟩
    have:=RepL.ints (K:=K) (F:=F1) (ns:=(List.range (j - i).toNat).map fun k:Nat=>i + (k:Int))
    rw [List.map_map,List.map_map] at this
    exact this
end
end PM
namespace L2
open PySem PySem.Spec PyProof.Rows
section
variable {X:Cx} {a b c:Expr} {ta tb tc:TE} {pos:Pos}
end
end L2
namespace PM
open PySem L2
section
variable {K:Kx} {XO:XOT} {E:L2.St→XK} {ta tb tc:TE} {ma mb mc:En→R D}
end
end PM
namespace L2
open PySem PySem.Spec PyProof.Rows
section
variable {X:Cx} {e st:Expr} {te ts:TE} {p2 pos:Pos}
end
end L2
namespace PM
open PySem L2
section
variable {K:Kx} {XO:XOT} {E:L2.St→XK} {te ts:TE} {me ms:En→R D}
end
end PM
namespace L2
open PySem PySem.Spec PyProof.Rows
section
variable {prog:Program} {w:World} {A:Around} {E:Value→Shared→Prop} {s:Shared}
end
section
variable {prog:Program} {w:World} {A:Around} {E:Value→Shared→Prop} {s:Shared}
end
section
variable {X:Cx} {l:Expr} {tl:TE}
end
end L2
namespace PM
open PySem L2
section
variable {K:Kx} {XO:XOT} {E:L2.St→XK} {te:TE} {me:En→R D}
end
end PM
namespace L2
open PySem PySem.Spec PyProof.Rows Builtin Builtin.ObjectAttr
section
variable {prog:Program} {w:World} {A:Around} {E:Value→Shared→Prop} {s:Shared} {K:PySem.W.Frag} {x C:Addr} {ox:Obj} {od:Option Obj} {name:Str} {tk:Tok} {v:Value} {R:Result→Shared→Prop}
end
section
variable {X:Cx} {o e value:Expr} {f:Str} {pos pos' tpos:Pos} {ta tv:TE}
end
section
variable {M:Model} {A:Around} {E:Value→Shared→Prop} {s:Shared} {B:Heap} {env:Env} {outer l:List Env} {L e:Addr} {Q:Unit→Shared→Prop}
end
section
variable {P:Program} {w:World} {K:PySem.W.Frag} {mg:Str→Option Value} {base:Heap} {N:List Str} {qual:Str} {scope:Scope} {f:Addr} {cd:Value} {A:Around} {outer:List Env} {s0:Shared} {H0:Hp} {E:XK}
end
section
variable {M:Model} {A:Around} {E:Value→Shared→Prop} {env:Env}
variable {nm q:Str} {C N:Addr} {bs bm:List Value} {hdct:Bool} {sn:List Str} {sub:List Value} {ab:Bool} {col:Option Bool} {dd:Option Addr} {k0 k1 k2 k3 k5:Option Value} {newId:String}
end
section
variable {P:Program} {w:World} {K:PySem.W.Frag} {mg:Str→Option Value} {base:Heap} {N:List Str} {qual:Str} {scope:Scope} {f:Addr} {cd:Value} {A:Around} {outer:List Env} {s0:Shared} {H0:Hp} {E:XK}
end
section
variable {X:Cx} {CX:CXT} {k:Nat} {fa:Addr} {fd:FuncData} {ps:List Str} {sp:Sp} {x:Str} {np cpos pos:Pos} {e₀:Expr} {rest:List Expr} {C:Addr} {bmB bmN:List Value} {newId Bn B nid inN initId:String} {E:St→XK} {t:TA}
end
end L2
namespace PM
open PySem L2
section
variable {X:Cx} {fa:Addr} {ps:List Str} {sp:Sp} {x:Str} {np cpos pos:Pos} {e₀:Expr} {rest:List Expr} {C:Addr} {bmB bmN:List Value} {newId Bn B nid inN initId:String} {E:L2.St→XK} {t:TA}
end
section
variable {K:Kx} {XO:XOT} {E:L2.St→XK} {ta:TE} {ma:En→R D} {Λ:List (Nat × Addr × HO)} {F0 H0 F H:Hp} {σ:L2.St} {δ:En}
end
end PM
namespace L2
open PySem PyProof.Rows
section
variable {N:Nat} {p:Array Nat}
end
section
variable {ky:Nat→Int} {N:Nat} {cmp:Nat→Nat→(Bool→Shared→Prop)→Shared→Prop}
end
end L2
namespace L2
open PySem PySem.Spec PyProof.Rows
section
variable {prog:Program} {w:World} {A:Around} {E:Value→Shared→Prop} {s:Shared}
end
section
variable {X:Cx} {pins:List (Addr × Obj)} {σ:St} {H:Hp} {s:Shared} {h':Heap}
end
end L2
namespace PM
open PySem L2
section
variable {K:Kx} {XO:XOT} {E:L2.St→XK}
end
end PM
namespace L2
open PySem PySem.Spec PyProof.Rows
section
variable {P:Program} {w:World} {K:PySem.W.Frag} {mg mb:Str→Option Value} {CX:CXT} {k:Nat} {fa a tP:Addr} {fd:FuncData} {x:Str} {sp:Sp} {s₁:Shared} {vs:List Value} {ns:List Int}
end
end L2
namespace L2
open PySem PySem.Spec PyProof.Rows
section
variable {X:Cx}
end
end L2
namespace PM
open PySem L2
section
variable {K:Kx} {XO:XOT} {E:L2.St→XK}
end
end PM
namespace PM
open PySem L2
section
variable {K:Kx}
end
end PM
namespace L2
open PySem PySem.Spec PyProof.Rows
section
variable {prog:Program} {w:World} {A:Around} {E:Value→Shared→Prop} {s:Shared}
end
end L2
namespace L2
open PySem PySem.Spec PyProof.Rows
section
variable {prog:Program} {w:World} {A:Around} {E:Value→Shared→Prop} {s:Shared}
end
section
variable {X:Cx} {pins:List (Addr × Obj)} {σ:St} {A:Around} {R:Result→Shared→Prop}
end
end L2
namespace PM
open PySem L2
section
variable {K:Kx} {XO:XOT} {E:L2.St→XK}
end
end PM
namespace L2
open PySem PySem.Spec PyProof.Rows
section
variable {X:Cx} {pins:List (Addr × Obj)} {σ:St} {H:Hp} {s:Shared} {a:Addr} {kvs:List (Key × V)}
end
section
variable {X:Cx}
end
end L2
namespace PM
open PySem L2
section
variable {K:Kx} {XO:XOT} {E:L2.St→XK}
end
end PM
namespace L2
open PySem PySem.Spec PyProof.Rows
section
variable {P:Program} {w:World} {K:PySem.W.Frag} {mg:Str→Option Value} {base:Heap} {CX:CXT} {k:Nat} {x:Str} {ps:List Str} {sp:Sp} {d:V}
end
section
variable {X:Cx} {CX:CXT} {k:Nat} {x:Str} {ps:List Str} {sp:Sp} {E:XK} {p pos:Pos} {a b:Expr} {ta tb:TE} {d:V}
end
section
variable {P:Program} {w:World} {K:PySem.W.Frag} {mg:Str→Option Value} {base:Heap} {d:V}
end
end L2
namespace PM
open PySem L2
def getF:List Str→List D→Str→Option D
  | a :: r,d :: t,f=>if a=f then some d else getF r t f
  | _,_,_=>none
def putN:List Str→Str→List Str
  | [],f=>[f]
  | a :: r,f=>if a=f then a :: r else a :: putN r f
def putV:List Str→List D→Str→D→List D
  | [],_,_,d=>[d]
  | a :: r,l,f,d=>if a=f then d :: l.drop 1 else match l with | x :: t=>x :: putV r t f d | []=>[]
section
variable {K:Kx} {F H:Hp}
theorem zkB {f:Str}:∀ {fs:List (Str × V)} {ks:List Str} {l:List D} {d:D},fs.map (·.1)=ks→RepL K F l (fs.map (·.2))→getF ks l f=some d→∃ v,fs.lookup f=some v∧Rep K F d v
  | [],ks,l,d,h1,h2,h=>by
    subst h1
    cases l <;> cases h
  | (g,x) :: fs,ks,l,d,h1,h2,h=>by
    subst h1
    cases l with
    | nil=>cases h
    | cons y l =>
      simp only [List.map_cons,RepL] at h2
      obtain ⟨v,r,e,r1,r2⟩:=h2
      cases e
      rw [List.map_cons,getF] at h
      by_cases c:g=f
      · rw [if_pos c] at h
        cases h
        exact ⟨x,by rw [List.lookup_cons,show (f == g)=true from beq_iff_eq.mpr c.symm],r1⟩
      · rw [if_neg c] at h
        obtain ⟨v,h3,h4⟩:=zkB rfl r2 h
        exact ⟨v,by rw [List.lookup_cons,show (f == g)=false from beq_eq_false_iff_ne.mpr (Ne.symm c)]; exact h3,h4⟩
theorem zf6 {f:Str}:∀ {fs:List (Str × V)},f ∉ fs.map (·.1)→fs.lookup f=none
  | [],_=>rfl
  | (g,x) :: fs,h=>by
    simp only [List.map_cons,List.mem_cons,not_or] at h
    rw [List.lookup_cons,show (f == g)=false from beq_eq_false_iff_ne.mpr h.1]
    exact zf6 h.2
theorem zit {f:Str} {v:V} {d:D} (rv:Rep K F d v):∀ {fs:List (Str × V)} {l:List D},RepL K F l (fs.map (·.2))→(putF f v fs).map (·.1)=putN (fs.map (·.1)) f∧RepL K F (putV (fs.map (·.1)) l f d) ((putF f v fs).map (·.2))
  | [],l,_=>⟨rfl,.cons rv .nil⟩
  | (g,x) :: fs,l,h=>by
    cases l with
    | nil=>simp only [List.map_cons,RepL] at h; cases h
    | cons y l =>
      simp only [List.map_cons,RepL] at h
      obtain ⟨u,r,e,r1,r2⟩:=h
      cases e
      unfold putF
      rw [List.map_cons]
      by_cases c:g=f
      · rw [if_pos c]
        refine ⟨by rw [putN,if_pos c]; rfl,?_⟩
        rw [putV,if_pos c]
        exact .cons rv r2
      · rw [if_neg c]
        obtain ⟨a,b⟩:=zit rv (fs:=fs) r2
        refine ⟨by rw [putN,if_neg c,List.map_cons,a],?_⟩
        rw [putV,if_neg c]
        exact .cons r1 b
end
def oFld (ok:Nat→Bool) (f:Str) (d:D):Option D:=match d with | .obj c ks l=>if ok c=true then getF ks l f else none | _=>none
section
variable {K:Kx} {XO:XOT} {E:L2.St→XK} {ta te:TE} {ma me:En→R D}
theorem ze0 {f:Str} {ok:Nat→Bool} (hc:∀ c,ok c=true→Cls K.f (K.ca c)∧NoAttr K.f (K.ca c) f) (h:SEr K XO E ta ma):SE K XO E (tFld K.f ta f) (m1 (oFld ok f) ma):=by
  intro Λ F0 H0 F H σ δ Q I a
  refine h Λ F0 H0 F H σ δ _ I (a.bind.imp fun d F1 H1 e1 a1 x rx=>?_)
  cases d with
  | obj c ks l =>
    obtain ⟨p,dx,fs,rfl,h1,h2,h3⟩:=rx
    change Aft E XO σ F1 H1 _ (R.of (if ok c=true then getF ks l f else none)) at a1
    by_cases z:ok c=true
    · rw [if_pos z] at a1
      cases q:getF ks l f with
      | none=>rw [q] at a1; exact a1.elim
      | some d =>
        rw [q] at a1
        obtain ⟨v,g1,g2⟩:=zkB h2 h3 q
        exact ⟨p,_,dx,fs,v,rfl,h1,(hc c z).1,(hc c z).2,g1,a1 F1 H1 (.refl e1.fh) _ g2⟩
    · rw [if_neg z] at a1; exact a1.elim
  | _=>exact a1.elim
end
def ValE (δ:En):Prop:=∀ i:Nat,Sl.own δ[i]?=false
section
variable {K:Kx} {XO:XOT} {E:L2.St→XK} {F0 H0 F H:Hp} {σ:L2.St} {δ:En}
theorem EnvOk.poke {x:Addr} {u:HO} (I:EnvOk K [] F0 H0 F H σ δ) (hv:ValE δ) (h0:H0 x=none) (hF:F x=none):EnvOk K [] F0 H0 F (upd H x u) σ δ:=by
  refine ⟨⟨I.ext.ff,fun b o q=>?_,fun b o q=>?_,I.ext.nw⟩,I.len,fun i=>?_,fun i j a _ h1 _ _ _=>?_,fun y hy=>(by cases hy),fun i ll h1=>?_⟩
  · rw [zar (zaw q h0)]; exact I.ext.hh _ _ q
  · rw [zar (zaw q hF)]; exact I.ext.fh _ _ q
  · have z:=I.slot i
    have o:=hv i
    cases q:δ[i]? with
    | none=>trivial
    | some s =>
      rw [q] at z o
      cases s with
      | no=>trivial
      | v d=>exact z
      | o d=>cases o
      | l d=>cases o
      | p ll=>cases o
  · rw [hv i] at h1; cases h1
  · have:=hv i
    rw [h1] at this; cases this
def iSeq (m1 m2:En→List Str→List D→R (List Str × List D)) (δ:En) (ks:List Str) (l:List D):R (List Str × List D):=(m1 δ ks l).bind fun p=>m2 δ p.1 p.2
def runN (c np:Nat) (m:En→List Str→List D→R (List Str × List D)) (ds:List D):R D:=if ds.length=np then (m (.no :: ds.map .v) [] []).bind fun p=>.ok (.obj c p.1 p.2) else .no
def isObj (c:Nat) (m:Str) (d:D):Option Unit:=match d with | .obj c' ks _=>if c'=c∧m ∉ ks then some () else none | _=>none
def zbm (c:Nat) (m:Str) (f:List D→R D) (ma:En→R D) (ml:En→R (List D)) (δ:En):R D:=(ma δ).bind fun d=>(R.of (isObj c m d)).bind fun _=>(ml δ).bind fun l=>(f (d :: l)).nev
theorem zgD {c:Nat} {m:Str} {d:D} {u:Unit} (h:isObj c m d=some u):∃ ks l,d = .obj c ks l∧m ∉ ks:=by
  unfold isObj at h
  split at h
  · split at h
    · rename_i z; obtain ⟨rfl,z⟩:=z; exact ⟨_,_,rfl,z⟩
    · cases h
  · cases h
theorem zfu {c:Nat} {C:Addr} {m:Str} {f:List D→R D} {ta:TE} {ma:En→R D} {tl:TA} {ml:En→R (List D)} {E':XK} (hC:C=K.ca c) (ha:SE K XO E ta ma) (h:SA K XO E tl ml):SE K XO E (zjH C m (spM K XO f) [] E' ta tl) (zbm c m f ma ml):=by
  intro Λ F0 H0 F H σ δ Q I a
  refine ha Λ F0 H0 F H σ δ _ I (a.bind.imp fun d F1 H1 e1 a1 x rx=>?_)
  cases q:isObj c m d with
  | none=>rw [q] at a1; exact a1.elim
  | some u =>
    rw [q,R.of_some,R.bind_ok] at a1
    obtain ⟨ks,l,rfl,hm⟩:=zgD q
    have rx0:=rx
    simp only [Rep] at rx
    obtain ⟨p,dx,fs,rfl,h1,h2,h3⟩:=rx
    refine ⟨p,dx,fs,rfl,by rw [hC]; exact e1.fh _ _ h1,zf6 (by rw [h2]; exact hm),?_⟩
    refine h Λ F0 H0 F1 H1 σ δ _ (I.grow e1) (a1.bind.imp fun ds F2 H2 e2 a2 vs r=>⟨F2,.obj c ks l :: ds,e2.fh,by rw [List.append_nil]; exact .cons (Rep.mono e2.ff _ rx0) r,?_⟩)
    exact Aft.imp (fun d F3 H3 e3 p v rv=>p v rv) (Aft.any a2)
theorem zcj {c:Nat} {C:Addr} {m:Str} {f:List D→R D} {ta:TE} {ma:En→R D} {tl:TA} {ml:En→R (List D)} {E':XK} (hC:C=K.ca c) (ha:SE K XO E ta ma) (h:SA K XO E tl ml):SEo K XO E (zjH C m (spO K XO f) [] E' ta tl) (zbm c m f ma ml):=by
  intro Λ F0 H0 F H σ δ Q I a
  refine ha Λ F0 H0 F H σ δ _ I (a.bind.imp fun d F1 H1 e1 a1 x rx=>?_)
  cases q:isObj c m d with
  | none=>rw [q] at a1; exact a1.elim
  | some u =>
    rw [q,R.of_some,R.bind_ok] at a1
    obtain ⟨ks,l,rfl,hm⟩:=zgD q
    have rx0:=rx
    simp only [Rep] at rx
    obtain ⟨p,dx,fs,rfl,h1,h2,h3⟩:=rx
    refine ⟨p,dx,fs,rfl,by rw [hC]; exact e1.fh _ _ h1,zf6 (by rw [h2]; exact hm),?_⟩
    refine h Λ F0 H0 F1 H1 σ δ _ (I.grow e1) (a1.bind.imp fun ds F2 H2 e2 a2 vs r=>⟨F2,.obj c ks l :: ds,e2.fh,by rw [List.append_nil]; exact .cons (Rep.mono e2.ff _ rx0) r,?_⟩)
    exact Aft.imp (fun d F3 H3 e3 p v h0 h1 o=>p v h0 (e1.hh.free (e2.hh.free h1)) o) (Aft.any a2)
def zfV (tab:Nat→Option Bool) (d:D):Option D:=match d with | .obj c _ _=>(tab c).map .bl | _=>none
theorem zks {B:Addr} {tab:Nat→Option Bool} {ta:TE} {ma:En→R D} (ht:∀ c b,tab c=some b→(∀ (H:Hp) (a dx:Addr) (fs:List (Str × V)),H a=some (.ins (K.ca c) dx fs)→TyOf K.f H (.ref a) (.ref (K.ca c)))∧PySem.W.kitOne K.f (.ref (K.ca c)) (.ref B)=some b) (h:SEr K XO E ta ma) :
    SE K XO E (tCB (rIs K.f) (zc4 ta (zc4 (tC (.ref B)) tNil))) (m1 (zfV tab) ma):=by
  intro Λ F0 H0 F H σ δ Q I a
  refine h Λ F0 H0 F H σ δ _ I (a.bind.imp fun d F1 H1 e1 a1 x rx=>?_)
  cases d with
  | obj c ks l =>
    obtain ⟨p,dx,fs,rfl,h1,h2,h3⟩:=rx
    cases q:tab c with
    | none=>simp only [zfV,q] at a1; exact a1.elim
    | some b =>
      simp only [zfV,q] at a1
      obtain ⟨t1,t2⟩:=ht c b q
      exact ⟨.ref p,.ref B,.ref B,_,b,rfl,rfl,t1 _ _ _ _ h1,t2,a1 F1 H1 (.refl e1.fh) _ (by simp only [Rep])⟩
  | _=>exact a1.elim
end
end PM
namespace L2
open PySem PySem.Spec PyProof.Rows
section
variable {prog:Program} {w:World} {A:Around} {E:Value→Shared→Prop} {s:Shared}
end
end L2
namespace L2
open PySem PySem.Spec PyProof.Rows
section
variable {X:Cx}
def zox (K:PySem.W.Frag):R2:=fun x y H Q=>∃ a b xs ys,x = .ref a∧y = .ref b∧SqT K H a xs∧SqT K H b ys∧xs.length + ys.length ≤ sizeLine ∧
  (xs = []→Q (.ref b) H)∧(xs ≠ []→ys = []→Q (.ref a) H)∧(xs ≠ []→ys ≠ []→∀ p,H p=none→Q (.ref p) (upd H p (.tup (xs ++ ys))))
theorem zko:OpR X (binaryOp .Add) (zox X.K):=by
  intro pins s σ H x y v u Q I rx ry h
  obtain ⟨a,b,xs,ys,rfl,rfl,ha,hb,hz,q0,q1,q2⟩:=h
  by_cases hx:xs = []
  · cases rx
    cases ry
    obtain ⟨its,r1,p1,_⟩:=I.tuple ha
    obtain ⟨its2,r2,p2,_⟩:=I.tuple hb
    have e0:its = []:=r1.nil_iff.mpr hx
    obtain ⟨⟨cls,dd,data,sl⟩,ho,hc,n,hd⟩:=id p1
    obtain ⟨⟨cls2,dd2,data2,sl2⟩,ho2,hc2,n2,hd2⟩:=id p2
    simp only at hc hd hc2 hd2
    subst hc hd hc2 hd2
    exact concat_meets ⟨_,ho,rfl⟩ ⟨_,ho2,rfl⟩ noFill_tuple_add seq_tuple_add PySem.F.slot_tuple_add PySem.F.entry_tuple_add (PySem.F.args_tuple_add_2 _ _)
      (tuple_addW0 a b its.toArray its2.toArray n n2 dd dd2 sl sl2 (by simp [e0])) ⟨ho,ho2,⟨.ref b,H,I,rfl,q0 hx⟩⟩
  · exact znO pins s σ H _ _ v u Q I rx ry ⟨a,b,xs,ys,rfl,rfl,ha,hb,hx,hz,q1 hx,q2 hx⟩
end
end L2
namespace PM
open PySem L2
section
variable {K:Kx} {XO:XOT} {E:L2.St→XK}
def zio (x y:D):Option D:=match x,y with | .tup l,.tup r=>ifC (l.length + r.length ≤ sizeLine) (some (.tup (l ++ r))) none | _,_=>none
theorem zkv:SR K (zox K.f) zio:=by
  intro F H x y dx dy d Q s hx hy e q
  unfold zio at e
  split at e
  · rename_i l r
    unfold ifC at e
    split at e
    · rename_i hl
      cases e
      simp only [Top,Rep] at hx hy
      obtain ⟨a,vs,rfl,h1,h2⟩:=hx
      obtain ⟨b,ws,rfl,h3,h4⟩:=hy
      have lv:=h2.length
      have lw:=h4.length
      refine ⟨a,b,vs,ws,rfl,rfl,.of (s _ _ h1),.of (s _ _ h3),by omega,fun z=>?_,fun z1 z2=>?_,fun z1 z2 p hp=>?_⟩
      · have:l = []:=List.eq_nil_of_length_eq_zero (by rw [← lv,z]; rfl)
        subst this
        refine q _ F H (.refl s) ?_
        simp only [Rep]
        exact ⟨b,ws,rfl,h3,h4⟩
      · have:r = []:=List.eq_nil_of_length_eq_zero (by rw [← lw,z2]; rfl)
        subst this
        refine q _ F H (.refl s) ?_
        simp only [Rep]
        exact ⟨a,vs,rfl,h1,by rw [List.append_nil]; exact h2⟩
      · have x1:Ext F H (upd F p (.tup (vs ++ ws))) (upd H p (.tup (vs ++ ws))):=.new s hp
        refine q _ _ _ x1 ?_
        simp only [Rep]
        exact ⟨p,_,rfl,zaG,(h2.mono x1.ff).append (h4.mono x1.ff)⟩
    · cases e
  · cases e
end
end PM
namespace L2
open PySem PySem.Spec PyProof.Rows
structure HasC (P:Program) (w:World) (K:PySem.W.Frag) (mg:Str→Option Value) (base:Heap) (CX:CXT) (k:Nat) (x:Str) (C:Addr) (ps:List Str) (sp:Sp):Prop where
  ex:∃ (f:Addr) (fd:FuncData),Mk K C f∧FnOk P w K mg base CX k f fd ps sp∧mg x=some (.ref C)∧Binds K fd ps []
structure HasM (P:Program) (w:World) (K:PySem.W.Frag) (mg:Str→Option Value) (base:Heap) (CX:CXT) (k:Nat) (m:Str) (C:Addr) (ps:List Str) (sp:Sp):Prop where
  ex:∃ (f:Addr) (fd:FuncData),Cls K C∧Meth K C m f∧FnOk P w K mg base CX k f fd ps sp∧Binds K fd ps []
section
variable {X:Cx} {CX:CXT} {k:Nat} {x m:Str} {C:Addr} {ps:List Str} {sp:Sp} {E:XK} {p pos apos:Pos} {e o:Expr} {es:List Expr} {t:TA} {ta:TE}
theorem zkJ (G:HasC X.prog X.w X.K X.mg X.base CX k x C ps sp) (hr:Room (k + 1) X.A) (hg:Gl X x) (hx:zdI CX X E) (ha:PA X (e :: es) t)
    (hdb:(x == ("__debug__" : Str))=false:=by decide) (he:starEach (e :: es) X.env=(false,eval e X.env) :: starEach es X.env:=by rfl) (hpl:(backTo pos (starEach es X.env)).any (·.1)=false:=by rfl) :
    PE X (.Call (.Name x p) (e :: es) [] pos) (zm9 C sp [] E t):=by
  obtain ⟨f,fd,M,F,hm,hb⟩:=G.ex
  exact znw M F hr hg hm hb .nil hx ha hdb he hpl
theorem zcd {pl:Sem Bool} (G:HasM X.prog X.w X.K X.mg X.base CX k m C ps sp) (hr:Room k X.A) (hx:zdI CX X E) (ho:PE X o ta) (ha:PA X (e :: es) t)
    (hst:starEach (e :: es) X.env=(false,eval e X.env) :: starEach es X.env:=by rfl) (hpl:(backTo pos (starEach es X.env)).any (·.1)=false:=by rfl)
    (ht:eval (.Call (.Attribute o m apos) (e :: es) [] pos) X.env=(eval o X.env >>= fun ov=>standAt apos.atName >>= fun _=>holding [ov] (getMethod ov m pl) >>= fun q=>callWith pos q.1 q.2 (backTo pos (starEach (e :: es) X.env)) (backToKw pos (keywordEach [] X.env))):=by rfl) :
    PE X (.Call (.Attribute o m apos) (e :: es) [] pos) (zjH C m sp [] E ta t):=by
  obtain ⟨f,fd,c,hm,F,hb⟩:=G.ex
  exact znA (pl:=pl) ho c hm F hr hb .nil hx ha hst hpl ht
theorem zi0 {pl:Sem Bool} (G:HasM X.prog X.w X.K X.mg X.base CX k m C ps sp) (hr:Room k X.A) (hx:zdI CX X E) (ho:PE X o ta)
    (ht:eval (.Call (.Attribute o m apos) [] [] pos) X.env=(eval o X.env >>= fun ov=>standAt apos.atName >>= fun _=>holding [ov] (getMethod ov m pl) >>= fun q=>callWith pos q.1 q.2 (backTo pos (starEach [] X.env)) (backToKw pos (keywordEach [] X.env))):=by rfl) :
    PE X (.Call (.Attribute o m apos) [] [] pos) (zjH C m sp [] E ta tNil):=by
  obtain ⟨f,fd,c,hm,F,hb⟩:=G.ex
  exact zl4 (pl:=pl) ho c hm F hr hb .nil hx ht
end
end L2
namespace PM
open PySem L2
def allV (δ:En):Bool:=δ.all fun s=>match s with | .no=>true | .v _=>true | _=>false
theorem zho {δ:En} (h:allV δ=true):ValE δ:=fun i=>by
  cases q:δ[i]? with
  | none=>rfl
  | some s =>
    have:=List.all_eq_true.mp h s (List.mem_of_getElem? q)
    cases s <;> first | rfl | cases this
def thn2:O→(En→O)→O
  | .nx δ,f=>f δ
  | .ct δ,f=>f δ
  | .bk δ,_=>.nx δ
  | r,_=>r
def zns (i:Nat) (m1 m2:En→R D) (mb:En→O) (δ:En):O :=
  (m1 δ).toO δ fun d1=>(m2 δ).toO δ fun d2=>if allV δ=true∧i < δ.length then thn2 (mb (δ.set i (.o d1))) fun δ1=>if allV (δ1.set i .no)=true∧i < δ1.length then thn2 (mb (δ1.set i (.o d2))) .nx else .no else .no
section
variable {K:Kx} {XO:XOT} {E:L2.St→XK} {F0 H0 F H:Hp} {σ:L2.St} {δ:En}
theorem EnvOk.rebase {Fb Hb Hc:Hp} (I:EnvOk K [] Fb Hb F H σ δ) (e:Ext F0 H0 Fb Hc) (s:Same H0 Hb):EnvOk K [] F0 H0 F H σ δ:=by
  refine ⟨⟨e.ff.trans I.ext.ff,s.trans I.ext.hh,I.ext.fh,fun p o h1 h2=>I.ext.nw p o (e.nw p o h1 h2) (s p o h2)⟩,I.len,fun i=>?_,I.dist,I.lent,fun i T h=>by obtain ⟨a,bs,t1,t2,t3,t4⟩:=I.tabs i T h; exact ⟨a,bs,t1,t2,fun b hb=>⟨s.free (t3 b hb).1,(t3 b hb).2⟩,t4⟩⟩
  have z:=I.slot i
  cases q:δ[i]? with
  | none=>trivial
  | some x =>
    rw [q] at z
    cases x with
    | no=>trivial
    | v d=>exact z
    | o d=>obtain ⟨a,z1,z2,z3⟩:=z; exact ⟨a,z1,s.free z2,z3⟩
    | l d=>obtain ⟨a,z1,z2,z3⟩:=z; exact ⟨a,z1,s.free z2,z3⟩
    | p ll=>obtain ⟨a,bs,z1,z2,z3⟩:=z; exact ⟨a,bs,z1,z2,fun b hb=>⟨s.free (z3 b hb).1,(z3 b hb).2⟩⟩
theorem zhY {Fb Hb Hc F' H':Hp} (x:Ext Fb Hb F' H') (e:Ext F0 H0 Fb Hc) (s:Same H0 Hb):Ext F0 H0 F' H' :=
  ⟨e.ff.trans x.ff,s.trans x.hh,x.fh,fun p o h1 h2=>x.nw p o (e.nw p o h1 h2) (s p o h2)⟩
open Classical in
def zd9 (H:Hp) (p:Addr):Hp:=fun b=>if b=p then none else H b
theorem zjN {H:Hp} {p:Addr}:Same (zd9 H p) H:=fun b o h=>by
  unfold zd9 at h
  split at h
  · cases h
  · exact h
theorem zmq {H:Hp} {p:Addr}:zd9 H p p=none:=by unfold zd9; rw [if_pos rfl]
theorem ze4 {H:Hp} {p b:Addr} (h:b ≠ p):zd9 H p b=H b:=by unfold zd9; rw [if_neg h]
theorem zhM {H0 H:Hp} {p:Addr} (s:Same H0 H) (h:H0 p=none):Same H0 (zd9 H p):=fun b o q=>by
  rw [ze4 (zaw q h)]; exact s _ _ q
theorem EnvOk.one {Λ:List (Nat × Addr × HO)} {i:Nat} {d:D} {p:Addr} (I:EnvOk K Λ F0 H0 F H σ δ) (hv:∀ j,j ≠ i→Sl.own δ[j]?=false) (hi:i < δ.length) (hF:F p=none) (o:Own K F H d p):EnvOk K [] F (zd9 H p) F H (σ.set i (some (.ref p))) (δ.set i (.o d)):=by
  have own1:∀ j:Nat,Sl.own (δ.set i (.o d))[j]?=true→j=i:=fun j h=>by
    apply Classical.byContradiction
    intro z
    rw [List.getElem?_set_ne (Ne.symm z),hv j z] at h
    cases h
  refine ⟨⟨.refl _,zjN,I.ext.fh,fun q u h1 h2=>h1⟩,by simp [I.len],fun j=>?_,fun j k a hjk h1 h2 _ _=>hjk ((own1 j h1).trans (own1 k h2).symm),fun y hy=>(by cases hy),fun j ll h1=>?_⟩
  · by_cases z:i=j
    · subst z
      rw [List.getElem?_set_self hi,List.getElem?_set_self (by rw [I.len]; exact hi)]
      exact ⟨p,rfl,zmq,hF,o⟩
    · rw [List.getElem?_set_ne z,List.getElem?_set_ne z]
      have w:=I.slot j
      have ow:=hv j (Ne.symm z)
      cases q:δ[j]? with
      | none=>trivial
      | some x =>
        rw [q] at w ow
        cases x with
        | no=>trivial
        | v d=>exact w
        | o d=>cases ow
        | l d=>cases ow
        | p ll=>cases ow
  · have:=own1 j (by rw [h1]; rfl)
    subst this
    rw [List.getElem?_set_self hi] at h1
    cases h1
theorem znI {i:Nat} {t1 t2:TE} {m1 m2:En→R D} {tb:TS} {mb:En→O} (h1:SEo K XO E t1 m1) (h2:SEo K XO E t2 m2) (hb:SS K XO E tb mb):SS K XO E (tFor (zkZ K.f (tLst (zc4 t1 (zc4 t2 tNil)))) (zfN i) tb) (zns i m1 m2 mb):=by
  intro Λ F0 H0 F H σ δ Dn I a
  refine h1 Λ F0 H0 F H σ δ _ I ((AftS.of I a).imp fun d1 F1 H1 e1 a1 p1 f1 n1 o1=>?_)
  refine h2 Λ F0 H0 F1 H1 σ δ _ (I.grow e1) ((AftS.of (I.grow e1) a1).imp fun d2 F2 H2 e2 a2 p2 f2 n2 o2=>?_)
  refine ⟨by show 2 ≤ sizeLine; decide,fun l hl=>⟨l,rfl,⟨_,.of zaG⟩,?_⟩⟩
  by_cases c:allV δ=true∧i < δ.length
  case neg=>rw [if_neg c] at a2; exact a2.elim
  rw [if_pos c] at a2
  have hΛ:Λ = []:=by
    cases Λ with
    | nil=>rfl
    | cons y Λ =>
      obtain ⟨⟨d,hd⟩,_⟩:=I.lent y (by simp)
      have:=zho c.1 y.1
      rw [hd] at this; cases this
  subst hΛ
  obtain ⟨u1,g1⟩:=o1.obj
  obtain ⟨u2,g2⟩:=o2.obj
  have n12:p2 ≠ p1:=fun z=>by rw [z,g1] at n2; cases n2
  have F2p1:F2 p1=none:=e2.nw p1 _ f1 g1
  have l1:l ≠ p1:=fun z=>by rw [z,e2.hh _ _ g1] at hl; cases hl
  have l2:l ≠ p2:=fun z=>by rw [z,g2] at hl; cases hl
  have H0p1:H0 p1=none:=I.ext.hh.free n1
  have H0p2:H0 p2=none:=(I.grow e1).ext.hh.free n2
  obtain ⟨H3,eH3⟩:∃ H3,H3=upd H2 l (.lst [.ref p1,.ref p2]):=⟨_,rfl⟩
  rw [← eH3]
  have x3:Ext F2 H2 F2 H3:=by rw [eH3]; exact .newO e2.fh hl
  have I3:EnvOk K [] F0 H0 F2 H3 σ δ:=((I.grow e1).grow e2).grow x3
  have O1:Own K F2 H3 d1 p1:=(o1.mono e2.ff e2.hh).mono (.refl _) x3.hh
  have O2:Own K F2 H3 d2 p2:=o2.mono (.refl _) x3.hh
  have H3l:H3 l=some (.lst [.ref p1,.ref p2]):=by rw [eH3]; exact zaG
  have E0:=I3.one (fun j _=>zho c.1 j) c.2 F2p1 O1
  have s0:Same H0 (zd9 H3 p1):=zhM I3.ext.hh H0p1
  have x0:=I3.ext
  refine ⟨fun n m σ' H'=>(n=0∧m=2∧σ'=σ∧H'=H3)∨(n=1∧m=1∧∃ δ1 F',(mb (δ.set i (.o d1)) = .nx δ1∨mb (δ.set i (.o d1)) = .ct δ1)∧EnvOk K [] F2 (zd9 H3 p1) F' H' σ' δ1)∨(n=2∧m=0∧Dn.nx σ' H'∧H' l=some (.lst [.ref p1,.ref p2])),⟨2,.inl ⟨rfl,rfl,rfl,rfl⟩⟩,fun n m σ' H' w=>?_⟩
  rcases w with ⟨rfl,rfl,es,eH⟩ | ⟨rfl,rfl,δ1,F',hq,I'⟩ | ⟨rfl,rfl,hn,hl'⟩
  · rw [es,eH]
    refine .inr ⟨⟨_,.ref p1,.of H3l,rfl⟩,fun σ' H'=>∃ δ1 F',(mb (δ.set i (.o d1)) = .nx δ1∨mb (δ.set i (.o d1)) = .ct δ1)∧EnvOk K [] F2 (zd9 H3 p1) F' H' σ' δ1,fun σ' H' w=>⟨1,by decide,.inr (.inl ⟨rfl,rfl,w⟩)⟩,fun x H' y=>?_⟩
    obtain ⟨rfl,y⟩:=y
    have ex:=y _ (.of H3l)
    cases ex
    refine hb [] F2 (zd9 H' p1) F2 H' _ _ _ E0 ?_
    cases q:mb (δ.set i (.o d1)) with
    | no=>rw [q] at a2; exact a2
    | nx δ1=>exact fun σ F H I'=>⟨δ1,F,.inl rfl,I'⟩
    | ct δ1=>exact fun σ F H I'=>⟨δ1,F,.inr rfl,I'⟩
    | bk δ1=>rw [q] at a2; exact fun σ F H I'=>a2 σ F H (I'.rebase x0 s0)
    | rt d=>rw [q] at a2; exact fun v F H e r=>a2 v F H (zhY e x0 s0) r
    | ro d=>rw [q] at a2; exact fun p F H e f n o=>a2 p F H (zhY e x0 s0) f (s0.free n) o
    | ex δ1 xx=>rw [q] at a2; exact fun σ F H C dct I' z=>a2 σ F H C dct (I'.rebase x0 s0) z
  · have a3:AftS K XO E [] F0 H0 Dn (if allV (δ1.set i .no)=true∧i < δ1.length then thn2 (mb (δ1.set i (.o d2))) .nx else .no):=by
      rcases hq with q | q <;> rw [q] at a2 <;> exact a2
    by_cases c1:allV (δ1.set i .no)=true∧i < δ1.length
    case neg=>rw [if_neg c1] at a3; exact a3.elim
    rw [if_pos c1] at a3
    have Hl:H' l=some (.lst [.ref p1,.ref p2]):=I'.ext.hh _ _ (by rw [ze4 l1]; exact H3l)
    have H3p2:zd9 H3 p1 p2=some u2:=by rw [ze4 n12]; exact x3.hh _ _ g2
    have Fp2:F' p2=none:=I'.ext.nw p2 _ f2 H3p2
    have O2':Own K F' H' d2 p2:=(O2.at (H':=zd9 H3 p1) (ze4 n12)).mono I'.ext.ff I'.ext.hh
    have E1:=I'.one (fun j hj=>by
      have:=zho c1.1 j
      rwa [List.getElem?_set_ne (Ne.symm hj)] at this) c1.2 Fp2 O2'
    have s1:Same H0 (zd9 H' p2):=zhM (s0.trans I'.ext.hh) H0p2
    have x1:Ext F0 H0 F' H':=zhY I'.ext x0 s0
    refine .inr ⟨⟨_,.ref p2,.of Hl,rfl⟩,fun σ2 H2'=>Dn.nx σ2 H2'∧H2' l=some (.lst [.ref p1,.ref p2]),fun σ2 H2' w=>⟨0,by decide,.inr (.inr ⟨rfl,rfl,w⟩)⟩,fun x H2' y=>?_⟩
    obtain ⟨rfl,y⟩:=y
    have ex:=y _ (.of Hl)
    cases ex
    refine hb [] F' (zd9 H2' p2) F' H2' _ _ _ E1 ?_
    have keep:∀ {F H:Hp},Ext F' (zd9 H2' p2) F H→H l=some (.lst [.ref p1,.ref p2]):=fun e=>e.hh _ _ (by rw [ze4 l2]; exact Hl)
    cases q:mb (δ1.set i (.o d2)) with
    | no=>rw [q] at a3; exact a3
    | nx δ2=>rw [q] at a3; exact fun σ F H I''=>⟨a3 σ F H (I''.rebase x1 s1),keep I''.ext⟩
    | ct δ2=>rw [q] at a3; exact fun σ F H I''=>⟨a3 σ F H (I''.rebase x1 s1),keep I''.ext⟩
    | bk δ2=>rw [q] at a3; exact fun σ F H I''=>a3 σ F H (I''.rebase x1 s1)
    | rt d=>rw [q] at a3; exact fun v F H e r=>a3 v F H (zhY e x1 s1) r
    | ro d=>rw [q] at a3; exact fun p F H e f n o=>a3 p F H (zhY e x1 s1) f (s1.free n) o
    | ex δ2 xx=>rw [q] at a3; exact fun σ F H C dct I'' z=>a3 σ F H C dct (I''.rebase x1 s1) z
  · exact .inl ⟨⟨_,.of hl',Nat.le_refl 2⟩,hn⟩
end
end PM
namespace PM
open PySem L2
section
variable {K:Kx} {XO:XOT} {E:L2.St→XK} {F0 H0 F H F1 H1 F' H':Hp}
theorem zg7 {F2:Hp} (s:Same F F2):Same (minH F1 H1 F) (minH F1 H1 F2):=fun b o h=>by
  unfold minH at h ⊢
  split at h
  · cases h
  · rename_i z; rw [if_neg z]; exact s _ _ h
variable (K) in
def SInB (c:Nat) (t:TS) (m:En→List Str→List D→R (List Str × List D)):Prop :=
  ∀ (F1 H1 F H:Hp) (σ:L2.St) (δ:En) (x dx:Addr) (fs:List (Str × V)) (l:List D) (Dn:Ends),ValE δ→EnvOk K [] (zbL F1 H1) H1 F H σ δ→σ[0]?=some (some (.ref x))→H1 x=none→F x=none→H x=some (.ins (K.ca c) dx fs)→RepL K (minH F1 H1 F) l (fs.map (·.2)) →
    (match m δ (fs.map (·.1)) l with
      | .no=>False
      | .ok p=>∀ F' H' fs',EnvOk K [] (zbL F1 H1) H1 F' H' σ δ→F' x=none→H' x=some (.ins (K.ca c) dx fs')→fs'.map (·.1)=p.1→RepL K (minH F1 H1 F') p.2 (fs'.map (·.2))→Dn.nx σ H'
      | .ex _=>False)→t Dn σ H
def ziK (f:Str) (me:En→R D) (δ:En) (ks:List Str) (l:List D):R (List Str × List D):=(me δ).nev.bind fun d=>ifC (ks.length < 1000∧zdQ d=true) (.ok (putN ks f,putV ks l f d)) .no
theorem zmu {c:Nat} {f:Str} {te:TE} {me:En→R D} (hc:Cls K.f (K.ca c)∧NoAttr K.f (K.ca c) f) (h:SE K XO E te me):SInB K c (sFld K.f (tVar 0) te f) (ziK f me):=by
  intro F1 H1 F H σ δ x dx fs l Dn hv I hx h0 hF hH hl a
  refine h [] _ _ F H σ δ _ I ?_
  unfold ziK at a
  cases q:me δ with
  | no=>rw [q] at a; exact a
  | ex xx=>rw [q] at a; exact a.elim
  | ok d =>
    rw [q] at a
    intro F2 H2 e v r
    simp only [R.nev_ok,R.bind_ok,ifC] at a
    by_cases z:(fs.map (·.1)).length < 1000∧zdQ d=true
    · rw [if_pos z] at a
      have x1:=e.hh _ _ hH
      have F2x:F2 x=none:=e.nw x _ hF hH
      have I2:=I.grow e
      obtain ⟨g1,g2⟩:=zit (f:=f) (zht I2.ext d z.2 r) (hl.mono (zg7 e.ff))
      refine ⟨_,hx,x,_,dx,fs,rfl,x1,hc.1,hc.2,by simpa using z.1,?_⟩
      exact a F2 _ _ (I2.poke hv h0 F2x) F2x zaG g1 g2
    · rw [if_neg z] at a; exact a.elim
theorem zkt {R:D→V→Prop}:∀ {ds:List D} {vs:List V},Prd R ds vs→ds.length=vs.length
  | _,_,.nil=>rfl
  | _,_,.cons _ t=>by rw [List.length_cons,List.length_cons,zkt t]
end
end PM
namespace L2
open PySem PySem.Spec PyProof.Rows
structure MethAt (K:PySem.W.Frag) (C:Addr) (m qual:Str) (st:Stmt) (f:Addr) (fd:FuncData):Prop where
  at_:PySem.W.findIn K (.ref C) m=some (some (.ref f))
  isf:PySem.W.isFn K (.ref f)=true
  fn:Fun K m qual st f fd
theorem methAt_mk {K:PySem.W.Frag} {C:Addr} {m qual:Str} {st:Stmt} {f:Addr} {oc:Value} {od an:Option Addr} {osl:Array (Option Value)} {kV doc pm cdv ct:Value} (a:PySem.W.findIn K (.ref C) m=some (some (.ref f))) (i:PySem.W.isFn K (.ref f)=true)
    (l:K.lookup f=some ⟨oc,od,.func (PySem.W.fnOf m qual (zdW st) (zc9 st) (zai st) .none kV doc pm an cdv ct),osl⟩) (c:PySem.W.codeIn K cdv qual=true) (k:PySem.W.keepIn K (.ref f)=true):∃ f fd,MethAt K C m qual st f fd :=
  ⟨f,_,a,i,zlJ l c k⟩
section
variable {P:Program} {w:World} {K:PySem.W.Frag} {mg:Str→Option Value} {base:Heap} {CX:CXT} {k:Nat} {x m qual:Str} {C:Addr} {st:Stmt} {f:Addr} {fd:FuncData} {ps:List Str} {sp:Sp}
theorem MethAt.hasM (D:MethAt K C m qual st f fd) (c:Cls K C) (ok:FnOk P w K mg base CX k f fd ps sp) (b:Binds K fd ps []):HasM P w K mg base CX k m C ps sp:=⟨f,fd,c,⟨D.at_,D.isf,D.fn.kp⟩,ok,b⟩
theorem MethAt.hasC (D:MethAt K C "__init__" qual st f fd) (mk:PySem.W.makesIn K C=true) (kp:PySem.W.keepIn K (.ref C)=true) (hm:mg x=some (.ref C)) (ok:FnOk P w K mg base CX k f fd ps sp) (b:Binds K fd ps []):HasC P w K mg base CX k x C ps sp:=⟨f,fd,⟨mk,D.at_,D.isf,kp⟩,ok,hm,b⟩
end
end L2
namespace L2
open PySem PySem.Spec PyProof.Rows
def zmF (C:Addr) (sp:Sp) (E:St→XK) (t:TA):TE:=fun σ H Q=>t σ H fun vs H1=>∀ x dx,H1 x=none→H1 dx=none→dx ≠ x →
  sp (.ref x :: vs) (upd (upd H1 dx (.own x)) x (.ins C dx [])) (fun v H2=>v = .non∧Q (.ref x) H2) (E σ)
def tAlt (t u:TE):TE:=fun σ H Q=>t σ H Q∨u σ H Q
section
variable {X:Cx} {CX:CXT} {k:Nat} {x:Str} {C:Addr} {ps:List Str} {sp:Sp} {E:St→XK} {p pos:Pos} {e:Expr} {es:List Expr} {t:TA}
theorem zmI {ta tb:TE} (h:PE X e ta) (g:PE X e tb):PE X e (tAlt ta tb):=fun pins s σ H Q I a=>a.elim (h pins s σ H Q I) (g pins s σ H Q I)
theorem zjj (G:HasC X.prog X.w X.K X.mg X.base CX k x C ps sp) (hr:Room (k + 1) X.A) (hg:Gl X x) (hx:zg8 CX X E) (ha:PA X (e :: es) t)
    (hdb:(x == ("__debug__" : Str))=false:=by decide) (he:starEach (e :: es) X.env=(false,eval e X.env) :: starEach es X.env:=by rfl) (hpl:(backTo pos (starEach es X.env)).any (·.1)=false:=by rfl) :
    PE X (.Call (.Name x p) (e :: es) [] pos) (zmF C sp E t):=by
  obtain ⟨f,fd,M,F,hm,hb⟩:=G.ex
  intro pins s σ H Q I h
  refine wpAny_Call_Name_kw (zeL I hg hm ?_ hdb)
  refine PySem.W.callWith_K (h₀:=X.base) I.ok.mod.kin M.kp (thn (ha pos pins s σ H _ I h) fun us s1 ⟨vs,H1,I1,r,q⟩=>⟨I1.kIn,?_⟩) he hpl
  have hq:=q (s1.heap.objs.size + 1) s1.heap.objs.size (I1.hok.fresh (Nat.le_succ _)) (I1.hok.fresh (Nat.le_refl _)) (Nat.ne_of_lt (Nat.lt_succ_self _))
  have J:=Inv.made (C:=C) I1
  have rr:Vals (V.ref (s1.heap.objs.size + 1) :: vs) (Value.ref (s1.heap.objs.size + 1) :: us):=.cons rfl r
  have hl:(Value.ref (s1.heap.objs.size + 1) :: us).length=ps.length:=by rw [← rr.length]; exact F.len _ _ _ _ hq
  have bd:=hb _ (Value.ref (s1.heap.objs.size + 1) :: us) J.kIn (by rw [List.append_nil]; exact hl)
  rw [List.append_nil] at bd
  refine wpAny_call (zjs (f:=f) I1.kIn M.makes M.init (beq_iff_eq.mp M.fn) (codeAny_mono (F.run _ X.stack _ _ ⟨Value.ref (s1.heap.objs.size + 1) :: us,[]⟩ (Value.ref (s1.heap.objs.size + 1) :: us) _ _ (E σ) (hr.make C us []) (J.env0.make C us []) bd rr hq) fun rs s' hz=>?_))
  cases rs with
  | error e'=>exact hx pins σ _ _ e' s' J hz
  | ok fl =>
    cases fl with
    | ret u =>
      obtain ⟨v,H',I3,rv,ev,q3⟩:=J.after hz
      subst ev
      exact ⟨rv,⟨V.ref (s1.heap.objs.size + 1),H',I3,rfl,q3⟩⟩
    | next=>exact False.elim hz
    | brk=>exact False.elim hz
    | cont=>exact False.elim hz
end
end L2
namespace PM
open PySem L2
section
variable {K:Kx} {XO:XOT} {E:L2.St→XK} {F0 H0 F H F1 H1 F' H':Hp}
theorem zod {x:Xc} {C:Value} {dct:Option Addr} (e:Ext (zbL F H) H F' H') (h:xoK K x F' H' C dct):xoK K x (minH F H F') H' C dct:=by
  refine ⟨h.1,?_⟩
  have h2:=h.2
  unfold XA at h2 ⊢
  split
  · rename_i c; rw [if_pos c] at h2; exact h2
  · rename_i c
    rw [if_neg c] at h2
    obtain ⟨dx,e1,e2⟩:=h2
    exact ⟨dx,e1,zmR e e2 (fun _ z=>by cases z) (fun _ z=>by cases z) (fun _ _ z=>by cases z) (fun _ _ _ z=>by cases z)⟩
variable (K XO E) in
def SInX (c:Nat) (t:TS) (m:En→List Str→List D→R (List Str × List D)):Prop :=
  ∀ (F1 H1 F H:Hp) (σ:L2.St) (δ:En) (x dx:Addr) (fs:List (Str × V)) (l:List D) (Dn:Ends),ValE δ→EnvOk K [] (zbL F1 H1) H1 F H σ δ→σ[0]?=some (some (.ref x))→H1 x=none→F x=none→H x=some (.ins (K.ca c) dx fs)→RepL K (minH F1 H1 F) l (fs.map (·.2)) →
    (match m δ (fs.map (·.1)) l with
      | .no=>False
      | .ok p=>∀ F' H' fs',EnvOk K [] (zbL F1 H1) H1 F' H' σ δ→F' x=none→H' x=some (.ins (K.ca c) dx fs')→fs'.map (·.1)=p.1→RepL K (minH F1 H1 F') p.2 (fs'.map (·.2))→Dn.nx σ H'
      | .ex xx=>∀ C dct F' H',Ext (zbL F1 H1) H1 F' H'→XO xx F' H' C dct→E σ C dct H')→t Dn σ H
theorem zlf {f:Str} {me:En→R D} {δ:En} {ks:List Str} {l:List D} {x:Xc}:ziK f me δ ks l ≠ .ex x:=by
  unfold ziK ifC
  cases me δ with
  | ok d=>simp only [R.nev_ok,R.bind_ok]; split <;> exact fun h=>by cases h
  | _=>exact fun h=>by cases h
theorem SInB.x {c:Nat} {t:TS} {m:En→List Str→List D→R (List Str × List D)} (h:SInB K c t m) (hm:∀ δ ks l x,m δ ks l ≠ .ex x):SInX K XO E c t m:=by
  intro F1 H1 F H σ δ x dx fs l Dn hv I hx h0 hF hH hl a
  refine h F1 H1 F H σ δ x dx fs l Dn hv I hx h0 hF hH hl ?_
  cases q:m δ (fs.map (·.1)) l with
  | no=>rw [q] at a; exact a
  | ok p=>rw [q] at a; exact a
  | ex xx=>exact (hm _ _ _ _ q).elim
theorem zlz {c:Nat} {f:Str} {te:TE} {me:En→R D} (hc:Cls K.f (K.ca c)∧NoAttr K.f (K.ca c) f) (h:SE K XO E te me):SInX K XO E c (sFld K.f (tVar 0) te f) (ziK f me):=(zmu hc h).x fun _ _ _ _=>zlf
def zib (me:En→R D) (δ:En) (ks:List Str) (l:List D):R (List Str × List D):=(me δ).bind fun _=>.ok (ks,l)
theorem zh2 {c:Nat} {te:TE} {me:En→R D} (h:SE K XO E te me):SInX K XO E c (ziG te) (zib me):=by
  intro F1 H1 F H σ δ x dx fs l Dn hv I hx h0 hF hH hl a
  refine h [] _ _ F H σ δ _ I ?_
  unfold zib at a
  cases q:me δ with
  | no=>rw [q] at a; exact a
  | ex xx=>rw [q] at a; exact fun C dct F' H' e z=>a C dct F' H' (I.ext.trans e) z
  | ok d =>
    rw [q] at a
    intro F2 H2 e v r
    exact a F2 H2 fs (I.grow e) (e.nw x _ hF hH) (e.hh _ _ hH) rfl (hl.mono (zg7 e.ff))
theorem zg2 {c:Nat} {t u:TS} {m1 m2:En→List Str→List D→R (List Str × List D)} (h1:SInX K XO E c t m1) (h2:SInX K XO E c u m2):SInX K XO E c (tSeq t u) (iSeq m1 m2):=by
  intro F1 H1 F H σ δ x dx fs l Dn hv I hx h0 hF hH hl a
  unfold iSeq at a
  refine h1 F1 H1 F H σ δ x dx fs l { Dn with nx:=u Dn } hv I hx h0 hF hH hl ?_
  cases q:m1 δ (fs.map (·.1)) l with
  | no=>rw [q] at a; exact a
  | ex xx=>rw [q] at a; exact a
  | ok p =>
    rw [q] at a
    intro F' H' fs' I' hF' hH' e1 e2
    refine h2 F1 H1 F' H' σ δ x dx fs' p.2 Dn hv I' hx h0 hF' hH' e2 ?_
    rw [e1]
    exact a
def spX (K:Kx) (c:Nat) (f:List D→R D):Sp:=fun vs H Q E=>∃ (x dx:Addr) (us:List V) (F Hb:Hp) (ds:List D),vs = .ref x :: us∧H=upd (upd Hb dx (.own x)) x (.ins (K.ca c) dx [])∧Hb x=none∧Hb dx=none∧dx ≠ x∧Same F Hb∧Prd (Bor K F Hb) ds us ∧
  Aft (fun _=>E) (xoK K) [] F Hb (fun d F' H'=>F' x=none→Own K F' H' d x→Q .non H') (f ds)
theorem zkL {c np:Nat} {m:En→List Str→List D→R (List Str × List D)} {vs:List V} {Q:VK} {E:XK} {ps:List Str} (hp:ps.length=np + 1) (h:spX K c (runN c np m) vs H Q E):vs.length=ps.length:=by
  obtain ⟨x,dx,us,F,Hb,ds,rfl,rfl,_,_,_,_,r,a⟩:=h
  unfold runN at a
  split at a
  · rename_i hl
    have:=zkt r
    simp only [List.length_cons]
    omega
  · exact a.elim
theorem zmN {c np:Nat} {N:List Str} {vs:List V} {Q:VK} {E:XK} {t:TS} {m:En→List Str→List D→R (List Str × List D)} (h:SInX K (xoK K) (fun _=>E) c t m) (hn:N.length=np + 1) (sp:spX K c (runN c np m) vs H Q E) :
    t { nx:=fun _ H'=>Q .non H',rt:=Q } (L2.start N vs) H:=by
  obtain ⟨x,dx,us,F,Hb,ds,rfl,rfl,x0,d0,ne,s,r0,a⟩:=sp
  unfold runN at a
  split at a
  case isFalse=>exact a.elim
  case isTrue hl =>
    have r:=zhu s r0
    have s':=zhb s
    have ul:=r.length
    have st:L2.start N (.ref x :: us)=some (.ref x) :: us.map some:=by
      unfold L2.start
      rw [show N.length - (V.ref x :: us).length=0 by simp only [List.length_cons]; omega]
      simp
    rw [st]
    have hF:zbL F Hb x=none:=s'.free x0
    have hv:ValE (.no :: ds.map .v):=fun i=>by
      cases i with
      | zero=>rfl
      | succ i =>
        rw [List.getElem?_cons_succ,List.getElem?_map]
        cases ds[i]? <;> rfl
    have I0:EnvOk K [] (zbL F Hb) Hb (zbL F Hb) Hb (some (V.ref x) :: us.map some) (.no :: ds.map .v):=by
      refine ⟨.refl s',by simp [ul],fun i=>?_,fun i j a _ h1 _ _ _=>(by rw [hv i] at h1; cases h1),fun y hy=>(by cases hy),fun i ll h1=>(by have:=hv i; rw [h1] at this; cases this)⟩
      cases i with
      | zero=>trivial
      | succ i =>
        rw [List.getElem?_cons_succ,List.getElem?_map,List.getElem?_cons_succ,List.getElem?_map]
        cases q:ds[i]? with
        | none=>trivial
        | some d =>
          obtain ⟨v,hv',rv⟩:=r.get q
          exact ⟨v,by rw [hv']; rfl,rv⟩
    have I1:=(I0.poke (u:=.own x) hv d0 (s'.free d0)).poke (x:=x) (u:=.ins (K.ca c) dx []) hv x0 hF
    refine h F Hb (zbL F Hb) _ _ _ x dx [] [] _ hv I1 rfl x0 hF zaG .nil ?_
    rw [List.map_nil]
    cases q:m (.no :: ds.map .v) [] [] with
    | no=>rw [q] at a; exact a
    | ex xx=>rw [q] at a; exact fun C dct F' H' e z=>a C dct _ H' (zgS e) (zod e z)
    | ok p =>
      rw [q] at a
      intro F' H' fs' I' hF' hH' e1 e2
      refine a _ H' (zgS I'.ext) ?_ ⟨dx,fs',hH',e1,e2⟩
      unfold minH
      split
      · rfl
      · exact hF'
def zeR (f:List D→R D) (ml:En→R (List D)) (δ:En):R D:=(ml δ).bind fun l=>f l
theorem zhW {c:Nat} {C:Addr} {f:List D→R D} {tl:TA} {ml:En→R (List D)} (hC:C=K.ca c) (h:SAb K (xoK K) E tl ml):SEo K (xoK K) E (zmF C (spX K c f) E tl) (zeR f ml):=by
  intro Λ F0 H0 F H σ δ Q I a
  refine h Λ F0 H0 F H σ δ _ I (a.bind.imp fun ds F1 H1 e1 a1 vs r x dx hx hdx ne=>⟨x,dx,vs,F1,H1,ds,rfl,by rw [hC],hx,hdx,ne,e1.fh,r,?_⟩)
  cases q:f ds with
  | no=>rw [q] at a1; exact a1.elim
  | ex xx=>rw [q] at a1; exact a1
  | ok d=>rw [q] at a1; exact fun F2 H2 e2 hF o=>⟨rfl,a1 F2 H2 e2 x hF (e1.hh.free hx) o⟩
theorem zgx {c:Nat} {C:Addr} {f:List D→R D} {tl:TA} {ml:En→R (List D)} {E':XK} (hC:C=K.ca c) (h:SAb K (xoK K) E tl ml):SEo K (xoK K) E (zm9 C (spX K c f) [] E' tl) (zag f ml):=by
  intro Λ F0 H0 F H σ δ Q I a
  refine h Λ F0 H0 F H σ δ _ I (a.bind.imp fun ds F1 H1 e1 a1 vs r x dx hx hdx ne=>⟨x,dx,vs,F1,H1,ds,by rw [List.append_nil],by rw [hC],hx,hdx,ne,e1.fh,r,?_⟩)
  cases q:f ds with
  | no=>rw [q] at a1; exact a1.elim
  | ex xx=>rw [q] at a1; exact a1.elim
  | ok d=>rw [q] at a1; exact fun F2 H2 e2 hF o=>⟨rfl,a1 F2 H2 e2 x hF (e1.hh.free hx) o⟩
def mAlt (i c1:Nat) (m1 m2:En→R D) (δ:En):R D:=match δ[i]? with | some (.v (.obj c _ _))=>if c=c1 then m1 δ else m2 δ | _=>.no
theorem zlL {i c1:Nat} {t1 t2:TE} {m1 m2:En→R D} (h1:SEo K XO E t1 m1) (h2:SEo K XO E t2 m2):SEo K XO E (tAlt t1 t2) (mAlt i c1 m1 m2):=by
  intro Λ F0 H0 F H σ δ Q I a
  unfold mAlt at a
  split at a
  · split at a
    · exact .inl (h1 Λ F0 H0 F H σ δ Q I a)
    · exact .inr (h2 Λ F0 H0 F H σ δ Q I a)
  · exact a.elim
end
end PM
namespace L2
open PySem PySem.Spec PyProof.Rows
section
variable {prog:Program} {w:World} {A:Around} {E:Value→Shared→Prop} {s:Shared}
end
section
variable {X:Cx}
end
end L2
namespace PM
open PySem L2
section
variable {K:Kx} {XO:XOT} {E:L2.St→XK}
end
end PM
namespace L2
open PySem PySem.Spec PyProof.Rows
section
variable {prog:Program} {w:World} {A:Around} {E:Value→Shared→Prop} {s:Shared}
end
section
variable {X:Cx}
end
end L2
namespace PM
open PySem L2
section
variable {K:Kx} {XO:XOT} {E:L2.St→XK}
end
end PM
namespace L2
open PySem PySem.Spec PyProof.Rows
end L2
namespace L2
open PySem PySem.Spec PyProof.Rows
section
variable {prog:Program} {w:World} {K:Type} [DecidableEq K] {knd:KeyKind prog w K} {A:Around} {E:Value→Shared→Prop} {s:Shared}
end
section
variable {prog:Program} {w:World} {K:Type} [DecidableEq K] {knd:KeyKind prog w K} {A:Around} {E:Value→Shared→Prop} {s:Shared}
end
section
variable {prog:Program} {w:World} {K:Type} [DecidableEq K] {knd:KeyKind prog w K} {A:Around} {E:Value→Shared→Prop} {s:Shared}
end
end L2
namespace L2
open PySem PySem.Spec PyProof.Rows
section
variable {X:Cx}
end
end L2
namespace PM
open PySem L2
section
variable {K:Kx} {XO:XOT} {E:L2.St→XK}
end
end PM
namespace PM
open PySem L2
section
variable {K:Kx} {XO:XOT} {E:St→XK} {ta tb te:TE} {ma mb me:En→R D} {t u:TS} {m n:En→O} {Λ:List (Nat × Addr × HO)} {F0 H0 F H F' H' F1 H1:Hp} {σ:St} {δ:En} {Dn:Ends}
theorem TrOkL.length:∀ {ts:List Tr} {vs:List V} {fp:List Addr},TrOkL K F H ts vs fp→vs.length=ts.length
  | [],vs,fp,h=>by simp only [TrOkL] at h; rw [h.1]; rfl
  | t :: ts,vs,fp,h=>by
    simp only [TrOkL] at h
    obtain ⟨v,r,g1,g2,rfl,rfl,h3,h4⟩:=h
    simp [TrOkL.length h4]
theorem TrOkL.focus:∀ {ts:List Tr} {vs:List V} {fp:List Addr} {k:Nat} {t:Tr},TrOkL K F H ts vs fp→ts[k]?=some t→∃ v f0 f1 f2,vs[k]?=some v∧fp=f0 ++ (f1 ++ f2)∧TrOk K F H t v f1∧∀ (H':Hp) (t':Tr) (v':V) (f1':List Addr),(∀ b ∈ f0 ++ f2,H' b=H b)→TrOk K F H' t' v' f1'→TrOkL K F H' (ts.set k t') (vs.set k v') (f0 ++ (f1' ++ f2))
  | [],vs,fp,k,t,h,e=>by simp at e
  | x :: ts,vs,fp,0,t,h,e=>by
    simp only [TrOkL] at h
    obtain ⟨v,r,g1,g2,rfl,rfl,h3,h4⟩:=h
    simp at e; subst e
    refine ⟨v,[],g1,g2,rfl,rfl,h3,fun H' t' v' f1' hb h'=>?_⟩
    simp only [List.set_cons_zero,List.nil_append,TrOkL]
    exact ⟨v',r,f1',g2,rfl,rfl,h',TrOkL.at' ts h4 fun b hb'=>hb b (by simpa using hb')⟩
  | x :: ts,vs,fp,k + 1,t,h,e=>by
    simp only [TrOkL] at h
    obtain ⟨v,r,g1,g2,rfl,rfl,h3,h4⟩:=h
    obtain ⟨w,f0,f1,f2,i1,rfl,i3,i4⟩:=TrOkL.focus (k:=k) (t:=t) h4 (by simpa using e)
    refine ⟨w,g1 ++ f0,f1,f2,by simpa using i1,by rw [List.append_assoc],i3,fun H' t' v' f1' hb h'=>?_⟩
    simp only [List.set_cons_succ,TrOkL]
    exact ⟨v,_,g1,_,rfl,by rw [List.append_assoc],TrOk.at' x h3 fun b hb'=>hb b (by simp [hb']),i4 H' t' v' f1' (fun b hb'=>hb b (by rcases List.mem_append.mp hb' with z | z <;> simp [z])) h'⟩
end
end PM
namespace PM
open PySem L2
section
variable {K:Kx} {XO:XOT} {E:St→XK} {ta tb te:TE} {ma mb me:En→R D} {t u:TS} {m n:En→O} {Λ:List (Nat × Addr × HO)} {F0 H0 F H F' H' F1 H1:Hp} {σ:St} {δ:En} {Dn:Ends}
end
end PM
namespace PM
open PySem L2
section
variable {K:Kx} {XO:XOT} {E:St→XK} {ta tb te to:TE} {ma mb me mo:En→R D} {t u:TS} {m n:En→O} {Λ:List (Nat × Addr × HO)} {F0 H0 F H F' H' F1 H1:Hp} {σ:St} {δ:En} {Dn:Ends}
end
end PM
namespace PM
open PySem L2
section
variable {K:Kx} {XO:XOT} {E:St→XK} {te ti tj:TE} {me mi mj:En→R D} {Λ:List (Nat × Addr × HO)} {F0 H0 F H:Hp} {σ:St} {δ:En} {Dn:Ends}
end
end PM
namespace L2
open PySem PySem.Spec PyProof.Rows
section
variable {X:Cx}
end
end L2
namespace PM
open PySem L2
section
variable {K:Kx}
end
end PM
namespace L2
open PySem PySem.Spec PyProof.Rows
end L2
namespace PM
end PM
namespace L2
open PySem PySem.Spec PyProof.Rows
section
variable {prog:Program} {w:World} {A:Around} {E:Value→Shared→Prop} {s:Shared}
end
end L2
namespace L2
open PySem PySem.Spec PyProof.Rows
end L2
namespace PM
open PySem L2
end PM
namespace L2
open PySem PySem.Spec PyProof.Rows PM
section
variable {X:Cx} {ca:Nat→Addr} {an:Nat→Str}
end
end L2
namespace PM
open PySem L2
section
variable {K:Kx} {c:Nat} {d:Int→Int→Int} {L:D} {F H F' H' F'' H'':Hp} {x kp dx:Addr} {lv:V} {kvs:List (List Key × V)}
end
section
variable {K:Kx} {XO:XOT} {E:L2.St→XK}
end
end PM
namespace PM
open PySem L2
section
variable {K:Kx} {c m:Nat} {d:Int→Int→Int} {L:D} {E:XK}
end
end PM
namespace PM
open PySem L2
section
variable {K:Kx} {c m:Nat} {d:Int→Int→Int} {L:D}
end
end PM
namespace L2
open PySem PySem.Spec PyProof.Rows
section
variable {P:Program} {w:World} {K:PySem.W.Frag} {mg:Str→Option Value} {base:Heap} {CX:CXT} {k:Nat} {m:Str} {C:Addr} {ps:List Str} {sp sp':Sp}
end
end L2
namespace PM
open PySem L2
section
variable {K:Kx} {c m:Nat} {d:Int→Int→Int} {L:D}
end
end PM
namespace L2
open PySem PySem.Spec PyProof.Rows
section
variable {prog:Program} {w:World} {K:Type} [DecidableEq K] {knd:KeyKind prog w K} {A:Around} {E:Value→Shared→Prop} {s:Shared}
end
section
variable {X:Cx}
end
end L2
namespace PM
open PySem L2
section
variable {K:Kx} {XO:XOT} {E:L2.St→XK}
end
end PM
namespace PM
open PySem L2
section
variable {K:Kx} {XO:XOT} {E:L2.St→XK} {Λ:List (Nat × Addr × HO)} {F0 H0 F H:Hp} {σ:L2.St} {δ:En}
end
end PM
namespace PM
open PySem L2
section
variable {K:Kx} {XO:XOT} {E:L2.St→XK} {Λ:List (Nat × Addr × HO)} {F0 H0 F H:Hp} {σ:L2.St} {δ:En} {t:TS} {m:En→O}
end
end PM
namespace L2
open PySem PySem.Spec PyProof.Rows
section
variable {X:Cx}
end
end L2
namespace PM
open PySem L2
section
variable {X:Cx} {K:Kx} {XO:XOT} {E:L2.St→XK} {te:TE} {me:En→R D} {ca:Nat→Addr} {an:Nat→Str}
end
end PM
namespace L2
open PySem PySem.Spec PyProof.Rows
section
variable {X:Cx}
section
variable {prog:Program} {w:World} {A:Around} {E:Value→Shared→Prop} {s:Shared} {a:Addr} {xs:Array (Int × Tok)}
end
end
end L2
namespace PM
open PySem L2
section
variable {K:Kx}
end
end PM
namespace L2
open PySem PySem.Spec PyProof.Rows
section
variable {prog:Program} {w:World} {A:Around} {E:Value→Shared→Prop} {s:Shared}
end
end L2
namespace PM
open PySem L2
end PM
namespace L2
open PySem PySem.Spec PyProof.Rows PM
section
variable {X:Cx} {ca:Nat→Addr} {an:Nat→Str}
end
end L2
namespace PM
open PySem L2
section
variable {K:Kx}
end
end PM
namespace PM
open PySem L2
section
variable {K:Kx} {XO:XOT} {E:L2.St→XK} {F0 H0 F H F1 H1 F' H':Hp}
def runP (np:Nat) (m:En→R (List (List Int))) (ds:List D):R (List (List Int)):=if ds.length=np then m (zc1 0 ds) else .no
def spP (K:Kx) (XO:XOT) (f:List D→R (List (List Int))):Sp:=fun vs H Q E=>∃ F ds,Same F H∧RepL K F ds vs∧Aft (fun _=>E) XO [] F H (fun ll F' H'=>∀ a bs,TabO H' a bs ll→(∀ b ∈ a :: bs,F' b=none∧H b=none)→Q (.ref a) H') (f ds)
theorem zm3 {np:Nat} {m:En→R (List (List Int))} {vs:List V} {Q:VK} {E:XK} (sp:spP K XO (runP np m) vs H Q E):vs.length=np:=by
  obtain ⟨F,ds,s,r,a⟩:=sp
  unfold runP at a
  split at a
  · rename_i hl; rw [r.length]; exact hl
  · exact a.elim
theorem zoq {np:Nat} {N:List Str} {vs:List V} {Q:VK} {E:XK} {t:TE} {m:En→R (List (List Int))} (h:SEp K XO (fun _=>E) t m) (hn:N.length=np) (sp:spP K XO (runP np m) vs H Q E):(tRet t) { nx:=fun _ H'=>Q .non H',rt:=Q } (L2.start N vs) H:=by
  obtain ⟨F,ds,s,r,a⟩:=sp
  unfold runP at a
  split at a
  · rename_i hl
    have I:=zhi (nv:=0) (N:=N) s r (by omega) hl
    refine h [] F H F H _ _ _ I ?_
    cases q:m (zc1 0 ds) with
    | no=>rw [q] at a; exact a
    | ok ll=>rw [q] at a; exact a
    | ex x=>rw [q] at a; exact a
  · exact a.elim
def zih (f:List D→R (List (List Int))) (ml:En→R (List D)) (δ:En):R (List (List Int)):=(ml δ).bind fun ds=>(f ds).nev
theorem zhB {f:List D→R (List (List Int))} {tl:TA} {ml:En→R (List D)} {E':XK} (h:SA K XO E tl ml):SEp K XO E (zjI (spP K XO f) [] E' tl) (zih f ml):=by
  intro Λ F0 H0 F H σ δ Q I a
  refine h Λ F0 H0 F H σ δ _ I (a.bind.imp fun ds F1 H1 e1 a1 vs r=>⟨F1,ds,e1.fh,by rw [List.append_nil]; exact r,?_⟩)
  exact Aft.imp (fun ll F2 H2 e2 p q bs t h0=>p q bs t fun b hb=>⟨(h0 b hb).1,e1.hh.free (h0 b hb).2⟩) (Aft.any a1)
theorem zoB {G:Hp} {a:Addr} {bs:List Addr} {ll:List (List Int)} (t:TabO H a bs ll) (h:∀ b ∈ a :: bs,G b=H b):Rep K G (trD (tabT ll)) (.ref a):=zki (F:=fun _=>none) (fun _ _ z=>by cases z) (tabT ll) ((tab_iff (K:=K) (F:=fun _=>none)).mpr t).ok h
def zhk (f:Str) (me:En→R (List (List Int))) (δ:En) (ks:List Str) (l:List D):R (List Str × List D):=(me δ).nev.bind fun ll=>ifC (ks.length < 1000) (.ok (putN ks f,putV ks l f (trD (tabT ll)))) .no
theorem zk9 {f:Str} {me:En→R (List (List Int))} {δ:En} {ks:List Str} {l:List D} {x:Xc}:zhk f me δ ks l ≠ .ex x:=by
  unfold zhk ifC
  cases me δ with
  | ok d=>simp only [R.nev_ok,R.bind_ok]; split <;> exact fun h=>by cases h
  | _=>exact fun h=>by cases h
theorem zmC {c:Nat} {f:Str} {te:TE} {me:En→R (List (List Int))} (hc:Cls K.f (K.ca c)∧NoAttr K.f (K.ca c) f) (h:SEp K XO E te me):SInB K c (sFld K.f (tVar 0) te f) (zhk f me):=by
  intro F1 H1 F H σ δ x dx fs l Dn hv I hx h0 hF hH hl a
  refine h [] _ _ F H σ δ _ I ?_
  unfold zhk at a
  cases q:me δ with
  | no=>rw [q] at a; exact a
  | ex xx=>rw [q] at a; exact a.elim
  | ok ll =>
    rw [q] at a
    intro F2 H2 e p bs tb hn
    simp only [R.nev_ok,R.bind_ok,ifC] at a
    by_cases z1:(fs.map (·.1)).length < 1000
    · rw [if_pos z1] at a
      have x1:=e.hh _ _ hH
      have F2x:F2 x=none:=e.nw x _ hF hH
      have inB:∀ b ∈ p :: bs,zdf F2 H2 (p :: bs) b=H2 b:=fun b hb=>by unfold zdf; rw [if_pos hb]
      have outB:∀ b,b ∉ p :: bs→zdf F2 H2 (p :: bs) b=F2 b:=fun b hb=>by unfold zdf; rw [if_neg hb]
      have ff:Same F2 (zdf F2 H2 (p :: bs)):=fun b o h=>by
        rw [outB b fun z=>by rw [(hn b z).1] at h; cases h]
        exact h
      have fh:Same (zdf F2 H2 (p :: bs)) H2:=fun b o h=>by
        unfold zdf at h
        split at h
        · exact h
        · exact e.fh b o h
      have xp:x ∉ p :: bs:=fun z=>by rw [(hn x z).2] at hH; cases hH
      have e3:Ext F H (zdf F2 H2 (p :: bs)) H2:=⟨e.ff.trans ff,e.hh,fh,fun b o g1 g2=>by
        rw [outB b fun z=>by rw [(hn b z).2] at g2; cases g2]
        exact e.nw b o g1 g2⟩
      have F3x:zdf F2 H2 (p :: bs) x=none:=by rw [outB x xp]; exact F2x
      have I3:=I.grow e3
      have nb:∀ b ∈ p :: bs,H1 b=none:=fun b hb=>I.ext.hh.free (hn b hb).2
      have inM:∀ b ∈ p :: bs,minH F1 H1 (zdf F2 H2 (p :: bs)) b=H2 b:=fun b hb=>by
        unfold minH
        rw [if_neg (fun w=>w.2 (nb b hb)),inB b hb]
      have rp:Rep K (minH F1 H1 (zdf F2 H2 (p :: bs))) (trD (tabT ll)) (.ref p):=zoB tb inM
      obtain ⟨g3,g4⟩:=zit (f:=f) rp (hl.mono (zg7 e3.ff))
      refine ⟨_,hx,x,_,dx,fs,rfl,x1,hc.1,hc.2,by simpa using z1,?_⟩
      exact a _ _ _ (I3.poke hv h0 F3x) F3x zaG g3 g4
    · rw [if_neg z1] at a; exact a.elim
theorem zh5 {c:Nat} {f:Str} {te:TE} {me:En→R (List (List Int))} (hc:Cls K.f (K.ca c)∧NoAttr K.f (K.ca c) f) (h:SEp K XO E te me):SInX K XO E c (sFld K.f (tVar 0) te f) (zhk f me):=(zmC hc h).x fun _ _ _ _=>zk9
def mSub (i:Nat) (mk:En→R D) (δ:En):R D:=match δ[i]? with
  | some (.p (.l ts))=>(mk δ).bind fun k=>(match k with
    | .int k=>(match ixN ts.length k with | some k'=>(match ts[k']? with | some T=>.ok (trD T) | none=>.no) | none=>.no)
    | _=>.no)
  | _=>.no
theorem zk7 {i:Nat} {tk:TE} {mk:En→R D} {tr:TA} {mr:En→R (List D)} (h1:SE K XO E tk mk) (hr:SAb K XO E tr mr):SAb K XO E (zc4 (tOp (rIxL K.f) (tVar i) tk) tr) (zaa (mSub i mk) mr):=by
  intro Λ F0 H0 F H σ δ Q I a
  unfold zaa mSub at a
  split at a
  · rename_i ts q
    obtain ⟨p,bs,s1,s2,_⟩:=I.tab q
    cases qk:mk δ with
    | no=>rw [qk] at a; exact a.elim
    | ex xx =>
      rw [qk] at a
      refine ⟨_,s1,h1 Λ F0 H0 F H σ δ _ I ?_⟩
      rw [qk]
      exact a
    | ok k =>
      rw [qk] at a
      refine ⟨_,s1,h1 Λ F0 H0 F H σ δ _ I ?_⟩
      rw [qk]
      intro F1 H1 e y ry
      have ok:=TrOk.mono e.ff e.hh _ s2.ok
      simp only [TrOk] at ok
      obtain ⟨a',vs,fs,ea,_,hv,hL⟩:=ok
      cases ea
      simp only [R.bind_ok] at a
      cases k with
      | int k =>
        simp only [Rep] at ry
        subst ry
        dsimp only at a
        cases z:ixN ts.length k with
        | none=>rw [z] at a; exact a.elim
        | some k' =>
          rw [z] at a
          dsimp only at a
          cases z2:ts[k']? with
          | none=>rw [z2] at a; exact a.elim
          | some T =>
            rw [z2] at a
            dsimp only at a
            obtain ⟨v,f0,f1,f2,g1,_,g3,_⟩:=hL.focus z2
            refine ⟨p,vs,k,v,rfl,rfl,.inl (.inl hv),?_,?_⟩
            · unfold atI
              rw [hL.length,z]
              exact g1
            · rw [R.bind_ok] at a
              refine hr Λ F0 H0 F1 H1 σ δ _ (I.grow e) (Aft.imp (fun dy F2 H2 e2 a2 w rw'=>?_) (Aft.bind (Aft.mono e a)))
              exact a2 F2 H2 (.refl e2.fh) _ (.cons (.inr (.inr ⟨T,f1,rfl,TrOk.mono e2.ff e2.hh T g3⟩)) rw')
      | _=>exact a.elim
  · exact a.elim
variable (K XO E) in
def SEt (t:TE) (m:En→R Tr):Prop:=∀ Λ F0 H0 F H σ δ Q,EnvOk K Λ F0 H0 F H σ δ→Aft E XO σ F H (fun T F' H'=>∀ a bs,Tab K F' H' a bs T→(∀ b ∈ a :: bs,F' b=none∧H b=none)→Q (.ref a) H') (m δ)→t σ H Q
def zkd (m:En→R (List (List Int))) (δ:En):R Tr:=(m δ).bind fun ll=>.ok (tabT ll)
theorem zlm {t:TE} {m:En→R (List (List Int))} (h:SEp K XO E t m):SEt K XO E t (zkd m):=by
  intro Λ F0 H0 F H σ δ Q I a
  refine h Λ F0 H0 F H σ δ _ I (a.bind.imp fun ll F1 H1 e1 a1 p bs tb hn=>?_)
  exact a1 F1 H1 (.refl e1.fh) p bs (tab_iff.mpr tb) fun b hb=>⟨(hn b hb).1,(hn b hb).2⟩
def mTr2 (ma mb:En→R Tr) (δ:En):R Tr:=(ma δ).bind fun x=>(mb δ).bind fun y=>.ok (.l [x,y])
theorem zmi {ta tb:TE} {ma mb:En→R Tr} (ha:SEt K XO E ta ma) (hb:SEt K XO E tb mb):SEt K XO E (tLst (zc4 ta (zc4 tb tNil))) (mTr2 ma mb):=by
  intro Λ F0 H0 F H σ δ Q I a
  refine ha Λ F0 H0 F H σ δ _ I (a.bind.imp fun T1 F1 H1 e1 a1 p bs t1 n1=>?_)
  refine hb Λ F0 H0 F1 H1 σ δ _ (I.grow e1) (a1.bind.imp fun T2 F2 H2 e2 a2 q cs t2 n2=>?_)
  refine ⟨by simp [sizeLine],fun c hc=>?_⟩
  have u1:Tab K F2 H2 p bs T1:=t1.mono e2.ff e2.hh
  have c1:∀ b ∈ p :: bs,b ≠ c:=fun b hb z=>by
    obtain ⟨o,ho⟩:=u1.obj b hb
    rw [z,hc] at ho; cases ho
  have c2:∀ b ∈ q :: cs,b ≠ c:=fun b hb z=>by
    obtain ⟨o,ho⟩:=t2.obj b hb
    rw [z,hc] at ho; cases ho
  have dj:∀ b ∈ p :: bs,b ∉ q :: cs:=fun b h1 h2=>by
    obtain ⟨o,ho⟩:=t1.obj b h1
    rw [(n2 b h2).2] at ho; cases ho
  refine a2 F2 _ (.newO e2.fh hc) c ((p :: bs) ++ (q :: cs)) ⟨?_,?_⟩ fun b hb=>?_
  · have k1:=TrOk.at' (H':=upd H2 c (.lst [.ref p,.ref q])) T1 u1.ok fun b hb=>zar (c1 b hb)
    have k2:=TrOk.at' (H':=upd H2 c (.lst [.ref p,.ref q])) T2 t2.ok fun b hb=>zar (c2 b hb)
    simp only [TrOk]
    refine ⟨c,[.ref p,.ref q],(p :: bs) ++ (q :: cs),rfl,rfl,zaG,?_⟩
    simp only [TrOkL]
    exact ⟨_,_,p :: bs,q :: cs,rfl,rfl,k1,_,_,q :: cs,[],rfl,by rw [List.append_nil],k2,rfl,rfl⟩
  · refine List.nodup_cons.mpr ⟨fun z=>?_,List.nodup_append.mpr ⟨u1.nd,t2.nd,fun x hx y hy z=>dj x hx (z ▸ hy)⟩⟩
    rcases List.mem_append.mp z with z | z
    · exact c1 c z rfl
    · exact c2 c z rfl
  · rcases List.mem_cons.mp hb with rfl | hb
    · exact ⟨e2.fh.free hc,(e1.hh.trans e2.hh).free hc⟩
    · rcases List.mem_append.mp hb with hb | hb
      · obtain ⟨o,ho⟩:=t1.obj b hb
        exact ⟨e2.nw _ _ (n1 b hb).1 ho,(n1 b hb).2⟩
      · exact ⟨(n2 b hb).1,e1.hh.free (n2 b hb).2⟩
def zje (me:En→R Tr) (i:Nat) (δ:En):O:=(me δ).toO δ fun T=>match δ[i]? with
  | none=>.no
  | some (.l _)=>.no
  | some _=>if zij i δ=true then .nx (δ.set i (.p T)) else .no
theorem zmc {i:Nat} {te:TE} {mp:En→R Tr} (h:SEt K XO E te mp):SS K XO E (tAsg te (zfN i)) (zje mp i):=by
  intro Λ F0 H0 F H σ δ Dn I a
  refine h Λ F0 H0 F H σ δ _ I ((AftS.of I a).imp fun T F1 H1 e c p bs t h0=>?_)
  cases q:δ[i]? with
  | none=>simp only [q] at c; exact c.elim
  | some x =>
    simp only [q] at c
    cases x with
    | l d=>exact c.elim
    | no | v d | o d | p l2 =>
      dsimp only at c
      split at c
      · rename_i hn
        exact c _ F1 H1 (I.putP ⟨_,q,fun d z=>by cases z⟩ (zjt hn) e t h0)
      · exact c.elim
def ziu (mo me:En→R D) (δ:En):O:=(mo δ).toO δ fun d=>match d with
  | .lst l=>(me δ).toO δ fun _=>ifC (l.length < sizeLine) (.nx δ) .no
  | _=>.no
theorem zla {to te:TE} {mo me:En→R D} (ho:SEo K XO E to mo) (he:SE K XO E te me):SS K XO E (ziG (tBM K.f "list" ziD to (zc4 te tNil))) (ziu mo me):=by
  intro Λ F0 H0 F H σ δ Dn I a
  refine ho Λ F0 H0 F H σ δ _ I ((AftS.of I a).imp fun d F1 H1 e1 c p p0 p1 po=>?_)
  cases d with
  | lst l =>
    obtain ⟨vs,g1,g2⟩:=po
    refine ⟨.inl ⟨rfl,vs,.inl (.inl g1)⟩,?_⟩
    dsimp only at c
    refine he Λ F0 H0 F1 H1 σ δ _ (I.grow e1) ((AftS.of (I.grow e1) c).imp fun d2 F2 H2 e2 c2 v r=>?_)
    unfold ifC at c2
    split at c2
    · rename_i hl
      have g1':=e2.hh _ _ g1
      refine ⟨p,vs,v,rfl,rfl,g1',by rw [g2.length]; exact hl,?_⟩
      have e:=e1.trans e2
      have f2:F2 p=none:=e2.nw _ _ p0 g1
      refine c2 σ F2 _ (I.grow ⟨e.ff,fun b o h=>?_,fun b o h=>?_,e.nw⟩)
      · rw [zar (zaw h p1)]; exact e.hh b o h
      · rw [zar (zaw h f2)]; exact e.fh b o h
    · exact c2.elim
  | _=>exact c.elim
end
end PM
namespace L2
open PySem PySem.Spec PyProof.Rows
section
variable {X:Cx}
theorem zj7 {M:Model} {A:Around} {E:Value→Shared→Prop} {s:Shared} {a b:Addr} {Q:Value→Shared→Prop} (ha:s.TypeIs (.ref a) "list") (hb:s.TypeIs (.ref b) "list") (hc:wpAny M A (call (.builtin "list.__iadd__") [.ref a,.ref b]) Q E s):wpAny M A (inplaceOp .Add (.ref a) (.ref b)) Q E s:=by
  unfold inplaceOp
  refine wpAny_holding ?_
  have lk:typeLookup (.type "list") (dunderI "add")=pure (some (.builtin "list.__iadd__")):=F.slot_list_iadd.lookup
  have hfi:fillsInplaceSlot (.type "list") "add" (Operator.Add == .Add)=pure false:=by
    show (typeLookup (.type "list") (dunderI "add") >>= fun fi=>pure (fi.isSome && !isSeqSlot fi))=pure false
    rw [lk]
    show (pure (true && !isSeqSlotId "list.__iadd__"):Sem Bool)=pure false
    rw [show isSeqSlotId "list.__iadd__"=true by decide +kernel]; rfl
  have hsi:seqSlot? (.type "list") (dunderI "add")=pure (some (.builtin "list.__iadd__")):=by
    unfold seqSlot?
    rw [lk]
    rw [pure_bind,show isSeqSlot (some (.builtin "list.__iadd__"))=true from (by decide +kernel:isSeqSlotId "list.__iadd__"=true)]; rfl
  refine wpAny_bind (wpAny_typeOf ha (wpAny_bind (wpAny_of_eq hfi ?_)))
  show wpAny M A (if false=true then _ else _) Q E s
  rw [if_neg Bool.false_ne_true]
  refine wpAny_bind (wpAny_binaryOp1_none (nm:="add") ha hb noFill_list_add ?_)
  refine wpAny_bind (wpAny_of_eq hsi ?_)
  exact wpAny_bind (wpAny_rule hc)
def zof:TIp:=fun x y H Q=>∃ l b xs zs,x = .ref l∧y = .ref b∧H l=some (.lst xs)∧H b=some (.lst zs)∧xs.length + zs.length ≤ sizeLine∧Q (.ref l) (upd H l (.lst (xs ++ zs)))
theorem zoL:PIp X .Add zof:=by
  intro pins s σ H x y v u Q I r1 r2 h
  obtain ⟨l,b,xs,zs,rfl,rfl,hH,hB,hz,q⟩:=h
  cases r1
  cases r2
  obtain ⟨z,its,n,r,hl,e⟩:=I.lstM hH
  obtain ⟨z2,its2,n2,r2,hl2,e2⟩:=I.lstM hB
  have hsz:its.toArray.size + its2.toArray.size ≤ sizeLine:=by rw [List.size_toArray,List.size_toArray]; omega
  have hlong:¬ (!its.toArray.isEmpty && Builtin.List.listTooLong (its.toArray.size + its2.toArray.size))=true:=by
    rw [zml hsz,Bool.and_false]
    exact Bool.false_ne_true
  refine zj7 ⟨_,e,rfl⟩ ⟨_,e2,rfl⟩ (call_meets F.slot_list_iadd ⟨_,e,rfl⟩ F.entry_list_iadd (F.args_list_iadd_2 _ _) (AutoSeq1.list___iadd___list_list_0 l its.toArray n b its2.toArray n2 hlong (by rw [List.size_toArray]; omega) (by omega)) ⟨e,e2,?_⟩)
  refine ⟨.ref l,_,I.lset (its':=its ++ its2) hH e (by simp) (r.append r2) ?_,rfl,q⟩
  rw [List.length_append]
  omega
end
end L2
namespace PM
open PySem L2
section
variable {K:Kx} {XO:XOT} {E:L2.St→XK} {F0 H0 F H F1 H1 F' H':Hp}
def zle (i:Nat) (me:En→R D) (δ:En):O:=match δ[i]? with
  | some (.o (.lst l))=>(me δ).toO δ fun d=>match d with
    | .lst r=>if l.length + r.length ≤ sizeLine then .nx (δ.set i (.o (.lst (l ++ r)))) else .no
    | _=>.no
  | _=>.no
theorem znp {i:Nat} {te:TE} {me:En→R D} (h:SEo K XO E te me):SS K XO E (tAug i te zof) (zle i me):=by
  intro Λ F0 H0 F H σ δ Dn I a
  unfold zle at a
  split at a
  · rename_i l q
    obtain ⟨p,s1,vs,s2,s3⟩:=I.own q
    refine ⟨_,s1,h Λ F0 H0 F H σ δ _ I ((AftS.of I a).imp fun d F1 H1 e c b b0 b1 bo=>?_)⟩
    cases d with
    | lst r =>
      dsimp only at c
      split at c
      · rename_i hz
        obtain ⟨ws,g1,g2⟩:=bo
        have s3':=s3.mono e.ff
        refine ⟨p,b,vs,ws,rfl,rfl,e.hh _ _ s2,g1,by rw [s3.length,g2.length]; exact hz,?_⟩
        have es:σ.set i (some (.ref p))=σ:=by
          refine List.ext_getElem? fun j=>?_
          by_cases z:i=j
          · subst z
            rw [List.getElem?_set_self (List.getElem?_eq_some_iff.mp s1).1,s1]
          · rw [List.getElem?_set_ne z]
        show Dn.nx (σ.set i (some (.ref p))) _
        rw [es]
        exact c σ F1 _ ((I.grow e).chg q s1 ⟨_,zaG,s3'.append g2⟩)
      · exact c.elim
    | _=>exact c.elim
  · exact a.elim
end
end PM
namespace PM
open PySem L2
section
variable {K:Kx} {XO:XOT} {E:L2.St→XK} {Λ:List (Nat × Addr × HO)} {F0 H0 F H:Hp} {σ:L2.St} {δ:En}
theorem Tab.edit {a:Addr} {bs:List Addr} {ts:List Tr} {c:Nat} {U:Tr} (t:Tab K F H a bs (.l ts)) (hc:ts[c]?=some U) :
    ∃ vs v f,H a=some (.lst vs)∧vs.length=ts.length∧vs[c]?=some v∧TrOk K F H U v f∧f.Nodup∧(∀ b ∈ f,b ∈ bs)∧∀ (H':Hp) (U':Tr) (f':List Addr),(∀ b,b ∉ f→H' b=H b)→TrOk K F H' U' v f'→f'.Sublist f→∃ bs',Tab K F H' a bs' (.l (ts.set c U'))∧bs'.Sublist bs:=by
  have ok:=t.ok
  simp only [TrOk] at ok
  obtain ⟨a',vs,fs,ea,eb,h3,h4⟩:=ok
  cases ea
  cases eb
  have nd:=t.nd
  obtain ⟨v,f0,f1,f2,g1,g2,g3,g4⟩:=h4.focus hc
  subst g2
  have nd2:=(List.nodup_cons.mp nd).2
  have n0:=List.nodup_append.mp nd2
  have n1:=List.nodup_append.mp n0.2.1
  refine ⟨vs,v,f1,h3,h4.length,g1,g3,n1.1,fun b hb=>by simp [hb],fun H' U' f' hH hU hs=>?_⟩
  have na:a ∉ f1:=fun z=>(List.nodup_cons.mp nd).1 (by simp [z])
  have r:=g4 H' U' v f' (fun b hb=>hH b fun z=>by
    rcases List.mem_append.mp hb with w | w
    · exact n0.2.2 b w b (by simp [z]) rfl
    · exact n1.2.2 b z b w rfl) hU
  have ev:vs.set c v=vs:=by
    refine List.ext_getElem? fun j=>?_
    by_cases z:c=j
    · subst z
      rw [List.getElem?_set_self (List.getElem?_eq_some_iff.mp g1).1,g1]
    · rw [List.getElem?_set_ne z]
  rw [ev] at r
  have sb:(f0 ++ (f' ++ f2)).Sublist (f0 ++ (f1 ++ f2)):=(hs.append_right f2).append_left f0
  refine ⟨f0 ++ (f' ++ f2),⟨?_,nd.sublist (sb.cons₂ a)⟩,sb⟩
  simp only [TrOk]
  exact ⟨a,vs,_,rfl,rfl,by rw [hH a na]; exact h3,r⟩
mutual
theorem zos:∀ (T:Tr) {v:V} {f f':List Addr},TrOk K F H T v f→TrOk K F H T v f'→f=f'
  | .d x,v,f,f',h1,h2=>by
    simp only [TrOk] at h1 h2
    rw [h1.1,h2.1]
  | .l ts,v,f,f',h1,h2=>by
    simp only [TrOk] at h1 h2
    obtain ⟨a,vs,fs,rfl,rfl,e1,o1⟩:=h1
    obtain ⟨a',vs',fs',e,rfl,e2,o2⟩:=h2
    cases e
    rw [e1] at e2
    cases e2
    rw [zkw ts o1 o2]
  | .t ts,v,f,f',h1,h2=>by
    simp only [TrOk] at h1 h2
    obtain ⟨a,vs,rfl,e1,o1⟩:=h1
    obtain ⟨a',vs',e,e2,o2⟩:=h2
    cases e
    rw [e1] at e2
    cases e2
    exact zkw ts o1 o2
theorem zkw:∀ (ts:List Tr) {vs:List V} {f f':List Addr},TrOkL K F H ts vs f→TrOkL K F H ts vs f'→f=f'
  | [],vs,f,f',h1,h2=>by
    simp only [TrOkL] at h1 h2
    rw [h1.2,h2.2]
  | t :: ts,vs,f,f',h1,h2=>by
    simp only [TrOkL] at h1 h2
    obtain ⟨v,r,f1,f2,rfl,rfl,o1,o2⟩:=h1
    obtain ⟨v',r',g1,g2,e,rfl,p1,p2⟩:=h2
    cases e
    rw [zos t o1 p1,zkw ts o2 p2]
end
theorem zou {a:Addr} {bs bs':List Addr} {T:Tr} (t:Tab K F H a bs T) (t':Tab K F H a bs' T):bs=bs':=(List.cons.inj (zos T t.ok t'.ok)).2
theorem zi2 {b:Addr} {H:Hp}:TrOk K F (upd H b (.lst [])) (.l []) (.ref b) [b]:=by
  simp only [TrOk,TrOkL]
  exact ⟨b,[],[],rfl,rfl,zaG,rfl,rfl⟩
theorem EnvOk.blur {j:Nat} {x:Option V} (I:EnvOk K Λ F0 H0 F H σ δ) (hj:δ[j]?=some .no):EnvOk K Λ F0 H0 F H (σ.set j x) δ:=by
  refine ⟨I.ext,by simp [I.len],fun k=>?_,fun k l a hkl g1 g2 g3 g4=>?_,fun y hy=>?_,fun k T h=>?_⟩
  · by_cases e:j=k
    · subst e; rw [hj]; trivial
    · rw [List.getElem?_set_ne e]; exact I.slot k
  · have nk:j ≠ k:=fun z=>by rw [← z,hj] at g1; cases g1
    have nl:j ≠ l:=fun z=>by rw [← z,hj] at g2; cases g2
    rw [List.getElem?_set_ne nk] at g3
    rw [List.getElem?_set_ne nl] at g4
    exact I.dist k l a hkl g1 g2 g3 g4
  · obtain ⟨⟨d,g1⟩,g2,g3⟩:=I.lent y hy
    have ny:j ≠ y.1:=fun z=>by rw [← z,hj] at g1; cases g1
    exact ⟨⟨d,g1⟩,by rw [List.getElem?_set_ne ny]; exact g2,g3⟩
  · obtain ⟨a,bs,s1,s2,s3,s4,s5⟩:=I.tabs k T h
    have nk:j ≠ k:=fun z=>by rw [← z,hj] at h; cases h
    refine ⟨a,bs,by rw [List.getElem?_set_ne nk]; exact s1,s2,s3,fun l b hl ho hs=>?_,s5⟩
    have nl:j ≠ l:=fun z=>by rw [← z,hj] at ho; cases ho
    rw [List.getElem?_set_ne nl] at hs
    exact s4 l b hl ho hs
def isL1:Tr→Bool
  | .l _=>true
  | _=>false
def isL2:Tr→Bool
  | .l us=>us.all isL1
  | _=>false
def zl3 (i j k:Nat) (δ:En):O:=match δ[i]?,δ[j]?,δ[k]? with
  | some (.p (.l ts)),some .no,some .no=>if ts.all isL2=true∧j ≠ k then .nx (δ.set i (.p (.l (ts.map fun _=>.l [])))) else .no
  | _,_,_=>.no
theorem znu {i j k:Nat}:SS K XO E (tFor (zkZ K.f (tVar i)) (zfN j) (tSeq (tFor (zkZ K.f (tVar j)) (zfN k) (ziG (tBM0 K.f "list" zlY (tVar k)))) (ziG (tBM0 K.f "list" zlY (tVar j))))) (zl3 i j k):=by
  intro Λ F0 H0 F H σ δ Dn I a
  unfold zl3 at a
  split at a
  · rename_i ts q1 q2 q3
    split at a
    · rename_i hc
      obtain ⟨hall,hjk⟩:=hc
      have hij:i ≠ j:=fun z=>by rw [z,q2] at q1; cases q1
      have hik:i ≠ k:=fun z=>by rw [z,q3] at q1; cases q1
      have li:i < δ.length:=(List.getElem?_eq_some_iff.mp q1).1
      obtain ⟨p,bs,tt⟩:=I.tabAt q1
      have root:∀ {F H:Hp} {σ:L2.St} {ts':List Tr},EnvOk K Λ F0 H0 F H σ (δ.set i (.p (.l ts')))→σ[i]?=some (some (.ref p))→∃ bs',TabAt K H0 F H σ (δ.set i (.p (.l ts'))) i p bs' (.l ts'):=fun {F H σ ts'} J hs=>by
        obtain ⟨p',bs',t'⟩:=J.tabAt (List.getElem?_set_self li)
        have:=t'.at'
        rw [hs] at this
        cases this
        exact ⟨bs',t'⟩
      have top:∀ {H:Hp} {F:Hp} {bs':List Addr} {ts':List Tr},Tab K F H p bs' (.l ts')→∃ vs,H p=some (.lst vs)∧vs.length=ts'.length:=fun {H F bs' ts'} t=>by
        have ok:=t.ok
        simp only [TrOk] at ok
        obtain ⟨a',vs,fs,ea,_,h3,h4⟩:=ok
        cases ea
        exact ⟨vs,h3,h4.length⟩
      have sj:∀ (ts':List Tr),(δ.set i (.p (.l ts')))[j]?=some .no:=fun ts'=>by rw [List.getElem?_set_ne hij]; exact q2
      have sk:∀ (ts':List Tr),(δ.set i (.p (.l ts')))[k]?=some .no:=fun ts'=>by rw [List.getElem?_set_ne hik]; exact q3
      have I0:EnvOk K Λ F0 H0 F H σ (δ.set i (.p (.l ts))):=by
        have e:δ.set i (.p (.l ts))=δ:=by
          refine List.ext_getElem? fun m=>?_
          by_cases z:i=m
          · subst z
            rw [List.getElem?_set_self li,q1]
          · rw [List.getElem?_set_ne z]
        rw [e]; exact I
      obtain ⟨vs0,hp0,_⟩:=top tt.tab
      refine ⟨_,tt.at',p,rfl,⟨vs0,.inl (.inl hp0)⟩,?_⟩
      refine ⟨fun c m σ H=>m=ts.length - c∧c ≤ ts.length∧∃ F ts',EnvOk K Λ F0 H0 F H σ (δ.set i (.p (.l ts')))∧σ[i]?=some (some (.ref p))∧ts'.length=ts.length∧ts'.all isL2=true∧∀ c',c' < c→ts'[c']?=some (.l []),⟨_,rfl,Nat.zero_le _,F,ts,I0,tt.at',rfl,hall,fun c' h=>absurd h (Nat.not_lt_zero _)⟩,?_⟩
      rintro c m σ H ⟨rfl,hcl,F,ts',J,hs,hlen,hsh,hdone⟩
      obtain ⟨bs',t'⟩:=root J hs
      obtain ⟨vs,hp,hvl⟩:=top t'.tab
      by_cases hlt:c < ts.length
      · have hcv:c < vs.length:=by omega
        refine .inr ⟨⟨vs,vs[c],.inl (.inl hp),List.getElem?_eq_getElem hcv⟩,fun σ' H'=>∃ F ts',EnvOk K Λ F0 H0 F H' σ' (δ.set i (.p (.l ts')))∧σ'[i]?=some (some (.ref p))∧ts'.length=ts.length∧ts'.all isL2=true∧∀ c',c' < c + 1→ts'[c']?=some (.l []),fun σ' H' w=>⟨_,by omega,rfl,by omega,w⟩,fun x H' y=>?_⟩
        obtain ⟨rfl,hy⟩:=y
        have hx:vs[c]?=some x:=hy vs (.inl (.inl hp))
        -- the table c
        obtain ⟨U,hU⟩:∃ U,ts'[c]?=some U:=⟨_,List.getElem?_eq_getElem (by omega)⟩
        have hU2:isL2 U=true:=List.all_eq_true.mp hsh U (List.mem_of_getElem? hU)
        obtain ⟨us,rfl⟩:∃ us,U = .l us:=by
          cases U with
          | l us=>exact ⟨us,rfl⟩
          | _=>cases hU2
        obtain ⟨vs',v,f,g1,g2,g3,g4,g5,g6,g7⟩:=t'.tab.edit hU
        rw [hp] at g1
        cases g1
        rw [hx] at g3
        cases g3
        have g4':=g4
        simp only [TrOk] at g4'
        obtain ⟨b,ws,fs,rfl,rfl,hb,hL⟩:=g4'
        have J1:=J.blur (j:=j) (x:=some (.ref b)) (sj ts')
        have hs1:(σ.set j (some (V.ref b)))[i]?=some (some (.ref p)):=by rw [List.getElem?_set_ne (Ne.symm hij)]; exact hs
        have hj1:(σ.set j (some (V.ref b)))[j]?=some (some (.ref b)):=List.getElem?_set_self (by rw [J.len,List.length_set]; exact (List.getElem?_eq_some_iff.mp q2).1)
        show tSeq _ _ _ (σ.set j (some (.ref b))) H'
        refine ⟨_,hj1,b,rfl,⟨ws,.inl (.inl hb)⟩,?_⟩
        refine ⟨fun d m σ H=>m=us.length - d∧d ≤ us.length∧∃ F ts' us',EnvOk K Λ F0 H0 F H σ (δ.set i (.p (.l ts')))∧σ[i]?=some (some (.ref p))∧σ[j]?=some (some (.ref b))∧ts'.length=ts.length∧ts'.all isL2=true∧(∀ c',c' < c→ts'[c']?=some (.l []))∧ts'[c]?=some (.l us')∧us'.length=us.length∧H p=some (.lst vs),⟨_,rfl,Nat.zero_le _,F,ts',us,J1,hs1,hj1,hlen,hsh,hdone,hU,rfl,hp⟩,?_⟩
        rintro d m2 σ2 H2 ⟨rfl,hdl,F2,ts2,us2,J2,hs2,hj2,hlen2,hsh2,hdone2,hU2',hul,hp2⟩
        obtain ⟨bs2,t2⟩:=root J2 hs2
        obtain ⟨vs2,v2,f2,k1,k2,k3,k4,k5,k6,k7⟩:=t2.tab.edit hU2'
        rw [hp2] at k1
        cases k1
        rw [hx] at k3
        cases k3
        have k4':=k4
        simp only [TrOk] at k4'
        obtain ⟨b2,ws2,fs2,eb2,rfl,hb2,hL2⟩:=k4'
        cases eb2
        have tb2:Tab K F2 H2 b fs2 (.l us2):=⟨k4,k5⟩
        have pb:p ∉ b :: fs2:=fun z=>(List.nodup_cons.mp t2.tab.nd).1 (k6 p z)
        have sh2:us2.all isL1=true:=List.all_eq_true.mp hsh2 _ (List.mem_of_getElem? hU2')
        by_cases hd:d < us.length
        · have hdw:d < ws2.length:=by rw [hL2.length]; omega
          refine .inr ⟨⟨ws2,ws2[d],.inl (.inl hb2),List.getElem?_eq_getElem hdw⟩,fun σ' H'=>∃ F ts' us',EnvOk K Λ F0 H0 F H' σ' (δ.set i (.p (.l ts')))∧σ'[i]?=some (some (.ref p))∧σ'[j]?=some (some (.ref b))∧ts'.length=ts.length∧ts'.all isL2=true∧(∀ c',c' < c→ts'[c']?=some (.l []))∧ts'[c]?=some (.l us')∧us'.length=us.length∧H' p=some (.lst vs),fun σ' H' w=>⟨_,by omega,rfl,by omega,w⟩,fun y H3 yy=>?_⟩
          obtain ⟨eH,hy3⟩:=yy
          have hw:ws2[d]?=some y:=hy3 ws2 (.inl (.inl hb2))
          cases eH
          obtain ⟨R,hR⟩:∃ R,us2[d]?=some R:=⟨_,List.getElem?_eq_getElem (by omega)⟩
          have hR1:isL1 R=true:=List.all_eq_true.mp sh2 R (List.mem_of_getElem? hR)
          obtain ⟨rs,rfl⟩:∃ rs,R = .l rs:=by
            cases R with
            | l rs=>exact ⟨rs,rfl⟩
            | _=>cases hR1
          obtain ⟨ws3,w3,f3,m1,m2,m3,m4,m5,m6,m7⟩:=tb2.edit hR
          rw [hb2] at m1
          cases m1
          rw [hw] at m3
          cases m3
          have m4':=m4
          simp only [TrOk] at m4'
          obtain ⟨r,zs,gs,rfl,rfl,hr,hrL⟩:=m4'
          have J3:=J2.blur (j:=k) (x:=some (.ref r)) (sk ts2)
          have hk3:(σ2.set k (some (V.ref r)))[k]?=some (some (.ref r)):=List.getElem?_set_self (by rw [J2.len,List.length_set]; exact (List.getElem?_eq_some_iff.mp q3).1)
          have hi3:(σ2.set k (some (V.ref r)))[i]?=some (some (.ref p)):=by rw [List.getElem?_set_ne (Ne.symm hik)]; exact hs2
          have hj3:(σ2.set k (some (V.ref r)))[j]?=some (some (.ref b)):=by rw [List.getElem?_set_ne (Ne.symm hjk)]; exact hj2
          obtain ⟨bs3,t3⟩:=root J3 hi3
          obtain ⟨fs',tb',sb'⟩:=m7 (upd H2 r (.lst [])) (.l []) [r] (fun x hx=>zar fun z=>hx (by rw [z]; simp)) zi2 (List.Sublist.cons₂ r (List.nil_sublist _))
          obtain ⟨bs',tp',sp'⟩:=k7 (upd H2 r (.lst [])) (.l (us2.set d (.l []))) (b :: fs') (fun x hx=>zar fun z=>hx (by rw [z]; exact List.mem_cons_of_mem _ (m6 r (by simp)))) tb'.ok (sb'.cons₂ b)
          have rb:r ∈ b :: fs2:=List.mem_cons_of_mem _ (m6 r (by simp))
          have ebs:bs3=bs2:=zou t3.tab t2.tab
          subst ebs
          have J4:=J3.chgT (b:=r) (u:=.lst []) t3 (List.mem_cons_of_mem _ (k6 r rb)) tp' fun x hx=>sp'.subset hx
          rw [List.set_set] at J4
          refine ⟨_,hk3,.inl ⟨rfl,zs,.inl (.inl hr)⟩,r,zs,rfl,rfl,hr,F2,_,us2.set d (.l []),J4,hi3,hj3,by rw [List.length_set]; exact hlen2,?_,fun c' hc'=>?_,?_,by rw [List.length_set]; exact hul,?_⟩
          · refine List.all_eq_true.mpr fun T hT=>?_
            rcases List.mem_or_eq_of_mem_set hT with z | z
            · exact List.all_eq_true.mp hsh2 T z
            · rw [z]
              refine List.all_eq_true.mpr fun T2 hT2=>?_
              rcases List.mem_or_eq_of_mem_set hT2 with z | z
              · exact List.all_eq_true.mp sh2 T2 z
              · rw [z]; rfl
          · rw [List.getElem?_set_ne (by omega)]; exact hdone2 c' hc'
          · rw [List.getElem?_set_self (by omega)]
          · rw [zar fun z=>pb (by rw [z]; exact rb)]; exact hp2
        · -- the rows are done: the table itself
          refine .inl ⟨⟨ws2,.inl (.inl hb2),by rw [hL2.length]; omega⟩,?_⟩
          obtain ⟨bs',tp',sp'⟩:=k7 (upd H2 b (.lst [])) (.l []) [b] (fun x hx=>zar fun z=>hx (by rw [z]; simp)) zi2 (List.Sublist.cons₂ b (List.nil_sublist _))
          have J4:=J2.chgT (b:=b) (u:=.lst []) t2 (List.mem_cons_of_mem _ (k6 b (by simp))) tp' fun x hx=>sp'.subset hx
          rw [List.set_set] at J4
          refine ⟨_,hj2,.inl ⟨rfl,ws2,.inl (.inl hb2)⟩,b,ws2,rfl,rfl,hb2,F2,_,J4,hs2,by rw [List.length_set]; exact hlen2,?_,fun c' hc'=>?_⟩
          · refine List.all_eq_true.mpr fun T hT=>?_
            rcases List.mem_or_eq_of_mem_set hT with z | z
            · exact List.all_eq_true.mp hsh2 T z
            · rw [z]; rfl
          · by_cases z:c'=c
            · subst z
              rw [List.getElem?_set_self (by omega)]
            · rw [List.getElem?_set_ne (fun w=>z w.symm)]; exact hdone2 c' (by omega)
      · have hce:c=ts.length:=by omega
        subst hce
        refine .inl ⟨⟨vs,.inl (.inl hp),by omega⟩,a σ F H ?_⟩
        have e:ts'=ts.map fun _=>.l []:=by
          refine List.ext_getElem? fun c'=>?_
          rw [List.getElem?_map]
          by_cases z:c' < ts.length
          · rw [hdone c' z,List.getElem?_eq_getElem z]; rfl
          · rw [List.getElem?_eq_none (by omega),List.getElem?_eq_none (by omega)]; rfl
        rw [← e]; exact J
    · exact a.elim
  · exact a.elim
end
end PM
namespace My
open PySem L2 PM
def zdJ:Nat→Bool
  | 1=>true
  | _=>false
def zcW (c:Nat):Bool:=zdJ (c % 16)
def zez:Nat→Option Bool
  | 1=>some true
  | _=>none
def zfb (c:Nat):Option Bool:=zez (c % 16)
def zbb:Nat→Bool
  | 3=>true
  | 4=>true
  | _=>false
def zd2:Nat→Bool
  | 4=>true
  | _=>false
def zbs:Nat→Option Bool
  | 3=>some true
  | 4=>some true
  | _=>none
def zjL:Nat→Option Bool
  | 3=>some true
  | 4=>some false
  | _=>none
def zjA:Nat→Option Bool
  | 3=>some false
  | 4=>some true
  | _=>none
def zcG:En→O:=(mSeq (mIfS (zao (m2 oLt (mRd 1) (mCB fLen (zaa (mRd 0) mNil))))
  (mRet (m2 oIxL (mRd 0) (mRd 1)))
  zbr)
  (mRet (mC (.int 0))))
def zay:List D→R D:=runF 2 0 zcG
def zfG:En→O:=(mRet (m2 oMod (m2 oMul (m2 oAdd (m2 oAdd (m2 oMod (mRd 0) (m2 oPow (mC (.int 10)) (mC (.int 20)))) (m2 oMul (mRd 1) (mRd 1))) (mC (.int 3))) (m2 oAdd (mC (.int 39373)) (m2 oMul (mC (.int 2)) (mRd 1)))) (mC (.int 2147483647))))
def zce:List D→R D:=runF 2 0 zfG
def zgK:En→O:=(mRet (m2 oAdd (m2 oMul (zag zce (zaa (mVar 0) (zaa (mVar 1) mNil))) (mC (.int 2147483629))) (m2 oMul (mC (.int 11)) (mRd 1))))
def zcL:List D→R D:=runF 2 0 zgK
def zf3:En→O:=(mRet (mCB fAbs (zaa (m2 oSub (m2 oMod (m2 oIxL (mRd 0) (mRd 1)) (mRd 3)) (m2 oMod (m2 oIxL (mRd 0) (mRd 2)) (mRd 3))) mNil)))
def zbT:List D→R D:=runF 4 0 zf3
def zes:En→R D:=zd7 (mRng (zaa (m2 oMul (mC (.int 2)) (mRd 1)) mNil)) [4] 1 (zaU 1) none (zag zcL (zaa (m2 oIxL (mRd 0) (m2 oMod (mRd 1) (mCB fLen (zaa (mRd 0) mNil)))) (zaa (mVar 1) mNil)))
def zc7:En→R D:=zd7 (mRng (zaa (mVar 0) mNil)) [] 1 (zaU 0) none (mC (.int 0))
def zcs:En→R (List (List Int)):=zdN (mRng (zaa (mVar 1) mNil)) [1] 1 (zaU 1) zc7
def zea:En→O:=(mSeq (mAsg (zag zbT (zaa (mVar 5) (zaa (mVar 7) (zaa (mVar 8) (zaa (mVar 3) mNil))))) (zax 9))
  (mSeq (mAsg (m2 oAdd (mRd 9) (zag zbT (zaa (mVar 5) (zaa (m2 oAdd (mRd 1) (mRd 7)) (zaa (m2 oAdd (mRd 1) (mRd 8)) (zaa (mVar 3) mNil)))))) (zax 9))
  (mSeq (mIfS (zao (m2 oEq (m2 oMod (mRd 2) (mC (.int 2))) (mC (.int 1))))
  (mSeq (mAsg (m2 oAdd (m2 oIxL (mRd 5) (mRd 8)) (m2 oMul (mC (.int 31)) (m2 oIxL (mRd 5) (m2 oAdd (mRd 1) (mRd 7))))) (zax 10))
  (mAsg (m2 oAdd (mRd 3) (m2 oMod (mRd 10) (m2 oAdd (mRd 3) (mC (.int 1))))) (zax 9)))
  zbr)
  (mSeq (ze9 6 (mVar 7) (mVar 8) (mVar 9))
  (ze9 6 (mVar 8) (mVar 7) (mVar 9))))))
def zeA:En→O:=mFor (mRng (zaa (mVar 7) mNil)) (zax 8) zea
def zdV:En→O:=zeA
def zeu:En→O:=mFor (mRng (zaa (mVar 1) mNil)) (zax 7) zdV
def ze7:En→O:=(mSeq (mAsg (m2 oMod (zag zay (zaa (mVar 0) (zaa (mC (.int 0)) mNil))) (m2 oPow (mC (.int 10)) (mC (.int 12)))) (zax 2))
  (mSeq (mAsg (m2 oIxL (mLst (zaa (mC (.int 5)) (zaa (mC (.int 50)) (zaa (m2 oMul (mC (.int 2)) (m2 oPow (mC (.int 10)) (mC (.int 17)))) mNil)))) (m2 oMod (m2 oDiv (mRd 2) (mC (.int 2))) (mC (.int 3)))) (zax 3))
  (mSeq (mAsg (m2 oCat (mSl (mRd 0) (zlj (mC (.int 1))) mNoP) (mLst (zaa (mVar 2) mNil))) (zax 4))
  (mSeq (mAsg zes (zax 5))
  (mSeq (ziz zcs 6)
  (mSeq zeu
  (zmD 6)))))))
def zbV:List D→R D:=runO 2 9 ze7
def zbB:En→O:=(mIfS (zao (m2 oNe (m2 oIxL (m2 oIxL (mRd 0) (mRd 2)) (mRd 2)) (mC (.int 0))))
  (zgL 1 (zaa (mC (.str "a place is away from itself")) mNil))
  zbr)
def zek:En→O:=mFor (mRng (zaa (mVar 1) mNil)) (zax 2) zbB
def zbD:En→O:=(mIfS (zao (m2 oNe (m2 oIxL (m2 oIxL (mRd 0) (mRd 2)) (mRd 3)) (m2 oIxL (m2 oIxL (mRd 0) (mRd 3)) (mRd 2))))
  (zgL 1 (zaa (mC (.str "two places have two unlike lengths")) mNil))
  zbr)
def zjU:En→O:=mFor (mRng (zaa (mVar 2) mNil)) (zax 3) zbD
def zcS:En→O:=zjU
def zem:En→O:=mFor (mRng (zaa (mVar 1) mNil)) (zax 2) zcS
def zbC:En→O:=(mIfS (zao (m2 oLt (m2 oAdd (m2 oIxL (m2 oIxL (mRd 0) (mRd 2)) (mRd 3)) (m2 oIxL (m2 oIxL (mRd 0) (mRd 3)) (mRd 4))) (m2 oIxL (m2 oIxL (mRd 0) (mRd 2)) (mRd 4))))
  (zgL 1 (zaa (mC (.str "a way by a third place is shorter than the straight one")) mNil))
  zbr)
def zkb:En→O:=mFor (mRng (zaa (mVar 1) mNil)) (zax 4) zbC
def zcP:En→O:=zkb
def zjX:En→O:=mFor (mRng (zaa (mVar 1) mNil)) (zax 3) zcP
def zcU:En→O:=zjX
def zel:En→O:=mFor (mRng (zaa (mVar 1) mNil)) (zax 2) zcU
def zfY:En→O:=(mSeq (mAsg (mCB fLen (zaa (mRd 0) mNil)) (zax 1))
  (mSeq zek
  (mSeq zem
  zel)))
def zci:List D→R D:=runF 1 4 zfY
def zdK:En→R (List (List Int)):=(zdN (mItL (mRd 0)) [] 1 (zaU 0) (mCB zb2 (zaa (mRd 0) mNil)))
def za9:List D→R (List (List Int)):=runP 1 zdK
def zaP:En→List Str→List D→R (List Str × List D):=(iSeq (zib (ziC zci (zaa (mVar 1) mNil)))
  (zhk "lengths" (zih za9 (zaa (mVar 1) mNil))))
def zau:List D→R D:=runN 3 1 zaP
def zaO:En→List Str→List D→R (List Str × List D):=(iSeq (zib (ziC zci (zaa (mVar 1) mNil)))
  (iSeq (zhk "lengths" (zih za9 (zaa (mVar 1) mNil)))
  (ziK "many" (mVar 2))))
def zat:List D→R D:=runN 4 2 zaO
def zbS:En→R D:=zd7 (mRng (zaa (mC (.int 1)) (zaa (mCB fLen (zaa (m1 (oFld zbb "lengths") (mRd 0)) mNil)) mNil))) [1] 1 (zaU 1) (some (zao (m2 zgg (mRd 1) (mRd 0)))) (mVar 1)
def zcz:En→O:=(zec zbS)
def zaB:List D→R D:=runO 2 0 zcz
def zgI:En→R D:=zd7 (mRng (zaa (m2 oSub (mCB fLen (zaa (mRd 2) mNil)) (mC (.int 1))) mNil)) [0,2] 1 (zaU 2) none (m2 oIxL (m2 oIxL (mRd 0) (m2 oIxL (mRd 1) (mRd 2))) (m2 oIxL (mRd 1) (m2 oAdd (mRd 2) (mC (.int 1)))))
def zhH:En→O:=(mSeq (mAsg (m2 oCat (m2 oCat (mLst (zaa (mC (.int 0)) mNil)) (mCB zb2 (zaa (mRd 1) mNil))) (mLst (zaa (mC (.int 0)) mNil))) (zax 2))
  (mRet (mCB fSum (zaa zgI mNil))))
def zbq:List D→R D:=runF 2 1 zhH
def zcq:En→R D:=zd7 (mRng (zaa (mC (.int 1)) (zaa (mCB fLen (zaa (mRd 0) mNil)) mNil))) [1] 1 (zaU 1) (some (zao (m2 zgg (mRd 1) (mRd 0)))) (mVar 1)
def zdO:En→O:=(zec zcq)
def zaR:List D→R D:=runO 2 0 zdO
def zjy:En→O:=(mRet (zgW (m1 (oIsi "int") (mRd 0)) (zgW (znd (m1 (oIsi "bool") (mRd 0))) (m2 oEq (mRd 0) (mRd 1)))))
def za7:List D→R D:=runF 2 0 zjy
def zcR:En→O:=(mIfS (mNot (zao (zag za7 (zaa (mVar 2) (zaa (mVar 3) mNil)))))
  (mRet (mC (.bl false)))
  zbr)
def zeq:En→O:=mFor (mZip (zaa (mVar 0) (zaa (mVar 1) mNil))) (bTup 2 (zgn (zax 2) (zgn (zax 3) bNil))) zcR
def zeV:En→O:=(mSeq (mIfS (mOr (mNot (zao (m1 (oIsi "list") (mRd 0)))) (zao (m2 oNe (mCB fLen (zaa (mRd 0) mNil)) (mCB fLen (zaa (mRd 1) mNil)))))
  (mRet (mC (.bl false)))
  zbr)
  (mSeq zeq
  (mRet (mC (.bl true)))))
def zaL:List D→R D:=runF 2 2 zeV
def zfc:En→O:=(mRet (mIf (zao (m2 oGt (mCB fLen (zaa (mRd 0) mNil)) (mC (.int 0)))) (m2 oAdd (m2 oIxT (mRd 0) (m1 oNeg (mC (.int 1)))) (mC (.int 1))) (mC (.int 0))))
def zaY:List D→R D:=runF 1 0 zfc
def zcD:En→O:=(mSeq (mAsg (m2 oSub (m1 (oFld zd2 "many") (mRd 0)) (mCB fLen (zaa (mRd 1) mNil))) (zax 2))
  (zec (zfJ (zaa (zag zaY (zaa (mVar 1) mNil)) (zaa (m2 oAdd (m2 oSub (mCB fLen (zaa (m1 (oFld zbb "lengths") (mRd 0)) mNil)) (mRd 2)) (mC (.int 1))) mNil)))))
def zaz:List D→R D:=runO 2 1 zcD
def zbJ:En→O:=(mSeq (mIfS (mNot (zao (zf2 zaL (zaa (mRd 3) (zaa (mVar 2) mNil)))))
  (mRet (mC (.bl false)))
  zbr)
  (zfZ 3 (mC (.int 7))))
def zcr:En→O:=zns 3 (mAlt 0 4 (zbm 4 "ways" zaz (mVar 0) (zaa (mVar 1) mNil)) (zbm 3 "ways" zaB (mVar 0) (zaa (mVar 1) mNil))) (mAlt 0 4 (zbm 4 "ways" zaz (mVar 0) (zaa (mVar 1) mNil)) (zbm 3 "ways" zaB (mVar 0) (zaa (mVar 1) mNil))) zbJ
def zdM:En→O:=(mSeq zcr
  (mRet (mC (.bl true))))
def zaF:List D→R D:=runF 3 1 zdM
def zcn:En→O:=(zec (m2 oCat (mLst (zaa (mC (.int 0)) mNil)) (mCB zb2 (zaa (mRd 1) mNil))))
def zaq:List D→R D:=runO 2 0 zcn
def zfa:En→R D:=zd7 (mRng (zaa (m2 oSub (mCB fLen (zaa (mRd 1) mNil)) (mC (.int 1))) mNil)) [0,1] 1 (zaU 2) none (m2 oIxL (m2 oIxL (mRd 0) (m2 oIxL (mRd 1) (mRd 2))) (m2 oIxL (mRd 1) (m2 oAdd (mRd 2) (mC (.int 1)))))
def zfz:En→O:=(mRet (mCB fSum (zaa zfa mNil)))
def zcf:List D→R D:=runF 2 0 zfz
def zey:En→O:=(mSeq (mIfS (zao (m2 oEq (mCB fLen (zaa (mRd 1) mNil)) (mC (.int 1))))
  (mRet (mC (.int 0)))
  zbr)
  (mRet (m2 oAdd (zag zcf (zaa (mVar 0) (zaa (mVar 1) mNil))) (m2 oIxL (m2 oIxL (mRd 0) (m2 oIxL (mRd 1) (m1 oNeg (mC (.int 1))))) (m2 oIxL (mRd 1) (mC (.int 0)))))))
def zb3:List D→R D:=runF 2 0 zey
def zcT:En→O:=(mRet (zag zb3 (zaa (m1 (oFld zbb "lengths") (mRd 0)) (zaa (zbm 3 "answer" zaq (mVar 0) (zaa (mVar 1) mNil)) mNil))))
def zaI:List D→R D:=runF 2 0 zcT
def zgB:En→O:=(mRet (mTup (zaa (m2 oIxL (mRd 2) (m2 oMod (m2 oDiv (zag zay (zaa (mVar 0) (zaa (mVar 1) mNil))) (mC (.int 7))) (mCB fLen (zaa (mRd 2) mNil)))) mNil)))
def zbx:List D→R D:=runF 3 0 zgB
def zcv:En→O:=(mRet (m2 oSub (mCB fLen (zaa (m1 (oFld zbb "lengths") (mRd 0)) mNil)) (mC (.int 1))))
def zaZ:List D→R D:=runF 1 0 zcv
def zex:En→O:=(mSeq (mAsg (zbm 3 "ways" zaB (mVar 2) (zaa (mVar 3) mNil)) (zax 6))
  (mSeq (mAsg (zag zbq (zaa (mVar 1) (zaa (mVar 3) mNil))) (zax 7))
  (mSeq (mIfS (mNot (zao (zag zaL (zaa (mVar 6) (zaa (zag zaR (zaa (mVar 1) (zaa (mVar 3) mNil))) mNil)))))
  (mRet (mC (.bl false)))
  zbr)
  (mSeq (mIfS (mNot (zao (zag zaF (zaa (mVar 2) (zaa (mVar 3) (zaa (zag zaR (zaa (mVar 1) (zaa (mVar 3) mNil))) mNil))))))
  (mRet (mC (.bl false)))
  zbr)
  (mSeq (mIfS (mOr (mNot (zao (zag za7 (zaa (zbm 3 "low" zaI (mVar 2) (zaa (mVar 3) mNil)) (zaa (mVar 7) mNil))))) (zao (m2 oLt (mRd 7) (mRd 4))))
  (mRet (mC (.bl false)))
  zbr)
  (mSeq (mAsg (mVar 7) (zax 4))
  (mAsg (m2 zio (mRd 3) (zag zbx (zaa (mVar 0) (zaa (m2 oAdd (mC (.int 2)) (mRd 5)) (zaa (mVar 6) mNil))))) (zax 3))))))))
def zeO:En→O:=mFor (mRng (zaa (m2 oSub (mCB fLen (zaa (mRd 1) mNil)) (mC (.int 1))) mNil)) (zax 5) zex
def zfH:En→O:=(mSeq (mAsg (mTup mNil) (zax 3))
  (mSeq (mAsg (mC (.int 0)) (zax 4))
  (mSeq zeO
  (mSeq (mIfS (mOr (mNot (zao (zag za7 (zaa (zbm 3 "low" zaI (mVar 2) (zaa (mVar 3) mNil)) (zaa (zag zbq (zaa (mVar 1) (zaa (mVar 3) mNil))) mNil))))) (zao (m2 oLt (zag zbq (zaa (mVar 1) (zaa (mVar 3) mNil))) (mRd 4))))
  (mRet (mC (.bl false)))
  zbr)
  (mSeq (ziu (zbm 3 "answer" zaq (mVar 2) (zaa (mVar 3) mNil)) (mC (.int 7)))
  (mRet (zgW (zag zaL (zaa (zbm 3 "answer" zaq (mVar 2) (zaa (mVar 3) mNil)) (zaa (m2 oCat (mLst (zaa (mC (.int 0)) mNil)) (mCB zb2 (zaa (mRd 3) mNil))) mNil))) (zag za7 (zaa (zbm 3 "steps" zaZ (mVar 2) mNil) (zaa (m2 oSub (mCB fLen (zaa (mRd 1) mNil)) (mC (.int 1))) mNil))))))))))
def zbP:List D→R D:=runF 3 5 zfH
def zfw:En→R D:=zd7 (mRng (zaa (mCB fLen (zaa (mRd 0) mNil)) mNil)) [2] 1 (zaU 1) (some (mOr (zao (m2 oEq (mCB fLen (zaa (mRd 0) mNil)) (mC (.int 0)))) (zao (m2 oGt (mRd 1) (m2 oIxT (mRd 0) (m1 oNeg (mC (.int 1)))))))) (mVar 1)
def zgH:En→R D:=zd7 (mItL (mRd 0)) [1] 1 (zaU 1) none (m2 oIxL (mRd 0) (mRd 1))
def zgM:En→R D:=zd7 (mItL (mRd 0)) [3] 1 (zaU 1) none (mCB (zgT minI) (zaa zgH mNil))
def zhP:En→O:=(mSeq (mAsg (mCB zb2 (zaa (mRd 2) mNil)) (zax 3))
  (mSeq (mIfS (zao (m2 oLt (mCB fLen (zaa (mRd 2) mNil)) (mRd 1)))
  (mAsg (m2 oCat (mRd 3) zfw) (zax 3))
  zbr)
  (mRet (mCB (zgT maxI) (zaa zgM mNil)))))
def zch:List D→R D:=runF 3 1 zhP
def zcp:En→R D:=zd7 (mRng (zaa (mCB fLen (zaa (mRd 0) mNil)) mNil)) [2] 1 (zaU 1) (some (mOr (zao (m2 oEq (mCB fLen (zaa (mRd 0) mNil)) (mC (.int 0)))) (zao (m2 oGt (mRd 1) (m2 oIxT (mRd 0) (m1 oNeg (mC (.int 1)))))))) (mVar 1)
def zdn:En→R D:=zd7 (znq (zaa (mRd 3) mNil)) [1,3,2] 2 (bTup 2 (zgn (zaU 3) (zgn (zaU 4) bNil))) (some (zao (m2 oGe (m2 oSub (mCB fLen (zaa (mRd 1) mNil)) (mRd 3)) (m2 oSub (mRd 0) (mCB fLen (zaa (mRd 2) mNil)))))) (mVar 4)
def zdL:En→O:=(mSeq (mAsg zcp (zax 3))
  (zec zdn))
def zaN:List D→R D:=runO 3 1 zdL
def zgA:En→R D:=zd7 (mItL (mRd 2)) [0,1] 1 (zaU 2) none (m2 oIxL (m2 oIxL (mRd 0) (mRd 1)) (mRd 2))
def zh4:En→O:=(mRet (mCB (zgT minI) (zaa zgA mNil)))
def zdk:List D→R D:=runF 3 0 zh4
def zjf:En→R D:=zd7 (mRng (zaa (mCB fLen (zaa (mRd 0) mNil)) mNil)) [0,1] 1 (zaU 2) none (zag zdk (zaa (mVar 0) (zaa (mVar 2) (zaa (mVar 1) mNil))))
def zlt:En→O:=(mRet (mCB (zgT maxI) (zaa zjf mNil)))
def zff:List D→R D:=runF 2 0 zlt
def zcZ:En→O:=(mSeq (mAsg (mCB zb2 (zaa (mRd 1) mNil)) (bNew 2))
  (mSeq (mIfS (zao (m2 oLt (mCB fLen (zaa (mRd 1) mNil)) (m1 (oFld zd2 "many") (mRd 0))))
  (zle 2 (zfJ (zaa (zag zaY (zaa (mVar 1) mNil)) (zaa (mCB fLen (zaa (m1 (oFld zbb "lengths") (mRd 0)) mNil)) mNil))))
  zbr)
  (mRet (zf2 zff (zaa (m1 (oFld zbb "lengths") (mRd 0)) (zaa (mRd 2) mNil))))))
def zaH:List D→R D:=runF 2 1 zcZ
def zco:En→O:=(zec (mCB zb2 (zaa (mRd 1) mNil)))
def zaK:List D→R D:=runO 2 0 zco
def zcw:En→O:=(mRet (m1 (oFld zd2 "many") (mRd 0)))
def za1:List D→R D:=runF 1 0 zcw
def zeB:En→O:=(mSeq (mAsg (zbm 4 "ways" zaz (mVar 3) (zaa (mVar 4) mNil)) (zax 7))
  (mSeq (mAsg (zag zch (zaa (mVar 1) (zaa (mVar 2) (zaa (mVar 4) mNil)))) (zax 8))
  (mSeq (mIfS (mNot (zao (zag zaL (zaa (mVar 7) (zaa (zag zaN (zaa (mVar 1) (zaa (mVar 2) (zaa (mVar 4) mNil)))) mNil)))))
  (mRet (mC (.bl false)))
  zbr)
  (mSeq (mIfS (mNot (zao (zag zaF (zaa (mVar 3) (zaa (mVar 4) (zaa (zag zaN (zaa (mVar 1) (zaa (mVar 2) (zaa (mVar 4) mNil)))) mNil))))))
  (mRet (mC (.bl false)))
  zbr)
  (mSeq (mIfS (mOr (mNot (zao (zag za7 (zaa (zbm 4 "low" zaH (mVar 3) (zaa (mVar 4) mNil)) (zaa (mVar 8) mNil))))) (zao (m2 oLt (mRd 8) (mRd 5))))
  (mRet (mC (.bl false)))
  zbr)
  (mSeq (mAsg (mVar 8) (zax 5))
  (mAsg (m2 zio (mRd 4) (zag zbx (zaa (mVar 0) (zaa (m2 oAdd (mC (.int 12)) (mRd 6)) (zaa (mVar 7) mNil))))) (zax 4))))))))
def ze3:En→O:=mFor (mRng (zaa (mVar 2) mNil)) (zax 6) zeB
def zfB:En→O:=(mSeq (mAsg (mTup mNil) (zax 4))
  (mSeq (mAsg (mC (.int 0)) (zax 5))
  (mSeq ze3
  (mSeq (mAsg (zag zch (zaa (mVar 1) (zaa (mVar 2) (zaa (mVar 4) mNil)))) (zax 8))
  (mSeq (mIfS (mOr (mNot (zao (zag za7 (zaa (zbm 4 "low" zaH (mVar 3) (zaa (mVar 4) mNil)) (zaa (mVar 8) mNil))))) (zao (m2 oLt (mRd 8) (mRd 5))))
  (mRet (mC (.bl false)))
  zbr)
  (mSeq (ziu (zbm 4 "answer" zaK (mVar 3) (zaa (mVar 4) mNil)) (mC (.int 7)))
  (mRet (zgW (zag zaL (zaa (zbm 4 "answer" zaK (mVar 3) (zaa (mVar 4) mNil)) (zaa (mCB zb2 (zaa (mRd 4) mNil)) mNil))) (zag za7 (zaa (zbm 4 "steps" za1 (mVar 3) mNil) (zaa (mVar 2) mNil)))))))))))
def zbN:List D→R D:=runF 4 5 zfB
def zct:En→R (List (List Int)):=zdN (mItL (mRd 0)) [] 1 (zaU 0) (mCB zb2 (zaa (mRd 0) mNil))
def zeU:En→O:=(mSeq (mAsg (mC .non) (zax 2))
  (mSeq (ziz zct 3)
  (mSeq (mIfS (mAnd (zao (m2 oGt (mCB fLen (zaa (mRd 0) mNil)) (mC (.int 2)))) (zao (m2 oGt (mRd 1) (mC (.int 1)))))
  (mSeq (ze9 3 (mC (.int 0)) (m1 oNeg (mC (.int 1))) (m2 oAdd (m2 oAdd (m2 oIxL (m2 oIxL (mRd 0) (mC (.int 0))) (mC (.int 1))) (m2 oIxL (m2 oIxL (mRd 0) (mC (.int 1))) (m1 oNeg (mC (.int 1))))) (mC (.int 1))))
  (ze9 3 (m1 oNeg (mC (.int 1))) (mC (.int 0)) (zeD (m2 oIxL (m2 oIxL (mRd 3) (mC (.int 0))) (m1 oNeg (mC (.int 1)))))))
  (ze9 3 (mC (.int 0)) (m1 oNeg (mC (.int 1))) (zeD (m2 oAdd (m2 oIxL (m2 oIxL (mRd 3) (mC (.int 0))) (m1 oNeg (mC (.int 1)))) (mC (.int 1))))))
  (mSeq (mTry (mIfS (zao (m2 oEq (m2 oMod (mRd 1) (mC (.int 2))) (mC (.int 0))))
  (mDo (zeR zau (zaa (mTr 3) mNil)))
  (mDo (zeR zat (zaa (mTr 3) (zaa (mC (.int 1)) mNil))))) zcW 4 (mAsg (mVar 4) (zax 2)))
  (mRet (zgW (m2 zmX (mRd 2) (mC .non)) (m1 (znk zfb) (mRd 2))))))))
def zbW:List D→R D:=runF 2 3 zeU
def zlr:En→R (List (List Int)):=zdN (mItL (mRd 2)) [] 1 (zaU 0) (mCB zb2 (zaa (mRd 0) mNil))
def zk3:En→R (List (List Int)):=zdN (mItL (mRd 2)) [] 1 (zaU 0) (mCB zb2 (zaa (mRd 0) mNil))
def ziB:En→O:=(mIfS (mNot (zao (zag zbW (zaa (mVar 2) (zaa (mVar 9) mNil)))))
  (mRet (mC (.bl false)))
  zbr)
def zmQ:En→O:=mFor (mRng (zaa (mC (.int 4)) mNil)) (zax 9) ziB
def zoH:En→O:=(mSeq (mAsg (m2 oAdd (mC (.int 1)) (m2 oMod (zag zay (zaa (mVar 0) (zaa (mC (.int 1)) mNil))) (mC (.int 9)))) (zax 1))
  (mSeq (mAsg (zag zbV (zaa (mVar 0) (zaa (mVar 1) mNil))) (zax 2))
  (mSeq (mAsg (m2 oAdd (mC (.int 1)) (m2 oMod (m2 oDiv (zag zay (zaa (mVar 0) (zaa (mC (.int 1)) mNil))) (mC (.int 9))) (mRd 1))) (zax 3))
  (mSeq (zje (mTr2 (zkd zlr) (zkd zk3)) 4)
  (mSeq (mAsg (zag zau (zaa (mSub 4 (mC (.int 0))) mNil)) (zax 5))
  (mSeq (mAsg (zag zat (zaa (mSub 4 (mC (.int 1))) (zaa (mVar 3) mNil))) (zax 6))
  (mSeq (mIfS (mOr (mNot (zao (m1 (zfV zbs) (mRd 5)))) (mOr (mNot (zao (m1 (zfV zbs) (mRd 6)))) (zao (zeD (m2 oNeD (mRd 4) (mLst (zaa (mVar 2) (zaa (mVar 2) mNil))))))))
  (mRet (mC (.bl false)))
  zbr)
  (mSeq (zl3 4 7 8)
  (mSeq (mIfS (mOr (mNot (zao (zag zbP (zaa (mVar 0) (zaa (mVar 2) (zaa (mVar 5) mNil)))))) (mNot (zao (zag zbN (zaa (mVar 0) (zaa (mVar 2) (zaa (mVar 3) (zaa (mVar 6) mNil))))))))
  (mRet (mC (.bl false)))
  zbr)
  (mSeq zmQ
  (mRet (mC (.bl true)))))))))))))
def zob:List D→R D:=runF 1 9 zoH
end My
namespace My
open PySem L2 PM
def upt (n:Nat):List Int:=(List.range n).map fun (k:Nat)=>(k:Int)
theorem mem_upt {n:Nat} {t:Int}:t ∈ upt n ↔ 0 ≤ t∧t < (n:Int):=by
  unfold upt
  rw [List.mem_map]
  constructor
  · rintro ⟨a,h,rfl⟩
    have:=List.mem_range.mp h
    omega
  · rintro ⟨h0,h1⟩
    exact ⟨t.toNat,List.mem_range.mpr (by omega),by omega⟩
theorem za5 {n:Nat}:(upt n).length=n:=by simp [upt]
theorem rngT {n:Nat} (h:n ≤ 1000):rng [.int (n:Int)]=some ((upt n).map .int):=by
  rw [rng1 (by omega) (by omega),Int.toNat_natCast,znv,upt,List.map_map]; rfl
theorem zld (ns:List Int):fSum [iL ns]=some (.int ns.sum):=by simp [fSum,iL,zc0]
theorem zjO {i:Nat} {me:En→R D} {δ:En} {L:List Int} {y:Int} (h:δ[i]?=some (.o (iL L))) (hy:me δ = .ok (.int y)) (hl:L.length ≤ 100000):zfZ i me δ = .nx (δ.set i (.o (iL (L ++ [y])))):=by
  unfold zfZ
  rw [h]
  simp only [iL,hy,R.toO_ok]
  rw [zba (by rw [List.length_map]; exact Nat.lt_of_le_of_lt hl (by decide))]
  simp
end My
namespace My
open PySem L2 PM
theorem zfm (ns:List Int) (k:Nat):zay [.scr ns,.int k] = .ok (.int (ns.getD k 0)):=by
  by_cases h:k < ns.length
  · have e:oIxL (.scr ns) (.int (k:Int))=some (.int (ns.getD k 0)):=by
      show (atI ns (k:Int)).map D.int=_
      rw [atI_nat (d:=ns.getD k 0) (by simp [h,List.getD_eq_getElem?_getD])]; rfl
    simp [zay,runF,zc1,zcG,mSeq,mIfS,zao,mRet,mRd,mC,mCB,zaa,mNil,fLen,h,e]
  · have e:ns.getD k 0=0:=by simp [List.getD_eq_getElem?_getD,List.getElem?_eq_none_iff.mpr (Nat.le_of_not_lt h)]
    rw [e]
    simp [zay,runF,zc1,zcG,mSeq,mIfS,zao,mRet,mRd,mC,mCB,zaa,mNil,fLen,h,zbr]
end My
namespace My
open PySem L2 PM
def tabF (n:Nat) (d:Int→Int→Int):List (List Int):=(upt n).map fun a=>(upt n).map (d a)
theorem zcx {m k:Nat} (h:k < m):(upt m)[k]?=some (k:Int):=by
  unfold upt; rw [List.getElem?_map,List.getElem?_range h]; rfl
theorem zcl {n:Nat} {f:Int→Int} {b:Int} (h0:0 ≤ b) (h1:b < n):oIxL (iL ((upt n).map f)) (.int b)=some (.int (f b)):=by
  refine zmG h0 ?_
  rw [List.getElem?_map,List.getElem?_map,zcx (show b.toNat < n by omega)]
  simp [show ((b.toNat:Nat):Int)=b by omega]
theorem ze5 {n:Nat} {d:Int→Int→Int} {a:Int} (h0:0 ≤ a) (h1:a < n):oIxL (tabD (tabF n d)) (.int a)=some (iL ((upt n).map (d a))):=by
  unfold tabD tabF
  refine zmG h0 ?_
  rw [List.getElem?_map,List.getElem?_map,zcx (show a.toNat < n by omega)]
  simp [show ((a.toNat:Nat):Int)=a by omega]
theorem zcY {n:Nat} {d:Int→Int→Int}:fLen [tabD (tabF n d)]=some (.int n):=by
  simp [tabD,tabF,za5]
def upd2 (d:Int→Int→Int) (a b v:Int):Int→Int→Int:=fun x y=>if x=a∧y=b then v else d x y
theorem zm8 {n:Nat} {f:Int→Int} {b v:Int} (h0:0 ≤ b) (h1:b < n):((upt n).map f).set b.toNat v=(upt n).map fun y=>if y=b then v else f y:=by
  apply List.ext_getElem?
  intro i
  by_cases hi:i < n
  · rw [List.getElem?_map,zcx hi]
    by_cases e:b.toNat=i
    · rw [e,List.getElem?_set_self (by rw [List.length_map,za5]; exact hi)]
      have:(i:Int)=b:=by omega
      simp [this]
    · rw [List.getElem?_set_ne e,List.getElem?_map,zcx hi]
      have:¬ (i:Int)=b:=by omega
      simp [this]
  · rw [List.getElem?_eq_none_iff.mpr (by rw [List.length_set,List.length_map,za5]; omega),List.getElem?_eq_none_iff.mpr (by rw [List.length_map,za5]; omega)]
theorem zlq {n:Nat} {d:Int→Int→Int} {a b v:Int} (a0:0 ≤ a) (a1:a < n) (b0:0 ≤ b) (b1:b < n):(tabF n d).set a.toNat (((upt n).map (d a)).set b.toNat v)=tabF n (upd2 d a b v):=by
  rw [zm8 b0 b1]
  unfold tabF
  apply List.ext_getElem?
  intro i
  by_cases hi:i < n
  · rw [List.getElem?_map,zcx hi]
    by_cases e:a.toNat=i
    · rw [e,List.getElem?_set_self (by rw [List.length_map,za5]; exact hi)]
      have:(i:Int)=a:=by omega
      simp [upd2,this]
    · rw [List.getElem?_set_ne e,List.getElem?_map,zcx hi]
      have:¬ (i:Int)=a:=by omega
      simp [upd2,this]
  · rw [List.getElem?_eq_none_iff.mpr (by rw [List.length_set,List.length_map,za5]; omega),List.getElem?_eq_none_iff.mpr (by rw [List.length_map,za5]; omega)]
def tabG (n:Nat) (d:Int→Int→Int):Tr:=tabT (tabF n d)
theorem zkV {n:Nat} {d:Int→Int→Int}:tabOf (some (.p (tabG n d)))=some (tabF n d):=by simp [tabG]
theorem zhT {i:Nat} {mk mj me:En→R D} {δ:En} {n:Nat} {d:Int→Int→Int} {a b v:Int} (h:δ[i]?=some (.p (tabG n d))) (hk:mk δ = .ok (.int a)) (hj:mj δ = .ok (.int b)) (hv:me δ = .ok (.int v)) (a0:0 ≤ a) (a1:a < n) (b0:0 ≤ b) (b1:b < n) :
    ze9 i mk mj me δ = .nx (δ.set i (.p (tabG n (upd2 d a b v)))):=by
  have l1:(tabF n d).length=n:=by simp [tabF,za5]
  have e1:ixN (tabF n d).length a=some a.toNat:=by unfold ixN; rw [if_pos a0,l1,if_pos a1]
  have e2:(tabF n d)[a.toNat]?=some ((upt n).map (d a)):=by
    unfold tabF
    rw [List.getElem?_map,zcx (show a.toNat < n by omega)]
    simp [show ((a.toNat:Nat):Int)=a by omega]
  have e3:ixN ((upt n).map (d a)).length b=some b.toNat:=by unfold ixN; rw [if_pos b0,List.length_map,za5,if_pos b1]
  unfold ze9
  rw [h,zkV]
  simp only [hv,hk,hj,R.toO_ok,e1,e2,e3,zlq a0 a1 b0 b1,tabG]
structure LenOk (n:Nat) (B:Int) (d:Int→Int→Int):Prop where
  nn:∀ a b:Int,0 ≤ a→a < n→0 ≤ b→b < n→0 ≤ d a b∧d a b ≤ B
  self:∀ a:Int,0 ≤ a→a < n→d a a=0
  sym:∀ a b:Int,0 ≤ a→a < n→0 ≤ b→b < n→d a b=d b a
  tri:∀ a b c:Int,0 ≤ a→a < n→0 ≤ b→b < n→0 ≤ c→c < n→d a c ≤ d a b + d b c
theorem zb6 {mi:En→R (List D)} {b:D→En→Option En} {m:En→O} {δ:En} {n:Nat} (h:mi δ = .ok ((upt n).map .int)):mFor mi b m δ=zdd b m ((upt n).map .int) δ:=zeM h
theorem zgF {n:Nat} {B:Int} {d:Int→Int→Int} (hn:n ≤ 100) (ok:LenOk n B d):zci [tabD (tabF n d)] = .ok .non:=by
  obtain ⟨T,eT⟩:∃ T,T=tabD (tabF n d):=⟨_,rfl⟩
  have tix:∀ a:Int,0 ≤ a→a < n→oIxL T (.int a)=some (iL ((upt n).map (d a))):=fun a h0 h1=>by rw [eT]; exact ze5 h0 h1
  rw [← eT]
  have rn:=rngT (show n ≤ 1000 by omega)
  have l1:∀ o2 o3 o4:Option D,∃ p2,zek [.v T,.v (.int n),sv o2,sv o3,sv o4] = .nx [.v T,.v (.int n),sv p2,sv o3,sv o4]:=fun o2 o3 o4=>by
    obtain ⟨δ,h1,p2,rfl⟩:=zb7 (b:=zax 2) (m:=zbB) D.int (fun _ δ=>∃ p2,δ = [.v T,.v (.int n),sv p2,sv o3,sv o4]) (upt n)
      (by
        rintro pre a post δ hall ⟨p2,rfl⟩
        obtain ⟨a0,a1⟩:=mem_upt.mp (show a ∈ upt n by rw [hall]; simp)
        have r:=zcl (n:=n) (f:=d a) a0 a1
        rw [ok.self a a0 a1] at r
        refine ⟨[.v T,.v (.int n),.v (.int a),sv o3,sv o4],[.v T,.v (.int n),.v (.int a),sv o3,sv o4],za2 rfl,.inl ?_,some _,rfl⟩
        unfold zbB
        rw [zbM (by simp [zao,mRd,mC,tix a a0 a1,r])]; rfl)
      [.v T,.v (.int n),sv o2,sv o3,sv o4] ⟨o2,rfl⟩
    exact ⟨p2,(zb6 (by simp [mRng,zaa,mNil,mVar,rn])).trans h1⟩
  have l3:∀ o2 o3 o4:Option D,∃ p2 p3,zem [.v T,.v (.int n),sv o2,sv o3,sv o4] = .nx [.v T,.v (.int n),sv p2,sv p3,sv o4]:=fun o2 o3 o4=>by
    obtain ⟨δ,h1,p2,p3,rfl⟩:=zb7 (b:=zax 2) (m:=zcS) D.int (fun _ δ=>∃ p2 p3,δ = [.v T,.v (.int n),sv p2,sv p3,sv o4]) (upt n)
      (by
        rintro pre a post δ hall ⟨p2,p3,rfl⟩
        obtain ⟨a0,a1⟩:=mem_upt.mp (show a ∈ upt n by rw [hall]; simp)
        obtain ⟨δ2,g1,r3,rfl⟩:=zb7 (b:=zax 3) (m:=zbD) D.int (fun _ δ=>∃ r3,δ = [.v T,.v (.int n),.v (.int a),sv r3,sv o4]) (upt a.toNat)
          (by
            rintro pre2 b post2 δ hall2 ⟨r3,rfl⟩
            obtain ⟨b0,b1⟩:=mem_upt.mp (show b ∈ upt a.toNat by rw [hall2]; simp)
            have r1:=zcl (n:=n) (f:=d a) b0 (by omega)
            have r2:=zcl (n:=n) (f:=d b) a0 a1
            rw [ok.sym a b a0 a1 b0 (by omega)] at r1
            refine ⟨[.v T,.v (.int n),.v (.int a),.v (.int b),sv o4],[.v T,.v (.int n),.v (.int a),.v (.int b),sv o4],za2 rfl,.inl ?_,some _,rfl⟩
            unfold zbD
            rw [zbM (by simp [zao,mRd,mC,tix a a0 a1,tix b b0 (by omega),r1,r2])]; rfl)
          [.v T,.v (.int n),.v (.int a),sv p3,sv o4] ⟨p3,rfl⟩
        refine ⟨[.v T,.v (.int n),.v (.int a),sv p3,sv o4],[.v T,.v (.int n),.v (.int a),sv r3,sv o4],za2 rfl,.inl ?_,some _,r3,rfl⟩
        have ra:=rngT (show a.toNat ≤ 1000 by omega)
        rw [show ((a.toNat:Nat):Int)=a by omega] at ra
        exact (zb6 (n:=a.toNat) (by simp [mRng,zaa,mNil,mVar,ra])).trans g1)
      [.v T,.v (.int n),sv o2,sv o3,sv o4] ⟨o2,o3,rfl⟩
    exact ⟨p2,p3,(zb6 (by simp [mRng,zaa,mNil,mVar,rn])).trans h1⟩
  have l6:∀ o2 o3 o4:Option D,∃ p2 p3 p4,zel [.v T,.v (.int n),sv o2,sv o3,sv o4] = .nx [.v T,.v (.int n),sv p2,sv p3,sv p4]:=fun o2 o3 o4=>by
    obtain ⟨δ,h1,p2,p3,p4,rfl⟩:=zb7 (b:=zax 2) (m:=zcU) D.int (fun _ δ=>∃ p2 p3 p4,δ = [.v T,.v (.int n),sv p2,sv p3,sv p4]) (upt n)
      (by
        rintro pre a post δ hall ⟨p2,p3,p4,rfl⟩
        obtain ⟨a0,a1⟩:=mem_upt.mp (show a ∈ upt n by rw [hall]; simp)
        obtain ⟨δ2,g1,r3,r4,rfl⟩:=zb7 (b:=zax 3) (m:=zcP) D.int (fun _ δ=>∃ r3 r4,δ = [.v T,.v (.int n),.v (.int a),sv r3,sv r4]) (upt n)
          (by
            rintro pre2 b post2 δ hall2 ⟨r3,r4,rfl⟩
            obtain ⟨b0,b1⟩:=mem_upt.mp (show b ∈ upt n by rw [hall2]; simp)
            obtain ⟨δ3,k1,t4,rfl⟩:=zb7 (b:=zax 4) (m:=zbC) D.int (fun _ δ=>∃ t4,δ = [.v T,.v (.int n),.v (.int a),.v (.int b),sv t4]) (upt n)
              (by
                rintro pre3 c post3 δ hall3 ⟨t4,rfl⟩
                obtain ⟨c0,c1⟩:=mem_upt.mp (show c ∈ upt n by rw [hall3]; simp)
                have r1:=zcl (n:=n) (f:=d a) b0 b1
                have r2:=zcl (n:=n) (f:=d b) c0 c1
                have r5:=zcl (n:=n) (f:=d a) c0 c1
                have tr:¬ d a b + d b c < d a c:=by have:=ok.tri a b c a0 a1 b0 b1 c0 c1; omega
                refine ⟨[.v T,.v (.int n),.v (.int a),.v (.int b),.v (.int c)],[.v T,.v (.int n),.v (.int a),.v (.int b),.v (.int c)],za2 rfl,.inl ?_,some _,rfl⟩
                unfold zbC
                rw [zbM (by simp [zao,mRd,mC,tix a a0 a1,tix b b0 b1,r1,r2,r5,tr])]; rfl)
              [.v T,.v (.int n),.v (.int a),.v (.int b),sv r4] ⟨r4,rfl⟩
            refine ⟨[.v T,.v (.int n),.v (.int a),.v (.int b),sv r4],[.v T,.v (.int n),.v (.int a),.v (.int b),sv t4],za2 rfl,.inl ?_,some _,t4,rfl⟩
            exact (zb6 (by simp [mRng,zaa,mNil,mVar,rn])).trans k1)
          [.v T,.v (.int n),.v (.int a),sv p3,sv p4] ⟨p3,p4,rfl⟩
        refine ⟨[.v T,.v (.int n),.v (.int a),sv p3,sv p4],[.v T,.v (.int n),.v (.int a),sv r3,sv r4],za2 rfl,.inl ?_,some _,r3,r4,rfl⟩
        exact (zb6 (by simp [mRng,zaa,mNil,mVar,rn])).trans g1)
      [.v T,.v (.int n),sv o2,sv o3,sv o4] ⟨o2,o3,o4,rfl⟩
    exact ⟨p2,p3,p4,(zb6 (by simp [mRng,zaa,mNil,mVar,rn])).trans h1⟩
  have lT:fLen [T]=some (.int n):=by rw [eT]; exact zcY
  obtain ⟨p2,e1⟩:=l1 none none none
  obtain ⟨q2,q3,e2⟩:=l3 p2 none none
  obtain ⟨r2,r3,r4,e3⟩:=l6 q2 q3 none
  refine znJ (δ:=[.v T,.v (.int n),sv r2,sv r3,sv r4]) ?_
  show mSeq _ _ [.v T,.no,.no,.no,.no]=_
  have s1:mAsg (mCB fLen (zaa (mRd 0) mNil)) (zax 1) [.v T,.no,.no,.no,.no] = .nx [.v T,.v (.int n),sv none,sv none,sv none]:=za3 (d:=.int n) (by simp [mCB,zaa,mNil,mRd,lT]) rfl
  exact (zap s1).trans ((zap e1).trans ((zap e2).trans e3))
end My
namespace My
open PySem L2 PM
theorem zn0 (z:Int):fAbs [.int z]=some (.int (z.natAbs:Int)):=by
  have:fAbs [.int z]=some (.int (if z < 0 then -z else z)):=rfl
  rw [this]; congr 2; split <;> omega
theorem zej {n:Nat} {d e:Int→Int→Int} (h:∀ a b:Int,0 ≤ a→a < n→0 ≤ b→b < n→d a b=e a b):tabF n d=tabF n e:=by
  unfold tabF
  refine List.map_congr_left fun a ha=>List.map_congr_left fun b hb=>?_
  obtain ⟨a0,a1⟩:=mem_upt.mp ha
  obtain ⟨b0,b1⟩:=mem_upt.mp hb
  exact h a b a0 a1 b0 b1
theorem zeZ {n:Nat} {pre post:List Int} {x:Int} (h:upt n=pre ++ x :: post):x=pre.length∧pre.length < n∧pre=upt pre.length:=by
  have ul:(upt n).length=n:=za5
  have pl:pre.length < n:=by rw [h] at ul; simp at ul; omega
  refine ⟨?_,pl,?_⟩
  · have h1:(upt n)[pre.length]?=some x:=by rw [h]; simp
    rw [zcx pl] at h1
    exact (Option.some.inj h1).symm
  · apply List.ext_getElem?
    intro i
    by_cases hi:i < pre.length
    · have h1:(upt n)[i]?=pre[i]?:=by rw [h,List.getElem?_append_left hi]
      rw [zcx hi,← h1,zcx (by omega)]
    · rw [List.getElem?_eq_none_iff.mpr (by omega),List.getElem?_eq_none_iff.mpr (by rw [za5]; omega)]
theorem zdz {α:Type} {f:D→R (List Int)} (enc:α→D) (g:α→List Int) (l:List α) (h:∀ x ∈ l,f (enc x) = .ok (g x)):zb9 f (l.map enc) = .ok (l.map g):=by
  induction l with
  | nil=>rfl
  | cons a l ih=>rw [List.map_cons,zb9,h a (by simp),R.bind_ok,ih fun x hx=>h x (by simp [hx]),R.bind_ok]; rfl
end My
namespace My
open PySem L2 PM
theorem znN {np nv:Nat} {m:En→O} {ds:List D} {δ:En} {x:Xc} (h:m (zc1 nv ds) = .ex δ x) (hl:ds.length=np:=by rfl):runF np nv m ds = .ex x:=by unfold runF; rw [if_pos hl,h]
def Ex1 (o:O):Prop:=∃ δ,o = .ex δ ⟨1⟩
def Or3 (o:O) (P:En→Prop):Prop:=(∃ δ,o = .nx δ∧P δ)∨Ex1 o
theorem zeI {b:D→En→Option En} {m:En→O} {P:En→Prop}:∀ (l:List Int) (_:∀ x ∈ l,∀ δ,P δ→∃ δ1,b (.int x) δ=some δ1∧Or3 (m δ1) P) (δ:En) (_:P δ),Or3 (zdd b m (l.map .int) δ) P
  | [],_,δ,h=>.inl ⟨δ,rfl,h⟩
  | x :: l,st,δ,h=>by
    obtain ⟨δ1,h1,h2⟩:=st x (by simp) δ h
    rw [List.map_cons]
    unfold zdd
    rw [h1]
    rcases h2 with ⟨δ2,e,p⟩ | ⟨δ2,e⟩
    · simp only [e]
      exact zeI l (fun y hy=>st y (List.mem_cons_of_mem _ hy)) δ2 p
    · simp only [e]
      exact .inr ⟨δ2,rfl⟩
theorem zeK {b:D→En→Option En} {m:En→O} {P:En→Prop}:∀ (l:List Int) (_:∀ x ∈ l,∀ δ,P δ→∃ δ1,b (.int x) δ=some δ1∧Or3 (m δ1) P) (y:Int) (_:y ∈ l) (_:∀ δ,P δ→∃ δ1,b (.int y) δ=some δ1∧Ex1 (m δ1)) (δ:En) (_:P δ),Ex1 (zdd b m (l.map .int) δ)
  | [],_,_,hy,_,_,_=>(by cases hy)
  | x :: l,st,y,hy,bad,δ,h=>by
    rw [List.map_cons]
    unfold zdd
    by_cases e:x=y
    · subst e
      obtain ⟨δ1,h1,δ2,h2⟩:=bad δ h
      rw [h1]
      simp only [h2]
      exact ⟨δ2,rfl⟩
    · obtain ⟨δ1,h1,h2⟩:=st x (by simp) δ h
      rw [h1]
      rcases h2 with ⟨δ2,e2,p⟩ | ⟨δ2,e2⟩
      · simp only [e2]
        exact zeK l (fun y hy=>st y (List.mem_cons_of_mem _ hy)) y ((List.mem_cons.mp hy).elim (fun z=>absurd z.symm e) id) bad δ2 p
      · simp only [e2]
        exact ⟨δ2,rfl⟩
def PL (T:D) (n:Nat) (δ:En):Prop:=∃ o2 o3 o4:Option D,δ = [.v T,.v (.int n),sv o2,sv o3,sv o4]
theorem zky {t:String} {δ:En}:zgL 1 (zaa (mC (.str t)) mNil) δ = .ex δ ⟨1⟩:=by
  simp [zgL,zaa,mNil,mC,zba (show 1 ≤ sizeLine by decide)]
theorem zjB {n:Nat} {d:Int→Int→Int} (hn:n ≤ 100)
    (h:(∃ a:Int,(0 ≤ a∧a < n)∧d a a ≠ 0)∨(∃ a b:Int,(0 ≤ b∧b < a∧a < n)∧d a b ≠ d b a)∨(∃ a b c:Int,(0 ≤ a∧a < n)∧(0 ≤ b∧b < n)∧(0 ≤ c∧c < n)∧d a b + d b c < d a c)) :
    zci [tabD (tabF n d)] = .ex ⟨1⟩:=by
  obtain ⟨T,eT⟩:∃ T,T=tabD (tabF n d):=⟨_,rfl⟩
  have tix:∀ a:Int,0 ≤ a→a < n→oIxL T (.int a)=some (iL ((upt n).map (d a))):=fun a h0 h1=>by rw [eT]; exact ze5 h0 h1
  have rn:=rngT (show n ≤ 1000 by omega)
  -- the bodies
  have b1:∀ (a:Int) (o3 o4:Option D),0 ≤ a→a < n→(d a a=0→zbB [.v T,.v (.int n),.v (.int a),sv o3,sv o4] = .nx [.v T,.v (.int n),.v (.int a),sv o3,sv o4])∧(d a a ≠ 0→Ex1 (zbB [.v T,.v (.int n),.v (.int a),sv o3,sv o4])):=fun a o3 o4 a0 a1=>by
    have r:=zcl (n:=n) (f:=d a) a0 a1
    refine ⟨fun e=>?_,fun e=>?_⟩
    · unfold zbB
      rw [zbM (by simp [zao,mRd,mC,tix a a0 a1,r,e])]; rfl
    · unfold zbB
      rw [ze6 (by simp [zao,mRd,mC,tix a a0 a1,r,e]),zky]
      exact ⟨_,rfl⟩
  have b2:∀ (a b:Int) (o4:Option D),0 ≤ a→a < n→0 ≤ b→b < n→(d a b=d b a→zbD [.v T,.v (.int n),.v (.int a),.v (.int b),sv o4] = .nx [.v T,.v (.int n),.v (.int a),.v (.int b),sv o4])∧(d a b ≠ d b a→Ex1 (zbD [.v T,.v (.int n),.v (.int a),.v (.int b),sv o4])):=fun a b o4 a0 a1 b0 b1=>by
    have r1:=zcl (n:=n) (f:=d a) b0 b1
    have r2:=zcl (n:=n) (f:=d b) a0 a1
    refine ⟨fun e=>?_,fun e=>?_⟩
    · unfold zbD
      rw [zbM (by simp [zao,mRd,mC,tix a a0 a1,tix b b0 b1,r1,r2,e])]; rfl
    · unfold zbD
      rw [ze6 (by simp [zao,mRd,mC,tix a a0 a1,tix b b0 b1,r1,r2,e]),zky]
      exact ⟨_,rfl⟩
  have b4:∀ (a b c:Int),0 ≤ a→a < n→0 ≤ b→b < n→0 ≤ c→c < n→(¬ d a b + d b c < d a c→zbC [.v T,.v (.int n),.v (.int a),.v (.int b),.v (.int c)] = .nx [.v T,.v (.int n),.v (.int a),.v (.int b),.v (.int c)])∧(d a b + d b c < d a c→Ex1 (zbC [.v T,.v (.int n),.v (.int a),.v (.int b),.v (.int c)])):=fun a b c a0 a1 b0 b1 c0 c1=>by
    have r1:=zcl (n:=n) (f:=d a) b0 b1
    have r2:=zcl (n:=n) (f:=d b) c0 c1
    have r5:=zcl (n:=n) (f:=d a) c0 c1
    refine ⟨fun e=>?_,fun e=>?_⟩
    · unfold zbC
      rw [zbM (by simp [zao,mRd,mC,tix a a0 a1,tix b b0 b1,r1,r2,r5,e])]; rfl
    · unfold zbC
      rw [ze6 (by simp [zao,mRd,mC,tix a a0 a1,tix b b0 b1,r1,r2,r5,e]),zky]
      exact ⟨_,rfl⟩
  -- the turns
  have s1:∀ x ∈ upt n,∀ δ,PL T n δ→∃ δ1,zax 2 (.int x) δ=some δ1∧Or3 (zbB δ1) (PL T n):=by
    rintro x hx δ ⟨o2,o3,o4,rfl⟩
    obtain ⟨x0,x1⟩:=mem_upt.mp hx
    refine ⟨[.v T,.v (.int n),.v (.int x),sv o3,sv o4],za2 rfl,?_⟩
    by_cases e:d x x=0
    · exact .inl ⟨_,(b1 x o3 o4 x0 x1).1 e,some _,o3,o4,rfl⟩
    · exact .inr ((b1 x o3 o4 x0 x1).2 e)
  have s2:∀ a:Int,0 ≤ a→a < n→∀ x ∈ upt a.toNat,∀ δ,(∃ o3 o4:Option D,δ = [.v T,.v (.int n),.v (.int a),sv o3,sv o4])→∃ δ1,zax 3 (.int x) δ=some δ1∧Or3 (zbD δ1) (fun δ=>∃ o3 o4:Option D,δ = [.v T,.v (.int n),.v (.int a),sv o3,sv o4]):=by
    rintro a a0 a1 x hx δ ⟨o3,o4,rfl⟩
    obtain ⟨x0,x1⟩:=mem_upt.mp hx
    refine ⟨[.v T,.v (.int n),.v (.int a),.v (.int x),sv o4],za2 rfl,?_⟩
    by_cases e:d a x=d x a
    · exact .inl ⟨_,(b2 a x o4 a0 a1 x0 (by omega)).1 e,some _,o4,rfl⟩
    · exact .inr ((b2 a x o4 a0 a1 x0 (by omega)).2 e)
  have f2:∀ (a:Int) (o3 o4:Option D),0 ≤ a→a < n→zcS [.v T,.v (.int n),.v (.int a),sv o3,sv o4]=zdd (zax 3) zbD ((upt a.toNat).map .int) [.v T,.v (.int n),.v (.int a),sv o3,sv o4]:=fun a o3 o4 a0 a1=>by
    have ra:=rngT (show a.toNat ≤ 1000 by omega)
    rw [show ((a.toNat:Nat):Int)=a by omega] at ra
    exact zb6 (n:=a.toNat) (by simp [mRng,zaa,mNil,mVar,ra])
  have s3:∀ x ∈ upt n,∀ δ,PL T n δ→∃ δ1,zax 2 (.int x) δ=some δ1∧Or3 (zcS δ1) (PL T n):=by
    rintro x hx δ ⟨o2,o3,o4,rfl⟩
    obtain ⟨x0,x1⟩:=mem_upt.mp hx
    refine ⟨[.v T,.v (.int n),.v (.int x),sv o3,sv o4],za2 rfl,?_⟩
    rw [f2 x o3 o4 x0 x1]
    rcases zeI _ (s2 x x0 x1) [.v T,.v (.int n),.v (.int x),sv o3,sv o4] ⟨o3,o4,rfl⟩ with ⟨δ2,e,p3,p4,rfl⟩ | e
    · exact .inl ⟨_,e,some _,p3,p4,rfl⟩
    · exact .inr e
  have s4:∀ a b:Int,0 ≤ a→a < n→0 ≤ b→b < n→∀ x ∈ upt n,∀ δ,(∃ o4:Option D,δ = [.v T,.v (.int n),.v (.int a),.v (.int b),sv o4])→∃ δ1,zax 4 (.int x) δ=some δ1∧Or3 (zbC δ1) (fun δ=>∃ o4:Option D,δ = [.v T,.v (.int n),.v (.int a),.v (.int b),sv o4]):=by
    rintro a b a0 a1 b0 b1 x hx δ ⟨o4,rfl⟩
    obtain ⟨x0,x1⟩:=mem_upt.mp hx
    refine ⟨[.v T,.v (.int n),.v (.int a),.v (.int b),.v (.int x)],za2 rfl,?_⟩
    by_cases e:d a b + d b x < d a x
    · exact .inr ((b4 a b x a0 a1 b0 b1 x0 x1).2 e)
    · exact .inl ⟨_,(b4 a b x a0 a1 b0 b1 x0 x1).1 e,some _,rfl⟩
  have f4:∀ (a b:Int) (o4:Option D),zcP [.v T,.v (.int n),.v (.int a),.v (.int b),sv o4]=zdd (zax 4) zbC ((upt n).map .int) [.v T,.v (.int n),.v (.int a),.v (.int b),sv o4]:=fun a b o4=>zb6 (by simp [mRng,zaa,mNil,mVar,rn])
  have s5:∀ a:Int,0 ≤ a→a < n→∀ x ∈ upt n,∀ δ,(∃ o3 o4:Option D,δ = [.v T,.v (.int n),.v (.int a),sv o3,sv o4])→∃ δ1,zax 3 (.int x) δ=some δ1∧Or3 (zcP δ1) (fun δ=>∃ o3 o4:Option D,δ = [.v T,.v (.int n),.v (.int a),sv o3,sv o4]):=by
    rintro a a0 a1 x hx δ ⟨o3,o4,rfl⟩
    obtain ⟨x0,x1⟩:=mem_upt.mp hx
    refine ⟨[.v T,.v (.int n),.v (.int a),.v (.int x),sv o4],za2 rfl,?_⟩
    rw [f4 a x o4]
    rcases zeI _ (s4 a x a0 a1 x0 x1) [.v T,.v (.int n),.v (.int a),.v (.int x),sv o4] ⟨o4,rfl⟩ with ⟨δ2,e,p4,rfl⟩ | e
    · exact .inl ⟨_,e,some _,p4,rfl⟩
    · exact .inr e
  have f5:∀ (a:Int) (o3 o4:Option D),zcU [.v T,.v (.int n),.v (.int a),sv o3,sv o4]=zdd (zax 3) zcP ((upt n).map .int) [.v T,.v (.int n),.v (.int a),sv o3,sv o4]:=fun a o3 o4=>zb6 (by simp [mRng,zaa,mNil,mVar,rn])
  have s6:∀ x ∈ upt n,∀ δ,PL T n δ→∃ δ1,zax 2 (.int x) δ=some δ1∧Or3 (zcU δ1) (PL T n):=by
    rintro x hx δ ⟨o2,o3,o4,rfl⟩
    obtain ⟨x0,x1⟩:=mem_upt.mp hx
    refine ⟨[.v T,.v (.int n),.v (.int x),sv o3,sv o4],za2 rfl,?_⟩
    rw [f5 x o3 o4]
    rcases zeI _ (s5 x x0 x1) [.v T,.v (.int n),.v (.int x),sv o3,sv o4] ⟨o3,o4,rfl⟩ with ⟨δ2,e,p3,p4,rfl⟩ | e
    · exact .inl ⟨_,e,some _,p3,p4,rfl⟩
    · exact .inr e
  have g1:∀ δ,PL T n δ→zek δ=zdd (zax 2) zbB ((upt n).map .int) δ:=by rintro δ ⟨o2,o3,o4,rfl⟩; exact zb6 (by simp [mRng,zaa,mNil,mVar,rn])
  have g3:∀ δ,PL T n δ→zem δ=zdd (zax 2) zcS ((upt n).map .int) δ:=by rintro δ ⟨o2,o3,o4,rfl⟩; exact zb6 (by simp [mRng,zaa,mNil,mVar,rn])
  have g6:∀ δ,PL T n δ→zel δ=zdd (zax 2) zcU ((upt n).map .int) δ:=by rintro δ ⟨o2,o3,o4,rfl⟩; exact zb6 (by simp [mRng,zaa,mNil,mVar,rn])
  have lT:fLen [T]=some (.int n):=by rw [eT]; exact zcY
  have st:mAsg (mCB fLen (zaa (mRd 0) mNil)) (zax 1) [.v T,.no,.no,.no,.no] = .nx [.v T,.v (.int n),sv none,sv none,sv none]:=za3 (d:=.int n) (by simp [mCB,zaa,mNil,mRd,lT]) rfl
  have seq:∀ (m m':En→O) (δ:En),Or3 (m δ) (PL T n)→(∀ δ',PL T n δ'→Ex1 (m' δ'))→Ex1 (mSeq m m' δ):=fun m m' δ a k=>by
    rcases a with ⟨δ1,e,p⟩ | ⟨δ1,e⟩
    · rw [zap e]; exact k δ1 p
    · exact ⟨δ1,by unfold mSeq; rw [e]⟩
  have seqE:∀ (m m':En→O) (δ:En),Ex1 (m δ)→Ex1 (mSeq m m' δ):=fun m m' δ ⟨δ1,e⟩=>⟨δ1,by unfold mSeq; rw [e]⟩
  have pl:PL T n [.v T,.v (.int n),sv none,sv none,sv none]:=⟨none,none,none,rfl⟩
  have fin:Ex1 (mSeq zek (mSeq zem zel) [.v T,.v (.int n),sv none,sv none,sv none]):=by
    rcases h with ⟨a,⟨a0,a1⟩,e⟩ | ⟨a,b,⟨b0,ba,a1⟩,e⟩ | ⟨a,b,c,⟨a0,a1⟩,⟨b0,b1⟩,⟨c0,c1⟩,e⟩
    · refine seqE _ _ _ ?_
      rw [g1 _ pl]
      refine zeK _ s1 a (mem_upt.mpr ⟨a0,a1⟩) ?_ _ pl
      rintro δ ⟨o2,o3,o4,rfl⟩
      exact ⟨[.v T,.v (.int n),.v (.int a),sv o3,sv o4],za2 rfl,(b1 a o3 o4 a0 a1).2 e⟩
    · refine seq _ _ _ (by rw [g1 _ pl]; exact zeI _ s1 _ pl) fun δ p=>seqE _ _ _ ?_
      rw [g3 _ p]
      refine zeK _ s3 a (mem_upt.mpr ⟨by omega,a1⟩) ?_ _ p
      rintro δ ⟨o2,o3,o4,rfl⟩
      refine ⟨[.v T,.v (.int n),.v (.int a),sv o3,sv o4],za2 rfl,?_⟩
      rw [f2 a o3 o4 (by omega) a1]
      refine zeK _ (s2 a (by omega) a1) b (mem_upt.mpr ⟨b0,by omega⟩) ?_ _ ⟨o3,o4,rfl⟩
      rintro δ ⟨p3,p4,rfl⟩
      exact ⟨[.v T,.v (.int n),.v (.int a),.v (.int b),sv p4],za2 rfl,(b2 a b p4 (by omega) a1 b0 (by omega)).2 e⟩
    · refine seq _ _ _ (by rw [g1 _ pl]; exact zeI _ s1 _ pl) fun δ p=>seq _ _ _ (by rw [g3 _ p]; exact zeI _ s3 _ p) fun δ p=>?_
      rw [g6 _ p]
      refine zeK _ s6 a (mem_upt.mpr ⟨a0,a1⟩) ?_ _ p
      rintro δ ⟨o2,o3,o4,rfl⟩
      refine ⟨[.v T,.v (.int n),.v (.int a),sv o3,sv o4],za2 rfl,?_⟩
      rw [f5 a o3 o4]
      refine zeK _ (s5 a a0 a1) b (mem_upt.mpr ⟨b0,b1⟩) ?_ _ ⟨o3,o4,rfl⟩
      rintro δ ⟨p3,p4,rfl⟩
      refine ⟨[.v T,.v (.int n),.v (.int a),.v (.int b),sv p4],za2 rfl,?_⟩
      rw [f4 a b p4]
      refine zeK _ (s4 a b a0 a1 b0 b1) c (mem_upt.mpr ⟨c0,c1⟩) ?_ _ ⟨p4,rfl⟩
      rintro δ ⟨q4,rfl⟩
      exact ⟨[.v T,.v (.int n),.v (.int a),.v (.int b),.v (.int c)],za2 rfl,(b4 a b c a0 a1 b0 b1 c0 c1).2 e⟩
  obtain ⟨δ,ee⟩:=fin
  have all:zfY [.v T,.no,.no,.no,.no] = .ex δ ⟨1⟩:=(zap st).trans ee
  rw [← eT]
  exact znN all
end My
namespace My
open PySem L2 PM
theorem p20':oPow (.int 10) (.int 20)=some (.int 100000000000000000000):=zk1 ⟨by decide,by decide,by decide⟩
theorem znh (c:Int) {k:Int} (k0:0 ≤ k) (k1:k ≤ 1000):∃ s:Int,(0 ≤ s∧s ≤ 10000000000000000000)∧zcL [.int c,.int k] = .ok (.int s):=by
  obtain ⟨m,em⟩:∃ m,m=c % 100000000000000000000:=⟨_,rfl⟩
  have m0:0 ≤ m:=by rw [em]; exact Int.emod_nonneg _ (by decide)
  have m1:m < 100000000000000000000:=by rw [em]; exact Int.emod_lt_of_pos _ (by decide)
  have kk:k * k ≤ 1000 * 1000:=Int.mul_le_mul k1 k1 k0 (by decide)
  have kk0:0 ≤ k * k:=Int.mul_nonneg k0 k0
  have f1:Fit k:=fitN 2000 (by omega)
  have f2:Fit 2:=fitN 10 (by decide)
  have f3:Fit (m + k * k + 3):=fitN (10 ^ 30) (by omega)
  have f4:Fit (39373 + 2 * k):=fitN (10 ^ 30) (by omega)
  obtain ⟨x,ex⟩:∃ x,x=(m + k * k + 3) * (39373 + 2 * k) % 2147483647:=⟨_,rfl⟩
  have x0:0 ≤ x:=by rw [ex]; exact Int.emod_nonneg _ (by decide)
  have x1:x < 2147483647:=by rw [ex]; exact Int.emod_lt_of_pos _ (by decide)
  have hn:zce [.int c,.int k] = .ok (.int x):=by
    refine zbo ?_
    show mRet _ [.v (.int c),.v (.int k)]=_
    simp [mRet,mRd,mC,p20',zdm,← em,zfL f1 f1,zfL f2 f1,zfL f3 f4,ex]
  have f5:Fit x:=fitN (10 ^ 30) (by omega)
  have f6:Fit 2147483629:=fitN (10 ^ 30) (by decide)
  have f7:Fit 11:=fitN 100 (by decide)
  refine ⟨x * 2147483629 + 11 * k,by omega,zbo ?_⟩
  show mRet _ [.v (.int c),.v (.int k)]=_
  have e:zag zce (zaa (mVar 0) (zaa (mVar 1) mNil)) [.v (.int c),.v (.int k)] = .ok (.int x):=by simp [zag,zaa,mNil,mVar,hn]
  simp only [mRet,zck,e,mRd,mC,List.getElem?_cons_succ,List.getElem?_cons_zero,R.bind_ok,zfL f5 f6,zfL f7 f1,R.of_some,zfD]
  rfl
theorem zgG {l:List Int} {k:Int} (h0:0 ≤ k) (h1:k < l.length):oIxL (iL l) (.int k)=some (.int (l.getD k.toNat 0)):=by
  show atI (l.map D.int) k=_
  unfold atI ixN
  rw [if_pos h0,List.length_map]
  have:k.toNat < l.length:=by omega
  simp [this,h1]
theorem zjv {S:List Int} {a b top:Int} (a0:0 ≤ a) (a1:a < S.length) (b0:0 ≤ b) (b1:b < S.length) (t0:0 < top):zbT [iL S,.int a,.int b,.int top] = .ok (.int ((S.getD a.toNat 0 % top - S.getD b.toNat 0 % top).natAbs:Int)):=by
  have ha:=zgG a0 a1
  have hb:=zgG b0 b1
  refine zbo ?_
  show mRet _ [.v (iL S),.v (.int a),.v (.int b),.v (.int top)]=_
  simp only [mRet,mCB,zaa,mNil,zck,mRd,List.getElem?_cons_succ,List.getElem?_cons_zero,R.bind_ok,ha,hb,R.of_some,zdm t0,zgf,zn0]
  rfl
def dA (odd:Bool) (top:Int) (p q:Int→Int) (w:Int→Int→Int) (x y:Int):Int :=
  if odd=true then (if x=y then 0 else if y < x then top + w x y else top + w y x) else ((p x - p y).natAbs:Int) + ((q x - q y).natAbs:Int)
theorem zo3 {n:Nat} {odd:Bool} {top:Int} {p q:Int→Int} {w:Int→Int→Int} (t0:0 < top) (hp:∀ x:Int,0 ≤ p x∧p x < top) (hq:∀ x:Int,0 ≤ q x∧q x < top) (hw:∀ x y:Int,0 ≤ w x y∧w x y ≤ top):LenOk n (2 * top) (dA odd top p q w):=by
  unfold dA
  refine ⟨fun a b _ _ _ _=>?_,fun a _ _=>?_,fun a b _ _ _ _=>?_,fun a b c _ _ _ _ _ _=>?_⟩
  · have:=hp a; have:=hp b; have:=hq a; have:=hq b; have:=hw a b; have:=hw b a
    (repeat' split) <;> omega
  · split
    · simp
    · omega
  · by_cases ho:odd=true
    · simp only [ho,if_true]
      by_cases e:a=b
      · simp [e]
      · by_cases l:b < a
        · rw [if_neg e,if_pos l,if_neg (fun z=>e z.symm),if_neg (by omega)]
        · rw [if_neg e,if_neg l,if_neg (fun z=>e z.symm),if_pos (by omega)]
    · simp only [ho,if_false]
      simp
      omega
  · by_cases ho:odd=true
    · simp only [ho,if_true]
      by_cases e1:a=b
      · subst e1; simp
      · by_cases e2:b=c
        · subst e2; simp
        · have:=hw a b; have:=hw b a; have:=hw b c; have:=hw c b; have:=hw a c; have:=hw c a
          rw [if_neg e1,if_neg e2]
          (repeat' split) <;> omega
    · simp only [ho,if_false]
      simp
      omega
def part (d:Int→Int→Int) (a b:Int) (x y:Int):Int:=if (x < a∧y < a)∨(x=a∧y < b)∨(y=a∧x < b) then d x y else 0
theorem zjG (ns:List Int) (h63:ns.length ≤ 63) {n:Nat} (hn1:1 ≤ n) (hn:n ≤ 9):∃ d:Int→Int→Int,LenOk n 400000000000000000 d∧zbV [.scr ns,.int n] = .ok (tabD (tabF n d)):=by
  obtain ⟨c,ec⟩:∃ c,c=ns.getD 0 0 % 1000000000000:=⟨_,rfl⟩
  have c0:0 ≤ c:=by rw [ec]; exact Int.emod_nonneg _ (by decide)
  have hc:zay [.scr ns,.int 0] = .ok (.int (ns.getD 0 0)):=zfm ns 0
  have p12:oPow (.int 10) (.int 12)=some (.int 1000000000000):=zk1 ⟨by decide,by decide,by decide⟩
  have p17:oPow (.int 10) (.int 17)=some (.int 100000000000000000):=zk1 ⟨by decide,by decide,by decide⟩
  have f2:Fit 2:=fitN 10 (by decide)
  have f17:Fit 100000000000000000:=fitN (10 ^ 17) (by decide)
  have f31:Fit 31:=fitN 100 (by decide)
  have fn:Fit (n:Int):=fitN 100 (by omega)
  obtain ⟨top,⟨t0,t1⟩,itop⟩:∃ top:Int,(0 < top∧top ≤ 200000000000000000)∧oIxL (.lst [.int 5,.int 50,.int 200000000000000000]) (.int (c / 2 % 3))=some (.int top):=by
    have h0:0 ≤ c / 2 % 3:=Int.emod_nonneg _ (by decide)
    have h1:c / 2 % 3 < 3:=Int.emod_lt_of_pos _ (by decide)
    rcases (show c / 2 % 3=0∨c / 2 % 3=1∨c / 2 % 3=2 by omega) with e | e | e <;> rw [e]
    · exact ⟨5,by decide,rfl⟩
    · exact ⟨50,by decide,rfl⟩
    · exact ⟨200000000000000000,by decide,rfl⟩
  obtain ⟨C,eC⟩:∃ C,C=ns.drop 1 ++ [c]:=⟨_,rfl⟩
  have Cl:0 < C.length:=by rw [eC]; simp
  obtain ⟨F,hF⟩:=Classical.axiomOfChoice (r:=fun (k:Nat) (s:Int)=>k ≤ 1000→(0 ≤ s∧s ≤ 10000000000000000000)∧zcL [.int (C.getD (k % C.length) 0),.int k] = .ok (.int s)) (fun k=>by
    by_cases hk:k ≤ 1000
    · obtain ⟨s,a,b⟩:=znh (C.getD (k % C.length) 0) (k:=k) (by omega) (by omega)
      exact ⟨s,fun _=>⟨a,b⟩⟩
    · exact ⟨0,fun z=>absurd z hk⟩)
  obtain ⟨S,eS⟩:∃ S,S=(List.range (2 * n)).map F:=⟨_,rfl⟩
  have Sl:S.length=2 * n:=by rw [eS]; simp
  have Sg:∀ k:Int,0 ≤ k→k < 2 * n→S.getD k.toNat 0=F k.toNat:=fun k k0 k1=>by
    rw [eS,List.getD_eq_getElem?_getD,List.getElem?_map,List.getElem?_range (by omega)]; rfl
  obtain ⟨d,ed⟩:∃ d,d=dA (decide (c % 2=1)) top (fun x=>F x.toNat % top) (fun x=>F (n + x).toNat % top) (fun x y=>(F y.toNat + 31 * F (n + x).toNat) % (top + 1)):=⟨_,rfl⟩
  have ok:LenOk n (2 * top) d:=by
    rw [ed]
    exact zo3 t0 (fun x=>⟨Int.emod_nonneg _ (by omega),Int.emod_lt_of_pos _ t0⟩) (fun x=>⟨Int.emod_nonneg _ (by omega),Int.emod_lt_of_pos _ t0⟩) fun x y=>⟨Int.emod_nonneg _ (by omega),by have:=Int.emod_lt_of_pos (F y.toNat + 31 * F (n + x).toNat) (show 0 < top + 1 by omega); omega⟩
  refine ⟨d,⟨fun a b a0 a1 b0 b1=>by have:=ok.nn a b a0 a1 b0 b1; omega,ok.self,ok.sym,ok.tri⟩,zeJ ?_⟩
  have rn:=rngT (show n ≤ 1000 by omega)
  show mSeq _ _ [.v (.scr ns),.v (.int n),.no,.no,.no,.no,.no,.no,.no,.no,.no]=_
  have q1:mAsg (m2 oMod (zag zay (zaa (mVar 0) (zaa (mC (.int 0)) mNil))) (m2 oPow (mC (.int 10)) (mC (.int 12)))) (zax 2) [.v (.scr ns),.v (.int n),.no,.no,.no,.no,.no,.no,.no,.no,.no] = .nx [.v (.scr ns),.v (.int n),.v (.int c),.no,.no,.no,.no,.no,.no,.no,.no]:=za3 (d:=.int c) (by simp [zag,zaa,mNil,mVar,mC,hc,p12,zdm,ec]) rfl
  have q2:mAsg (m2 oIxL (mLst (zaa (mC (.int 5)) (zaa (mC (.int 50)) (zaa (m2 oMul (mC (.int 2)) (m2 oPow (mC (.int 10)) (mC (.int 17)))) mNil)))) (m2 oMod (m2 oDiv (mRd 2) (mC (.int 2))) (mC (.int 3)))) (zax 3) [.v (.scr ns),.v (.int n),.v (.int c),.no,.no,.no,.no,.no,.no,.no,.no] = .nx [.v (.scr ns),.v (.int n),.v (.int c),.v (.int top),.no,.no,.no,.no,.no,.no,.no]:=za3 (d:=.int top) (by simp [mLst,zaa,mNil,mRd,mC,sizeLine,p17,zfL f2 f17,zdm,zkm,f2,itop]) rfl
  have q3:mAsg (m2 oCat (mSl (mRd 0) (zlj (mC (.int 1))) mNoP) (mLst (zaa (mVar 2) mNil))) (zax 4) [.v (.scr ns),.v (.int n),.v (.int c),.v (.int top),.no,.no,.no,.no,.no,.no,.no] = .nx [.v (.scr ns),.v (.int n),.v (.int c),.v (.int top),.v (iL C),.no,.no,.no,.no,.no,.no]:=by
    refine za3 (d:=iL C) ?_ rfl
    have cd:cutD (ns.map D.int) (some 1) none=(ns.drop 1).map .int:=by
      cases ns with
      | nil=>rfl
      | cons a r =>
        have:=zlZ (l:=(a :: r).map D.int) (k:=1) (by simp)
        rw [← List.map_drop] at this
        exact this
    have s1:mSl (mRd 0) (zlj (mC (.int 1))) mNoP [.v (.scr ns),.v (.int n),.v (.int c),.v (.int top),.no,.no,.no,.no,.no,.no,.no] = .ok (iL (ns.drop 1)):=by
      simp [mSl,mRd,mNoP,zlj,mC,asL,iL,cd]
    have s2:mLst (zaa (mVar 2) mNil) [.v (.scr ns),.v (.int n),.v (.int c),.v (.int top),.no,.no,.no,.no,.no,.no,.no] = .ok (iL [c]):=by simp [mLst,zaa,mNil,mVar,sizeLine,iL]
    have ct:oCat (iL (ns.drop 1)) (iL [c])=some (iL C):=by
      rw [eC]
      unfold oCat iL
      simp only
      rw [zba (by rw [List.length_map,List.length_map,List.length_drop]; exact Nat.le_trans (show ns.length - 1 + 1 ≤ 100 by omega) (by decide)),List.map_append]
    rw [zck,s1,R.bind_ok,s2,R.bind_ok,ct]; rfl
  have q4:mAsg zes (zax 5) [.v (.scr ns),.v (.int n),.v (.int c),.v (.int top),.v (iL C),.no,.no,.no,.no,.no,.no] = .nx [.v (.scr ns),.v (.int n),.v (.int c),.v (.int top),.v (iL C),.v (iL S),.no,.no,.no,.no,.no]:=by
    refine za3 (d:=iL S) ?_ rfl
    have r2:=rngT (show 2 * n ≤ 1000 by omega)
    unfold iL
    rw [eS,List.map_map]
    refine zb5 (l:=(List.range (2 * n)).map fun k:Nat=>.int k) ?_ (by simp; omega) ?_
    · simp only [mRng,zaa,mNil,zck,mRd,mC,List.getElem?_cons_succ,List.getElem?_cons_zero,R.bind_ok,zfL f2 fn,R.of_some]
      rw [show (2:Int) * n=((2 * n:Nat):Int) by omega]
      refine (congrArg R.of r2).trans ?_
      unfold upt
      rw [List.map_map]; rfl
    · have s:zaQ [.v (.scr ns),.v (.int n),.v (.int c),.v (.int top),.v (iL C),.no,.no,.no,.no,.no,.no] [4] 1 = [.v (iL C),.no]:=rfl
      unfold iL at s
      rw [s]
      refine zcg (fun k:Nat=>.int k) _ _ fun k hk=>?_
      have kl:=List.mem_range.mp hk
      have h:=(hF k (by omega)).2
      have m0:(0:Int) ≤ (k:Int) % (C.length:Int):=Int.emod_nonneg _ (by omega)
      have m1:(k:Int) % (C.length:Int) < (C.length:Int):=Int.emod_lt_of_pos _ (by omega)
      have ix:=zgG (l:=C) m0 m1
      have et:((k:Int) % (C.length:Int)).toNat=k % C.length:=by
        rw [← Int.natCast_emod]; rfl
      rw [et] at ix
      unfold iL at ix
      have lC:fLen [D.lst (C.map D.int)]=some (.int C.length):=by unfold fLen; simp
      have om:oMod (.int k) (.int C.length)=some (.int ((k:Int) % (C.length:Int))):=zdm (by omega)
      have b:zaU 1 (.int k) [.v (.lst (C.map .int)),.no]=some [.v (.lst (C.map .int)),.v (.int k)]:=rfl
      simp only [zda,b,zag,zaa,mNil,mVar,zck,mRd,mCB,List.getElem?_cons_succ,List.getElem?_cons_zero,R.bind_ok,lC,R.of_some,om,ix,h,R.nev_ok]
      rfl
  have k3:zcs [.v (.scr ns),.v (.int n),.v (.int c),.v (.int top),.v (iL C),.v (iL S),.no,.no,.no,.no,.no] = .ok (tabF n fun _ _=>0):=by
    unfold zcs zdN
    have r:mRng (zaa (mVar 1) mNil) [.v (.scr ns),.v (.int n),.v (.int c),.v (.int top),.v (iL C),.v (iL S),.no,.no,.no,.no,.no] = .ok ((upt n).map .int):=by simp [mRng,zaa,mNil,mVar,rn]
    rw [r,R.bind_ok,zba (by rw [List.length_map,za5]; exact Nat.le_trans hn (by decide))]
    have g:zb9 (zft (zaU 1) zc7 (zaQ [.v (.scr ns),.v (.int n),.v (.int c),.v (.int top),.v (iL C),.v (iL S),.no,.no,.no,.no,.no] [1] 1)) ((upt n).map .int) = .ok ((upt n).map fun _=>(upt n).map fun _=>(0:Int)):=by
      refine zdz .int _ _ fun a _=>?_
      have k1:zc7 [.v (.int n),.v (.int a)] = .ok (iL ((upt n).map fun _=>(0:Int))):=by
        refine Eq.trans (zb5 (l:=(upt n).map .int) (r:=(upt n).map fun _=>.int 0) (by simp [mRng,zaa,mNil,mVar,rn]) (by rw [List.length_map,za5]; omega) ?_) (by simp [iL])
        exact zcg .int (fun _=>.int 0) _ fun k _=>by simp [zda,zaQ,zaU,mC]
      have e:zaQ [.v (.scr ns),.v (.int n),.v (.int c),.v (.int top),.v (iL C),.v (iL S),.no,.no,.no,.no,.no] [1] 1 = [.v (.int n),.no]:=rfl
      have al:asIl (iL ((upt n).map fun _=>(0:Int)))=some ((upt n).map fun _=>(0:Int)):=zc0 _
      rw [e]
      simp [zft,zaU,k1,al]
    rw [g]; rfl
  have q5:ziz zcs 6 [.v (.scr ns),.v (.int n),.v (.int c),.v (.int top),.v (iL C),.v (iL S),.no,.no,.no,.no,.no] = .nx [.v (.scr ns),.v (.int n),.v (.int c),.v (.int top),.v (iL C),.v (iL S),.p (tabG n (part d 0 0)),.no,.no,.no,.no]:=by
    unfold ziz
    rw [k3]
    have e:tabG n (part d 0 0)=tabT (tabF n fun _ _=>0):=by
      unfold tabG
      rw [zej (e:=fun _ _=>0) fun a b a0 a1 b0 b1=>?_]
      unfold part
      rw [if_neg (by omega)]
    rw [e]; rfl
  have inner:∀ (a:Int) (o8 o9 o10:Option D),0 ≤ a→a < n→∃ p8 p9 p10,zeA [.v (.scr ns),.v (.int n),.v (.int c),.v (.int top),.v (iL C),.v (iL S),.p (tabG n (part d a 0)),.v (.int a),sv o8,sv o9,sv o10] = .nx [.v (.scr ns),.v (.int n),.v (.int c),.v (.int top),.v (iL C),.v (iL S),.p (tabG n (part d a a)),.v (.int a),sv p8,sv p9,sv p10]:=fun a o8 o9 o10 a0 a1=>by
    obtain ⟨δ,h1,p8,p9,p10,rfl⟩:=zb7 (b:=zax 8) (m:=zea) D.int (fun pre δ=>∃ p8 p9 p10:Option D,δ = [.v (.scr ns),.v (.int n),.v (.int c),.v (.int top),.v (iL C),.v (iL S),.p (tabG n (part d a pre.length)),.v (.int a),sv p8,sv p9,sv p10]) (upt a.toNat)
      (by
        rintro pre b post δ hall ⟨p8,p9,p10,rfl⟩
        obtain ⟨eb,_,_⟩:=zeZ hall
        obtain ⟨b0,b1⟩:=mem_upt.mp (show b ∈ upt a.toNat by rw [hall]; simp)
        have ba:b < a:=by omega
        have fa:=(hF (n + a).toNat (by omega)).1
        have fb:=(hF b.toNat (by omega)).1
        have f1:Fit (F (n + a).toNat):=fitN (10 ^ 30) (by omega)
        have g1:=Sg a a0 (by omega)
        have g2:=Sg b b0 (by omega)
        have g3:=Sg (n + a) (by omega) (by omega)
        have g4:=Sg (n + b) (by omega) (by omega)
        have A1:=zjv (S:=S) (a:=a) (b:=b) (top:=top) a0 (by omega) b0 (by omega) t0
        have A2:=zjv (S:=S) (a:=n + a) (b:=n + b) (top:=top) (by omega) (by omega) (by omega) (by omega) t0
        rw [g1,g2] at A1
        rw [g3,g4] at A2
        have I1:=zgG (l:=S) (k:=b) b0 (by omega)
        have I2:=zgG (l:=S) (k:=n + a) (by omega) (by omega)
        rw [g2] at I1
        rw [g3] at I2
        obtain ⟨u,eu⟩:∃ u,u=((F a.toNat % top - F b.toNat % top).natAbs:Int):=⟨_,rfl⟩
        obtain ⟨u2,eu2⟩:∃ u2,u2=((F (n + a).toNat % top - F (n + b).toNat % top).natAbs:Int):=⟨_,rfl⟩
        rw [← eu] at A1
        rw [← eu2] at A2
        obtain ⟨v,ev⟩:∃ v,v=d a b:=⟨_,rfl⟩
        have ev2:v=d b a:=ev.trans (ok.sym a b a0 a1 b0 (by omega))
        have s1:mAsg (zag zbT (zaa (mVar 5) (zaa (mVar 7) (zaa (mVar 8) (zaa (mVar 3) mNil))))) (zax 9) [.v (.scr ns),.v (.int n),.v (.int c),.v (.int top),.v (iL C),.v (iL S),.p (tabG n (part d a pre.length)),.v (.int a),.v (.int b),sv p9,sv p10] = .nx [.v (.scr ns),.v (.int n),.v (.int c),.v (.int top),.v (iL C),.v (iL S),.p (tabG n (part d a pre.length)),.v (.int a),.v (.int b),.v (.int u),sv p10]:=by
          refine za3 (d:=.int u) ?_ (za2 rfl)
          simp [zag,zaa,mNil,mVar,A1]
        have s2:mAsg (m2 oAdd (mRd 9) (zag zbT (zaa (mVar 5) (zaa (m2 oAdd (mRd 1) (mRd 7)) (zaa (m2 oAdd (mRd 1) (mRd 8)) (zaa (mVar 3) mNil)))))) (zax 9) [.v (.scr ns),.v (.int n),.v (.int c),.v (.int top),.v (iL C),.v (iL S),.p (tabG n (part d a pre.length)),.v (.int a),.v (.int b),.v (.int u),sv p10] = .nx [.v (.scr ns),.v (.int n),.v (.int c),.v (.int top),.v (iL C),.v (iL S),.p (tabG n (part d a pre.length)),.v (.int a),.v (.int b),.v (.int (u + u2)),sv p10]:=by
          refine za3 (d:=.int (u + u2)) ?_ rfl
          simp [zag,zaa,mNil,mVar,mRd,A2]
        have s3:∃ q10:Option D,mIfS (zao (m2 oEq (m2 oMod (mRd 2) (mC (.int 2))) (mC (.int 1)))) (mSeq (mAsg (m2 oAdd (m2 oIxL (mRd 5) (mRd 8)) (m2 oMul (mC (.int 31)) (m2 oIxL (mRd 5) (m2 oAdd (mRd 1) (mRd 7))))) (zax 10)) (mAsg (m2 oAdd (mRd 3) (m2 oMod (mRd 10) (m2 oAdd (mRd 3) (mC (.int 1))))) (zax 9))) zbr [.v (.scr ns),.v (.int n),.v (.int c),.v (.int top),.v (iL C),.v (iL S),.p (tabG n (part d a pre.length)),.v (.int a),.v (.int b),.v (.int (u + u2)),sv p10] = .nx [.v (.scr ns),.v (.int n),.v (.int c),.v (.int top),.v (iL C),.v (iL S),.p (tabG n (part d a pre.length)),.v (.int a),.v (.int b),.v (.int v),sv q10]:=by
          by_cases hodd:c % 2=1
          · refine ⟨some (.int (F b.toNat + 31 * F (n + a).toNat)),?_⟩
            rw [ze6 (by simp [zao,mRd,mC,zdm,hodd])]
            have r1:mAsg (m2 oAdd (m2 oIxL (mRd 5) (mRd 8)) (m2 oMul (mC (.int 31)) (m2 oIxL (mRd 5) (m2 oAdd (mRd 1) (mRd 7))))) (zax 10) [.v (.scr ns),.v (.int n),.v (.int c),.v (.int top),.v (iL C),.v (iL S),.p (tabG n (part d a pre.length)),.v (.int a),.v (.int b),.v (.int (u + u2)),sv p10] = .nx [.v (.scr ns),.v (.int n),.v (.int c),.v (.int top),.v (iL C),.v (iL S),.p (tabG n (part d a pre.length)),.v (.int a),.v (.int b),.v (.int (u + u2)),.v (.int (F b.toNat + 31 * F (n + a).toNat))]:=by
              refine za3 (d:=.int (F b.toNat + 31 * F (n + a).toNat)) ?_ (za2 rfl)
              simp only [zck,mRd,mC,List.getElem?_cons_succ,List.getElem?_cons_zero,R.bind_ok,I1,R.of_some,zfD,I2,zfL f31 f1]
            refine (zap r1).trans (za3 (d:=.int v) ?_ rfl)
            have e:v=top + (F b.toNat + 31 * F (n + a).toNat) % (top + 1):=by
              rw [ev,ed]
              unfold dA
              rw [decide_eq_true hodd,if_pos rfl,if_neg (by omega),if_pos ba]
            rw [e]
            simp [mRd,mC,zdm (show 0 < top + 1 by omega)]
          · refine ⟨p10,?_⟩
            rw [zbM (by simp [zao,mRd,mC,zdm,hodd])]
            have e:v=u + u2:=by
              rw [ev,ed,eu,eu2]
              unfold dA
              rw [decide_eq_false hodd,if_neg (by simp)]
            rw [e]; rfl
        obtain ⟨q10,s3⟩:=s3
        have s4:=zhT (i:=6) (mk:=mVar 7) (mj:=mVar 8) (me:=mVar 9) (δ:=[.v (.scr ns),.v (.int n),.v (.int c),.v (.int top),.v (iL C),.v (iL S),.p (tabG n (part d a pre.length)),.v (.int a),.v (.int b),.v (.int v),sv q10]) (n:=n) (d:=part d a pre.length) rfl rfl rfl rfl a0 a1 b0 (by omega)
        have s5:=zhT (i:=6) (mk:=mVar 8) (mj:=mVar 7) (me:=mVar 9) (δ:=[.v (.scr ns),.v (.int n),.v (.int c),.v (.int top),.v (iL C),.v (iL S),.p (tabG n (upd2 (part d a pre.length) a b v)),.v (.int a),.v (.int b),.v (.int v),sv q10]) (n:=n) (d:=upd2 (part d a pre.length) a b v) rfl rfl rfl rfl b0 (by omega) a0 a1
        have e:tabG n (upd2 (upd2 (part d a pre.length) a b v) b a v)=tabG n (part d a (pre ++ [b]).length):=by
          unfold tabG
          rw [zej fun x y x0 x1 y0 y1=>?_]
          have pl:((pre ++ [b]).length:Int)=b + 1:=by simp; omega
          unfold upd2 part
          rw [pl,← eb]
          by_cases z1:x=b∧y=a
          · rw [if_pos z1,z1.1,z1.2,if_pos (by omega)]; exact ev2
          · rw [if_neg z1]
            by_cases z2:x=a∧y=b
            · rw [if_pos z2,z2.1,z2.2,if_pos (by omega)]; exact ev
            · rw [if_neg z2]
              by_cases z3:(x < a∧y < a)∨(x=a∧y < b)∨(y=a∧x < b)
              · rw [if_pos z3,if_pos (by omega)]
              · rw [if_neg z3,if_neg (by omega)]
        refine ⟨[.v (.scr ns),.v (.int n),.v (.int c),.v (.int top),.v (iL C),.v (iL S),.p (tabG n (part d a pre.length)),.v (.int a),.v (.int b),sv p9,sv p10],[.v (.scr ns),.v (.int n),.v (.int c),.v (.int top),.v (iL C),.v (iL S),.p (tabG n (part d a (pre ++ [b]).length)),.v (.int a),.v (.int b),.v (.int v),sv q10],za2 rfl,.inl ?_,some (.int b),some (.int v),q10,rfl⟩
        rw [← e]
        exact (zap s1).trans ((zap s2).trans ((zap s3).trans ((zap s4).trans s5))))
      [.v (.scr ns),.v (.int n),.v (.int c),.v (.int top),.v (iL C),.v (iL S),.p (tabG n (part d a 0)),.v (.int a),sv o8,sv o9,sv o10] ⟨o8,o9,o10,rfl⟩
    rw [za5,show ((a.toNat:Nat):Int)=a by omega] at h1
    refine ⟨p8,p9,p10,(zeM (l:=(upt a.toNat).map .int) ?_).trans h1⟩
    have ra:=rngT (show a.toNat ≤ 1000 by omega)
    rw [show ((a.toNat:Nat):Int)=a by omega] at ra
    simp [mRng,zaa,mNil,mVar,ra]
  obtain ⟨δ,h1,o7,o8,o9,o10,rfl⟩:=zb7 (b:=zax 7) (m:=zdV) D.int (fun pre δ=>∃ o7 o8 o9 o10:Option D,δ = [.v (.scr ns),.v (.int n),.v (.int c),.v (.int top),.v (iL C),.v (iL S),.p (tabG n (part d pre.length 0)),sv o7,sv o8,sv o9,sv o10]) (upt n)
    (by
      rintro pre a post δ hall ⟨o7,o8,o9,o10,rfl⟩
      obtain ⟨ea,_,_⟩:=zeZ hall
      obtain ⟨a0,a1⟩:=mem_upt.mp (show a ∈ upt n by rw [hall]; simp)
      obtain ⟨p8,p9,p10,e1⟩:=inner a o8 o9 o10 a0 a1
      have e:tabG n (part d a a)=tabG n (part d (pre ++ [a]).length 0):=by
        unfold tabG
        rw [zej fun x y x0 x1 y0 y1=>?_]
        have pl:((pre ++ [a]).length:Int)=a + 1:=by simp; omega
        rw [pl]
        unfold part
        by_cases z:x=a∧y=a
        · rw [if_neg (by omega),if_pos (by omega),z.1,z.2]
          exact (ok.self a a0 a1).symm
        · by_cases z3:(x < a∧y < a)∨(x=a∧y < a)∨(y=a∧x < a)
          · rw [if_pos z3,if_pos (by omega)]
          · rw [if_neg z3,if_neg (by omega)]
      rw [e] at e1
      refine ⟨[.v (.scr ns),.v (.int n),.v (.int c),.v (.int top),.v (iL C),.v (iL S),.p (tabG n (part d pre.length 0)),.v (.int a),sv o8,sv o9,sv o10],_,za2 rfl,.inl ?_,some (.int a),p8,p9,p10,rfl⟩
      rw [← ea]; exact e1)
    [.v (.scr ns),.v (.int n),.v (.int c),.v (.int top),.v (iL C),.v (iL S),.p (tabG n (part d 0 0)),.no,.no,.no,.no] ⟨none,none,none,none,rfl⟩
  rw [za5] at h1
  have q6:zeu [.v (.scr ns),.v (.int n),.v (.int c),.v (.int top),.v (iL C),.v (iL S),.p (tabG n (part d 0 0)),.no,.no,.no,.no]=_:=(zeM (l:=(upt n).map .int) (by simp [mRng,zaa,mNil,mVar,rn])).trans h1
  refine (zap q1).trans ((zap q2).trans ((zap q3).trans ((zap q4).trans ((zap q5).trans ((zap q6).trans ?_)))))
  have e:tabG n (part d n 0)=tabG n d:=by
    unfold tabG
    rw [zej fun x y x0 x1 y0 y1=>?_]
    unfold part
    rw [if_pos (by omega)]
  rw [e]
  simp [zmD,tabG]
end My
namespace My
open PySem L2 PM
def tot (d:Int→Int→Int) (L:List (Int × Int)):Int:=(L.map fun p=>d p.1 p.2).sum
def path (d:Int→Int→Int):List Int→Int
  | a :: b :: l=>d a b + path d (b :: l)
  | _=>0
theorem zee (d:Int→Int→Int):∀ (l:List Int) (a x y:Int),path d (a :: (l ++ [x,y]))=path d (a :: (l ++ [x])) + d x y
  | [],a,x,y=>by simp [path]
  | c :: l,a,x,y=>by
    have:=zee d l c x y
    show d a c + path d (c :: (l ++ [x,y]))=d a c + path d (c :: (l ++ [x])) + d x y
    omega
def cyc (d:Int→Int→Int):List Int→Int
  | []=>0
  | a :: l=>path d (a :: (l ++ [a]))
def cp:List Int→List (Int × Int)
  | a :: b :: l=>(a,b) :: cp (b :: l)
  | _=>[]
theorem zly (d:Int→Int→Int):∀ l:List Int,tot d (cp l)=path d l
  | []=>rfl
  | [_]=>rfl
  | a :: b :: l=>by
    have:=zly d (b :: l)
    show d a b + tot d (cp (b :: l))=d a b + path d (b :: l)
    rw [this]
theorem zn9 (d:Int→Int→Int) (l:List Int) (w:Int):cyc d (l ++ [w])=path d (l ++ [w]) + d w ((l ++ [w]).headD 0):=by
  cases l with
  | nil=>show d w w + 0=0 + d w w; omega
  | cons a l=>show path d (a :: ((l ++ [w]) ++ [a]))=path d (a :: (l ++ [w])) + d w a; rw [List.append_assoc]; exact zee d l a w a
theorem zkN {l:List Int} {w:Int}:oIxL (iL (l ++ [w])) (.int (-1))=some (.int w):=by
  show atI ((l ++ [w]).map D.int) (-1)=_
  unfold atI ixN
  rw [if_neg (by decide),List.length_map,List.length_append,List.length_singleton]
  rw [if_pos (by omega)]
  have:((-1:Int) + ((l.length + 1:Nat):Int)).toNat=l.length:=by omega
  simp only [this]
  simp
theorem zjw {l:List Int} {a:Int}:oIxL (iL (a :: l)) (.int 0)=some (.int a):=by
  show atI ((a :: l).map D.int) 0=_
  unfold atI ixN
  simp
theorem zm4 {l:List Int} {w:Int}:oIxL (iL (l ++ [w])) (.int 0)=some (.int ((l ++ [w]).headD 0)):=by
  cases l with
  | nil=>exact zjw
  | cons a l=>exact zjw
theorem zgZ:∀ l:List Int,cp l=(List.range (l.length - 1)).map fun k=>(l.getD k 0,l.getD (k + 1) 0)
  | []=>rfl
  | [_]=>rfl
  | a :: b :: l=>by
    have:=zgZ (b :: l)
    show (a,b) :: cp (b :: l)=_
    rw [this]
    show _=(List.range (l.length + 1)).map _
    rw [List.range_succ_eq_map,List.map_cons,List.map_map]
    rfl
theorem zl0 {l:List Int} {k:Nat} (h:k < l.length):oIxL (iL l) (.int k)=some (.int (l.getD k 0)):=by
  show atI (l.map D.int) k=_
  unfold atI ixN
  rw [if_pos (by omega),List.length_map]
  simp [h]
theorem zhy {n:Nat} {d:Int→Int→Int} {l:List Int} (ne:l ≠ []) (hl:l.length ≤ 100) (mem:∀ v ∈ l,0 ≤ v∧v < (n:Int)):zcf [tabD (tabF n d),iL l] = .ok (.int (path d l)):=by
  obtain ⟨T,eT⟩:∃ T,T=tabD (tabF n d):=⟨_,rfl⟩
  have tix:∀ a:Int,0 ≤ a→a < n→oIxL T (.int a)=some (iL ((upt n).map (d a))):=fun a h0 h1=>by rw [eT]; exact ze5 h0 h1
  rw [← eT]
  have l1:0 < l.length:=List.length_pos_iff.mpr ne
  have li:fLen [iL l]=some (.int l.length):=by unfold iL fLen; simp
  have rg:mRng (zaa (m2 oSub (mCB fLen (zaa (mRd 1) mNil)) (mC (.int 1))) mNil) [.v T,.v (iL l)] = .ok ((List.range (l.length - 1)).map fun k:Nat=>.int k):=by
    have rn:=rngT (show l.length - 1 ≤ 1000 by omega)
    have e:(l.length:Int) - 1=((l.length - 1:Nat):Int):=by omega
    simp only [mRng,zaa,mNil,mC,mCB,mRd,zck,List.getElem?_cons_succ,List.getElem?_cons_zero,li,R.bind_ok,R.of_some,zgf]
    rw [e]
    refine (congrArg R.of rn).trans ?_
    unfold upt
    rw [List.map_map]; rfl
  have k1:zfa [.v T,.v (iL l)] = .ok (iL ((cp l).map fun p=>d p.1 p.2)):=by
    unfold iL
    rw [zgZ,List.map_map,List.map_map]
    refine zb5 (l:=(List.range (l.length - 1)).map fun k:Nat=>.int k) rg (by simp; omega) ?_
    have e:zaQ [.v T,.v (iL l)] [0,1] 1 = [.v T,.v (iL l),.no]:=rfl
    unfold iL at e
    rw [e]
    refine zcg (fun k:Nat=>.int k) _ _ fun k hk=>?_
    have kl:=List.mem_range.mp hk
    have a0:=zl0 (l:=l) (k:=k) (by omega)
    have a1:=zl0 (l:=l) (k:=k + 1) (by omega)
    rw [show ((k + 1:Nat):Int)=(k:Int) + 1 by omega] at a1
    have at':∀ j,j < l.length→l.getD j 0 ∈ l:=fun j hj=>by rw [List.getD_eq_getElem?_getD,List.getElem?_eq_getElem hj]; exact List.getElem_mem hj
    have m0:=mem _ (at' k (by omega))
    have m1:=mem _ (at' (k + 1) (by omega))
    have t:=tix _ m0.1 m0.2
    have r:=zcl (n:=n) (f:=d (l.getD k 0)) m1.1 m1.2
    have b:zaU 2 (.int k) [.v T,.v (.lst (l.map .int)),.no]=some [.v T,.v (.lst (l.map .int)),.v (.int k)]:=rfl
    unfold iL at a0 a1
    simp only [zda,b]
    simp only [zck,mRd,mC,List.getElem?_cons_succ,List.getElem?_cons_zero,R.bind_ok,a0,a1,R.of_some,t,zfD,r,R.nev_ok]
    rfl
  refine zbo ?_
  show mRet _ [.v T,.v (iL l)]=_
  have s:=zld ((cp l).map fun p=>d p.1 p.2)
  have e:((cp l).map fun p=>d p.1 p.2).sum=path d l:=zly d l
  simp only [mRet,mCB,zaa,mNil,k1,R.bind_ok,s,R.of_some,e]; rfl
theorem zf7 {n:Nat} {B:Int} {d:Int→Int→Int} (ok:LenOk n B d) {l:List Int} (ne:l ≠ []) (hl:l.length ≤ 100) (mem:∀ v ∈ l,0 ≤ v∧v < (n:Int)):zb3 [tabD (tabF n d),iL l] = .ok (.int (cyc d l)):=by
  have wl:=zhy (d:=d) ne hl mem
  rcases List.eq_nil_or_concat l with e | ⟨l',w,e⟩
  · exact absurd e ne
  rw [List.concat_eq_append] at e
  subst e
  obtain ⟨a,ea⟩:∃ a,a=(l' ++ [w]).headD 0:=⟨_,rfl⟩
  have aM:a ∈ l' ++ [w]:=by
    rw [ea]
    cases l' with
    | nil=>simp
    | cons b l'=>simp
  have ha:=mem a aM
  have hw:=mem w (by simp)
  have tw:=ze5 (d:=d) hw.1 hw.2
  have rw':=zcl (n:=n) (f:=d w) ha.1 ha.2
  have cy:=zn9 d l' w
  rw [← ea] at cy
  have i0:=zm4 (l:=l') (w:=w)
  rw [← ea] at i0
  have i1:=zkN (l:=l') (w:=w)
  have li:fLen [iL (l' ++ [w])]=some (.int (l'.length + 1:Nat)):=by unfold iL fLen; simp
  have z:l'.length=0→cyc d (l' ++ [w])=0:=fun h=>by
    have:l' = []:=List.length_eq_zero_iff.mp h
    subst this
    have:=ok.self w hw.1 hw.2
    show d w w + 0=0
    omega
  obtain ⟨X,eX⟩:∃ X,X=l' ++ [w]:=⟨_,rfl⟩
  rw [← eX] at wl cy i0 i1 li z ⊢
  obtain ⟨T,eT⟩:∃ T,T=tabD (tabF n d):=⟨_,rfl⟩
  rw [← eT] at wl tw ⊢
  refine zbo ?_
  show mSeq _ _ [.v T,.v (iL X)]=_
  by_cases c:l'.length=0
  · have q:mIfS (zao (m2 oEq (mCB fLen (zaa (mRd 1) mNil)) (mC (.int 1)))) (mRet (mC (.int 0))) zbr [.v T,.v (iL X)] = .rt (.int 0):=by
      rw [c] at li
      rw [ze6 (by simp [zao,mCB,zaa,mNil,mRd,mC,li])]; rfl
    have z':=z c
    rw [z']
    unfold mSeq
    rw [q]
  · have q:mIfS (zao (m2 oEq (mCB fLen (zaa (mRd 1) mNil)) (mC (.int 1)))) (mRet (mC (.int 0))) zbr [.v T,.v (iL X)] = .nx [.v T,.v (iL X)]:=by
      rw [zbM (by simp [zao,mCB,zaa,mNil,mRd,mC,li]; omega)]; rfl
    refine (zap q).trans ?_
    have e1:zag zcf (zaa (mVar 0) (zaa (mVar 1) mNil)) [.v T,.v (iL X)] = .ok (.int (path d X)):=by simp [zag,zaa,mNil,mVar,wl]
    simp only [mRet,zck,e1,ziS,mRd,mC,List.getElem?_cons_succ,List.getElem?_cons_zero,R.bind_ok,R.of_some,zjb,i0,i1,tw,rw',zfD,cy]; rfl
end My
namespace My
open PySem L2 PM
def encC (cs:List Int):D:=.tup (cs.map .int)
def rqD (T:D):D:=.obj 3 ["lengths"] [T]
def pqD (T:D) (m:Int):D:=.obj 4 ["lengths","many"] [T,.int m]
theorem zoI:¬ (("lengths" : Str) = "many"):=by decide
theorem zhh {f:List D→R D} {a:En→R D} {δ:En} {x r:D} (ha:a δ = .ok x) (hf:f [x] = .ok r):zag f (zaa a mNil) δ = .ok r:=by
  simp [zag,zaa,mNil,ha,hf]
theorem zbl {f:List D→R D} {a b:En→R D} {δ:En} {x y r:D} (ha:a δ = .ok x) (hb:b δ = .ok y) (hf:f [x,y] = .ok r):zag f (zaa a (zaa b mNil)) δ = .ok r:=by
  simp [zag,zaa,mNil,ha,hb,hf]
theorem zcJ {f:List D→R D} {a b c:En→R D} {δ:En} {x y z r:D} (ha:a δ = .ok x) (hb:b δ = .ok y) (hc:c δ = .ok z) (hf:f [x,y,z] = .ok r):zag f (zaa a (zaa b (zaa c mNil))) δ = .ok r:=by
  simp [zag,zaa,mNil,ha,hb,hc,hf]
theorem zcO {c:Nat} {m:Str} {f:List D→R D} {a b:En→R D} {δ:En} {o x r:D} (ha:a δ = .ok o) (ho:isObj c m o=some ()) (hb:b δ = .ok x) (hf:f [o,x] = .ok r):zbm c m f a (zaa b mNil) δ = .ok r:=by
  simp [zbm,zaa,mNil,ha,ho,hb,hf]
theorem zlS {c:Nat} {m:Str} {f:List D→R D} {a:En→R D} {δ:En} {o r:D} (ha:a δ = .ok o) (ho:isObj c m o=some ()) (hf:f [o] = .ok r):zbm c m f a mNil δ = .ok r:=by
  simp [zbm,mNil,ha,ho,hf]
theorem isRq (T:D) {m:Str} (h:m ∉ (["lengths"]:List Str)):isObj 3 m (rqD T)=some ():=by
  show (if (3:Nat)=3∧m ∉ (["lengths"]:List Str) then some () else none)=some ()
  rw [if_pos ⟨rfl,h⟩]
theorem isPq (T:D) (k:Int) {m:Str} (h:m ∉ (["lengths","many"]:List Str)):isObj 4 m (pqD T k)=some ():=by
  show (if (4:Nat)=4∧m ∉ (["lengths","many"]:List Str) then some () else none)=some ()
  rw [if_pos ⟨rfl,h⟩]
theorem zkS (T:D):oFld zbb "lengths" (rqD T)=some T:=by simp [oFld,rqD,zbb,getF]
theorem zm1 (T:D) (k:Int):oFld zbb "lengths" (pqD T k)=some T:=by simp [oFld,pqD,zbb,getF]
theorem ziE (T:D) (k:Int):oFld zd2 "many" (pqD T k)=some (.int k):=by simp [oFld,pqD,zd2,getF,zoI]
theorem zim {n:Nat} {d:Int→Int→Int} (hn:n ≤ 100):za9 [tabD (tabF n d)] = .ok (tabF n d):=by
  unfold za9 runP
  rw [if_pos (show [tabD (tabF n d)].length=1 from rfl)]
  show zdN _ _ _ _ _ [.v (tabD (tabF n d))]=_
  unfold zdN
  have r:mItL (mRd 0) [.v (tabD (tabF n d))] = .ok ((tabF n d).map iL):=by simp [mItL,mRd,tabD]
  rw [r,R.bind_ok,zba (by simp [tabF,za5]; exact Nat.le_trans hn (by decide))]
  have g:zb9 (zft (zaU 0) (mCB zb2 (zaa (mRd 0) mNil)) (zaQ [.v (tabD (tabF n d))] [] 1)) ((tabF n d).map iL) = .ok ((tabF n d).map fun x=>x):=by
    refine zdz iL _ _ fun l _=>?_
    have fl:zb2 [iL l]=some (iL l):=rfl
    have al:asIl (iL l)=some l:=zc0 _
    have e:zaQ [.v (tabD (tabF n d))] [] 1 = [.no]:=rfl
    rw [e]
    simp [zft,zaU,mCB,zaa,mNil,mRd,fl,al]
  rw [g,List.map_id']; rfl
theorem zkg {n:Nat} {B:Int} {d:Int→Int→Int} (ok:LenOk n B d) (hn:n ≤ 100):zau [tabD (tabF n d)] = .ok (rqD (tabD (tabF n d))):=by
  have look:=zgF hn ok
  have cp:=zim (d:=d) hn
  have h:zaP [.no,.v (tabD (tabF n d))] [] [] = .ok (["lengths"],[tabD (tabF n d)]):=by
    unfold zaP iSeq zib zhk
    simp [ziC,zih,zaa,mNil,mVar,look,cp,ifC,putN,putV,zeg]
  show R.bind _ _=_
  simp only [List.map_cons,List.map_nil]
  rw [h]; rfl
theorem zjD {n:Nat} {B:Int} {d:Int→Int→Int} {k:Int} (ok:LenOk n B d) (hn:n ≤ 100):zat [tabD (tabF n d),.int k] = .ok (pqD (tabD (tabF n d)) k):=by
  have look:=zgF hn ok
  have cp:=zim (d:=d) hn
  have h:zaO [.no,.v (tabD (tabF n d)),.v (.int k)] [] [] = .ok (["lengths","many"],[tabD (tabF n d),.int k]):=by
    unfold zaO iSeq zib zhk ziK
    simp [ziC,zih,zaa,mNil,mVar,look,cp,ifC,putN,putV,zeg,zdQ,zoI]
  show R.bind _ _=_
  simp only [List.map_cons,List.map_nil]
  rw [h]; rfl
theorem znx {T:D} (h:zci [T] = .ex ⟨1⟩):zau [T] = .ex ⟨1⟩∧zat [T,.int 1] = .ex ⟨1⟩:=by
  constructor
  · show R.bind (zaP [.no,.v T] [] []) _=_
    have:zaP [.no,.v T] [] [] = .ex ⟨1⟩:=by
      unfold zaP iSeq zib
      simp [ziC,zaa,mNil,mVar,h,R.bind]
    rw [this]; rfl
  · show R.bind (zaO [.no,.v T,.v (.int 1)] [] []) _=_
    have:zaO [.no,.v T,.v (.int 1)] [] [] = .ex ⟨1⟩:=by
      unfold zaO iSeq zib
      simp [ziC,zaa,mNil,mVar,h,R.bind]
    rw [this]; rfl
def Rg (a:Int) (m:Nat):List Int:=(List.range m).map fun k:Nat=>a + (k:Int)
theorem mem_Rg {a x:Int} {m:Nat}:x ∈ Rg a m ↔ a ≤ x∧x < a + m:=by
  unfold Rg
  rw [List.mem_map]
  constructor
  · rintro ⟨k,hk,rfl⟩
    have:=List.mem_range.mp hk
    omega
  · intro h
    exact ⟨(x - a).toNat,List.mem_range.mpr (by omega),by omega⟩
theorem zdr (a:Int) (m:Nat):(Rg a m).length=m:=by simp [Rg]
def rW (n:Nat) (cs:List Int):List Int:=(Rg 1 (n - 1)).filter fun p=>decide (p ∉ cs)
theorem zkD (n:Nat) (cs:List Int):(rW n cs).length ≤ n:=by
  have:=List.length_filter_le (fun p=>decide (p ∉ cs)) (Rg 1 (n - 1))
  rw [zdr] at this
  unfold rW; omega
theorem zmP {n:Nat} (h1:1 ≤ n) (hn:n ≤ 1000):rng [.int 1,.int n]=some ((Rg 1 (n - 1)).map .int):=by
  rw [rng2 (by omega) (by omega)]
  unfold Rg zeT
  rw [List.map_map,show ((n:Int) - 1).toNat=n - 1 by omega]
  rfl
theorem zlN {x:Int} {cs:List Int}:zgg (.int x) (encC cs)=some (.bl (!decide (x ∈ cs))):=by simp [zgg,encC,zc0]
theorem zg3 {n:Nat} {d:Int→Int→Int} {cs:List Int} (h1:1 ≤ n) (hn:n ≤ 100):zaR [tabD (tabF n d),encC cs] = .ok (iL (rW n cs)):=by
  have lT:fLen [tabD (tabF n d)]=some (.int n):=zcY
  have rr:=zmP h1 (show n ≤ 1000 by omega)
  have k:zcq [.v (tabD (tabF n d)),.v (encC cs)] = .ok (iL (rW n cs)):=by
    refine zb5 (l:=(Rg 1 (n - 1)).map .int) (by simp [mRng,zaa,mNil,mC,mCB,mRd,lT,rr]) (by rw [List.length_map,zdr]; omega) ?_
    have s:zaQ [.v (tabD (tabF n d)),.v (encC cs)] [1] 1 = [.v (encC cs),.no]:=rfl
    rw [s]
    refine zdy D.int _ _ fun x _=>?_
    by_cases e:x ∈ cs <;> simp [zda,zaU,zao,mRd,mVar,zlN,e]
  refine zeJ ?_
  show zec zcq [.v (tabD (tabF n d)),.v (encC cs)]=_
  unfold zec
  rw [k]; rfl
theorem zlA {n:Nat} {d:Int→Int→Int} {cs:List Int} (h1:1 ≤ n) (hn:n ≤ 100):zaB [rqD (tabD (tabF n d)),encC cs] = .ok (iL (rW n cs)):=by
  have lT:fLen [tabD (tabF n d)]=some (.int n):=zcY
  have rr:=zmP h1 (show n ≤ 1000 by omega)
  have fl:=zkS (tabD (tabF n d))
  have k:zbS [.v (rqD (tabD (tabF n d))),.v (encC cs)] = .ok (iL (rW n cs)):=by
    refine zb5 (l:=(Rg 1 (n - 1)).map .int) (by simp [mRng,zaa,mNil,mC,mCB,mRd,fl,lT,rr]) (by rw [List.length_map,zdr]; omega) ?_
    have s:zaQ [.v (rqD (tabD (tabF n d))),.v (encC cs)] [1] 1 = [.v (encC cs),.no]:=rfl
    rw [s]
    refine zdy D.int _ _ fun x _=>?_
    by_cases e:x ∈ cs <;> simp [zda,zaU,zao,mRd,mVar,zlN,e]
  refine zeJ ?_
  show zec zbS [.v (rqD (tabD (tabF n d))),.v (encC cs)]=_
  unfold zec
  rw [k]; rfl
theorem zeH (cs:List Int):zb2 [encC cs]=some (iL cs):=rfl
theorem zhC {a b:List Int} (h:a.length + b.length ≤ 1000):oCat (iL a) (iL b)=some (iL (a ++ b)):=by
  unfold oCat iL
  simp only
  rw [zba (by rw [List.length_map,List.length_map]; exact Nat.le_trans h (by decide)),List.map_append]
theorem zlk (δ:En) (x:Int):mLst (zaa (mC (.int x)) mNil) δ = .ok (iL [x]):=by simp [mLst,zaa,mNil,mC,sizeLine,iL]
theorem zhL {T:D} {cs:List Int} (h:cs.length ≤ 100):zaq [rqD T,encC cs] = .ok (iL (0 :: cs)):=by
  refine zeJ ?_
  show zec _ [.v (rqD T),.v (encC cs)]=_
  unfold zec
  have e:mCB zb2 (zaa (mRd 1) mNil) [.v (rqD T),.v (encC cs)] = .ok (iL cs):=by simp [mCB,zaa,mNil,mRd,zeH]
  rw [zck,zlk,R.bind_ok,e,R.bind_ok,zhC (by simp; omega)]; rfl
theorem zoP {n:Nat} {B:Int} {d:Int→Int→Int} (ok:LenOk n B d) {cs:List Int} (h0:0 < n) (h:cs.length ≤ 90) (mem:∀ v ∈ cs,0 ≤ v∧v < (n:Int)):zaI [rqD (tabD (tabF n d)),encC cs] = .ok (.int (cyc d (0 :: cs))):=by
  have an:=zhL (T:=tabD (tabF n d)) (cs:=cs) (by omega)
  have fl:=zkS (tabD (tabF n d))
  have rl:=zf7 ok (l:=0 :: cs) (by simp) (by simp; omega) (fun v hv=>by
    rcases List.mem_cons.mp hv with z | z
    · omega
    · exact mem v z)
  refine zbo ?_
  show mRet _ [.v (rqD (tabD (tabF n d))),.v (encC cs)]=_
  have a:zbm 3 "answer" zaq (mVar 0) (zaa (mVar 1) mNil) [.v (rqD (tabD (tabF n d))),.v (encC cs)] = .ok (iL (0 :: cs)):=zcO rfl (isRq _ (by decide)) rfl an
  unfold mRet
  rw [zbl (by simp [mRd,fl]) a rl]; rfl
theorem zjF {n:Nat} {d:Int→Int→Int} {cs:List Int} (h0:0 < n) (h:cs.length ≤ 90) (mem:∀ v ∈ cs,0 ≤ v∧v < (n:Int)):zbq [tabD (tabF n d),encC cs] = .ok (.int (cyc d (0 :: cs))):=by
  obtain ⟨l,el⟩:∃ l,l=0 :: (cs ++ [0]):=⟨_,rfl⟩
  have ll:l.length=cs.length + 2:=by rw [el]; simp
  have lm:∀ v ∈ l,0 ≤ v∧v < (n:Int):=fun v hv=>by
    rw [el] at hv
    simp at hv
    rcases hv with z | z | z
    · omega
    · exact mem v z
    · omega
  obtain ⟨T,eT⟩:∃ T,T=tabD (tabF n d):=⟨_,rfl⟩
  have tix:∀ a:Int,0 ≤ a→a < n→oIxL T (.int a)=some (iL ((upt n).map (d a))):=fun a h0 h1=>by rw [eT]; exact ze5 h0 h1
  rw [← eT]
  refine zbo ?_
  show mSeq _ _ [.v T,.v (encC cs),.no]=_
  have q1:mAsg (m2 oCat (m2 oCat (mLst (zaa (mC (.int 0)) mNil)) (mCB zb2 (zaa (mRd 1) mNil))) (mLst (zaa (mC (.int 0)) mNil))) (zax 2) [.v T,.v (encC cs),.no] = .nx [.v T,.v (encC cs),.v (iL l)]:=by
    refine za3 (d:=iL l) ?_ rfl
    have e:mCB zb2 (zaa (mRd 1) mNil) [.v T,.v (encC cs),.no] = .ok (iL cs):=by simp [mCB,zaa,mNil,mRd,zeH]
    rw [zck,zck,zlk,R.bind_ok,e,R.bind_ok,zhC (by simp; omega),R.of_some,R.bind_ok,R.bind_ok,zhC (by simp; omega),el]; rfl
  have li:fLen [iL l]=some (.int l.length):=ziP l
  have rg:mRng (zaa (m2 oSub (mCB fLen (zaa (mRd 2) mNil)) (mC (.int 1))) mNil) [.v T,.v (encC cs),.v (iL l)] = .ok ((List.range (l.length - 1)).map fun k:Nat=>.int k):=by
    have rn:=rngT (show l.length - 1 ≤ 1000 by omega)
    have e:(l.length:Int) - 1=((l.length - 1:Nat):Int):=by omega
    simp only [mRng,zaa,mNil,mC,mCB,mRd,zck,List.getElem?_cons_succ,List.getElem?_cons_zero,li,R.bind_ok,R.of_some,zgf]
    rw [e]
    refine (congrArg R.of rn).trans ?_
    unfold upt
    rw [List.map_map]; rfl
  have k1:zgI [.v T,.v (encC cs),.v (iL l)] = .ok (iL ((cp l).map fun p=>d p.1 p.2)):=by
    unfold iL
    rw [zgZ,List.map_map,List.map_map]
    refine zb5 (l:=(List.range (l.length - 1)).map fun k:Nat=>.int k) rg (by simp; omega) ?_
    have e:zaQ [.v T,.v (encC cs),.v (iL l)] [0,2] 1 = [.v T,.v (iL l),.no]:=rfl
    unfold iL at e
    rw [e]
    refine zcg (fun k:Nat=>.int k) _ _ fun k hk=>?_
    have kl:=List.mem_range.mp hk
    have a0:=zl0 (l:=l) (k:=k) (by omega)
    have a1:=zl0 (l:=l) (k:=k + 1) (by omega)
    rw [show ((k + 1:Nat):Int)=(k:Int) + 1 by omega] at a1
    have at':∀ j,j < l.length→l.getD j 0 ∈ l:=fun j hj=>by rw [List.getD_eq_getElem?_getD,List.getElem?_eq_getElem hj]; exact List.getElem_mem hj
    have m0:=lm _ (at' k (by omega))
    have m1:=lm _ (at' (k + 1) (by omega))
    have t:=tix _ m0.1 m0.2
    have r:=zcl (n:=n) (f:=d (l.getD k 0)) m1.1 m1.2
    have b:zaU 2 (.int k) [.v T,.v (.lst (l.map .int)),.no]=some [.v T,.v (.lst (l.map .int)),.v (.int k)]:=rfl
    unfold iL at a0 a1
    simp only [zda,b]
    simp only [zck,mRd,mC,List.getElem?_cons_succ,List.getElem?_cons_zero,R.bind_ok,a0,a1,R.of_some,t,zfD,r,R.nev_ok]
    rfl
  refine (zap q1).trans ?_
  have s:=zld ((cp l).map fun p=>d p.1 p.2)
  have e:((cp l).map fun p=>d p.1 p.2).sum=cyc d (0 :: cs):=by
    have:=zly d l
    rw [el] at this ⊢
    exact this
  simp only [mRet,mCB,zaa,mNil,k1,R.bind_ok,s,R.of_some,e]; rfl
theorem zma {n:Nat} {B:Int} {d:Int→Int→Int} (ok:LenOk n B d) (h0:0 < n) {cs:List Int} {p:Int} (mem:∀ v ∈ cs,0 ≤ v∧v < (n:Int)) (hp:0 ≤ p∧p < (n:Int)):cyc d (0 :: cs) ≤ cyc d (0 :: (cs ++ [p])):=by
  show path d (0 :: (cs ++ [0])) ≤ path d (0 :: ((cs ++ [p]) ++ [0]))
  rw [List.append_assoc]
  show _ ≤ path d (0 :: (cs ++ [p,0]))
  rw [zee]
  rcases List.eq_nil_or_concat cs with e | ⟨l,w,e⟩
  · subst e
    show d 0 0 + 0 ≤ d 0 p + 0 + d p 0
    have:=ok.tri 0 p 0 (by omega) (by omega) hp.1 hp.2 (by omega) (by omega)
    omega
  · rw [List.concat_eq_append] at e
    subst e
    have hw:=mem w (by simp)
    rw [List.append_assoc,List.append_assoc]
    show path d (0 :: (l ++ [w,0])) ≤ path d (0 :: (l ++ [w,p])) + d p 0
    rw [zee,zee]
    have:=ok.tri w p 0 hw.1 hw.2 hp.1 hp.2 (by omega) (by omega)
    omega
end My
namespace My
open PySem L2 PM
theorem ziN (i:Int):za7 [.int i,.int i] = .ok (.bl true):=by
  refine zbo ?_
  have i1:oIsi "int" (.int i)=some (.bl true):=rfl
  have i2:oIsi "bool" (.int i)=some (.bl false):=rfl
  show mRet _ [.v (.int i),.v (.int i)]=_
  simp [mRet,zgW,znd,mRd,i1,i2]
theorem zdi (l:List Int) (hl:l.length ≤ 1000):zaL [iL l,iL l] = .ok (.bl true):=by
  have z:zipD (l.map D.int) (l.map D.int)=l.map fun x=>D.tup [.int x,.int x]:=by
    unfold zipD
    induction l with
    | nil=>rfl
    | cons a l ih=>simp only [List.map_cons,List.zipWith_cons_cons,ih (by simp at hl; omega)]
  obtain ⟨δ,h1,o2,o3,rfl⟩:=zb7 (b:=bTup 2 (zgn (zax 2) (zgn (zax 3) bNil))) (m:=zcR) (fun x:Int=>D.tup [.int x,.int x]) (fun _ δ=>∃ o2 o3,δ = [.v (iL l),.v (iL l),sv o2,sv o3]) l
    (by
      rintro pre x post δ hall ⟨o2,o3,rfl⟩
      refine ⟨[.v (iL l),.v (iL l),.v (.int x),.v (.int x)],[.v (iL l),.v (iL l),.v (.int x),.v (.int x)],?_,.inl ?_,some _,some _,rfl⟩
      · rcases o2 with _ | o2 <;> rcases o3 with _ | o3 <;> rfl
      · simp [zcR,mIfS,mNot,zao,zag,zaa,mNil,mVar,ziN,zbr])
    [.v (iL l),.v (iL l),.no,.no] ⟨none,none,rfl⟩
  refine zbo ?_
  show mSeq _ _ [.v (iL l),.v (iL l),.no,.no]=_
  have il:oIsi "list" (iL l)=some (.bl true):=rfl
  have q1:mIfS (mOr (mNot (zao (m1 (oIsi "list") (mRd 0)))) (zao (m2 oNe (mCB fLen (zaa (mRd 0) mNil)) (mCB fLen (zaa (mRd 1) mNil))))) (mRet (mC (.bl false))) zbr [.v (iL l),.v (iL l),.no,.no] = .nx [.v (iL l),.v (iL l),.no,.no]:=by simp [mIfS,mOr,mNot,zao,mRd,mCB,zaa,mNil,il,zbr]
  have q2:zeq [.v (iL l),.v (iL l),.no,.no] = .nx [.v (iL l),.v (iL l),sv o2,sv o3]:=by
    refine (zeM ?_).trans h1
    simp only [mZip,zaa,mNil,mVar,List.getElem?_cons_succ,List.getElem?_cons_zero,R.bind_ok]
    show R.of (some (zipD (l.map D.int) (l.map D.int)))=_
    rw [z]; rfl
  exact (zap q1).trans ((zap q2).trans rfl)
end My
namespace My
open PySem L2 PM
theorem zlR {Qo:D} {cs due:List Int} (hd:due.length ≤ 100) (w:∀ s,mAlt 0 4 (zbm 4 "ways" zaz (mVar 0) (zaa (mVar 1) mNil)) (zbm 3 "ways" zaB (mVar 0) (zaa (mVar 1) mNil)) [.v Qo,.v (encC cs),.v (iL due),s] = .ok (iL due)):zaF [Qo,encC cs,iL due] = .ok (.bl true):=by
  refine zbo ?_
  have b:zbJ [.v Qo,.v (encC cs),.v (iL due),.o (iL due)] = .nx [.v Qo,.v (encC cs),.v (iL due),.o (iL (due ++ [7]))]:=by
    have q1:mIfS (mNot (zao (zf2 zaL (zaa (mRd 3) (zaa (mVar 2) mNil))))) (mRet (mC (.bl false))) zbr [.v Qo,.v (encC cs),.v (iL due),.o (iL due)] = .nx [.v Qo,.v (encC cs),.v (iL due),.o (iL due)]:=by
      simp [mIfS,mNot,zao,zf2,zaa,mNil,mRd,mVar,zdi due (by omega),zdQ,zbr]
    exact (zap q1).trans (zjO rfl rfl (by omega))
  have l:zcr [.v Qo,.v (encC cs),.v (iL due),.no] = .nx [.v Qo,.v (encC cs),.v (iL due),.o (iL (due ++ [7]))]:=by
    unfold zcr zns
    rw [w]
    simp only [R.toO_ok]
    rw [if_pos ⟨rfl,by simp⟩]
    show thn2 (zbJ [.v Qo,.v (encC cs),.v (iL due),.o (iL due)]) _=_
    rw [b]
    simp only [thn2]
    rw [if_pos ⟨rfl,by simp⟩]
    show thn2 (zbJ [.v Qo,.v (encC cs),.v (iL due),.o (iL due)]) _=_
    rw [b]
    rfl
  exact (zap l).trans rfl
theorem zjY {n:Nat} {d:Int→Int→Int} {cs:List Int} (h1:1 ≤ n) (hn:n ≤ 100):zaF [rqD (tabD (tabF n d)),encC cs,iL (rW n cs)] = .ok (.bl true):=by
  refine zlR (by have:=zkD n cs; omega) fun s=>?_
  show zbm 3 "ways" zaB (mVar 0) (zaa (mVar 1) mNil) [.v (rqD (tabD (tabF n d))),.v (encC cs),.v (iL (rW n cs)),s]=_
  exact zcO rfl (isRq _ (by decide)) rfl (zlA h1 hn)
theorem zkG (ns:List Int) {k:Nat} {W:List Int} (hW:W ≠ []) (hl:W.length ≤ 100):∃ p ∈ W,zbx [.scr ns,.int k,iL W] = .ok (encC [p]):=by
  have hc:zay [.scr ns,.int k] = .ok (.int (ns.getD k 0)):=zfm ns k
  have w0:0 < W.length:=List.length_pos_iff.mpr hW
  have f7:Fit 7:=fitN 10 (by decide)
  obtain ⟨j,ej⟩:∃ j,j=ns.getD k 0 / 7 % (W.length:Int):=⟨_,rfl⟩
  have j0:0 ≤ j:=by rw [ej]; exact Int.emod_nonneg _ (by omega)
  have j1:j < W.length:=by rw [ej]; exact Int.emod_lt_of_pos _ (by omega)
  have ix:=zgG (l:=W) j0 j1
  have jm:W.getD j.toNat 0 ∈ W:=by
    rw [List.getD_eq_getElem?_getD,List.getElem?_eq_getElem (by omega:j.toNat < W.length)]; exact List.getElem_mem _
  obtain ⟨p,ep⟩:∃ p,p=W.getD j.toNat 0:=⟨_,rfl⟩
  rw [← ep] at ix jm
  refine ⟨p,jm,zbo ?_⟩
  show mRet _ [.v (.scr ns),.v (.int k),.v (iL W)]=_
  have li:fLen [iL W]=some (.int W.length):=ziP W
  have dv:oDiv (.int (ns.getD k 0)) (.int 7)=some (.int (ns.getD k 0 / 7)):=zkm (by decide) f7
  have om:oMod (.int (ns.getD k 0 / 7)) (.int W.length)=some (.int j):=by rw [ej]; exact zdm (by omega)
  have e:zag zay (zaa (mVar 0) (zaa (mVar 1) mNil)) [.v (.scr ns),.v (.int k),.v (iL W)] = .ok (.int (ns.getD k 0)):=zbl rfl rfl hc
  have tp:mTup (zaa (m2 oIxL (mRd 2) (m2 oMod (m2 oDiv (zag zay (zaa (mVar 0) (zaa (mVar 1) mNil))) (mC (.int 7))) (mCB fLen (zaa (mRd 2) mNil)))) mNil) [.v (.scr ns),.v (.int k),.v (iL W)] = .ok (encC [p]):=by
    unfold mTup
    simp only [zaa,mNil,zck,mRd,mC,mCB,List.getElem?_cons_succ,List.getElem?_cons_zero,R.bind_ok]
    have e':zag zay (fun δ=>(mVar 0 δ).bind fun x=>((mVar 1 δ).bind fun x=>R.ok [x]).bind fun l=>R.ok (x :: l)) [.v (.scr ns),.v (.int k),.v (iL W)] = .ok (.int (ns.getD k 0)):=e
    first
    | (rw [e']; simp only [R.bind_ok,dv,R.of_some,li,om,ix]; exact zba (show 1 ≤ sizeLine by decide))
    | (simp only [show zag zay (zaa (mVar 0) (zaa (mVar 1) mNil)) [.v (.scr ns),.v (.int k),.v (iL W)] = .ok (.int (ns.getD k 0)) from e,R.bind_ok,dv,R.of_some,li,om,ix]; exact zba (show 1 ≤ sizeLine by decide))
  unfold mRet
  rw [tp]; rfl
theorem zmJ {a b:List Int} (h:a.length + b.length ≤ 1000):zio (encC a) (encC b)=some (encC (a ++ b)):=by
  unfold zio encC
  simp only
  rw [zba (by rw [List.length_map,List.length_map]; exact Nat.le_trans h (by decide)),List.map_append]
theorem zo6 {n:Nat} {cs:List Int} (nd:cs.Nodup) (mem:∀ v ∈ cs,1 ≤ v∧v < (n:Int)) (hl:cs.length + 1 < n):rW n cs ≠ []:=fun e=>by
  have all:∀ x ∈ Rg 1 (n - 1),x ∈ cs:=fun x hx=>by
    apply Classical.byContradiction
    intro z
    have:x ∈ rW n cs:=List.mem_filter.mpr ⟨hx,by simpa using z⟩
    rw [e] at this; cases this
  have ndR:(Rg 1 (n - 1)).Nodup:=by
    unfold Rg
    refine List.Pairwise.map _ (fun a b h e=>h ?_) List.nodup_range
    omega
  have:=List.Nodup.length_le_of_subset ndR all
  rw [zdr] at this
  omega
theorem zdY {f:List D→R D} {ml:En→R (List D)} {δ:En} (h:zag f ml δ = .ok (.bl true)):zao (zag f ml) δ = .ok true:=by unfold zao; rw [h]; rfl
theorem zgU (ns:List Int) {n:Nat} {B:Int} {d:Int→Int→Int} (ok:LenOk n B d) (h1:1 ≤ n) (hn:n ≤ 20):zbP [.scr ns,tabD (tabF n d),rqD (tabD (tabF n d))] = .ok (.bl true):=by
  have lT:fLen [tabD (tabF n d)]=some (.int n):=zcY
  have rn:=rngT (show n - 1 ≤ 1000 by omega)
  have ways:=fun cs=>zlA (d:=d) (cs:=cs) h1 (show n ≤ 100 by omega)
  have rws:=fun cs=>zg3 (d:=d) (cs:=cs) h1 (show n ≤ 100 by omega)
  have told:=fun cs=>zjY (d:=d) (cs:=cs) h1 (show n ≤ 100 by omega)
  have low:∀ cs:List Int,cs.length ≤ 90→(∀ v ∈ cs,0 ≤ v∧v < (n:Int))→zaI [rqD (tabD (tabF n d)),encC cs] = .ok (.int (cyc d (0 :: cs))):=fun cs a b=>zoP ok (by omega) a b
  have way:∀ cs:List Int,cs.length ≤ 90→(∀ v ∈ cs,0 ≤ v∧v < (n:Int))→zbq [tabD (tabF n d),encC cs] = .ok (.int (cyc d (0 :: cs))):=fun cs a b=>zjF (by omega) a b
  have ans:∀ cs:List Int,cs.length ≤ 90→zaq [rqD (tabD (tabF n d)),encC cs] = .ok (iL (0 :: cs)):=fun cs a=>zhL (by omega)
  have io:∀ m:Str,m ∉ (["lengths"]:List Str)→isObj 3 m (rqD (tabD (tabF n d)))=some ():=fun m h=>isRq _ h
  have stp:zaZ [rqD (tabD (tabF n d))] = .ok (.int ((n:Int) - 1)):=by
    refine zbo ?_
    show mRet _ [.v (rqD (tabD (tabF n d)))]=_
    simp [mRet,mCB,zaa,mNil,mRd,mC,zkS,lT]
  obtain ⟨T,eT⟩:∃ T,T=tabD (tabF n d):=⟨_,rfl⟩
  obtain ⟨Qo,eQ⟩:∃ Qo,Qo=rqD (tabD (tabF n d)):=⟨_,rfl⟩
  simp only [← eQ] at ways told low ans io stp ⊢
  simp only [← eT] at lT rws way ⊢
  obtain ⟨δ,hl,cs,lo,o5,o6,o7,cl,cnd,cm,lle,rfl⟩:=zb7 (b:=zax 5) (m:=zex) D.int (fun pre δ=>∃ (cs:List Int) (lo:Int) (o5 o6 o7:Option D),cs.length=pre.length∧cs.Nodup∧(∀ v ∈ cs,1 ≤ v∧v < (n:Int))∧lo ≤ cyc d (0 :: cs)∧δ = [.v (.scr ns),.v T,.v Qo,.v (encC cs),.v (.int lo),sv o5,sv o6,sv o7]) (upt (n - 1))
    (by
      rintro pre k post δ hall ⟨cs,lo,o5,o6,o7,cl,cnd,cm,lle,rfl⟩
      obtain ⟨ek,hk,_⟩:=zeZ hall
      have cm0:∀ v ∈ cs,0 ≤ v∧v < (n:Int):=fun v hv=>by have:=cm v hv; omega
      obtain ⟨p,pm,hp⟩:=zkG ns (k:=2 + pre.length) (zo6 cnd cm (by omega)) (by have:=zkD n cs; omega)
      obtain ⟨pr,pc⟩:=List.mem_filter.mp pm
      have pR:=mem_Rg.mp pr
      have pn:p ∉ cs:=by simpa using pc
      have p1:1 ≤ p∧p < (n:Int):=by omega
      have more:=zma ok (by omega) cm0 (p:=p) (by omega)
      obtain ⟨v,ev⟩:∃ v,v=cyc d (0 :: cs):=⟨_,rfl⟩
      have lw:=low cs (by omega) cm0
      have wy:=way cs (by omega) cm0
      rw [← ev] at lw wy lle more
      obtain ⟨W,eW⟩:∃ W,W=rW n cs:=⟨_,rfl⟩
      have w1:=ways cs
      have w2:=rws cs
      have w3:=told cs
      have wl:=zkD n cs
      rw [← eW] at w1 w2 w3 hp wl
      refine ⟨[.v (.scr ns),.v T,.v Qo,.v (encC cs),.v (.int lo),.v (.int k),sv o6,sv o7],[.v (.scr ns),.v T,.v Qo,.v (encC (cs ++ [p])),.v (.int v),.v (.int k),.v (iL W),.v (.int v)],za2 rfl,.inl ?_,cs ++ [p],v,some _,some _,some _,by simp [cl],?_,?_,more,rfl⟩
      · have q1:mAsg (zbm 3 "ways" zaB (mVar 2) (zaa (mVar 3) mNil)) (zax 6) [.v (.scr ns),.v T,.v Qo,.v (encC cs),.v (.int lo),.v (.int k),sv o6,sv o7] = .nx [.v (.scr ns),.v T,.v Qo,.v (encC cs),.v (.int lo),.v (.int k),.v (iL W),sv o7]:=za3 (d:=iL W) (zcO rfl (io _ (by decide)) rfl w1) (by rcases o6 with _ | o6 <;> rfl)
        have q2:mAsg (zag zbq (zaa (mVar 1) (zaa (mVar 3) mNil))) (zax 7) [.v (.scr ns),.v T,.v Qo,.v (encC cs),.v (.int lo),.v (.int k),.v (iL W),sv o7] = .nx [.v (.scr ns),.v T,.v Qo,.v (encC cs),.v (.int lo),.v (.int k),.v (iL W),.v (.int v)]:=za3 (d:=.int v) (zbl rfl rfl wy) (by rcases o7 with _ | o7 <;> rfl)
        obtain ⟨E,eE⟩:∃ E:En,E = [.v (.scr ns),.v T,.v Qo,.v (encC cs),.v (.int lo),.v (.int k),.v (iL W),.v (.int v)]:=⟨_,rfl⟩
        have rwE:zag zaR (zaa (mVar 1) (zaa (mVar 3) mNil)) E = .ok (iL W):=by rw [eE]; exact zbl rfl rfl w2
        have q3:mIfS (mNot (zao (zag zaL (zaa (mVar 6) (zaa (zag zaR (zaa (mVar 1) (zaa (mVar 3) mNil))) mNil))))) (mRet (mC (.bl false))) zbr E = .nx E:=by
          have t:=zdY (zbl (f:=zaL) (a:=mVar 6) (b:=zag zaR (zaa (mVar 1) (zaa (mVar 3) mNil))) (δ:=E) (x:=iL W) (by rw [eE]; rfl) rwE (zdi W (by omega)))
          rw [zbM (by simp only [mNot,t,R.bind_ok]; rfl)]; rfl
        have q4:mIfS (mNot (zao (zag zaF (zaa (mVar 2) (zaa (mVar 3) (zaa (zag zaR (zaa (mVar 1) (zaa (mVar 3) mNil))) mNil)))))) (mRet (mC (.bl false))) zbr E = .nx E:=by
          have t:=zdY (zcJ (f:=zaF) (a:=mVar 2) (b:=mVar 3) (c:=zag zaR (zaa (mVar 1) (zaa (mVar 3) mNil))) (δ:=E) (x:=Qo) (y:=encC cs) (by rw [eE]; rfl) (by rw [eE]; rfl) rwE w3)
          rw [zbM (by simp only [mNot,t,R.bind_ok]; rfl)]; rfl
        have q5:mIfS (mOr (mNot (zao (zag za7 (zaa (zbm 3 "low" zaI (mVar 2) (zaa (mVar 3) mNil)) (zaa (mVar 7) mNil))))) (zao (m2 oLt (mRd 7) (mRd 4)))) (mRet (mC (.bl false))) zbr E = .nx E:=by
          have t:=zdY (zbl (f:=za7) (a:=zbm 3 "low" zaI (mVar 2) (zaa (mVar 3) mNil)) (b:=mVar 7) (δ:=E) (x:=.int v) (y:=.int v) (by rw [eE]; exact zcO rfl (io _ (by decide)) rfl lw) (by rw [eE]; rfl) (ziN v))
          have t2:zao (m2 oLt (mRd 7) (mRd 4)) E = .ok false:=by rw [eE]; simp [zao,mRd]; omega
          rw [zbM (by simp only [mOr,mNot,t,t2,R.bind_ok]; rfl)]; rfl
        have q6:mAsg (mVar 7) (zax 4) E = .nx [.v (.scr ns),.v T,.v Qo,.v (encC cs),.v (.int v),.v (.int k),.v (iL W),.v (.int v)]:=by rw [eE]; rfl
        have k2:(2:Int) + k=((2 + pre.length:Nat):Int):=by omega
        have q7:mAsg (m2 zio (mRd 3) (zag zbx (zaa (mVar 0) (zaa (m2 oAdd (mC (.int 2)) (mRd 5)) (zaa (mVar 6) mNil))))) (zax 3) [.v (.scr ns),.v T,.v Qo,.v (encC cs),.v (.int v),.v (.int k),.v (iL W),.v (.int v)] = .nx [.v (.scr ns),.v T,.v Qo,.v (encC (cs ++ [p])),.v (.int v),.v (.int k),.v (iL W),.v (.int v)]:=by
          refine za3 (d:=encC (cs ++ [p])) ?_ rfl
          have c:=zcJ (f:=zbx) (a:=mVar 0) (b:=m2 oAdd (mC (.int 2)) (mRd 5)) (c:=mVar 6) (δ:=[.v (.scr ns),.v T,.v Qo,.v (encC cs),.v (.int v),.v (.int k),.v (iL W),.v (.int v)]) (y:=.int ((2 + pre.length:Nat):Int)) rfl (by rw [← k2]; simp [mC,mRd]) rfl hp
          rw [zck,c]
          show ((R.ok (encC cs)).bind _)=_
          rw [R.bind_ok,R.bind_ok,zmJ (by simp; omega)]; rfl
        rw [← eE] at q2
        exact (zap q1).trans ((zap q2).trans ((zap q3).trans ((zap q4).trans ((zap q5).trans ((zap q6).trans q7)))))
      · exact List.nodup_append.mpr ⟨cnd,by simp,fun x hx y hy z=>pn (by rw [List.mem_singleton.mp hy] at z; rw [← z]; exact hx)⟩
      · intro x hx
        rcases List.mem_append.mp hx with z | z
        · exact cm x z
        · rw [List.mem_singleton.mp z]; exact p1)
    [.v (.scr ns),.v T,.v Qo,.v (encC []),.v (.int 0),.no,.no,.no] ⟨[],0,none,none,none,rfl,by simp,fun v hv=>(by cases hv),(by
      show 0 ≤ d 0 0 + 0
      have:=ok.self 0 (by omega) (by omega)
      omega),rfl⟩
  rw [za5] at cl
  have cm0:∀ v ∈ cs,0 ≤ v∧v < (n:Int):=fun v hv=>by have:=cm v hv; omega
  have lw:=low cs (by omega) cm0
  have wy:=way cs (by omega) cm0
  have an:=ans cs (by omega)
  refine zbo ?_
  show mSeq _ _ [.v (.scr ns),.v T,.v Qo,.no,.no,.no,.no,.no]=_
  have q1:mAsg (mTup mNil) (zax 3) [.v (.scr ns),.v T,.v Qo,.no,.no,.no,.no,.no] = .nx [.v (.scr ns),.v T,.v Qo,.v (encC []),.no,.no,.no,.no]:=za3 (d:=encC []) (by unfold mTup; exact zba (show 0 ≤ sizeLine by decide)) rfl
  have q2:mAsg (mC (.int 0)) (zax 4) [.v (.scr ns),.v T,.v Qo,.v (encC []),.no,.no,.no,.no] = .nx [.v (.scr ns),.v T,.v Qo,.v (encC []),.v (.int 0),.no,.no,.no]:=rfl
  have rg:mRng (zaa (m2 oSub (mCB fLen (zaa (mRd 1) mNil)) (mC (.int 1))) mNil) [.v (.scr ns),.v T,.v Qo,.v (encC []),.v (.int 0),.no,.no,.no] = .ok ((upt (n - 1)).map .int):=by
    simp only [mRng,zaa,mNil,mC,mCB,mRd,zck,List.getElem?_cons_succ,List.getElem?_cons_zero,lT,R.bind_ok,R.of_some,zgf]
    rw [show (n:Int) - 1=((n - 1:Nat):Int) by omega]
    exact congrArg R.of rn
  have q3:zeO [.v (.scr ns),.v T,.v Qo,.v (encC []),.v (.int 0),.no,.no,.no]=_:=(zeM rg).trans hl
  obtain ⟨E,eE⟩:∃ E:En,E = [.v (.scr ns),.v T,.v Qo,.v (encC cs),.v (.int lo),sv o5,sv o6,sv o7]:=⟨_,rfl⟩
  rw [← eE] at q3
  have wE:zag zbq (zaa (mVar 1) (zaa (mVar 3) mNil)) E = .ok (.int (cyc d (0 :: cs))):=by rw [eE]; exact zbl rfl rfl wy
  have q4:mIfS (mOr (mNot (zao (zag za7 (zaa (zbm 3 "low" zaI (mVar 2) (zaa (mVar 3) mNil)) (zaa (zag zbq (zaa (mVar 1) (zaa (mVar 3) mNil))) mNil))))) (zao (m2 oLt (zag zbq (zaa (mVar 1) (zaa (mVar 3) mNil))) (mRd 4)))) (mRet (mC (.bl false))) zbr E = .nx E:=by
    have t:=zdY (zbl (f:=za7) (a:=zbm 3 "low" zaI (mVar 2) (zaa (mVar 3) mNil)) (b:=zag zbq (zaa (mVar 1) (zaa (mVar 3) mNil))) (δ:=E) (x:=.int (cyc d (0 :: cs))) (by rw [eE]; exact zcO rfl (io _ (by decide)) rfl lw) wE (ziN _))
    have t2:zao (m2 oLt (zag zbq (zaa (mVar 1) (zaa (mVar 3) mNil))) (mRd 4)) E = .ok false:=by
      unfold zao
      rw [zck,wE,R.bind_ok]
      have e4:mRd 4 E = .ok (.int lo):=by rw [eE]; rfl
      rw [e4,R.bind_ok,zoZ,R.of_some,R.bind_ok,decide_eq_false (by omega)]; rfl
    rw [zbM (by simp only [mOr,mNot,t,t2,R.bind_ok]; rfl)]; rfl
  have aE:zbm 3 "answer" zaq (mVar 2) (zaa (mVar 3) mNil) E = .ok (iL (0 :: cs)):=by rw [eE]; exact zcO rfl (io _ (by decide)) rfl an
  have q5:ziu (zbm 3 "answer" zaq (mVar 2) (zaa (mVar 3) mNil)) (mC (.int 7)) E = .nx E:=by
    unfold ziu
    rw [aE]
    show ifC (((0 :: cs).map D.int).length < sizeLine) (O.nx E) O.no=_
    exact zba (by rw [List.length_map]; exact Nat.lt_of_lt_of_le (show (0 :: cs).length < 1000 by simp; omega) (by decide))
  refine (zap q1).trans ((zap q2).trans ((zap q3).trans ((zap q4).trans ((zap q5).trans ?_))))
  have c2:m2 oCat (mLst (zaa (mC (.int 0)) mNil)) (mCB zb2 (zaa (mRd 3) mNil)) E = .ok (iL (0 :: cs)):=by
    have e:mCB zb2 (zaa (mRd 3) mNil) E = .ok (iL cs):=by rw [eE]; simp [mCB,zaa,mNil,mRd,zeH]
    rw [zck,zlk,R.bind_ok,e,R.bind_ok,zhC (by simp; omega)]; rfl
  have b1:zag zaL (zaa (zbm 3 "answer" zaq (mVar 2) (zaa (mVar 3) mNil)) (zaa (m2 oCat (mLst (zaa (mC (.int 0)) mNil)) (mCB zb2 (zaa (mRd 3) mNil))) mNil)) E = .ok (.bl true):=zbl aE c2 (zdi (0 :: cs) (by simp; omega))
  have sE:m2 oSub (mCB fLen (zaa (mRd 1) mNil)) (mC (.int 1)) E = .ok (.int ((n:Int) - 1)):=by rw [eE]; simp [mCB,zaa,mNil,mRd,mC,lT]
  have b2:zag za7 (zaa (zbm 3 "steps" zaZ (mVar 2) mNil) (zaa (m2 oSub (mCB fLen (zaa (mRd 1) mNil)) (mC (.int 1))) mNil)) E = .ok (.bl true):=zbl (by rw [eE]; exact zlS rfl (io _ (by decide)) stp) sE (ziN _)
  simp only [mRet,zgW,b1,b2,R.bind_ok]
  rfl
end My
namespace My
open PySem L2 PM
def bl (cs:List Int):Int:=match cs.getLast? with | none=>0 | some w=>w + 1
theorem ziv (l:List Int) (w:Int):bl (l ++ [w])=w + 1:=by unfold bl; simp
theorem zjd {l:List Int} {w:Int}:oIxT (encC (l ++ [w])) (.int (-1))=some (.int w):=zkN (l:=l) (w:=w)
theorem zjT (cs:List Int):fLen [encC cs]=some (.int cs.length):=by unfold encC fLen; simp
theorem zie (cs:List Int):zaY [encC cs] = .ok (.int (bl cs)):=by
  refine zbo ?_
  show mRet _ [.v (encC cs)]=_
  have lc:=zjT cs
  rcases List.eq_nil_or_concat cs with e | ⟨l,w,e⟩
  · subst e
    simp [mRet,mIf,zao,mCB,zaa,mNil,mRd,mC,lc,bl]
  · rw [List.concat_eq_append] at e
    subst e
    have ix:=zjd (l:=l) (w:=w)
    rw [ziv]
    have t:zao (m2 oGt (mCB fLen (zaa (mRd 0) mNil)) (mC (.int 0))) [.v (encC (l ++ [w]))] = .ok true:=by
      simp [zao,mCB,zaa,mNil,mRd,mC,lc]
    unfold mRet mIf
    rw [t]
    simp [mRd,mC,ix]
theorem zj9 {n b:Nat} (h:b ≤ n):(upt n).filter (fun p=>decide ((b:Int) ≤ p))=Rg b (n - b):=by
  obtain ⟨m,rfl⟩:∃ m,n=b + m:=⟨n - b,by omega⟩
  have e:upt (b + m)=upt b ++ Rg b m:=by
    unfold upt Rg
    rw [List.range_add,List.map_append,List.map_map]
    congr 1
  rw [e,List.filter_append,Nat.add_sub_cancel_left]
  have e1:(upt b).filter (fun p=>decide ((b:Int) ≤ p)) = []:=by
    rw [List.filter_eq_nil_iff]
    intro x hx
    have:=mem_upt.mp hx
    simp; omega
  have e2:(Rg b m).filter (fun p=>decide ((b:Int) ≤ p))=Rg b m:=by
    rw [List.filter_eq_self]
    intro x hx
    have:=mem_Rg.mp hx
    simp; omega
  rw [e1,e2,List.nil_append]
theorem zi5 {n:Nat} {cs:List Int} {b:Nat} (hb:bl cs=b) (hbn:b ≤ n) (hn:n ≤ 100) {δ:En} {lens:D} (h0:mRd 0 δ = .ok lens) (hl:fLen [lens]=some (.int n)) (s:zaQ δ [2] 1 = [.v (encC cs),.no]) :
    zd7 (mRng (zaa (mCB fLen (zaa (mRd 0) mNil)) mNil)) [2] 1 (zaU 1) (some (mOr (zao (m2 oEq (mCB fLen (zaa (mRd 0) mNil)) (mC (.int 0)))) (zao (m2 oGt (mRd 1) (m2 oIxT (mRd 0) (m1 oNeg (mC (.int 1)))))))) (mVar 1) δ = .ok (iL (Rg b (n - b))):=by
  have rn:=rngT (show n ≤ 1000 by omega)
  rw [← zj9 hbn]
  refine zb5 (l:=(upt n).map .int) ?_ (by rw [List.length_map,za5]; omega) ?_
  · simp only [mRng,zaa,mNil,mCB,h0,R.bind_ok,hl,R.of_some]
    exact congrArg R.of rn
  · rw [s]
    refine zdy D.int _ _ fun x hx=>?_
    have lc:=zjT cs
    have bn:zaU 1 (.int x) [.v (encC cs),.no]=some [.v (encC cs),.v (.int x)]:=rfl
    rcases List.eq_nil_or_concat cs with e | ⟨l,w,e⟩
    · subst e
      have b0:(b:Int)=0:=by rw [← hb]; rfl
      have x0:=mem_upt.mp hx
      have t1:zao (m2 oEq (mCB fLen (zaa (mRd 0) mNil)) (mC (.int 0))) [.v (encC []),.v (.int x)] = .ok true:=by simp [zao,mCB,zaa,mNil,mRd,mC,lc]
      simp only [zda,bn,mOr,t1,R.bind_ok]
      rw [decide_eq_true (show (b:Int) ≤ x by omega)]; rfl
    · rw [List.concat_eq_append] at e
      subst e
      rw [ziv] at hb
      have ix:=zjd (l:=l) (w:=w)
      have t1:zao (m2 oEq (mCB fLen (zaa (mRd 0) mNil)) (mC (.int 0))) [.v (encC (l ++ [w])),.v (.int x)] = .ok false:=by
        simp [zao,mCB,zaa,mNil,mRd,mC,lc]
        omega
      have t2:zao (m2 oGt (mRd 1) (m2 oIxT (mRd 0) (m1 oNeg (mC (.int 1))))) [.v (encC (l ++ [w])),.v (.int x)] = .ok (decide ((b:Int) ≤ x)):=by
        simp [zao,mRd,mC,ix]
        omega
      by_cases c:(b:Int) ≤ x
      · rw [decide_eq_true c] at t2
        simp only [zda,bn,mOr,t1,t2,R.bind_ok]
        rw [decide_eq_true c]; rfl
      · rw [decide_eq_false c] at t2
        simp only [zda,bn,mOr,t1,t2,R.bind_ok]
        rw [decide_eq_false c]; rfl
theorem znf (b:Int) (L:Nat):zhS ((Rg b L).map D.int)=(List.range L).map fun k:Nat=>D.tup [.int k,.int (b + k)]:=by
  rw [zmw]
  apply List.ext_getElem (by simp [Rg])
  intro i h1 h2
  simp [Rg]
def pW (n b t:Nat):List Int:=Rg b (n - b - t + 1)
theorem zhe {n:Nat} {d:Int→Int→Int} {cs:List Int} {b t m:Nat} (hb:bl cs=b) (hm:m=cs.length + t) (t1:1 ≤ t) (hbt:b + t ≤ n) (hn:n ≤ 100):zaN [tabD (tabF n d),.int m,encC cs] = .ok (iL (pW n b t)):=by
  obtain ⟨T,eT⟩:∃ T,T=tabD (tabF n d):=⟨_,rfl⟩
  have lT:fLen [T]=some (.int n):=by rw [eT]; exact zcY
  rw [← eT]
  refine zeJ ?_
  show mSeq _ _ [.v T,.v (.int m),.v (encC cs),.no]=_
  have k1:zcp [.v T,.v (.int m),.v (encC cs),.no] = .ok (iL (Rg b (n - b))):=zi5 hb (by omega) hn rfl lT rfl
  have q1:mAsg zcp (zax 3) [.v T,.v (.int m),.v (encC cs),.no] = .nx [.v T,.v (.int m),.v (encC cs),.v (iL (Rg b (n - b)))]:=za3 (d:=iL (Rg b (n - b))) k1 rfl
  have lc:=zjT cs
  have lL:fLen [iL (Rg b (n - b))]=some (.int ((n - b:Nat):Int)):=by rw [ziP,zdr]
  have k2:zdn [.v T,.v (.int m),.v (encC cs),.v (iL (Rg b (n - b)))] = .ok (iL (pW n b t)):=by
    refine zb5 (l:=(List.range (n - b)).map fun k:Nat=>D.tup [.int k,.int (b + k)]) ?_ (by simp; omega) ?_
    · have e:=znf b (n - b)
      simp only [znq,zaa,mNil,mRd,List.getElem?_cons_succ,List.getElem?_cons_zero,R.bind_ok]
      show R.of (some (zhS ((Rg b (n - b)).map D.int)))=_
      rw [e]; rfl
    · have s:zaQ [.v T,.v (.int m),.v (encC cs),.v (iL (Rg b (n - b)))] [1,3,2] 2 = [.v (.int m),.v (iL (Rg b (n - b))),.v (encC cs),.no,.no]:=rfl
      rw [s,zei (fun k:Nat=>D.tup [.int k,.int (b + k)]) (fun k:Nat=>if k + t ≤ n - b then some (.int (b + k)) else none) _ fun k hk=>?_]
      · congr 1
        unfold pW Rg
        obtain ⟨L,eL⟩:∃ L,L=n - b - t + 1:=⟨_,rfl⟩
        obtain ⟨r,er⟩:∃ r,n - b=L + r:=⟨n - b - L,by omega⟩
        rw [← eL,er,List.range_add,List.filterMap_append]
        have e1:(List.range L).filterMap (fun k:Nat=>if k + t ≤ L + r then some (D.int (b + k)) else none)=(List.range L).map fun k:Nat=>D.int (b + k):=by
          have all:∀ l:List Nat,(∀ k ∈ l,k + t ≤ L + r)→l.filterMap (fun k:Nat=>if k + t ≤ L + r then some (D.int (b + k)) else none)=l.map fun k:Nat=>D.int (b + k):=fun l=>by
            induction l with
            | nil=>intro _; rfl
            | cons x l ih =>
              intro h
              rw [List.filterMap_cons_some (b:=D.int (b + x)) (by rw [if_pos (h x (by simp))]),ih fun k hk=>h k (by simp [hk])]; rfl
          refine all _ fun k hk=>?_
          have:=List.mem_range.mp hk
          omega
        have e2:((List.range r).map (L + ·)).filterMap (fun k:Nat=>if k + t ≤ L + r then some (D.int (b + k)) else none) = []:=by
          rw [List.filterMap_eq_nil_iff]
          intro k hk
          obtain ⟨j,hj,rfl⟩:=List.mem_map.mp hk
          have:=List.mem_range.mp hj
          rw [if_neg (by omega)]
        rw [e1,e2,List.append_nil,List.map_map]; rfl
      · have kl:=List.mem_range.mp hk
        have bb:bTup 2 (zgn (zaU 3) (zgn (zaU 4) bNil)) (D.tup [.int k,.int (b + k)]) [.v (.int m),.v (iL (Rg b (n - b))),.v (encC cs),.no,.no]=some [.v (.int m),.v (iL (Rg b (n - b))),.v (encC cs),.v (.int k),.v (.int (b + k))]:=rfl
        have t2:zao (m2 oGe (m2 oSub (mCB fLen (zaa (mRd 1) mNil)) (mRd 3)) (m2 oSub (mRd 0) (mCB fLen (zaa (mRd 2) mNil)))) [.v (.int m),.v (iL (Rg b (n - b))),.v (encC cs),.v (.int k),.v (.int (b + k))] = .ok (decide (k + t ≤ n - b)):=by
          have e:decide ((m:Int) - cs.length ≤ ((n - b:Nat):Int) - k)=decide (k + t ≤ n - b):=by
            by_cases z:k + t ≤ n - b
            · rw [decide_eq_true z,decide_eq_true (by omega)]
            · rw [decide_eq_false z,decide_eq_false (by omega)]
          unfold zao
          simp only [zck,mCB,zaa,mNil,mRd,List.getElem?_cons_succ,List.getElem?_cons_zero,R.bind_ok,lL,lc,R.of_some,zgf,zoY]
          rw [← e]
          rfl
        by_cases z:k + t ≤ n - b
        · rw [decide_eq_true z] at t2
          simp only [zda,bb,t2,R.bind_ok]
          rw [if_pos z]; rfl
        · rw [decide_eq_false z] at t2
          simp only [zda,bb,t2,R.bind_ok]
          rw [if_neg z]; rfl
  refine (zap q1).trans ?_
  unfold zec
  rw [k2]; rfl
theorem zli {n:Nat} {d:Int→Int→Int} {cs:List Int} {b t m:Nat} (hb:bl cs=b) (hm:m=cs.length + t) (t1:1 ≤ t) (hbt:b + t ≤ n) (hn:n ≤ 100):zaz [pqD (tabD (tabF n d)) m,encC cs] = .ok (iL (pW n b t)):=by
  have lT:fLen [tabD (tabF n d)]=some (.int n):=zcY
  have f1:=zm1 (tabD (tabF n d)) m
  have f2:=ziE (tabD (tabF n d)) m
  have bh:=zie cs
  rw [hb] at bh
  have lc:=zjT cs
  obtain ⟨Qo,eQ⟩:∃ Qo,Qo=pqD (tabD (tabF n d)) m:=⟨_,rfl⟩
  rw [← eQ] at f1 f2 ⊢
  refine zeJ ?_
  show mSeq _ _ [.v Qo,.v (encC cs),.no]=_
  have q1:mAsg (m2 oSub (m1 (oFld zd2 "many") (mRd 0)) (mCB fLen (zaa (mRd 1) mNil))) (zax 2) [.v Qo,.v (encC cs),.no] = .nx [.v Qo,.v (encC cs),.v (.int t)]:=by
    refine za3 (d:=.int t) ?_ rfl
    simp only [zck,ziS,mCB,zaa,mNil,mRd,List.getElem?_cons_succ,List.getElem?_cons_zero,R.bind_ok,f2,lc,R.of_some,zgf]
    rw [show (m:Int) - cs.length=t by omega]
  refine (zap q1).trans ?_
  have c:zag zaY (zaa (mVar 1) mNil) [.v Qo,.v (encC cs),.v (.int t)] = .ok (.int b):=zhh rfl bh
  have lr:zh8 [.int b,.int ((n:Int) - t + 1)]=some (iL (pW n b t)):=by
    unfold zh8
    simp only
    rw [zba (by omega)]
    unfold pW Rg iL
    rw [List.map_map,show ((n:Int) - t + 1 - b).toNat=n - b - t + 1 by omega]; rfl
  unfold zec zfJ
  simp only [zaa,mNil]
  rw [c]
  simp only [zck,ziS,mCB,zaa,mNil,mRd,mC,List.getElem?_cons_succ,List.getElem?_cons_zero,R.bind_ok,f1,lT,R.of_some,zgf,zfD,lr]
  rfl
theorem zke {n:Nat} {d:Int→Int→Int} {cs:List Int} {b t m:Nat} (hb:bl cs=b) (hm:m=cs.length + t) (t1:1 ≤ t) (hbt:b + t ≤ n) (hn:n ≤ 100):zaF [pqD (tabD (tabF n d)) m,encC cs,iL (pW n b t)] = .ok (.bl true):=by
  refine zlR (by unfold pW; rw [zdr]; omega) fun s=>?_
  show zbm 4 "ways" zaz (mVar 0) (zaa (mVar 1) mNil) [.v (pqD (tabD (tabF n d)) m),.v (encC cs),.v (iL (pW n b t)),s]=_
  exact zcO rfl (isPq _ _ (by decide)) rfl (zli hb hm t1 hbt hn)
end My
namespace My
open PySem L2 PM
def mn:List Int→Int
  | []=>0
  | a :: l=>minI l a
def mx:List Int→Int
  | []=>0
  | a :: l=>maxI l a
theorem zlG {l:List Int} (h:l ≠ []):zgT minI [iL l]=some (.int (mn l)):=by
  cases l with
  | nil=>exact absurd rfl h
  | cons a l=>show (asIs (l.map .int)).map _=_; rw [zc0]; rfl
theorem zlT {l:List Int} (h:l ≠ []):zgT maxI [iL l]=some (.int (mx l)):=by
  cases l with
  | nil=>exact absurd rfl h
  | cons a l=>show (asIs (l.map .int)).map _=_; rw [zc0]; rfl
theorem zo2 {l:List Int} {x:Int} (h:x ∈ l):mn l ≤ x:=by
  cases l with
  | nil=>cases h
  | cons a l =>
    obtain ⟨h1,h2,_⟩:=L2.minI_le l a
    rcases List.mem_cons.mp h with rfl | h
    · exact h1
    · exact h2 x h
theorem zmH {l:List Int} (h:l ≠ []):mn l ∈ l:=by
  cases l with
  | nil=>exact absurd rfl h
  | cons a l =>
    obtain ⟨_,_,h3⟩:=L2.minI_le l a
    rcases h3 with e | e
    · show minI l a ∈ _; rw [e]; simp
    · exact List.mem_cons_of_mem _ e
theorem zoQ {l:List Int} {x:Int} (h:x ∈ l):x ≤ mx l:=by
  cases l with
  | nil=>cases h
  | cons a l =>
    obtain ⟨h1,h2,_⟩:=L2.maxI_ge l a
    rcases List.mem_cons.mp h with rfl | h
    · exact h1
    · exact h2 x h
theorem zoo {l:List Int} (h:l ≠ []):mx l ∈ l:=by
  cases l with
  | nil=>exact absurd rfl h
  | cons a l =>
    obtain ⟨_,_,h3⟩:=L2.maxI_ge l a
    rcases h3 with e | e
    · show maxI l a ∈ _; rw [e]; simp
    · exact List.mem_cons_of_mem _ e
def farV (n:Nat) (d:Int→Int→Int) (S:List Int):Int:=mx ((upt n).map fun a=>mn (S.map (d a)))
theorem zkq {n:Nat} {d:Int→Int→Int} {S S':List Int} (hn:0 < n) (ne:S' ≠ []) (sub:∀ x ∈ S',x ∈ S):farV n d S ≤ farV n d S':=by
  have un:(upt n).map (fun a=>mn (S.map (d a))) ≠ []:=fun e=>by
    have:=congrArg List.length e
    rw [List.length_map,za5] at this
    simp at this; omega
  obtain ⟨a,ha,e⟩:=List.mem_map.mp (zoo un)
  unfold farV
  rw [← e]
  refine Int.le_trans ?_ (zoQ (List.mem_map.mpr ⟨a,ha,rfl⟩))
  have m:=zmH (l:=S'.map (d a)) (by simpa using ne)
  obtain ⟨x,hx,ex⟩:=List.mem_map.mp m
  rw [← ex]
  exact zo2 (List.mem_map.mpr ⟨x,sub x hx,rfl⟩)
theorem znb {n:Nat} {B:Int} {d:Int→Int→Int} (ok:LenOk n B d) (hn:0 < n) {S:List Int} (ne:S ≠ []) (mem:∀ v ∈ S,0 ≤ v∧v < (n:Int)):0 ≤ farV n d S:=by
  have z:(0:Int) ∈ upt n:=mem_upt.mpr ⟨by omega,by omega⟩
  refine Int.le_trans ?_ (zoQ (List.mem_map.mpr ⟨0,z,rfl⟩))
  obtain ⟨x,hx,ex⟩:=List.mem_map.mp (zmH (l:=S.map (d 0)) (by simpa using ne))
  rw [← ex]
  have:=mem x hx
  exact (ok.nn 0 x (by omega) (by omega) this.1 this.2).1
theorem zj4 {n:Nat} {d:Int→Int→Int} {S:List Int} {a:Int} (ne:S ≠ []) (hl:S.length ≤ 1000) (mem:∀ v ∈ S,0 ≤ v∧v < (n:Int)) (a0:0 ≤ a) (a1:a < n):zdk [tabD (tabF n d),.int a,iL S] = .ok (.int (mn (S.map (d a)))):=by
  have t:=ze5 (d:=d) a0 a1
  have k:zgA [.v (tabD (tabF n d)),.v (.int a),.v (iL S)] = .ok (iL (S.map (d a))):=by
    unfold iL
    rw [List.map_map]
    refine zb5 (l:=S.map .int) (by simp [mItL,mRd]) (by rw [List.length_map]; omega) ?_
    have s:zaQ [.v (tabD (tabF n d)),.v (.int a),.v (.lst (S.map .int))] [0,1] 1 = [.v (tabD (tabF n d)),.v (.int a),.no]:=rfl
    rw [s]
    refine zcg .int _ _ fun x hx=>?_
    have r:=zcl (n:=n) (f:=d a) (mem x hx).1 (mem x hx).2
    simp [zda,zaU,mRd,t,r]
  refine zbo ?_
  show mRet _ [.v (tabD (tabF n d)),.v (.int a),.v (iL S)]=_
  have b:=zlG (l:=S.map (d a)) (by simpa using ne)
  simp only [mRet,mCB,zaa,mNil,k,R.bind_ok,b,R.of_some]; rfl
theorem zmA {n:Nat} {d:Int→Int→Int} {S:List Int} (hn0:0 < n) (hn:n ≤ 100) (ne:S ≠ []) (hl:S.length ≤ 1000) (mem:∀ v ∈ S,0 ≤ v∧v < (n:Int)):zff [tabD (tabF n d),iL S] = .ok (.int (farV n d S)):=by
  have lT:fLen [tabD (tabF n d)]=some (.int n):=zcY
  have rn:=rngT (show n ≤ 1000 by omega)
  have nr:=fun a a0 a1=>zj4 (d:=d) (a:=a) ne hl mem a0 a1
  obtain ⟨T,eT⟩:∃ T,T=tabD (tabF n d):=⟨_,rfl⟩
  rw [← eT] at lT ⊢
  simp only [← eT] at nr
  have k:zjf [.v T,.v (iL S)] = .ok (iL ((upt n).map fun a=>mn (S.map (d a)))):=by
    unfold iL
    rw [List.map_map]
    refine zb5 (l:=(upt n).map .int) (by simp [mRng,zaa,mNil,mCB,mRd,lT,rn]) (by rw [List.length_map,za5]; omega) ?_
    have s:zaQ [.v T,.v (.lst (S.map .int))] [0,1] 1 = [.v T,.v (.lst (S.map .int)),.no]:=rfl
    rw [s]
    refine zcg .int _ _ fun a ha=>?_
    obtain ⟨a0,a1⟩:=mem_upt.mp ha
    have c:=zcJ (f:=zdk) (a:=mVar 0) (b:=mVar 2) (c:=mVar 1) (δ:=[.v T,.v (.lst (S.map .int)),.v (.int a)]) rfl rfl rfl (nr a a0 a1)
    have b:zaU 2 (.int a) [.v T,.v (.lst (S.map .int)),.no]=some [.v T,.v (.lst (S.map .int)),.v (.int a)]:=rfl
    simp only [zda,b,c,R.nev_ok,R.bind_ok]; rfl
  refine zbo ?_
  show mRet _ [.v T,.v (iL S)]=_
  have b:=zlT (l:=(upt n).map fun a=>mn (S.map (d a))) (fun e=>by
    have:=congrArg List.length e
    rw [List.length_map,za5] at this
    simp at this; omega)
  simp only [mRet,mCB,zaa,mNil,k,R.bind_ok,b,R.of_some]; rfl
def sm (n b t:Nat) (cs:List Int):List Int:=cs ++ (if t=0 then [] else Rg b (n - b))
theorem zkh {n:Nat} {d:Int→Int→Int} {cs:List Int} {b t m:Nat} (hb:bl cs=b) (hbn:b ≤ n) (hm:m=cs.length + t) (hn0:0 < n) (hn:n ≤ 100) (hc:cs.length ≤ 100) (ne:sm n b t cs ≠ []) (mem:∀ v ∈ sm n b t cs,0 ≤ v∧v < (n:Int)):zch [tabD (tabF n d),.int m,encC cs] = .ok (.int (farV n d (sm n b t cs))):=by
  have lT:fLen [tabD (tabF n d)]=some (.int n):=zcY
  have lc:=zjT cs
  obtain ⟨T,eT⟩:∃ T,T=tabD (tabF n d):=⟨_,rfl⟩
  rw [← eT] at lT ⊢
  obtain ⟨S,eS⟩:∃ S,S=sm n b t cs:=⟨_,rfl⟩
  have Sl:S.length ≤ 1000:=by
    rw [eS]
    unfold sm
    rw [List.length_append]
    split
    · simp; omega
    · rw [zdr]; omega
  rw [← eS] at ne mem ⊢
  refine zbo ?_
  show mSeq _ _ [.v T,.v (.int m),.v (encC cs),.no]=_
  have q1:mAsg (mCB zb2 (zaa (mRd 2) mNil)) (zax 3) [.v T,.v (.int m),.v (encC cs),.no] = .nx [.v T,.v (.int m),.v (encC cs),.v (iL cs)]:=za3 (d:=iL cs) (by simp [mCB,zaa,mNil,mRd,zeH]) rfl
  have q2:mIfS (zao (m2 oLt (mCB fLen (zaa (mRd 2) mNil)) (mRd 1))) (mAsg (m2 oCat (mRd 3) zfw) (zax 3)) zbr [.v T,.v (.int m),.v (encC cs),.v (iL cs)] = .nx [.v T,.v (.int m),.v (encC cs),.v (iL S)]:=by
    by_cases z:t=0
    · rw [zbM (by simp [zao,mCB,zaa,mNil,mRd,lc]; omega),eS]
      unfold sm
      rw [if_pos z,List.append_nil]; rfl
    · rw [ze6 (by simp [zao,mCB,zaa,mNil,mRd,lc]; omega)]
      have k1:zfw [.v T,.v (.int m),.v (encC cs),.v (iL cs)] = .ok (iL (Rg b (n - b))):=zi5 hb hbn hn rfl lT rfl
      refine za3 (d:=iL S) ?_ rfl
      rw [zck,k1]
      show ((R.ok (iL cs)).bind _)=_
      rw [R.bind_ok,R.bind_ok,zhC (by rw [zdr]; omega),eS]
      unfold sm
      rw [if_neg z]; rfl
  refine (zap q1).trans ((zap q2).trans ?_)
  have k3:zgM [.v T,.v (.int m),.v (encC cs),.v (iL S)] = .ok (iL ((upt n).map fun a=>mn (S.map (d a)))):=by
    have it:mItL (mRd 0) [.v T,.v (.int m),.v (encC cs),.v (iL S)] = .ok ((upt n).map fun a=>iL ((upt n).map (d a))):=by
      rw [eT]
      simp [mItL,mRd,tabD,tabF]
    refine Eq.trans (zb5 (l:=(upt n).map fun a=>iL ((upt n).map (d a))) (r:=(upt n).map fun a=>.int (mn (S.map (d a)))) it (by rw [List.length_map,za5]; omega) ?_) (by simp [iL])
    have s:zaQ [.v T,.v (.int m),.v (encC cs),.v (iL S)] [3] 1 = [.v (iL S),.no]:=rfl
    rw [s]
    refine zcg (fun a=>iL ((upt n).map (d a))) _ _ fun a ha=>?_
    have k2:zgH [.v (iL S),.v (iL ((upt n).map (d a)))] = .ok (iL (S.map (d a))):=by
      refine Eq.trans (zb5 (l:=S.map .int) (r:=S.map fun x=>.int (d a x)) (by simp [mItL,mRd,iL]) (by rw [List.length_map]; omega) ?_) (by simp [iL])
      have s2:zaQ [.v (iL S),.v (iL ((upt n).map (d a)))] [1] 1 = [.v (iL ((upt n).map (d a))),.no]:=rfl
      rw [s2]
      refine zcg .int _ _ fun x hx=>?_
      have r:=zcl (n:=n) (f:=d a) (mem x hx).1 (mem x hx).2
      simp [zda,zaU,mRd,r]
    have b:=zlG (l:=S.map (d a)) (by simpa using ne)
    have bn:zaU 1 (iL ((upt n).map (d a))) [.v (iL S),.no]=some [.v (iL S),.v (iL ((upt n).map (d a)))]:=rfl
    simp only [zda,bn,mCB,zaa,mNil,k2,R.bind_ok,b,R.of_some,R.nev_ok]
  have b:=zlT (l:=(upt n).map fun a=>mn (S.map (d a))) (fun e=>by
    have:=congrArg List.length e
    rw [List.length_map,za5] at this
    simp at this; omega)
  simp only [mRet,mCB,zaa,mNil,k3,R.bind_ok,b,R.of_some]; rfl
theorem zop {n:Nat} {d:Int→Int→Int} {cs:List Int} {b t m:Nat} (hb:bl cs=b) (hbn:b ≤ n) (hm:m=cs.length + t) (hn0:0 < n) (hn:n ≤ 100) (hc:cs.length ≤ 100) (ne:sm n b t cs ≠ []) (mem:∀ v ∈ sm n b t cs,0 ≤ v∧v < (n:Int)):zaH [pqD (tabD (tabF n d)) m,encC cs] = .ok (.int (farV n d (sm n b t cs))):=by
  have lT:fLen [tabD (tabF n d)]=some (.int n):=zcY
  have f1:=zm1 (tabD (tabF n d)) m
  have f2:=ziE (tabD (tabF n d)) m
  have bh:=zie cs
  rw [hb] at bh
  have lc:=zjT cs
  obtain ⟨S,eS⟩:∃ S,S=sm n b t cs:=⟨_,rfl⟩
  have Sl:S.length ≤ 1000:=by
    rw [eS]
    unfold sm
    rw [List.length_append]
    split
    · simp; omega
    · rw [zdr]; omega
  rw [← eS] at ne mem ⊢
  have re:=zmA (d:=d) hn0 hn ne Sl mem
  obtain ⟨T,eT⟩:∃ T,T=tabD (tabF n d):=⟨_,rfl⟩
  obtain ⟨Qo,eQ⟩:∃ Qo,Qo=pqD (tabD (tabF n d)) m:=⟨_,rfl⟩
  rw [← eQ] at f1 f2 ⊢
  rw [← eT] at lT f1 re
  refine zbo ?_
  show mSeq _ _ [.v Qo,.v (encC cs),.no]=_
  have q1:mAsg (mCB zb2 (zaa (mRd 1) mNil)) (bNew 2) [.v Qo,.v (encC cs),.no] = .nx [.v Qo,.v (encC cs),.o (iL cs)]:=za3 (d:=iL cs) (by simp [mCB,zaa,mNil,mRd,zeH]) rfl
  have q2:mIfS (zao (m2 oLt (mCB fLen (zaa (mRd 1) mNil)) (m1 (oFld zd2 "many") (mRd 0)))) (zle 2 (zfJ (zaa (zag zaY (zaa (mVar 1) mNil)) (zaa (mCB fLen (zaa (m1 (oFld zbb "lengths") (mRd 0)) mNil)) mNil)))) zbr [.v Qo,.v (encC cs),.o (iL cs)] = .nx [.v Qo,.v (encC cs),.o (iL S)]:=by
    by_cases z:t=0
    · rw [zbM (by simp [zao,mCB,zaa,mNil,mRd,lc,f2]; omega),eS]
      unfold sm
      rw [if_pos z,List.append_nil]; rfl
    · rw [ze6 (by simp [zao,mCB,zaa,mNil,mRd,lc,f2]; omega)]
      have lr:zh8 [.int b,.int n]=some (iL (Rg b (n - b))):=by
        unfold zh8
        simp only
        rw [zba (by omega)]
        unfold Rg iL
        rw [List.map_map,show ((n:Int) - b).toNat=n - b by omega]; rfl
      have c:zag zaY (zaa (mVar 1) mNil) [.v Qo,.v (encC cs),.o (iL cs)] = .ok (.int b):=zhh rfl bh
      have e:zfJ (zaa (zag zaY (zaa (mVar 1) mNil)) (zaa (mCB fLen (zaa (m1 (oFld zbb "lengths") (mRd 0)) mNil)) mNil)) [.v Qo,.v (encC cs),.o (iL cs)] = .ok (iL (Rg b (n - b))):=by
        unfold zfJ
        simp only [zaa,mNil]
        rw [c]
        simp only [ziS,mCB,zaa,mNil,mRd,List.getElem?_cons_zero,R.bind_ok,f1,lT,R.of_some,lr]
      unfold zle
      show (zfJ (zaa (zag zaY (zaa (mVar 1) mNil)) (zaa (mCB fLen (zaa (m1 (oFld zbb "lengths") (mRd 0)) mNil)) mNil)) [.v Qo,.v (encC cs),.o (iL cs)]).toO _ _=_
      rw [e]
      show (if (cs.map D.int).length + ((Rg b (n - b)).map D.int).length ≤ sizeLine then O.nx [.v Qo,.v (encC cs),.o (.lst (cs.map D.int ++ (Rg b (n - b)).map D.int))] else O.no)=_
      rw [if_pos (by rw [List.length_map,List.length_map,zdr]; exact Nat.le_trans (show cs.length + (n - b) ≤ 1000 by omega) (by decide)),← List.map_append,eS]
      unfold sm
      rw [if_neg z]; rfl
  refine (zap q1).trans ((zap q2).trans ?_)
  have c:zf2 zff (zaa (m1 (oFld zbb "lengths") (mRd 0)) (zaa (mRd 2) mNil)) [.v Qo,.v (encC cs),.o (iL S)] = .ok (.int (farV n d S)):=by
    simp [zf2,zaa,mNil,mRd,f1,re,zdQ]
  unfold mRet
  rw [c]; rfl
end My
namespace My
open PySem L2 PM
theorem zlW {n b t:Nat} {cs:List Int} (h:∀ v ∈ cs,0 ≤ v∧v < (n:Int)) (hb:b ≤ n):∀ v ∈ sm n b t cs,0 ≤ v∧v < (n:Int):=fun v hv=>by
  unfold sm at hv
  rcases List.mem_append.mp hv with z | z
  · exact h v z
  · split at z
    · cases z
    · have:=mem_Rg.mp z
      omega
theorem zmm {n b t:Nat} {cs:List Int} (h:cs ≠ []∨(t ≠ 0∧b < n)):sm n b t cs ≠ []:=fun e=>by
  unfold sm at e
  obtain ⟨e1,e2⟩:=List.append_eq_nil_iff.mp e
  rcases h with h | ⟨h1,h2⟩
  · exact h e1
  · rw [if_neg h1] at e2
    have:=congrArg List.length e2
    rw [zdr] at this
    simp at this; omega
theorem zhx (ns:List Int) {n m:Nat} {B:Int} {d:Int→Int→Int} (ok:LenOk n B d) (hm1:1 ≤ m) (hmn:m ≤ n) (hn:n ≤ 20):zbN [.scr ns,tabD (tabF n d),.int m,pqD (tabD (tabF n d)) m] = .ok (.bl true):=by
  have rn:=rngT (show m ≤ 1000 by omega)
  have ways:∀ (cs:List Int) (b t:Nat),bl cs=b→m=cs.length + t→1 ≤ t→b + t ≤ n→zaz [pqD (tabD (tabF n d)) m,encC cs] = .ok (iL (pW n b t)):=fun cs b t h1 h2 h3 h4=>zli h1 h2 h3 h4 (by omega)
  have pws:∀ (cs:List Int) (b t:Nat),bl cs=b→m=cs.length + t→1 ≤ t→b + t ≤ n→zaN [tabD (tabF n d),.int m,encC cs] = .ok (iL (pW n b t)):=fun cs b t h1 h2 h3 h4=>zhe h1 h2 h3 h4 (by omega)
  have told:∀ (cs:List Int) (b t:Nat),bl cs=b→m=cs.length + t→1 ≤ t→b + t ≤ n→zaF [pqD (tabD (tabF n d)) m,encC cs,iL (pW n b t)] = .ok (.bl true):=fun cs b t h1 h2 h3 h4=>zke h1 h2 h3 h4 (by omega)
  have low:∀ (cs:List Int) (b t:Nat),bl cs=b→b ≤ n→m=cs.length + t→sm n b t cs ≠ []→(∀ v ∈ sm n b t cs,0 ≤ v∧v < (n:Int))→zaH [pqD (tabD (tabF n d)) m,encC cs] = .ok (.int (farV n d (sm n b t cs))):=fun cs b t h1 h2 h3 h4 h5=>zop h1 h2 h3 (by omega) (by omega) (by omega) h4 h5
  have far:∀ (cs:List Int) (b t:Nat),bl cs=b→b ≤ n→m=cs.length + t→sm n b t cs ≠ []→(∀ v ∈ sm n b t cs,0 ≤ v∧v < (n:Int))→zch [tabD (tabF n d),.int m,encC cs] = .ok (.int (farV n d (sm n b t cs))):=fun cs b t h1 h2 h3 h4 h5=>zkh h1 h2 h3 (by omega) (by omega) (by omega) h4 h5
  have io:∀ s:Str,s ∉ (["lengths","many"]:List Str)→isObj 4 s (pqD (tabD (tabF n d)) m)=some ():=fun s h=>isPq _ _ h
  have ans:∀ cs:List Int,zaK [pqD (tabD (tabF n d)) m,encC cs] = .ok (iL cs):=fun cs=>by
    refine zeJ ?_
    show zec _ [.v (pqD (tabD (tabF n d)) m),.v (encC cs)]=_
    unfold zec
    have e:mCB zb2 (zaa (mRd 1) mNil) [.v (pqD (tabD (tabF n d)) m),.v (encC cs)] = .ok (iL cs):=by simp [mCB,zaa,mNil,mRd,zeH]
    rw [e]; rfl
  have stp:za1 [pqD (tabD (tabF n d)) m] = .ok (.int m):=by
    refine zbo ?_
    show mRet _ [.v (pqD (tabD (tabF n d)) m)]=_
    simp [mRet,mRd,ziE]
  obtain ⟨T,eT⟩:∃ T,T=tabD (tabF n d):=⟨_,rfl⟩
  obtain ⟨Qo,eQ⟩:∃ Qo,Qo=pqD (tabD (tabF n d)) m:=⟨_,rfl⟩
  simp only [← eQ] at ways told low ans io stp ⊢
  simp only [← eT] at pws far ⊢
  obtain ⟨δ,hl,cs,b,t,lo,o6,o7,o8,hb,hm,cl,cm,hbt,lle,rfl⟩:=zb7 (b:=zax 6) (m:=zeB) D.int (fun pre δ=>∃ (cs:List Int) (b t:Nat) (lo:Int) (o6 o7 o8:Option D),bl cs=b∧m=cs.length + t∧cs.length=pre.length∧(∀ v ∈ cs,0 ≤ v∧v < (n:Int))∧b + t ≤ n∧lo ≤ farV n d (sm n b t cs)∧δ = [.v (.scr ns),.v T,.v (.int m),.v Qo,.v (encC cs),.v (.int lo),sv o6,sv o7,sv o8]) (upt m)
    (by
      rintro pre k post δ hall ⟨cs,b,t,lo,o6,o7,o8,hb,hm,cl,cm,hbt,lle,rfl⟩
      obtain ⟨ek,hk,_⟩:=zeZ hall
      have t1:1 ≤ t:=by omega
      have W0:pW n b t ≠ []:=fun e=>by
        have:=congrArg List.length e
        unfold pW at this
        rw [zdr] at this
        simp at this
      have wl:(pW n b t).length ≤ 100:=by unfold pW; rw [zdr]; omega
      obtain ⟨p,pm,hp⟩:=zkG ns (k:=12 + pre.length) W0 wl
      have pR:=mem_Rg.mp pm
      have ne:=zmm (n:=n) (b:=b) (t:=t) (cs:=cs) (.inr ⟨by omega,by omega⟩)
      have sM:=zlW (t:=t) cm (show b ≤ n by omega)
      have lw:=low cs b t hb (by omega) hm ne sM
      have fr:=far cs b t hb (by omega) hm ne sM
      have w1:=ways cs b t hb hm t1 hbt
      have w2:=pws cs b t hb hm t1 hbt
      have w3:=told cs b t hb hm t1 hbt
      obtain ⟨pn,epn⟩:∃ pn:Nat,(pn:Int)=p:=⟨p.toNat,by omega⟩
      have more:farV n d (sm n b t cs) ≤ farV n d (sm n (pn + 1) (t - 1) (cs ++ [p])):=by
        refine zkq (by omega) (zmm (.inl (by simp))) fun x hx=>?_
        unfold sm at hx ⊢
        rw [if_neg (show ¬ t=0 by omega)]
        rcases List.mem_append.mp hx with z | z
        · rcases List.mem_append.mp z with z | z
          · exact List.mem_append_left _ z
          · rw [List.mem_singleton.mp z]
            exact List.mem_append_right _ (mem_Rg.mpr (by omega))
        · split at z
          · cases z
          · have:=mem_Rg.mp z
            exact List.mem_append_right _ (mem_Rg.mpr (by omega))
      obtain ⟨v,ev⟩:∃ v,v=farV n d (sm n b t cs):=⟨_,rfl⟩
      rw [← ev] at lw fr lle more
      obtain ⟨W,eW⟩:∃ W,W=pW n b t:=⟨_,rfl⟩
      rw [← eW] at w1 w2 w3 hp wl
      refine ⟨[.v (.scr ns),.v T,.v (.int m),.v Qo,.v (encC cs),.v (.int lo),.v (.int k),sv o7,sv o8],[.v (.scr ns),.v T,.v (.int m),.v Qo,.v (encC (cs ++ [p])),.v (.int v),.v (.int k),.v (iL W),.v (.int v)],za2 rfl,.inl ?_,cs ++ [p],pn + 1,t - 1,v,some _,some _,some _,by rw [ziv]; omega,by simp; omega,by simp [cl],?_,by omega,more,rfl⟩
      · have q1:mAsg (zbm 4 "ways" zaz (mVar 3) (zaa (mVar 4) mNil)) (zax 7) [.v (.scr ns),.v T,.v (.int m),.v Qo,.v (encC cs),.v (.int lo),.v (.int k),sv o7,sv o8] = .nx [.v (.scr ns),.v T,.v (.int m),.v Qo,.v (encC cs),.v (.int lo),.v (.int k),.v (iL W),sv o8]:=za3 (d:=iL W) (zcO rfl (io _ (by decide)) rfl w1) (by rcases o7 with _ | o7 <;> rfl)
        have q2:mAsg (zag zch (zaa (mVar 1) (zaa (mVar 2) (zaa (mVar 4) mNil)))) (zax 8) [.v (.scr ns),.v T,.v (.int m),.v Qo,.v (encC cs),.v (.int lo),.v (.int k),.v (iL W),sv o8] = .nx [.v (.scr ns),.v T,.v (.int m),.v Qo,.v (encC cs),.v (.int lo),.v (.int k),.v (iL W),.v (.int v)]:=za3 (d:=.int v) (zcJ rfl rfl rfl fr) (by rcases o8 with _ | o8 <;> rfl)
        obtain ⟨E,eE⟩:∃ E:En,E = [.v (.scr ns),.v T,.v (.int m),.v Qo,.v (encC cs),.v (.int lo),.v (.int k),.v (iL W),.v (.int v)]:=⟨_,rfl⟩
        have rwE:zag zaN (zaa (mVar 1) (zaa (mVar 2) (zaa (mVar 4) mNil))) E = .ok (iL W):=by rw [eE]; exact zcJ rfl rfl rfl w2
        have q3:mIfS (mNot (zao (zag zaL (zaa (mVar 7) (zaa (zag zaN (zaa (mVar 1) (zaa (mVar 2) (zaa (mVar 4) mNil)))) mNil))))) (mRet (mC (.bl false))) zbr E = .nx E:=by
          have t:=zdY (zbl (f:=zaL) (a:=mVar 7) (b:=zag zaN (zaa (mVar 1) (zaa (mVar 2) (zaa (mVar 4) mNil)))) (δ:=E) (x:=iL W) (by rw [eE]; rfl) rwE (zdi W (by omega)))
          rw [zbM (by simp only [mNot,t,R.bind_ok]; rfl)]; rfl
        have q4:mIfS (mNot (zao (zag zaF (zaa (mVar 3) (zaa (mVar 4) (zaa (zag zaN (zaa (mVar 1) (zaa (mVar 2) (zaa (mVar 4) mNil)))) mNil)))))) (mRet (mC (.bl false))) zbr E = .nx E:=by
          have t:=zdY (zcJ (f:=zaF) (a:=mVar 3) (b:=mVar 4) (c:=zag zaN (zaa (mVar 1) (zaa (mVar 2) (zaa (mVar 4) mNil)))) (δ:=E) (x:=Qo) (y:=encC cs) (by rw [eE]; rfl) (by rw [eE]; rfl) rwE w3)
          rw [zbM (by simp only [mNot,t,R.bind_ok]; rfl)]; rfl
        have q5:mIfS (mOr (mNot (zao (zag za7 (zaa (zbm 4 "low" zaH (mVar 3) (zaa (mVar 4) mNil)) (zaa (mVar 8) mNil))))) (zao (m2 oLt (mRd 8) (mRd 5)))) (mRet (mC (.bl false))) zbr E = .nx E:=by
          have t:=zdY (zbl (f:=za7) (a:=zbm 4 "low" zaH (mVar 3) (zaa (mVar 4) mNil)) (b:=mVar 8) (δ:=E) (x:=.int v) (y:=.int v) (by rw [eE]; exact zcO rfl (io _ (by decide)) rfl lw) (by rw [eE]; rfl) (ziN v))
          have t2:zao (m2 oLt (mRd 8) (mRd 5)) E = .ok false:=by rw [eE]; simp [zao,mRd]; omega
          rw [zbM (by simp only [mOr,mNot,t,t2,R.bind_ok]; rfl)]; rfl
        have q6:mAsg (mVar 8) (zax 5) E = .nx [.v (.scr ns),.v T,.v (.int m),.v Qo,.v (encC cs),.v (.int v),.v (.int k),.v (iL W),.v (.int v)]:=by rw [eE]; rfl
        have k2:(12:Int) + k=((12 + pre.length:Nat):Int):=by omega
        have q7:mAsg (m2 zio (mRd 4) (zag zbx (zaa (mVar 0) (zaa (m2 oAdd (mC (.int 12)) (mRd 6)) (zaa (mVar 7) mNil))))) (zax 4) [.v (.scr ns),.v T,.v (.int m),.v Qo,.v (encC cs),.v (.int v),.v (.int k),.v (iL W),.v (.int v)] = .nx [.v (.scr ns),.v T,.v (.int m),.v Qo,.v (encC (cs ++ [p])),.v (.int v),.v (.int k),.v (iL W),.v (.int v)]:=by
          refine za3 (d:=encC (cs ++ [p])) ?_ rfl
          have c:=zcJ (f:=zbx) (a:=mVar 0) (b:=m2 oAdd (mC (.int 12)) (mRd 6)) (c:=mVar 7) (δ:=[.v (.scr ns),.v T,.v (.int m),.v Qo,.v (encC cs),.v (.int v),.v (.int k),.v (iL W),.v (.int v)]) (y:=.int ((12 + pre.length:Nat):Int)) rfl (by rw [← k2]; simp [mC,mRd]) rfl hp
          rw [zck,c]
          show ((R.ok (encC cs)).bind _)=_
          rw [R.bind_ok,R.bind_ok,zmJ (by simp; omega)]; rfl
        rw [← eE] at q2
        exact (zap q1).trans ((zap q2).trans ((zap q3).trans ((zap q4).trans ((zap q5).trans ((zap q6).trans q7)))))
      · intro x hx
        rcases List.mem_append.mp hx with z | z
        · exact cm x z
        · rw [List.mem_singleton.mp z]
          omega)
    [.v (.scr ns),.v T,.v (.int m),.v Qo,.v (encC []),.v (.int 0),.no,.no,.no] ⟨[],0,m,0,none,none,none,rfl,by simp,rfl,fun v hv=>(by cases hv),by omega,znb ok (by omega) (zmm (.inr ⟨by omega,by omega⟩)) (zlW (fun v hv=>by cases hv) (by omega)),rfl⟩
  rw [za5] at cl
  have t0:t=0:=by omega
  have ne:=zmm (n:=n) (b:=b) (t:=t) (cs:=cs) (.inl fun e=>by rw [e] at cl; simp at cl; omega)
  have sM:=zlW (t:=t) cm (show b ≤ n by omega)
  have lw:=low cs b t hb (by omega) hm ne sM
  have fr:=far cs b t hb (by omega) hm ne sM
  have an:=ans cs
  obtain ⟨v,ev⟩:∃ v,v=farV n d (sm n b t cs):=⟨_,rfl⟩
  rw [← ev] at lw fr lle
  refine zbo ?_
  show mSeq _ _ [.v (.scr ns),.v T,.v (.int m),.v Qo,.no,.no,.no,.no,.no]=_
  have q1:mAsg (mTup mNil) (zax 4) [.v (.scr ns),.v T,.v (.int m),.v Qo,.no,.no,.no,.no,.no] = .nx [.v (.scr ns),.v T,.v (.int m),.v Qo,.v (encC []),.no,.no,.no,.no]:=za3 (d:=encC []) (by unfold mTup; exact zba (show 0 ≤ sizeLine by decide)) rfl
  have q2:mAsg (mC (.int 0)) (zax 5) [.v (.scr ns),.v T,.v (.int m),.v Qo,.v (encC []),.no,.no,.no,.no] = .nx [.v (.scr ns),.v T,.v (.int m),.v Qo,.v (encC []),.v (.int 0),.no,.no,.no]:=rfl
  have q3:ze3 [.v (.scr ns),.v T,.v (.int m),.v Qo,.v (encC []),.v (.int 0),.no,.no,.no]=_:=(zeM (l:=(upt m).map .int) (by simp [mRng,zaa,mNil,mVar,rn])).trans hl
  have q4:mAsg (zag zch (zaa (mVar 1) (zaa (mVar 2) (zaa (mVar 4) mNil)))) (zax 8) [.v (.scr ns),.v T,.v (.int m),.v Qo,.v (encC cs),.v (.int lo),sv o6,sv o7,sv o8] = .nx [.v (.scr ns),.v T,.v (.int m),.v Qo,.v (encC cs),.v (.int lo),sv o6,sv o7,.v (.int v)]:=za3 (d:=.int v) (zcJ rfl rfl rfl fr) (by rcases o8 with _ | o8 <;> rfl)
  obtain ⟨E,eE⟩:∃ E:En,E = [.v (.scr ns),.v T,.v (.int m),.v Qo,.v (encC cs),.v (.int lo),sv o6,sv o7,.v (.int v)]:=⟨_,rfl⟩
  rw [← eE] at q4
  have q5:mIfS (mOr (mNot (zao (zag za7 (zaa (zbm 4 "low" zaH (mVar 3) (zaa (mVar 4) mNil)) (zaa (mVar 8) mNil))))) (zao (m2 oLt (mRd 8) (mRd 5)))) (mRet (mC (.bl false))) zbr E = .nx E:=by
    have t:=zdY (zbl (f:=za7) (a:=zbm 4 "low" zaH (mVar 3) (zaa (mVar 4) mNil)) (b:=mVar 8) (δ:=E) (x:=.int v) (y:=.int v) (by rw [eE]; exact zcO rfl (io _ (by decide)) rfl lw) (by rw [eE]; rfl) (ziN v))
    have t2:zao (m2 oLt (mRd 8) (mRd 5)) E = .ok false:=by rw [eE]; simp [zao,mRd]; omega
    rw [zbM (by simp only [mOr,mNot,t,t2,R.bind_ok]; rfl)]; rfl
  have aE:zbm 4 "answer" zaK (mVar 3) (zaa (mVar 4) mNil) E = .ok (iL cs):=by rw [eE]; exact zcO rfl (io _ (by decide)) rfl an
  have q6:ziu (zbm 4 "answer" zaK (mVar 3) (zaa (mVar 4) mNil)) (mC (.int 7)) E = .nx E:=by
    unfold ziu
    rw [aE]
    show ifC ((cs.map D.int).length < sizeLine) (O.nx E) O.no=_
    exact zba (by rw [List.length_map]; exact Nat.lt_of_lt_of_le (show cs.length < 1000 by omega) (by decide))
  refine (zap q1).trans ((zap q2).trans ((zap q3).trans ((zap q4).trans ((zap q5).trans ((zap q6).trans ?_)))))
  have c2:mCB zb2 (zaa (mRd 4) mNil) E = .ok (iL cs):=by rw [eE]; simp [mCB,zaa,mNil,mRd,zeH]
  have b1:zag zaL (zaa (zbm 4 "answer" zaK (mVar 3) (zaa (mVar 4) mNil)) (zaa (mCB zb2 (zaa (mRd 4) mNil)) mNil)) E = .ok (.bl true):=zbl aE c2 (zdi cs (by omega))
  have b2:zag za7 (zaa (zbm 4 "steps" za1 (mVar 3) mNil) (zaa (mVar 2) mNil)) E = .ok (.bl true):=zbl (by rw [eE]; exact zlS rfl (io _ (by decide)) stp) (by rw [eE]; rfl) (ziN _)
  simp only [mRet,zgW,b1,b2,R.bind_ok]
  rfl
end My
namespace My
open PySem L2 PM
theorem zg6 {i:Nat} {mk mj me:En→R D} {δ:En} {n:Nat} {d:Int→Int→Int} {k1 k2 a b v:Int} (h:δ[i]?=some (.p (tabG n d))) (hk:mk δ = .ok (.int k1)) (hj:mj δ = .ok (.int k2)) (hv:me δ = .ok (.int v)) (e1:ixN n k1=some a.toNat) (e2:ixN n k2=some b.toNat) (a0:0 ≤ a) (a1:a < n) (b0:0 ≤ b) (b1:b < n) :
    ze9 i mk mj me δ = .nx (δ.set i (.p (tabG n (upd2 d a b v)))):=by
  have l1:(tabF n d).length=n:=by simp [tabF,za5]
  have g:(tabF n d)[a.toNat]?=some ((upt n).map (d a)):=by
    unfold tabF
    rw [List.getElem?_map,zcx (show a.toNat < n by omega)]
    simp [show ((a.toNat:Nat):Int)=a by omega]
  have e3:ixN ((upt n).map (d a)).length k2=some b.toNat:=by rw [List.length_map,za5]; exact e2
  unfold ze9
  rw [h,zkV]
  simp only [hv,hk,hj,R.toO_ok,l1,e1,g,e3,zlq a0 a1 b0 b1,tabG]
theorem ix0 {n:Nat} (h:1 ≤ n):ixN n 0=some (0:Int).toNat:=by unfold ixN; rw [if_pos (by decide),if_pos (by omega)]
theorem ixl {n:Nat} (h:1 ≤ n):ixN n (-1)=some ((n:Int) - 1).toNat:=by
  unfold ixN
  rw [if_neg (by decide),if_pos (by omega)]
  congr 1
theorem zhd {n:Nat} {f:Int→Int} (h:1 ≤ n):oIxL (iL ((upt n).map f)) (.int (-1))=some (.int (f ((n:Int) - 1))):=by
  show atI (((upt n).map f).map D.int) (-1)=_
  unfold atI
  rw [List.length_map,List.length_map,za5,ixl h]
  show (((upt n).map f).map D.int)[((n:Int) - 1).toNat]?=_
  rw [List.getElem?_map,List.getElem?_map,zcx (show ((n:Int) - 1).toNat < n by omega)]
  show some (D.int (f ((((n:Int) - 1).toNat:Nat):Int)))=_
  rw [show ((((n:Int) - 1).toNat:Nat):Int)=(n:Int) - 1 by omega]
theorem zgk {n:Nat} {B:Int} {d:Int→Int→Int} (ok:LenOk n B d) (h1:1 ≤ n) (hn:n ≤ 20) (w:Int):zbW [tabD (tabF n d),.int w] = .ok (.bl true):=by
  have lT:fLen [tabD (tabF n d)]=some (.int n):=zcY
  have t0:=ze5 (d:=d) (n:=n) (a:=0) (by omega) (by omega)
  obtain ⟨T,eT⟩:∃ T,T=tabD (tabF n d):=⟨_,rfl⟩
  have k1:∀ s:List Sl,zct (.v T :: s) = .ok (tabF n d):=fun s=>by
    unfold zct zdN
    have r:mItL (mRd 0) (.v T :: s) = .ok ((tabF n d).map iL):=by rw [eT]; simp [mItL,mRd,tabD]
    rw [r,R.bind_ok,zba (by simp [tabF,za5]; exact Nat.le_trans hn (by decide))]
    have g:zb9 (zft (zaU 0) (mCB zb2 (zaa (mRd 0) mNil)) (zaQ (.v T :: s) [] 1)) ((tabF n d).map iL) = .ok ((tabF n d).map fun x=>x):=by
      refine zdz iL _ _ fun l _=>?_
      have fl:zb2 [iL l]=some (iL l):=rfl
      have al:asIl (iL l)=some l:=zc0 _
      have e:zaQ (.v T :: s) [] 1 = [.no]:=rfl
      rw [e]
      simp [zft,zaU,mCB,zaa,mNil,mRd,fl,al]
    rw [g,List.map_id']; rfl
  have q1:mAsg (mC .non) (zax 2) [.v T,.v (.int w),.no,.no,.no] = .nx [.v T,.v (.int w),.v .non,.no,.no]:=rfl
  have q2:ziz zct 3 [.v T,.v (.int w),.v .non,.no,.no] = .nx [.v T,.v (.int w),.v .non,.p (tabG n d),.no]:=by
    unfold ziz
    rw [k1]; rfl
  -- the bent table
  obtain ⟨e,bad,q3⟩:∃ e:Int→Int→Int,((∃ a:Int,(0 ≤ a∧a < n)∧e a a ≠ 0)∨(∃ a b:Int,(0 ≤ b∧b < a∧a < n)∧e a b ≠ e b a)∨(∃ a b c:Int,(0 ≤ a∧a < n)∧(0 ≤ b∧b < n)∧(0 ≤ c∧c < n)∧e a b + e b c < e a c)) ∧
      mIfS (mAnd (zao (m2 oGt (mCB fLen (zaa (mRd 0) mNil)) (mC (.int 2)))) (zao (m2 oGt (mRd 1) (mC (.int 1))))) (mSeq (ze9 3 (mC (.int 0)) (m1 oNeg (mC (.int 1))) (m2 oAdd (m2 oAdd (m2 oIxL (m2 oIxL (mRd 0) (mC (.int 0))) (mC (.int 1))) (m2 oIxL (m2 oIxL (mRd 0) (mC (.int 1))) (m1 oNeg (mC (.int 1))))) (mC (.int 1)))) (ze9 3 (m1 oNeg (mC (.int 1))) (mC (.int 0)) (zeD (m2 oIxL (m2 oIxL (mRd 3) (mC (.int 0))) (m1 oNeg (mC (.int 1))))))) (ze9 3 (mC (.int 0)) (m1 oNeg (mC (.int 1))) (zeD (m2 oAdd (m2 oIxL (m2 oIxL (mRd 3) (mC (.int 0))) (m1 oNeg (mC (.int 1)))) (mC (.int 1))))) [.v T,.v (.int w),.v .non,.p (tabG n d),.no] = .nx [.v T,.v (.int w),.v .non,.p (tabG n e),.no]:=by
    by_cases c:2 < n∧1 < w
    · obtain ⟨v,ev⟩:∃ v,v=d 0 1 + d 1 ((n:Int) - 1) + 1:=⟨_,rfl⟩
      have r01:=zcl (n:=n) (f:=d 0) (b:=1) (by omega) (by omega)
      have t1:=ze5 (d:=d) (n:=n) (a:=1) (by omega) (by omega)
      have r1l:=zhd (n:=n) (f:=d 1) h1
      refine ⟨upd2 (upd2 d 0 ((n:Int) - 1) v) ((n:Int) - 1) 0 v,.inr (.inr ⟨0,1,(n:Int) - 1,by omega,by omega,by omega,?_⟩),?_⟩
      · have a1:upd2 (upd2 d 0 ((n:Int) - 1) v) ((n:Int) - 1) 0 v 0 1=d 0 1:=by
          unfold upd2
          rw [if_neg (by omega),if_neg (by omega)]
        have a2:upd2 (upd2 d 0 ((n:Int) - 1) v) ((n:Int) - 1) 0 v 1 ((n:Int) - 1)=d 1 ((n:Int) - 1):=by
          unfold upd2
          rw [if_neg (by omega),if_neg (by omega)]
        have a3:upd2 (upd2 d 0 ((n:Int) - 1) v) ((n:Int) - 1) 0 v 0 ((n:Int) - 1)=v:=by
          unfold upd2
          rw [if_neg (by omega),if_pos ⟨rfl,rfl⟩]
        rw [a1,a2,a3]
        omega
      · have lT':fLen [T]=some (.int n):=by rw [eT]; exact lT
        rw [ze6 (by simp [mAnd,zao,mCB,zaa,mNil,mRd,mC,lT',c.2]; omega)]
        have s1:=zg6 (i:=3) (mk:=mC (.int 0)) (mj:=m1 oNeg (mC (.int 1))) (me:=m2 oAdd (m2 oAdd (m2 oIxL (m2 oIxL (mRd 0) (mC (.int 0))) (mC (.int 1))) (m2 oIxL (m2 oIxL (mRd 0) (mC (.int 1))) (m1 oNeg (mC (.int 1))))) (mC (.int 1))) (δ:=[.v T,.v (.int w),.v .non,.p (tabG n d),.no]) (n:=n) (d:=d) (k1:=0) (k2:=-1) (a:=0) (b:=(n:Int) - 1) (v:=v) rfl rfl rfl (by
          rw [eT]
          simp only [zck,ziS,mRd,mC,List.getElem?_cons_zero,R.bind_ok,t0,t1,R.of_some,r01,zjb,r1l,zfD,ev]) (ix0 h1) (ixl h1) (by omega) (by omega) (by omega) (by omega)
        have pk:zeD (m2 oIxL (m2 oIxL (mRd 3) (mC (.int 0))) (m1 oNeg (mC (.int 1)))) [.v T,.v (.int w),.v .non,.p (tabG n (upd2 d 0 ((n:Int) - 1) v)),.no] = .ok (.int v):=by
          have t0':=ze5 (d:=upd2 d 0 ((n:Int) - 1) v) (n:=n) (a:=0) (by omega) (by omega)
          have rl:=zhd (n:=n) (f:=upd2 d 0 ((n:Int) - 1) v 0) h1
          have e:upd2 d 0 ((n:Int) - 1) v 0 ((n:Int) - 1)=v:=by unfold upd2; rw [if_pos ⟨rfl,rfl⟩]
          rw [e] at rl
          unfold zeD
          show (match m2 oIxL (m2 oIxL (mRd 3) (mC (.int 0))) (m1 oNeg (mC (.int 1))) [.v T,.v (.int w),.v .non,.v (trD (tabG n (upd2 d 0 ((n:Int) - 1) v))),.no] with | .ok d=>if zdQ d=true then R.ok d else .no | _=>.no)=_
          have e2:trD (tabG n (upd2 d 0 ((n:Int) - 1) v))=tabD (tabF n (upd2 d 0 ((n:Int) - 1) v)):=by unfold tabG; exact zeg _
          rw [e2]
          simp only [zck,ziS,mRd,mC,List.getElem?_cons_succ,List.getElem?_cons_zero,R.bind_ok,t0',R.of_some,zjb,rl]
          rfl
        have s2:=zg6 (i:=3) (mk:=m1 oNeg (mC (.int 1))) (mj:=mC (.int 0)) (me:=zeD (m2 oIxL (m2 oIxL (mRd 3) (mC (.int 0))) (m1 oNeg (mC (.int 1))))) (δ:=[.v T,.v (.int w),.v .non,.p (tabG n (upd2 d 0 ((n:Int) - 1) v)),.no]) (n:=n) (d:=upd2 d 0 ((n:Int) - 1) v) (k1:=-1) (k2:=0) (a:=(n:Int) - 1) (b:=0) (v:=v) rfl rfl rfl pk (ixl h1) (ix0 h1) (by omega) (by omega) (by omega) (by omega)
        exact (zap s1).trans s2
    · obtain ⟨v,ev⟩:∃ v,v=d 0 ((n:Int) - 1) + 1:=⟨_,rfl⟩
      refine ⟨upd2 d 0 ((n:Int) - 1) v,?_,?_⟩
      · by_cases n1:n=1
        · refine .inl ⟨0,by omega,?_⟩
          unfold upd2
          rw [if_pos (by omega),ev]
          have:=(ok.nn 0 ((n:Int) - 1) (by omega) (by omega) (by omega) (by omega)).1
          omega
        · refine .inr (.inl ⟨(n:Int) - 1,0,by omega,?_⟩)
          unfold upd2
          rw [if_neg (by omega),if_pos (by omega),ev]
          have:=ok.sym 0 ((n:Int) - 1) (by omega) (by omega) (by omega) (by omega)
          omega
      · have tt:mAnd (zao (m2 oGt (mCB fLen (zaa (mRd 0) mNil)) (mC (.int 2)))) (zao (m2 oGt (mRd 1) (mC (.int 1)))) [.v T,.v (.int w),.v .non,.p (tabG n d),.no] = .ok false:=by
          have lT':fLen [T]=some (.int n):=by rw [eT]; exact lT
          have a1:zao (m2 oGt (mCB fLen (zaa (mRd 0) mNil)) (mC (.int 2))) [.v T,.v (.int w),.v .non,.p (tabG n d),.no] = .ok (decide (2 < n)):=by
            simp [zao,mCB,zaa,mNil,mRd,mC,lT']
            omega
          have a2:zao (m2 oGt (mRd 1) (mC (.int 1))) [.v T,.v (.int w),.v .non,.p (tabG n d),.no] = .ok (decide (1 < w)):=by simp [zao,mRd,mC]
          unfold mAnd
          rw [a1]
          by_cases z:2 < n
          · rw [decide_eq_true z]
            rw [R.bind_ok,if_pos rfl,a2,decide_eq_false fun z2=>c ⟨z,z2⟩]
          · rw [decide_eq_false z]; rfl
        rw [zbM tt]
        have rl:=zhd (n:=n) (f:=d 0) h1
        have pk:zeD (m2 oAdd (m2 oIxL (m2 oIxL (mRd 3) (mC (.int 0))) (m1 oNeg (mC (.int 1)))) (mC (.int 1))) [.v T,.v (.int w),.v .non,.p (tabG n d),.no] = .ok (.int v):=by
          unfold zeD
          show (match m2 oAdd (m2 oIxL (m2 oIxL (mRd 3) (mC (.int 0))) (m1 oNeg (mC (.int 1)))) (mC (.int 1)) [.v T,.v (.int w),.v .non,.v (trD (tabG n d)),.no] with | .ok d=>if zdQ d=true then R.ok d else .no | _=>.no)=_
          have e2:trD (tabG n d)=tabD (tabF n d):=by unfold tabG; exact zeg _
          rw [e2]
          simp only [zck,ziS,mRd,mC,List.getElem?_cons_succ,List.getElem?_cons_zero,R.bind_ok,t0,R.of_some,zjb,rl,zfD,ev]
          rfl
        exact zg6 (i:=3) (k1:=0) (k2:=-1) (a:=0) (b:=(n:Int) - 1) rfl rfl rfl pk (ix0 h1) (ixl h1) (by omega) (by omega) (by omega) (by omega)
  have lx:=zjB (show n ≤ 100 by omega) bad
  obtain ⟨x1,x2⟩:=znx lx
  rw [← eT]
  refine zbo ?_
  show mSeq _ _ [.v T,.v (.int w),.no,.no,.no]=_
  have e2:trD (tabG n e)=tabD (tabF n e):=by unfold tabG; exact zeg _
  have tr:mTr 3 [.v T,.v (.int w),.v .non,.p (tabG n e),.no] = .ok (tabD (tabF n e)):=by rw [← e2]; rfl
  have q4:mTry (mIfS (zao (m2 oEq (m2 oMod (mRd 1) (mC (.int 2))) (mC (.int 0)))) (mDo (zeR zau (zaa (mTr 3) mNil))) (mDo (zeR zat (zaa (mTr 3) (zaa (mC (.int 1)) mNil))))) zcW 4 (mAsg (mVar 4) (zax 2)) [.v T,.v (.int w),.v .non,.p (tabG n e),.no] = .nx [.v T,.v (.int w),.v (.exc 1),.p (tabG n e),.no]:=by
    have bdy:mIfS (zao (m2 oEq (m2 oMod (mRd 1) (mC (.int 2))) (mC (.int 0)))) (mDo (zeR zau (zaa (mTr 3) mNil))) (mDo (zeR zat (zaa (mTr 3) (zaa (mC (.int 1)) mNil)))) [.v T,.v (.int w),.v .non,.p (tabG n e),.no] = .ex [.v T,.v (.int w),.v .non,.p (tabG n e),.no] ⟨1⟩:=by
      by_cases z:w % 2=0
      · rw [ze6 (by simp [zao,mRd,mC,zdm,z])]
        simp [mDo,zeR,zaa,mNil,tr,x1,R.toO]
      · rw [zbM (by simp [zao,mRd,mC,zdm,z])]
        simp [mDo,zeR,zaa,mNil,mC,tr,x2,R.toO]
    unfold mTry
    rw [bdy]
    rfl
  exact (zap q1).trans ((zap q2).trans ((zap q3).trans ((zap q4).trans rfl)))
end My
namespace My
open PySem L2 PM
theorem zjK (n:Nat) (d:Int→Int→Int):zb0 7 (tabD (tabF n d))=true:=by
  unfold tabD tabF
  simp only [zb0,List.map_map,List.all_map]
  simp [iL,zb0]
theorem zmv {f:List D→R D} {a b c e:En→R D} {δ:En} {x y z w r:D} (ha:a δ = .ok x) (hb:b δ = .ok y) (hc:c δ = .ok z) (he:e δ = .ok w) (hf:f [x,y,z,w] = .ok r):zag f (zaa a (zaa b (zaa c (zaa e mNil)))) δ = .ok r:=by
  simp [zag,zaa,mNil,ha,hb,hc,he,hf]
theorem law_true (ns:List Int) (h:ns.length ≤ 63):zob [.scr ns] = .ok (.bl true):=by
  obtain ⟨c,ec⟩:∃ c,c=ns.getD 1 0:=⟨_,rfl⟩
  have hc:zay [.scr ns,.int 1] = .ok (.int c):=by rw [ec]; exact zfm ns 1
  have c0:0 ≤ c % 9:=Int.emod_nonneg _ (by decide)
  have c1:c % 9 < 9:=Int.emod_lt_of_pos _ (by decide)
  obtain ⟨n,en⟩:∃ n:Nat,(n:Int)=1 + c % 9:=⟨(1 + c % 9).toNat,by omega⟩
  have h1:1 ≤ n:=by omega
  have h9:n ≤ 9:=by omega
  have mm0:0 ≤ c / 9 % (n:Int):=Int.emod_nonneg _ (by omega)
  have mm1:c / 9 % (n:Int) < n:=Int.emod_lt_of_pos _ (by omega)
  obtain ⟨m,em⟩:∃ m:Nat,(m:Int)=1 + c / 9 % (n:Int):=⟨(1 + c / 9 % (n:Int)).toNat,by omega⟩
  obtain ⟨d,ok,hlen⟩:=zjG ns h h1 h9
  have ri:=zkg ok (by omega)
  have pi:=zjD (k:=m) ok (by omega)
  have hr:=zgU ns ok h1 (by omega)
  have hp:=zhx ns (m:=m) ok (by omega) (by omega) (by omega)
  have hx:=fun w=>zgk ok h1 (by omega) w
  have pT:=zjK n d
  have f9:Fit 9:=fitN 10 (by decide)
  have e3:trD (tabT (tabF n d))=tabD (tabF n d):=zeg _
  have kk:∀ δ:En,mRd 2 δ = .ok (tabD (tabF n d))→zaQ δ [] 1 = [.no]→zdN (mItL (mRd 2)) [] 1 (zaU 0) (mCB zb2 (zaa (mRd 0) mNil)) δ = .ok (tabF n d):=fun δ g s=>by
    unfold zdN
    have r:mItL (mRd 2) δ = .ok ((tabF n d).map iL):=by unfold mItL; rw [g]; rfl
    rw [r,R.bind_ok,zba (by simp [tabF,za5]; exact Nat.le_trans h9 (by decide))]
    have g2:zb9 (zft (zaU 0) (mCB zb2 (zaa (mRd 0) mNil)) (zaQ δ [] 1)) ((tabF n d).map iL) = .ok ((tabF n d).map fun x=>x):=by
      refine zdz iL _ _ fun l _=>?_
      have fl:zb2 [iL l]=some (iL l):=rfl
      have al:asIl (iL l)=some l:=zc0 _
      rw [s]
      simp [zft,zaU,mCB,zaa,mNil,mRd,fl,al]
    rw [g2,List.map_id']; rfl
  obtain ⟨U,eU⟩:∃ U,U=tabT (tabF n d):=⟨_,rfl⟩
  have l2:isL2 U=true:=by
    rw [eU]
    unfold tabT
    show (((tabF n d).map _).all isL1)=true
    rw [List.all_map,List.all_eq_true]
    exact fun x _=>rfl
  rw [← eU] at e3
  obtain ⟨T,eT⟩:∃ T,T=tabD (tabF n d):=⟨_,rfl⟩
  rw [← eT] at hlen ri hr pi hp pT e3
  simp only [← eT] at kk hx
  obtain ⟨Rq,eR⟩:∃ Rq,Rq=rqD T:=⟨_,rfl⟩
  obtain ⟨Pq,eP⟩:∃ Pq,Pq=pqD T m:=⟨_,rfl⟩
  have i1:zfV zbs Rq=some (.bl true):=by rw [eR]; rfl
  have i2:zfV zbs Pq=some (.bl true):=by rw [eP]; rfl
  rw [← eR] at ri hr
  rw [← eP] at pi hp
  refine zbo ?_
  show mSeq _ _ [.v (.scr ns),.no,.no,.no,.no,.no,.no,.no,.no,.no]=_
  have q1:mAsg (m2 oAdd (mC (.int 1)) (m2 oMod (zag zay (zaa (mVar 0) (zaa (mC (.int 1)) mNil))) (mC (.int 9)))) (zax 1) [.v (.scr ns),.no,.no,.no,.no,.no,.no,.no,.no,.no] = .nx [.v (.scr ns),.v (.int n),.no,.no,.no,.no,.no,.no,.no,.no]:=za3 (d:=.int n) (by simp [zag,zaa,mNil,mVar,mC,hc,zdm,en]) rfl
  have q2:mAsg (zag zbV (zaa (mVar 0) (zaa (mVar 1) mNil))) (zax 2) [.v (.scr ns),.v (.int n),.no,.no,.no,.no,.no,.no,.no,.no] = .nx [.v (.scr ns),.v (.int n),.v T,.no,.no,.no,.no,.no,.no,.no]:=za3 (d:=T) (zbl rfl rfl hlen) rfl
  have q3:mAsg (m2 oAdd (mC (.int 1)) (m2 oMod (m2 oDiv (zag zay (zaa (mVar 0) (zaa (mC (.int 1)) mNil))) (mC (.int 9))) (mRd 1))) (zax 3) [.v (.scr ns),.v (.int n),.v T,.no,.no,.no,.no,.no,.no,.no] = .nx [.v (.scr ns),.v (.int n),.v T,.v (.int m),.no,.no,.no,.no,.no,.no]:=by
    refine za3 (d:=.int m) ?_ rfl
    have om:oMod (.int (c / 9)) (.int n)=some (.int (c / 9 % (n:Int))):=zdm (by omega)
    have dv:oDiv (.int c) (.int 9)=some (.int (c / 9)):=zkm (by decide) f9
    simp [zag,zaa,mNil,mVar,mC,mRd,hc,dv,om,em]
  have q4:zje (mTr2 (zkd zlr) (zkd zk3)) 4 [.v (.scr ns),.v (.int n),.v T,.v (.int m),.no,.no,.no,.no,.no,.no] = .nx [.v (.scr ns),.v (.int n),.v T,.v (.int m),.p (.l [U,U]),.no,.no,.no,.no,.no]:=by
    have k1:zlr [.v (.scr ns),.v (.int n),.v T,.v (.int m),.no,.no,.no,.no,.no,.no] = .ok (tabF n d):=kk _ rfl rfl
    have k2:zk3 [.v (.scr ns),.v (.int n),.v T,.v (.int m),.no,.no,.no,.no,.no,.no] = .ok (tabF n d):=kk _ rfl rfl
    unfold zje mTr2 zkd
    rw [k1,k2]
    simp only [R.bind_ok,← eU]
    rfl
  obtain ⟨P4,eP4⟩:∃ P4:Sl,P4 = .p (.l [U,U]):=⟨_,rfl⟩
  have s0:∀ a b:Sl,mSub 4 (mC (.int 0)) [.v (.scr ns),.v (.int n),.v T,.v (.int m),.p (.l [U,U]),a,b,.no,.no,.no] = .ok T:=fun a b=>by
    show R.ok (trD U)=_
    rw [e3]
  have s1:∀ a b:Sl,mSub 4 (mC (.int 1)) [.v (.scr ns),.v (.int n),.v T,.v (.int m),.p (.l [U,U]),a,b,.no,.no,.no] = .ok T:=fun a b=>by
    show R.ok (trD U)=_
    rw [e3]
  have q5:mAsg (zag zau (zaa (mSub 4 (mC (.int 0))) mNil)) (zax 5) [.v (.scr ns),.v (.int n),.v T,.v (.int m),.p (.l [U,U]),.no,.no,.no,.no,.no] = .nx [.v (.scr ns),.v (.int n),.v T,.v (.int m),.p (.l [U,U]),.v Rq,.no,.no,.no,.no]:=za3 (d:=Rq) (zhh (s0 _ _) ri) rfl
  have q6:mAsg (zag zat (zaa (mSub 4 (mC (.int 1))) (zaa (mVar 3) mNil))) (zax 6) [.v (.scr ns),.v (.int n),.v T,.v (.int m),.p (.l [U,U]),.v Rq,.no,.no,.no,.no] = .nx [.v (.scr ns),.v (.int n),.v T,.v (.int m),.p (.l [U,U]),.v Rq,.v Pq,.no,.no,.no]:=za3 (d:=Pq) (zbl (s1 _ _) rfl pi) rfl
  have q7:mIfS (mOr (mNot (zao (m1 (zfV zbs) (mRd 5)))) (mOr (mNot (zao (m1 (zfV zbs) (mRd 6)))) (zao (zeD (m2 oNeD (mRd 4) (mLst (zaa (mVar 2) (zaa (mVar 2) mNil)))))))) (mRet (mC (.bl false))) zbr [.v (.scr ns),.v (.int n),.v T,.v (.int m),.p (.l [U,U]),.v Rq,.v Pq,.no,.no,.no] = .nx [.v (.scr ns),.v (.int n),.v T,.v (.int m),.p (.l [U,U]),.v Rq,.v Pq,.no,.no,.no]:=by
    have t1:zao (m1 (zfV zbs) (mRd 5)) [.v (.scr ns),.v (.int n),.v T,.v (.int m),.p (.l [U,U]),.v Rq,.v Pq,.no,.no,.no] = .ok true:=by simp [zao,mRd,i1]
    have t2:zao (m1 (zfV zbs) (mRd 6)) [.v (.scr ns),.v (.int n),.v T,.v (.int m),.p (.l [U,U]),.v Rq,.v Pq,.no,.no,.no] = .ok true:=by simp [zao,mRd,i2]
    have t3:zao (zeD (m2 oNeD (mRd 4) (mLst (zaa (mVar 2) (zaa (mVar 2) mNil))))) [.v (.scr ns),.v (.int n),.v T,.v (.int m),.p (.l [U,U]),.v Rq,.v Pq,.no,.no,.no] = .ok false:=by
      have ph:zb0 8 (.lst [T,T])=true:=by
        show [T,T].all (zb0 7)=true
        simp [pT]
      have e4:m2 oNeD (mRd 4) (mLst (zaa (mVar 2) (zaa (mVar 2) mNil))) [.v (.scr ns),.v (.int n),.v T,.v (.int m),.v (.lst [T,T]),.v Rq,.v Pq,.no,.no,.no] = .ok (.bl false):=by
        have l:mLst (zaa (mVar 2) (zaa (mVar 2) mNil)) [.v (.scr ns),.v (.int n),.v T,.v (.int m),.v (.lst [T,T]),.v Rq,.v Pq,.no,.no,.no] = .ok (.lst [T,T]):=by
          unfold mLst
          exact zba (show 2 ≤ sizeLine by decide)
        rw [zck,l]
        show (((R.ok (D.lst [T,T])).bind _))=_
        rw [R.bind_ok,R.bind_ok,zna ph ph rfl]; rfl
      have pe:peek [.v (.scr ns),.v (.int n),.v T,.v (.int m),.p (.l [U,U]),.v Rq,.v Pq,.no,.no,.no] = [.v (.scr ns),.v (.int n),.v T,.v (.int m),.v (.lst [T,T]),.v Rq,.v Pq,.no,.no,.no]:=by
        have e5:trD (.l [U,U]) = .lst [T,T]:=by
          show D.lst [trD U,trD U]=_
          rw [e3]
        show [Sl.v (.scr ns),.v (.int n),.v T,.v (.int m),.v (trD (.l [U,U])),.v Rq,.v Pq,.no,.no,.no]=_
        rw [e5]
      unfold zao zeD
      rw [pe,e4]; rfl
    rw [zbM (by simp only [mOr,mNot,t1,t2,t3,R.bind_ok]; rfl)]; rfl
  have q8:zl3 4 7 8 [.v (.scr ns),.v (.int n),.v T,.v (.int m),.p (.l [U,U]),.v Rq,.v Pq,.no,.no,.no] = .nx [.v (.scr ns),.v (.int n),.v T,.v (.int m),.p (.l [.l [],.l []]),.v Rq,.v Pq,.no,.no,.no]:=by
    show (if ([U,U].all isL2=true∧(7:Nat) ≠ 8) then O.nx [.v (.scr ns),.v (.int n),.v T,.v (.int m),.p (.l [.l [],.l []]),.v Rq,.v Pq,.no,.no,.no] else .no)=_
    rw [if_pos ⟨by simp [l2],by decide⟩]
  have q9:mIfS (mOr (mNot (zao (zag zbP (zaa (mVar 0) (zaa (mVar 2) (zaa (mVar 5) mNil)))))) (mNot (zao (zag zbN (zaa (mVar 0) (zaa (mVar 2) (zaa (mVar 3) (zaa (mVar 6) mNil)))))))) (mRet (mC (.bl false))) zbr [.v (.scr ns),.v (.int n),.v T,.v (.int m),.p (.l [.l [],.l []]),.v Rq,.v Pq,.no,.no,.no] = .nx [.v (.scr ns),.v (.int n),.v T,.v (.int m),.p (.l [.l [],.l []]),.v Rq,.v Pq,.no,.no,.no]:=by
    have t1:=zdY (zcJ (f:=zbP) (a:=mVar 0) (b:=mVar 2) (c:=mVar 5) (δ:=[.v (.scr ns),.v (.int n),.v T,.v (.int m),.p (.l [.l [],.l []]),.v Rq,.v Pq,.no,.no,.no]) rfl rfl rfl hr)
    have t2:=zdY (zmv (f:=zbN) (a:=mVar 0) (b:=mVar 2) (c:=mVar 3) (e:=mVar 6) (δ:=[.v (.scr ns),.v (.int n),.v T,.v (.int m),.p (.l [.l [],.l []]),.v Rq,.v Pq,.no,.no,.no]) rfl rfl rfl rfl hp)
    rw [zbM (by simp only [mOr,mNot,t1,t2,R.bind_ok]; rfl)]; rfl
  obtain ⟨δ,hl,o9,rfl⟩:=zb7 (b:=zax 9) (m:=ziB) D.int (fun _ δ=>∃ o9:Option D,δ = [.v (.scr ns),.v (.int n),.v T,.v (.int m),.p (.l [.l [],.l []]),.v Rq,.v Pq,.no,.no,sv o9]) (upt 4)
    (by
      rintro pre w post δ hall ⟨o9,rfl⟩
      refine ⟨[.v (.scr ns),.v (.int n),.v T,.v (.int m),.p (.l [.l [],.l []]),.v Rq,.v Pq,.no,.no,.v (.int w)],[.v (.scr ns),.v (.int n),.v T,.v (.int m),.p (.l [.l [],.l []]),.v Rq,.v Pq,.no,.no,.v (.int w)],by rcases o9 with _ | o9 <;> rfl,.inl ?_,some _,rfl⟩
      have t1:=zdY (zbl (f:=zbW) (a:=mVar 2) (b:=mVar 9) (δ:=[.v (.scr ns),.v (.int n),.v T,.v (.int m),.p (.l [.l [],.l []]),.v Rq,.v Pq,.no,.no,.v (.int w)]) rfl rfl (hx w))
      unfold ziB
      rw [zbM (by simp only [mNot,t1,R.bind_ok]; rfl)]; rfl)
    [.v (.scr ns),.v (.int n),.v T,.v (.int m),.p (.l [.l [],.l []]),.v Rq,.v Pq,.no,.no,.no] ⟨none,rfl⟩
  have rn:=rngT (show 4 ≤ 1000 by decide)
  have q10:zmQ [.v (.scr ns),.v (.int n),.v T,.v (.int m),.p (.l [.l [],.l []]),.v Rq,.v Pq,.no,.no,.no]=_:=(zeM (l:=(upt 4).map .int) (by
    simp only [mRng,zaa,mNil,mC,R.bind_ok]
    exact congrArg R.of rn)).trans hl
  exact (zap q1).trans ((zap q2).trans ((zap q3).trans ((zap q4).trans ((zap q5).trans ((zap q6).trans ((zap q7).trans ((zap q8).trans ((zap q9).trans ((zap q10).trans rfl)))))))))
end My
namespace My
open PySem L2 PM PyProof.Rows
def top (i:Nat):Stmt:=PySem.Challenge.pw_goodenough_k38_round_and_place_cases.main.body.getD i (.Pass ⟨0,0,0,0⟩)
abbrev XO0:XOT:=fun _ _ _ _ _=>False
structure Adr where
  EnoughError:Addr
  NoLengths:Addr
  Question:Addr
  RoundQuestion:Addr
  PlaceQuestion:Addr
def caT (ad:Adr):Nat→Addr
  | 0=>ad.EnoughError
  | 1=>ad.NoLengths
  | 2=>ad.Question
  | 3=>ad.RoundQuestion
  | 4=>ad.PlaceQuestion
  | _=>0
def caF (ad:Adr) (c:Nat):Addr:=caT ad (c % 16)
def anT:Nat→Str
  | _=>Str.empty
def anF (c:Nat):Str:=anT (c % 16)
abbrev KX (K:PySem.W.Frag) (ad:Adr):Kx:=⟨K,caF ad,anF⟩
def zi8 (K:PySem.W.Frag):Sp:=fun vs H Q _=>∃ (a:Addr) (ns:List Int),vs = [.ref a]∧SqL K H a (ns.map V.int)∧ns.length ≤ 63∧∀ H',Q (.bl true) H'
structure Txt (K:PySem.W.Frag) (mg:Str→Option Value) (ad:Adr):Prop where
  len:mg "len"=none
  abs:mg "abs"=none
  isinstance:mg "isinstance"=none
  list:mg "list"=none
  sum:mg "sum"=none
  int:mg "int"=none
  bool:mg "bool"=none
  range:mg "range"=none
  enumerate:mg "enumerate"=none
  max:mg "max"=none
  min:mg "min"=none
  zip:mg "zip"=none
  ValueError:mg "ValueError"=none
  m_Question:mg "Question"=some (.ref ad.Question)
  m_RoundQuestion:mg "RoundQuestion"=some (.ref ad.RoundQuestion)
  m_PlaceQuestion:mg "PlaceQuestion"=some (.ref ad.PlaceQuestion)
  cl_RoundQuestion:Cls K ad.RoundQuestion
  na_RoundQuestion_lengths:NoAttr K ad.RoundQuestion "lengths"
  ty_RoundQuestion:∀ (H:Hp) (a dx:Addr) (fs:List (Str × V)),H a=some (.ins ad.RoundQuestion dx fs)→TyOf K H (.ref a) (.ref ad.RoundQuestion)
  k_RoundQuestion_Question:PySem.W.kitOne K (.ref ad.RoundQuestion) (.ref ad.Question)=some true
  cl_PlaceQuestion:Cls K ad.PlaceQuestion
  na_PlaceQuestion_lengths:NoAttr K ad.PlaceQuestion "lengths"
  na_PlaceQuestion_many:NoAttr K ad.PlaceQuestion "many"
  ty_PlaceQuestion:∀ (H:Hp) (a dx:Addr) (fs:List (Str × V)),H a=some (.ins ad.PlaceQuestion dx fs)→TyOf K H (.ref a) (.ref ad.PlaceQuestion)
  k_PlaceQuestion_Question:PySem.W.kitOne K (.ref ad.PlaceQuestion) (.ref ad.Question)=some true
  m_EnoughError:mg "EnoughError"=some (.ref ad.EnoughError)
  m_NoLengths:mg "NoLengths"=some (.ref ad.NoLengths)
  e_NoLengths:PySem.W.excIn K ad.NoLengths [.type "ValueError",.type "Exception",.type "BaseException",.type "object"] "ValueError.__new__"=true
  b_EnoughError:PySem.W.mroIn K ad.EnoughError (.type "BaseException")=some true
  z_NoLengths:ExcCls K ad.NoLengths
  kc_NoLengths_EnoughError:PySem.W.kitCls K (.ref ad.NoLengths) (.ref ad.EnoughError)=some true
  k_NoLengths_NoLengths:PySem.W.kitOne K (.ref ad.NoLengths) (.ref ad.NoLengths)=some true
section
variable {P:Program} {w:World} {K:PySem.W.Frag} {mg:Str→Option Value} {base:Heap} {ad:Adr}
theorem zgw (T:Txt K mg ad):∀ c,zcW c=true→PySem.W.kitCls (KX K ad).f (.ref ((KX K ad).ca c)) (.ref ad.EnoughError)=some true:=by
  have key:∀ r,zdJ r=true→PySem.W.kitCls K (.ref (caT ad r)) (.ref ad.EnoughError)=some true:=by
    intro c h
    match c,h with
    | 1,_=>exact T.kc_NoLengths_EnoughError
  exact fun c h=>key (c % 16) h
theorem zh0 (T:Txt K mg ad):∀ c b,zfb c=some b→ExcCls (KX K ad).f ((KX K ad).ca c)∧PySem.W.kitOne (KX K ad).f (.ref ((KX K ad).ca c)) (.ref ad.NoLengths)=some b:=by
  have key:∀ r b,zez r=some b→ExcCls K (caT ad r)∧PySem.W.kitOne K (.ref (caT ad r)) (.ref ad.NoLengths)=some b:=by
    intro c b h
    match c,h with
    | 1,h=>cases h; exact ⟨T.z_NoLengths,T.k_NoLengths_NoLengths⟩
  exact fun c b h=>key (c % 16) b h
theorem zcM (T:Txt K mg ad):∀ c,zbb c=true→Cls (KX K ad).f ((KX K ad).ca c)∧NoAttr (KX K ad).f ((KX K ad).ca c) "lengths":=by
  intro c h
  match c,h with
  | 3,_=>exact ⟨T.cl_RoundQuestion,T.na_RoundQuestion_lengths⟩
  | 4,_=>exact ⟨T.cl_PlaceQuestion,T.na_PlaceQuestion_lengths⟩
theorem zdt (T:Txt K mg ad):Cls (KX K ad).f ((KX K ad).ca 3)∧NoAttr (KX K ad).f ((KX K ad).ca 3) "lengths":=⟨T.cl_RoundQuestion,T.na_RoundQuestion_lengths⟩
theorem zds (T:Txt K mg ad):Cls (KX K ad).f ((KX K ad).ca 4)∧NoAttr (KX K ad).f ((KX K ad).ca 4) "lengths":=⟨T.cl_PlaceQuestion,T.na_PlaceQuestion_lengths⟩
theorem ziW (T:Txt K mg ad):∀ c,zd2 c=true→Cls (KX K ad).f ((KX K ad).ca c)∧NoAttr (KX K ad).f ((KX K ad).ca c) "many":=by
  intro c h
  match c,h with
  | 4,_=>exact ⟨T.cl_PlaceQuestion,T.na_PlaceQuestion_many⟩
theorem zed (T:Txt K mg ad):Cls (KX K ad).f ((KX K ad).ca 4)∧NoAttr (KX K ad).f ((KX K ad).ca 4) "many":=⟨T.cl_PlaceQuestion,T.na_PlaceQuestion_many⟩
theorem zga (T:Txt K mg ad):∀ c b,zbs c=some b→(∀ (H:Hp) (a dx:Addr) (fs:List (Str × V)),H a=some (.ins ((KX K ad).ca c) dx fs)→TyOf (KX K ad).f H (.ref a) (.ref ((KX K ad).ca c)))∧PySem.W.kitOne (KX K ad).f (.ref ((KX K ad).ca c)) (.ref ad.Question)=some b:=by
  intro c b h
  match c,h with
  | 3,h=>cases h; exact ⟨T.ty_RoundQuestion,T.k_RoundQuestion_Question⟩
  | 4,h=>cases h; exact ⟨T.ty_PlaceQuestion,T.k_PlaceQuestion_Question⟩
abbrev zdB:Stmt:=top 17
theorem zgj:FnScope ["_law_script","_law_k"] ["_law_script","_law_k"] (zai zdB):=⟨rfl,rfl,rfl,by decide +kernel,rfl,by decide +kernel,by decide +kernel⟩
theorem zgq {f:Addr} {fd:FuncData} (F:Fun K "_law_cell_at" "_law_cell_at" zdB f fd) (T:Txt K mg ad)  : FnOk P w K mg base CX0 1 f fd ["_law_script","_law_k"] (spM (KX K ad) (xoK (KX K ad)) zay):=by
  refine F.ok zgj (fun vs H Q E h=>zbj h) (fun cdv A outer s H vs Q E hr h=>?_)
  have hu:=zbX hr
  exact ⟨_,(zah (zcH (zbh zid (pv 1) (zaA zas (by rfl) T.len PySem.boot_len (zab (pv 0) zae)) (zbE _))
      (zaj (zaS (zbd zaC (pv 0) (pv 1) (fun _ _=>rfl))))
      zbp)
      (zaj (zaS zam))),zcE (K:=(KX K ad)) (XO:=(xoK (KX K ad))) (E:=E) (np:=2) (nv:=0) (m:=zcG)
      (zaD (zcI (zbc (zan zhI zac ((zbO zbt (zav zac zaJ))).r))
      (za6 (zan zaX zac zac))
      zbn)
      (za6 zal)) rfl h⟩
abbrev zdU:Stmt:=top 18
theorem zg0:FnScope ["_law_cell","_law_k"] ["_law_cell","_law_k"] (zai zdU):=⟨rfl,rfl,rfl,by decide +kernel,rfl,by decide +kernel,by decide +kernel⟩
theorem zgY {f:Addr} {fd:FuncData} (F:Fun K "_law_number" "_law_number" zdU f fd) (T:Txt K mg ad)  : FnOk P w K mg base CX0 1 f fd ["_law_cell","_law_k"] (spM (KX K ad) (xoK (KX K ad)) zce):=by
  refine F.ok zg0 (fun vs H Q E h=>zbj h) (fun cdv A outer s H vs Q E hr h=>?_)
  have hu:=zbX hr
  exact ⟨_,(zaj (zaS (zaV zdj (zaV zdZ (zaV zbK (zaV zbK (zaV zdj (pv 0) (zaV zlu zam zam)) (zaV zdZ (pv 1) (pv 1))) zam) (zaV zbK zam (zaV zdZ zam (pv 1)))) zam))),zcE (K:=(KX K ad)) (XO:=(xoK (KX K ad))) (E:=E) (np:=2) (nv:=0) (m:=zfG)
      (za6 (zan zdl ((zan zfF ((zan zbI ((zan zbI ((zan zdl zac ((zan zlV (zal).r (zal).r)).r)).r ((zan zfF zac zac)).r)).r (zal).r)).r ((zan zbI (zal).r ((zan zfF (zal).r zac)).r)).r)).r (zal).r)) rfl h⟩
abbrev zfl:Stmt:=top 19
theorem zix:FnScope ["_law_cell","_law_k"] ["_law_cell","_law_k"] (zai zfl):=⟨rfl,rfl,rfl,by decide +kernel,rfl,by decide +kernel,by decide +kernel⟩
theorem ziy {f:Addr} {fd:FuncData} (F:Fun K "_law_spot" "_law_spot" zfl f fd) (T:Txt K mg ad) (G_law_number:Has P w K mg base CX0 1 "_law_number" ["_law_cell","_law_k"] (spM (KX K ad) (xoK (KX K ad)) zce)):FnOk P w K mg base CX0 2 f fd ["_law_cell","_law_k"] (spM (KX K ad) (xoK (KX K ad)) zcL):=by
  refine F.ok zix (fun vs H Q E h=>zbj h) (fun cdv A outer s H vs Q E hr h=>?_)
  have hu:=zbX hr
  exact ⟨_,(zaj (zaS (zaV zbK (zaV zdZ (zaW G_law_number (hr.mono (by decide)) (by rfl) za0 (zab (pv 0) (zab (pv 1) zae))) zam) (zaV zdZ zam (pv 1))))),zcE (K:=(KX K ad)) (XO:=(xoK (KX K ad))) (E:=E) (np:=2) (nv:=0) (m:=zgK)
      (za6 (zan zbI ((zan zfF ((zaM (zad zaf (zad zaf zak)))).r (zal).r)).r ((zan zfF (zal).r zac)).r)) rfl h⟩
abbrev zeE:Stmt:=top 20
theorem zhK:FnScope ["_law_spots","_law_one","_law_other","_law_top"] ["_law_spots","_law_one","_law_other","_law_top"] (zai zeE):=⟨rfl,rfl,rfl,by decide +kernel,rfl,by decide +kernel,by decide +kernel⟩
theorem ziq {f:Addr} {fd:FuncData} (F:Fun K "_law_apart" "_law_apart" zeE f fd) (T:Txt K mg ad)  : FnOk P w K mg base CX0 1 f fd ["_law_spots","_law_one","_law_other","_law_top"] (spM (KX K ad) (xoK (KX K ad)) zbT):=by
  refine F.ok zhK (fun vs H Q E h=>zbj h) (fun cdv A outer s H vs Q E hr h=>?_)
  have hu:=zbX hr
  exact ⟨_,(zaj (zaS (zaA zmB (by rfl) T.abs boot_abs (zab (zaV zev (zaV zdj (zbd zaC (pv 0) (pv 1) (fun _ _=>rfl)) (pv 3)) (zaV zdj (zbd zaC (pv 0) (pv 2) (fun _ _=>rfl)) (pv 3))) zae)))),zcE (K:=(KX K ad)) (XO:=(xoK (KX K ad))) (E:=E) (np:=4) (nv:=0) (m:=zf3)
      (za6 (zbO zoy (zav ((zan zer ((zan zdl ((zan zaX zac zac)).r zac)).r ((zan zdl ((zan zaX zac zac)).r zac)).r)).r zaJ))) rfl h⟩
abbrev zbY:Stmt:=top 21
theorem sc_law_lengths:FnScope ["_law_script","_law_many","_law_first","_law_top","_law_cells","_law_spots","_law_lengths_here","_law_one","_law_other","_law_far_here","_law_number_here"] ["_law_script","_law_many"] (zai zbY):=⟨rfl,rfl,rfl,by decide +kernel,rfl,by decide +kernel,by decide +kernel⟩
theorem zgu {f:Addr} {fd:FuncData} (F:Fun K "_law_lengths" "_law_lengths" zbY f fd) (T:Txt K mg ad) (G_law_cell_at:Has P w K mg base CX0 1 "_law_cell_at" ["_law_script","_law_k"] (spM (KX K ad) (xoK (KX K ad)) zay)) (G_law_spot:Has P w K mg base CX0 2 "_law_spot" ["_law_cell","_law_k"] (spM (KX K ad) (xoK (KX K ad)) zcL)) (G_law_apart:Has P w K mg base CX0 1 "_law_apart" ["_law_spots","_law_one","_law_other","_law_top"] (spM (KX K ad) (xoK (KX K ad)) zbT)):FnOk P w K mg base CX0 3 f fd ["_law_script","_law_many"] (spO (KX K ad) (xoK (KX K ad)) zbV):=by
  refine F.ok sc_law_lengths (fun vs H Q E h=>zeF h) (fun cdv A outer s H vs Q E hr h=>?_)
  have hu:=zbX hr
  exact ⟨_,(zah (zbf (i:=2) sc_law_lengths.nd rfl (by first | exact Or.inl rfl | exact Or.inr rfl) (zaV zdj (zaW G_law_cell_at (hr.mono (by decide)) (by rfl) za0 (zab (pv 0) (zab zam zae))) (zaV zlu zam zam)))
      (zah (zbf (i:=3) sc_law_lengths.nd rfl (by first | exact Or.inl rfl | exact Or.inr rfl) (zbd zaC (ze2 (zab zam (zab zam (zab (zaV zdZ zam (zaV zlu zam zam)) zae)))) (zaV zdj (zaV zhc (pv 2) zam) zam) (fun _ _=>rfl)))
      (zah (zbf (i:=4) sc_law_lengths.nd rfl (by first | exact Or.inl rfl | exact Or.inr rfl) (zaV zfq (zme znc (pv 0) (znz zam) zm7) (ze2 (zab (pv 2) zae))))
      (zah (ziT (i:=5) sc_law_lengths.nd rfl (by first | exact Or.inl rfl | exact Or.inr rfl) rfl (za8 rfl T.range (zab (zaV zdZ zam (pv 1)) zae)) (zcm (zai zbY) ["_law_script","_law_many","_law_first","_law_top","_law_cells","_law_spots","_law_lengths_here","_law_one","_law_other","_law_far_here","_law_number_here"] ["_law_cells","_law_k"] [4] 1 rfl rfl rfl (by decide +kernel) (by decide +kernel) (by decide +kernel) rfl (by decide +kernel) (fun cl C s H fp pins=>(zaT (i:=1) (show List.Nodup (["_law_cells","_law_k"]:List Str) by decide +kernel) rfl (Or.inl rfl))) (fun cl C s H fp pins=>(zaW G_law_spot (hr.mono (by decide)) (by rfl) za0 (zab (zbd zaC (pv 0) (zaV zdj (pv 1) (zaA zas (by rfl) (by exact T.len) PySem.boot_len (zab (pv 0) zae))) (fun _ _=>rfl)) (zab (pv 1) zae)))) (Or.inl ⟨rfl,rfl⟩)) rfl)
      (zah (ziT (i:=6) sc_law_lengths.nd rfl (by first | exact Or.inl rfl | exact Or.inr rfl) rfl (za8 rfl T.range (zab (pv 1) zae)) (zcm (zai zbY) ["_law_script","_law_many","_law_first","_law_top","_law_cells","_law_spots","_law_lengths_here","_law_one","_law_other","_law_far_here","_law_number_here"] ["_law_many","_law_one"] [1] 1 rfl rfl rfl (by decide +kernel) (by decide +kernel) (by decide +kernel) rfl (by decide +kernel) (fun cl C s H fp pins=>(zaT (i:=1) (show List.Nodup (["_law_many","_law_one"]:List Str) by decide +kernel) rfl (by first | exact Or.inl rfl | exact Or.inr rfl))) (fun cl C s H fp pins=>(zcc rfl (za8 (by rfl) (by exact T.range) (zab (pv 0) zae)) (zcm (zi3 _ (zai zbY)) ["_law_many","_law_one"] ["_law_other"] [] 1 rfl rfl rfl (by decide +kernel) (by decide +kernel) (by decide +kernel) rfl (by decide +kernel) (fun cl C s H fp pins=>(zaT (i:=0) (show List.Nodup (["_law_other"]:List Str) by decide +kernel) rfl (Or.inl rfl))) (fun cl C s H fp pins=>zam) (Or.inl ⟨rfl,rfl⟩)))) (Or.inl ⟨rfl,rfl⟩)) rfl)
      (zah (zcV PassesOwn.never rfl (za8 rfl T.range (zab (pv 1) zae)) (zaT (i:=7) sc_law_lengths.nd rfl (by first | exact Or.inl rfl | exact Or.inr rfl))
      (zaj (zcV PassesOwn.never rfl (za8 rfl T.range (zab (pv 7) zae)) (zaT (i:=8) sc_law_lengths.nd rfl (by first | exact Or.inl rfl | exact Or.inr rfl))
      (zah (zbf (i:=9) sc_law_lengths.nd rfl (by first | exact Or.inl rfl | exact Or.inr rfl) (zaW G_law_apart (hr.mono (by decide)) (by rfl) za0 (zab (pv 5) (zab (pv 7) (zab (pv 8) (zab (pv 3) zae))))))
      (zah (zbf (i:=9) sc_law_lengths.nd rfl (by first | exact Or.inl rfl | exact Or.inr rfl) (zaV zbK (pv 9) (zaW G_law_apart (hr.mono (by decide)) (by rfl) za0 (zab (pv 5) (zab (zaV zbK (pv 1) (pv 7)) (zab (zaV zbK (pv 1) (pv 8)) (zab (pv 3) zae)))))))
      (zah (zcH (zbh zj0 (zaV zdj (pv 2) zam) zam (zbE _))
      (zah (zbf (i:=10) sc_law_lengths.nd rfl (by first | exact Or.inl rfl | exact Or.inr rfl) (zaV zbK (zbd zaC (pv 5) (pv 8) (fun _ _=>rfl)) (zaV zdZ zam (zbd zaC (pv 5) (zaV zbK (pv 1) (pv 7)) (fun _ _=>rfl)))))
      (zaj (zbf (i:=9) sc_law_lengths.nd rfl (by first | exact Or.inl rfl | exact Or.inr rfl) (zaV zbK (pv 3) (zaV zdj (pv 10) (zaV zbK (pv 3) zam))))))
      zbp)
      (zah (zii (pv 9) (zic (zbd zaC (pv 6) (pv 7) (fun _ _=>rfl)) (pv 8) zeX))
      (zaj (zii (pv 9) (zic (zbd zaC (pv 6) (pv 8) (fun _ _=>rfl)) (pv 7) zeX))))))))))
      (zaj (zaS (pv 6))))))))),zfX (K:=(KX K ad)) (XO:=(xoK (KX K ad))) (E:=E) (np:=2) (nv:=9) (m:=ze7)
      (zaD (zbg (zan zdl ((zaM (zad zaf (zad zal zak)))).r ((zan zlV (zal).r (zal).r)).r) zaE)
      (zaD (zbg (zan zaX ((zeC (zad zal (zad zal (zad (zan zfF (zal).r ((zan zlV (zal).r (zal).r)).r) zak))))).e.r ((zan zdl ((zan zlB zac (zal).r)).r (zal).r)).r) zaE)
      (zaD (zbg ((zgN zgC ((zkp zac (znK zal) zpb)).e.r ((zeC (zad zaf zak))).e.r)).e zaE)
      (zaD (zbg ((zbZ (za4 len1 (zad (zan zfF (zal).r zac) zak)).c (by decide) zbi zbA (Or.inl ⟨rfl,rfl⟩) (zaM (zad (zan zaX zac ((zan zdl zac ((zbO zbt (zav zac zaJ))).r)).r) (zad zaf zak))))).e zaE)
      (zaD (zlE (zeN (za4 len1 (zad zaf zak)).c (by decide) zbi zbA (zbZ (za4 len1 (zad zaf zak)).c (by decide) zbi zbA (Or.inl ⟨rfl,rfl⟩) zal)))
      (zaD (zdH (za4 len1 (zad zaf zak)) zaE
      (zdH (za4 len1 (zad zaf zak)) zaE
      (zaD (zbg (zaM (zad zaf (zad zaf (zad zaf (zad zaf zak))))) zaE)
      (zaD (zbg (zan zbI zac ((zaM (zad zaf (zad (zan zbI zac zac) (zad (zan zbI zac zac) (zad zaf zak)))))).r) zaE)
      (zaD (zcI (zbc (zan zjS ((zan zdl zac (zal).r)).r (zal).r))
      (zaD (zbg (zan zbI ((zan zaX zac zac)).r ((zan zfF (zal).r ((zan zaX zac ((zan zbI zac zac)).r)).r)).r) zaE)
      (zbg (zan zbI zac ((zan zdl zac ((zan zbI zac (zal).r)).r)).r) zaE))
      zbn)
      (zaD (zfT zaf zaf zaf)
      (zfT zaf zaf zaf)))))))
      znm)))))) rfl h⟩
abbrev zf0:Stmt:=top 4
theorem sc_look_at:FnScope ["lengths","count","a","b","c"] ["lengths"] (zai zf0):=⟨rfl,rfl,rfl,by decide +kernel,rfl,by decide +kernel,by decide +kernel⟩
theorem zj8 {f:Addr} {fd:FuncData} (F:Fun K "look_at" "look_at" zf0 f fd) (T:Txt K mg ad)  : FnOk P w K mg base (CX1 P w) 1 f fd ["lengths"] (spM (KX K ad) (xoK (KX K ad)) zci):=by
  refine F.ok1 sc_look_at (fun vs H Q E h=>zbj h) (fun cdv A outer s H vs Q E hr h=>?_)
  have hu:=zbX hr
  exact ⟨_,(zah (zbf (i:=1) sc_look_at.nd rfl (by first | exact Or.inl rfl | exact Or.inr rfl) (zaA zas (by rfl) T.len PySem.boot_len (zab (pv 0) zae)))
      (zah (zcV PassesOwn.leaving rfl (za8 rfl T.range (zab (pv 1) zae)) (zaT (i:=2) sc_look_at.nd rfl (by first | exact Or.inl rfl | exact Or.inr rfl))
      (zaj (zcH (zbh znE (zbd zaC (zbd zaC (pv 0) (pv 2) (fun _ _=>rfl)) (pv 2) (fun _ _=>rfl)) zam (zbE _))
      (zaj (zg5 rfl (by rfl) T.m_NoLengths T.e_NoLengths PySem.F.excBase_ValueError (by decide +kernel) PySem.F.excBase_ValueError znP (zab zkO zae)))
      zbp)))
      (zah (zcV PassesOwn.leaving rfl (za8 rfl T.range (zab (pv 1) zae)) (zaT (i:=2) sc_look_at.nd rfl (by first | exact Or.inl rfl | exact Or.inr rfl))
      (zaj (zcV PassesOwn.leaving rfl (za8 rfl T.range (zab (pv 2) zae)) (zaT (i:=3) sc_look_at.nd rfl (by first | exact Or.inl rfl | exact Or.inr rfl))
      (zaj (zcH (zbh znE (zbd zaC (zbd zaC (pv 0) (pv 2) (fun _ _=>rfl)) (pv 3) (fun _ _=>rfl)) (zbd zaC (zbd zaC (pv 0) (pv 3) (fun _ _=>rfl)) (pv 2) (fun _ _=>rfl)) (zbE _))
      (zaj (zg5 rfl (by rfl) T.m_NoLengths T.e_NoLengths PySem.F.excBase_ValueError (by decide +kernel) PySem.F.excBase_ValueError znP (zab zkO zae)))
      zbp)))))
      (zaj (zcV PassesOwn.leaving rfl (za8 rfl T.range (zab (pv 1) zae)) (zaT (i:=2) sc_look_at.nd rfl (by first | exact Or.inl rfl | exact Or.inr rfl))
      (zaj (zcV PassesOwn.leaving rfl (za8 rfl T.range (zab (pv 1) zae)) (zaT (i:=3) sc_look_at.nd rfl (by first | exact Or.inl rfl | exact Or.inr rfl))
      (zaj (zcV PassesOwn.leaving rfl (za8 rfl T.range (zab (pv 1) zae)) (zaT (i:=4) sc_look_at.nd rfl (by first | exact Or.inl rfl | exact Or.inr rfl))
      (zaj (zcH (zbh zid (zaV zbK (zbd zaC (zbd zaC (pv 0) (pv 2) (fun _ _=>rfl)) (pv 3) (fun _ _=>rfl)) (zbd zaC (zbd zaC (pv 0) (pv 3) (fun _ _=>rfl)) (pv 4) (fun _ _=>rfl))) (zbd zaC (zbd zaC (pv 0) (pv 2) (fun _ _=>rfl)) (pv 4) (fun _ _=>rfl)) (zbE _))
      (zaj (zg5 rfl (by rfl) T.m_NoLengths T.e_NoLengths PySem.F.excBase_ValueError (by decide +kernel) PySem.F.excBase_ValueError znP (zab zkO zae)))
      zbp))))))))))),zcE (K:=(KX K ad)) (XO:=(xoK (KX K ad))) (E:=E) (np:=1) (nv:=4) (m:=zfY)
      (zaD (zbg (zbO zbt (zav zac zaJ)) zaE)
      (zaD (zdH (za4 len1 (zad zaf zak)) zaE
      (zcI (zbc (zan zm5 ((zan zaX ((zan zaX zac zac)).r zac)).r (zal).r))
      (zg4 (c:=1) rfl (by decide) (zad zlH zak))
      zbn))
      (zaD (zdH (za4 len1 (zad zaf zak)) zaE
      (zdH (za4 len1 (zad zaf zak)) zaE
      (zcI (zbc (zan zm5 ((zan zaX ((zan zaX zac zac)).r zac)).r ((zan zaX ((zan zaX zac zac)).r zac)).r))
      (zg4 (c:=1) rfl (by decide) (zad zlH zak))
      zbn)))
      (zdH (za4 len1 (zad zaf zak)) zaE
      (zdH (za4 len1 (zad zaf zak)) zaE
      (zdH (za4 len1 (zad zaf zak)) zaE
      (zcI (zbc (zan zhI ((zan zbI ((zan zaX ((zan zaX zac zac)).r zac)).r ((zan zaX ((zan zaX zac zac)).r zac)).r)).r ((zan zaX ((zan zaX zac zac)).r zac)).r))
      (zg4 (c:=1) rfl (by decide) (zad zlH zak))
      zbn))))))) rfl h⟩
abbrev zb4:Stmt:=top 11
theorem zfj:FnScope ["lengths"] ["lengths"] (zai zb4):=⟨rfl,rfl,rfl,by decide +kernel,rfl,by decide +kernel,by decide +kernel⟩
theorem zfy {f:Addr} {fd:FuncData} (F:Fun K "copied_lengths" "copied_lengths" zb4 f fd) (T:Txt K mg ad)  : FnOk P w K mg base CX0 1 f fd ["lengths"] (spP (KX K ad) (xoK (KX K ad)) za9):=by
  refine F.ok zfj (fun vs H Q E h=>zm3 h) (fun cdv A outer s H vs Q E hr h=>?_)
  have hu:=zbX hr
  exact ⟨_,(zaj (zaS (zcc rfl (zc5 (pv 0)) (zcm (zai zb4) ["lengths"] ["row"] [] 1 rfl rfl rfl (by decide +kernel) (by decide +kernel) (by decide +kernel) rfl (by decide +kernel) (fun cl C s H fp pins=>(zaT (i:=0) (show List.Nodup (["row"]:List Str) by decide +kernel) rfl (Or.inl rfl))) (fun cl C s H fp pins=>(zby zbe (by rfl) T.list boot_list (zab (pv 0) zae))) (Or.inl ⟨rfl,rfl⟩))))),zoq (K:=(KX K ad)) (XO:=(xoK (KX K ad))) (E:=E) (np:=1) (m:=zdK)
      (zeN (zdC zac) (by decide) zbi zbA (zd8 zcX (zav zac zaJ))) rfl h⟩
abbrev zbv:Stmt:=zdg (top 14) 0
theorem zc6:FnScope ["self","lengths"] ["self","lengths"] (zai zbv):=⟨rfl,rfl,rfl,by decide +kernel,rfl,by decide +kernel,by decide +kernel⟩
theorem zdh {f:Addr} {fd:FuncData} (F:Fun K "__init__" "RoundQuestion.__init__" zbv f fd) (T:Txt K mg ad) (G_look_at:Has P w K mg base (CX1 P w) 1 "look_at" ["lengths"] (spM (KX K ad) (xoK (KX K ad)) zci)) (G_copied_lengths:Has P w K mg base CX0 1 "copied_lengths" ["lengths"] (spP (KX K ad) (xoK (KX K ad)) za9)):FnOk P w K mg base (CX1 P w) 2 f fd ["self","lengths"] (spX (KX K ad) 3 zau):=by
  refine F.ok1 zc6 (fun vs H Q E h=>zkL rfl h) (fun cdv A outer s H vs Q E hr h=>?_)
  have hu:=zbX hr
  exact ⟨_,(zah (zdv (zlM G_look_at (hr.mono (by decide)) (by rfl) zog (zab (pv 1) zae)))
      (zaj (zlU (pv 0) (zaW G_copied_lengths (hr.mono (by decide)) (by rfl) za0 (zab (pv 1) zae)) rfl))),zmN (K:=(KX K ad)) (E:=E) (N:=["self","lengths"]) (m:=zaP)
      (zg2 (zh2 (zi6 (zad zaf zak)))
      (zh5 (zdt T) (zhB (zad zaf zak)))) rfl h⟩
abbrev zbw:Stmt:=zdg (top 15) 0
theorem zdc:FnScope ["self","lengths","many"] ["self","lengths","many"] (zai zbw):=⟨rfl,rfl,rfl,by decide +kernel,rfl,by decide +kernel,by decide +kernel⟩
theorem zde {f:Addr} {fd:FuncData} (F:Fun K "__init__" "PlaceQuestion.__init__" zbw f fd) (T:Txt K mg ad) (G_look_at:Has P w K mg base (CX1 P w) 1 "look_at" ["lengths"] (spM (KX K ad) (xoK (KX K ad)) zci)) (G_copied_lengths:Has P w K mg base CX0 1 "copied_lengths" ["lengths"] (spP (KX K ad) (xoK (KX K ad)) za9)):FnOk P w K mg base (CX1 P w) 2 f fd ["self","lengths","many"] (spX (KX K ad) 4 zat):=by
  refine F.ok1 zdc (fun vs H Q E h=>zkL rfl h) (fun cdv A outer s H vs Q E hr h=>?_)
  have hu:=zbX hr
  exact ⟨_,(zah (zdv (zlM G_look_at (hr.mono (by decide)) (by rfl) zog (zab (pv 1) zae)))
      (zah (zlU (pv 0) (zaW G_copied_lengths (hr.mono (by decide)) (by rfl) za0 (zab (pv 1) zae)) rfl)
      (zaj (zlU (pv 0) (pv 2) rfl)))),zmN (K:=(KX K ad)) (E:=E) (N:=["self","lengths","many"]) (m:=zaO)
      (zg2 (zh2 (zi6 (zad zaf zak)))
      (zg2 (zh5 (zds T) (zhB (zad zaf zak)))
      (zlz (zed T) zaf))) rfl h⟩
abbrev zbu:Stmt:=zdg (top 14) 2
theorem zdX:FnScope ["self","case"] ["self","case"] (zai zbu):=⟨rfl,rfl,rfl,by decide +kernel,rfl,by decide +kernel,by decide +kernel⟩
theorem zef {f:Addr} {fd:FuncData} (F:Fun K "ways" "RoundQuestion.ways" zbu f fd) (T:Txt K mg ad)  : FnOk P w K mg base CX0 1 f fd ["self","case"] (spO (KX K ad) (xoK (KX K ad)) zaB):=by
  refine F.ok zdX (fun vs H Q E h=>zeF h) (fun cdv A outer s H vs Q E hr h=>?_)
  have hu:=zbX hr
  exact ⟨_,(zaj (zaS (zcc rfl (zh7 rfl T.range (zab zam (zab (zaA zas (by rfl) T.len PySem.boot_len (zab (zeS (pv 0) rfl) zae)) zae))) (zcm (zai zbu) ["self","case"] ["case","place"] [1] 1 rfl rfl rfl (by decide +kernel) (by decide +kernel) (by decide +kernel) rfl (by decide +kernel) (fun cl C s H fp pins=>(zaT (i:=1) (show List.Nodup (["case","place"]:List Str) by decide +kernel) rfl (Or.inl rfl))) (fun cl C s H fp pins=>(pv 1)) (Or.inr ⟨_,_,rfl,rfl,fun cl C s H fp pins=>(zbh zfC (pv 1) (pv 0) (by with_unfolding_all rfl))⟩))))),zfX (K:=(KX K ad)) (XO:=(xoK (KX K ad))) (E:=E) (np:=2) (nv:=0) (m:=zcz)
      (zfh (zbZ (zhZ len2 (zad zal (zad (zbO zbt (zav ((ze0 (zcM T) zac)).r zaJ)) zak))).c (by decide) zbi zbA (Or.inr ⟨_,_,rfl,rfl,(zbc (zan zjq zac zac))⟩) zaf)) rfl h⟩
abbrev ze8:Stmt:=top 24
theorem sc_law_way:FnScope ["_law_lengths_here","_law_case","_law_spots"] ["_law_lengths_here","_law_case"] (zai ze8):=⟨rfl,rfl,rfl,by decide +kernel,rfl,by decide +kernel,by decide +kernel⟩
theorem zj1 {f:Addr} {fd:FuncData} (F:Fun K "_law_way" "_law_way" ze8 f fd) (T:Txt K mg ad)  : FnOk P w K mg base CX0 1 f fd ["_law_lengths_here","_law_case"] (spM (KX K ad) (xoK (KX K ad)) zbq):=by
  refine F.ok sc_law_way (fun vs H Q E h=>zbj h) (fun cdv A outer s H vs Q E hr h=>?_)
  have hu:=zbX hr
  exact ⟨_,(zah (zbf (i:=2) sc_law_way.nd rfl (by first | exact Or.inl rfl | exact Or.inr rfl) (zaV zfq (zaV zfq (ze2 (zab zam zae)) (zby zbe (by rfl) T.list boot_list (zab (pv 1) zae))) (ze2 (zab zam zae))))
      (zaj (zaS (zaA (zfd rfl) (by rfl) T.sum boot_sum (zab (zcc rfl (za8 rfl T.range (zab (zaV zev (zaA zas (by rfl) T.len PySem.boot_len (zab (pv 2) zae)) zam) zae)) (zcm (zai ze8) ["_law_lengths_here","_law_case","_law_spots"] ["_law_lengths_here","_law_spots","_law_k"] [0,2] 1 rfl rfl rfl (by decide +kernel) (by decide +kernel) (by decide +kernel) rfl (by decide +kernel) (fun cl C s H fp pins=>(zaT (i:=2) (show List.Nodup (["_law_lengths_here","_law_spots","_law_k"]:List Str) by decide +kernel) rfl (Or.inl rfl))) (fun cl C s H fp pins=>(zbd zaC (zbd zaC (pv 0) (zbd zaC (pv 1) (pv 2) (fun _ _=>rfl)) (fun _ _=>rfl)) (zbd zaC (pv 1) (zaV zbK (pv 2) zam) (fun _ _=>rfl)) (fun _ _=>rfl))) (Or.inl ⟨rfl,rfl⟩))) zae))))),zcE (K:=(KX K ad)) (XO:=(xoK (KX K ad))) (E:=E) (np:=2) (nv:=1) (m:=zhH)
      (zaD (zbg ((zgN zgC ((zgN zgC ((zeC (zad zal zak))).e.r ((zd8 zcX (zav zac zaJ))).e.r)).e.r ((zeC (zad zal zak))).e.r)).e zaE)
      (za6 (zbO zmK (zav ((zbZ (za4 len1 (zad (zan zer ((zbO zbt (zav zac zaJ))).r (zal).r) zak)).c (by decide) zbi zbA (Or.inl ⟨rfl,rfl⟩) (zan zaX ((zan zaX zac ((zan zaX zac zac)).r)).r ((zan zaX zac ((zan zbI zac (zal).r)).r)).r))).e.r zaJ)))) rfl h⟩
abbrev zb8:Stmt:=top 26
theorem zfn:FnScope ["_law_lengths_here","_law_case"] ["_law_lengths_here","_law_case"] (zai zb8):=⟨rfl,rfl,rfl,by decide +kernel,rfl,by decide +kernel,by decide +kernel⟩
theorem zfr {f:Addr} {fd:FuncData} (F:Fun K "_law_round_ways" "_law_round_ways" zb8 f fd) (T:Txt K mg ad)  : FnOk P w K mg base CX0 1 f fd ["_law_lengths_here","_law_case"] (spO (KX K ad) (xoK (KX K ad)) zaR):=by
  refine F.ok zfn (fun vs H Q E h=>zeF h) (fun cdv A outer s H vs Q E hr h=>?_)
  have hu:=zbX hr
  exact ⟨_,(zaj (zaS (zcc rfl (zh7 rfl T.range (zab zam (zab (zaA zas (by rfl) T.len PySem.boot_len (zab (pv 0) zae)) zae))) (zcm (zai zb8) ["_law_lengths_here","_law_case"] ["_law_case","_law_p"] [1] 1 rfl rfl rfl (by decide +kernel) (by decide +kernel) (by decide +kernel) rfl (by decide +kernel) (fun cl C s H fp pins=>(zaT (i:=1) (show List.Nodup (["_law_case","_law_p"]:List Str) by decide +kernel) rfl (Or.inl rfl))) (fun cl C s H fp pins=>(pv 1)) (Or.inr ⟨_,_,rfl,rfl,fun cl C s H fp pins=>(zbh zfC (pv 1) (pv 0) (by with_unfolding_all rfl))⟩))))),zfX (K:=(KX K ad)) (XO:=(xoK (KX K ad))) (E:=E) (np:=2) (nv:=0) (m:=zdO)
      (zfh (zbZ (zhZ len2 (zad zal (zad (zbO zbt (zav zac zaJ)) zak))).c (by decide) zbi zbA (Or.inr ⟨_,_,rfl,rfl,(zbc (zan zjq zac zac))⟩) zaf)) rfl h⟩
abbrev zhm:Stmt:=top 22
theorem zk5:FnScope ["_law_found","_law_due"] ["_law_found","_law_due"] (zai zhm):=⟨rfl,rfl,rfl,by decide +kernel,rfl,by decide +kernel,by decide +kernel⟩
theorem zlh {f:Addr} {fd:FuncData} (F:Fun K "_law_is" "_law_is" zhm f fd) (T:Txt K mg ad)  : FnOk P w K mg base CX0 1 f fd ["_law_found","_law_due"] (spM (KX K ad) (xoK (KX K ad)) za7):=by
  refine F.ok zk5 (fun vs H Q E h=>zbj h) (fun cdv A outer s H vs Q E hr h=>?_)
  have hu:=zbX hr
  exact ⟨_,(zaj (zaS (zig (zaA zbR (by rfl) T.isinstance boot_isinstance (zab (pv 0) (zab (ziI (v:=.ty "int") (by rfl) T.int boot_int rfl) zae))) (zig (znW (zaA zbR (by rfl) T.isinstance boot_isinstance (zab (pv 0) (zab (ziI (v:=.ty "bool") (by rfl) T.bool boot_bool rfl) zae)))) (zjx (zkH zj0 (pv 0) (pv 1) (zbE _))))))),zcE (K:=(KX K ad)) (XO:=(xoK (KX K ad))) (E:=E) (np:=2) (nv:=0) (m:=zjy)
      (za6 (zis (zlF zmk zac) (zis (znT (zlF zku zac)) (zan zjS zac zac)))) rfl h⟩
abbrev zdE:Stmt:=top 23
theorem sc_law_numbers:FnScope ["_law_found","_law_due","_law_one","_law_other"] ["_law_found","_law_due"] (zai zdE):=⟨rfl,rfl,rfl,by decide +kernel,rfl,by decide +kernel,by decide +kernel⟩
theorem zgl {f:Addr} {fd:FuncData} (F:Fun K "_law_numbers" "_law_numbers" zdE f fd) (T:Txt K mg ad) (G_law_is:Has P w K mg base CX0 1 "_law_is" ["_law_found","_law_due"] (spM (KX K ad) (xoK (KX K ad)) za7)):FnOk P w K mg base CX0 2 f fd ["_law_found","_law_due"] (spM (KX K ad) (xoK (KX K ad)) zaL):=by
  refine F.ok sc_law_numbers (fun vs H Q E h=>zbj h) (fun cdv A outer s H vs Q E hr h=>?_)
  have hu:=zbX hr
  exact ⟨_,(zah (zcH ((zgr (zcA (zcB (zaA zbR (by rfl) T.isinstance boot_isinstance (zab (pv 0) (zab (ziI (v:=.ty "list") (by rfl) T.list boot_list rfl) zae))))) (zeP (zbh znE (zaA zas (by rfl) T.len PySem.boot_len (zab (pv 0) zae)) (zaA zas (by rfl) T.len PySem.boot_len (zab (pv 1) zae)) (zbE _))))).pt
      (zaj (zaS zd3))
      zbp)
      (zah (zcV PassesOwn.never rfl (znV rfl T.zip (zab (pv 0) (zab (pv 1) zae))) (zmS rfl (zfR (zaT (i:=2) sc_law_numbers.nd rfl (by first | exact Or.inl rfl | exact Or.inr rfl)) (zfR (zaT (i:=3) sc_law_numbers.nd rfl (by first | exact Or.inl rfl | exact Or.inr rfl)) zkE)))
      (zaj (zcH (zcA (zcB (zaW G_law_is (hr.mono (by decide)) (by rfl) za0 (zab (pv 2) (zab (pv 3) zae)))))
      (zaj (zaS zd3))
      zbp)))
      (zaj (zaS zd3)))),zcE (K:=(KX K ad)) (XO:=(xoK (KX K ad))) (E:=E) (np:=2) (nv:=2) (m:=zeV)
      (zaD (zcI (zgm (zcC (st_b (zlF zkW zac))) (zbc (zan zm5 ((zbO zbt (zav zac zaJ))).r ((zbO zbt (zav zac zaJ))).r)))
      (za6 zd0)
      zbn)
      (zaD (zdH (zoe (zad zaf (zad zaf zak))) (zmY (zfP zaE (zfP zaE zln)))
      (zcI (zcC (st_b (zaM (zad zaf (zad zaf zak)))))
      (za6 zd0)
      zbn))
      (za6 zd0))) rfl h⟩
abbrev zdw:Stmt:=top 12
theorem zgt:FnScope ["case"] ["case"] (zai zdw):=⟨rfl,rfl,rfl,by decide +kernel,rfl,by decide +kernel,by decide +kernel⟩
theorem zgi {f:Addr} {fd:FuncData} (F:Fun K "behind_last" "behind_last" zdw f fd) (T:Txt K mg ad)  : FnOk P w K mg base CX0 1 f fd ["case"] (spM (KX K ad) (xoK (KX K ad)) zaY):=by
  refine F.ok zgt (fun vs H Q E h=>zbj h) (fun cdv A outer s H vs Q E hr h=>?_)
  have hu:=zbX hr
  exact ⟨_,(zaj (zaS (zms (zbh zlg (zaA zas (by rfl) T.len PySem.boot_len (zab (pv 0) zae)) zam (zbE _)) (zaV zbK (zbd zlx (pv 0) (zgo zew zam) (fun _ _=>rfl)) zam) zam))),zcE (K:=(KX K ad)) (XO:=(xoK (KX K ad))) (E:=E) (np:=1) (nv:=0) (m:=zfc)
      (za6 (zoW (zbc (zan zlQ ((zbO zbt (zav zac zaJ))).r (zal).r)) (zan zbI ((zan zkI zac ((zgs zet (zal).r)).r)).r (zal).r) zal)) rfl h⟩
abbrev zb1:Stmt:=zdg (top 15) 2
theorem sc_PlaceQuestion_ways:FnScope ["self","case","to_come"] ["self","case"] (zai zb1):=⟨rfl,rfl,rfl,by decide +kernel,rfl,by decide +kernel,by decide +kernel⟩
theorem zd6 {f:Addr} {fd:FuncData} (F:Fun K "ways" "PlaceQuestion.ways" zb1 f fd) (T:Txt K mg ad) (G_behind_last:Has P w K mg base CX0 1 "behind_last" ["case"] (spM (KX K ad) (xoK (KX K ad)) zaY)):FnOk P w K mg base CX0 2 f fd ["self","case"] (spO (KX K ad) (xoK (KX K ad)) zaz):=by
  refine F.ok sc_PlaceQuestion_ways (fun vs H Q E h=>zeF h) (fun cdv A outer s H vs Q E hr h=>?_)
  have hu:=zbX hr
  exact ⟨_,(zah (zbf (i:=2) sc_PlaceQuestion_ways.nd rfl (by first | exact Or.inl rfl | exact Or.inr rfl) (zaV zev (zeS (pv 0) rfl) (zaA zas (by rfl) T.len PySem.boot_len (zab (pv 1) zae))))
      (zaj (zaS (zby (zgd rfl) (by rfl) T.list boot_list (zab (zkY (by rfl) T.range (zab (zaW G_behind_last (hr.mono (by decide)) (by rfl) za0 (zab (pv 1) zae)) (zab (zaV zbK (zaV zev (zaA zas (by rfl) T.len PySem.boot_len (zab (zeS (pv 0) rfl) zae)) (pv 2)) zam) zae))) zae))))),zfX (K:=(KX K ad)) (XO:=(xoK (KX K ad))) (E:=E) (np:=2) (nv:=1) (m:=zcD)
      (zaD (zbg (zan zer ((ze0 (ziW T) zac)).r ((zbO zbt (zav zac zaJ))).r) zaE)
      (zfh (zgy (zad (zaM (zad zaf zak)) (zad (zan zbI ((zan zer ((zbO zbt (zav ((ze0 (zcM T) zac)).r zaJ))).r zac)).r (zal).r) zak))))) rfl h⟩
abbrev zcy:Stmt:=top 28
theorem sc_law_told_again:FnScope ["_law_question","_law_case","_law_due","_law_told"] ["_law_question","_law_case","_law_due"] (zai zcy):=⟨rfl,rfl,rfl,by decide +kernel,rfl,by decide +kernel,by decide +kernel⟩
theorem zfi {f:Addr} {fd:FuncData} (F:Fun K "_law_told_again" "_law_told_again" zcy f fd) (T:Txt K mg ad) (G_RoundQuestion_ways:HasM P w K mg base CX0 1 "ways" ad.RoundQuestion ["self","case"] (spO (KX K ad) (xoK (KX K ad)) zaB)) (G_law_numbers:Has P w K mg base CX0 2 "_law_numbers" ["_law_found","_law_due"] (spM (KX K ad) (xoK (KX K ad)) zaL)) (G_PlaceQuestion_ways:HasM P w K mg base CX0 2 "ways" ad.PlaceQuestion ["self","case"] (spO (KX K ad) (xoK (KX K ad)) zaz)):FnOk P w K mg base CX0 3 f fd ["_law_question","_law_case","_law_due"] (spM (KX K ad) (xoK (KX K ad)) zaF):=by
  refine F.ok sc_law_told_again (fun vs H Q E h=>zbj h) (fun cdv A outer s H vs Q E hr h=>?_)
  have hu:=zbX hr
  exact ⟨_,(zah (zcV PassesOwn.never rfl (zc5 (ze2 (zab (zmI (zcd G_PlaceQuestion_ways (hr.mono (by decide)) za0 (pv 0) (zab (pv 1) zae)) (zcd G_RoundQuestion_ways (hr.mono (by decide)) za0 (pv 0) (zab (pv 1) zae))) (zab (zmI (zcd G_PlaceQuestion_ways (hr.mono (by decide)) za0 (pv 0) (zab (pv 1) zae)) (zcd G_RoundQuestion_ways (hr.mono (by decide)) za0 (pv 0) (zab (pv 1) zae))) zae)))) (zaT (i:=3) sc_law_told_again.nd rfl (by first | exact Or.inl rfl | exact Or.inr rfl))
      (zah (zcH (zcA (zcB (zaW G_law_numbers (hr.mono (by decide)) (by rfl) za0 (zab (pv 3) (zab (pv 2) zae)))))
      (zaj (zaS zd3))
      zbp)
      (zaj (zdv (znC PySem.F.plainAttrs_list PySem.F.slot_list_append PySem.F.type_list_append zfe (pv 3) (zab zam zae))))))
      (zaj (zaS zd3))),zcE (K:=(KX K ad)) (XO:=(xoK (KX K ad))) (E:=E) (np:=3) (nv:=1) (m:=zdM)
      (zaD (znI (zlL (zcj rfl zaf (zad zaf zak)) (zcj rfl zaf (zad zaf zak))) (zlL (zcj rfl zaf (zad zaf zak)) (zcj rfl zaf (zad zaf zak)))
      (zaD (zcI (zcC (st_b (zi1 (zkT (zfS zaf zfg)))))
      (za6 zd0)
      zbn)
      (zlI zal)))
      (za6 zd0)) rfl h⟩
abbrev zbG:Stmt:=zdg (top 14) 4
theorem zdu:FnScope ["self","case"] ["self","case"] (zai zbG):=⟨rfl,rfl,rfl,by decide +kernel,rfl,by decide +kernel,by decide +kernel⟩
theorem zdF {f:Addr} {fd:FuncData} (F:Fun K "answer" "RoundQuestion.answer" zbG f fd) (T:Txt K mg ad)  : FnOk P w K mg base CX0 1 f fd ["self","case"] (spO (KX K ad) (xoK (KX K ad)) zaq):=by
  refine F.ok zdu (fun vs H Q E h=>zeF h) (fun cdv A outer s H vs Q E hr h=>?_)
  have hu:=zbX hr
  exact ⟨_,(zaj (zaS (zaV zfq (ze2 (zab zam zae)) (zby zbe (by rfl) T.list boot_list (zab (pv 1) zae))))),zfX (K:=(KX K ad)) (XO:=(xoK (KX K ad))) (E:=E) (np:=2) (nv:=0) (m:=zcn)
      (zfh (zgN zgC ((zeC (zad zal zak))).e.r ((zd8 zcX (zav zac zaJ))).e.r)) rfl h⟩
abbrev zc3:Stmt:=top 5
theorem zgV:FnScope ["lengths","way"] ["lengths","way"] (zai zc3):=⟨rfl,rfl,rfl,by decide +kernel,rfl,by decide +kernel,by decide +kernel⟩
theorem zhl {f:Addr} {fd:FuncData} (F:Fun K "way_length" "way_length" zc3 f fd) (T:Txt K mg ad)  : FnOk P w K mg base CX0 1 f fd ["lengths","way"] (spM (KX K ad) (xoK (KX K ad)) zcf):=by
  refine F.ok zgV (fun vs H Q E h=>zbj h) (fun cdv A outer s H vs Q E hr h=>?_)
  have hu:=zbX hr
  exact ⟨_,(zaj (zaS (zaA (zfd rfl) (by rfl) T.sum boot_sum (zab (zcc rfl (za8 rfl T.range (zab (zaV zev (zaA zas (by rfl) T.len PySem.boot_len (zab (pv 1) zae)) zam) zae)) (zcm (zai zc3) ["lengths","way"] ["lengths","way","k"] [0,1] 1 rfl rfl rfl (by decide +kernel) (by decide +kernel) (by decide +kernel) rfl (by decide +kernel) (fun cl C s H fp pins=>(zaT (i:=2) (show List.Nodup (["lengths","way","k"]:List Str) by decide +kernel) rfl (Or.inl rfl))) (fun cl C s H fp pins=>(zbd zaC (zbd zaC (pv 0) (zbd zaC (pv 1) (pv 2) (fun _ _=>rfl)) (fun _ _=>rfl)) (zbd zaC (pv 1) (zaV zbK (pv 2) zam) (fun _ _=>rfl)) (fun _ _=>rfl))) (Or.inl ⟨rfl,rfl⟩))) zae)))),zcE (K:=(KX K ad)) (XO:=(xoK (KX K ad))) (E:=E) (np:=2) (nv:=0) (m:=zfz)
      (za6 (zbO zmK (zav ((zbZ (za4 len1 (zad (zan zer ((zbO zbt (zav zac zaJ))).r (zal).r) zak)).c (by decide) zbi zbA (Or.inl ⟨rfl,rfl⟩) (zan zaX ((zan zaX zac ((zan zaX zac zac)).r)).r ((zan zaX zac ((zan zbI zac (zal).r)).r)).r))).e.r zaJ))) rfl h⟩
abbrev zdb:Stmt:=top 6
theorem zge:FnScope ["lengths","way"] ["lengths","way"] (zai zdb):=⟨rfl,rfl,rfl,by decide +kernel,rfl,by decide +kernel,by decide +kernel⟩
theorem zfW {f:Addr} {fd:FuncData} (F:Fun K "round_length" "round_length" zdb f fd) (T:Txt K mg ad) (G_way_length:Has P w K mg base CX0 1 "way_length" ["lengths","way"] (spM (KX K ad) (xoK (KX K ad)) zcf)):FnOk P w K mg base CX0 2 f fd ["lengths","way"] (spM (KX K ad) (xoK (KX K ad)) zb3):=by
  refine F.ok zge (fun vs H Q E h=>zbj h) (fun cdv A outer s H vs Q E hr h=>?_)
  have hu:=zbX hr
  exact ⟨_,(zah (zcH (zbh zj0 (zaA zas (by rfl) T.len PySem.boot_len (zab (pv 1) zae)) zam (zbE _))
      (zaj (zaS zam))
      zbp)
      (zaj (zaS (zaV zbK (zaW G_way_length (hr.mono (by decide)) (by rfl) za0 (zab (pv 0) (zab (pv 1) zae))) (zbd zaC (zbd zaC (pv 0) (zbd zaC (pv 1) (zgo zew zam) (fun _ _=>rfl)) (fun _ _=>rfl)) (zbd zaC (pv 1) zam (fun _ _=>rfl)) (fun _ _=>rfl)))))),zcE (K:=(KX K ad)) (XO:=(xoK (KX K ad))) (E:=E) (np:=2) (nv:=0) (m:=zey)
      (zaD (zcI (zbc (zan zjS ((zbO zbt (zav zac zaJ))).r (zal).r))
      (za6 zal)
      zbn)
      (za6 (zan zbI ((zaM (zad zaf (zad zaf zak)))).r ((zan zaX ((zan zaX zac ((zan zaX zac ((zgs zet (zal).r)).r)).r)).r ((zan zaX zac (zal).r)).r)).r))) rfl h⟩
abbrev zcb:Stmt:=zdg (top 14) 3
theorem zen:FnScope ["self","case"] ["self","case"] (zai zcb):=⟨rfl,rfl,rfl,by decide +kernel,rfl,by decide +kernel,by decide +kernel⟩
theorem zeo {f:Addr} {fd:FuncData} (F:Fun K "low" "RoundQuestion.low" zcb f fd) (T:Txt K mg ad) (G_RoundQuestion_answer:HasM P w K mg base CX0 1 "answer" ad.RoundQuestion ["self","case"] (spO (KX K ad) (xoK (KX K ad)) zaq)) (G_round_length:Has P w K mg base CX0 2 "round_length" ["lengths","way"] (spM (KX K ad) (xoK (KX K ad)) zb3)):FnOk P w K mg base CX0 3 f fd ["self","case"] (spM (KX K ad) (xoK (KX K ad)) zaI):=by
  refine F.ok zen (fun vs H Q E h=>zbj h) (fun cdv A outer s H vs Q E hr h=>?_)
  have hu:=zbX hr
  exact ⟨_,(zaj (zaS (zaW G_round_length (hr.mono (by decide)) (by rfl) za0 (zab (zeS (pv 0) rfl) (zab (zcd G_RoundQuestion_answer (hr.mono (by decide)) za0 (pv 0) (zab (pv 1) zae)) zae))))),zcE (K:=(KX K ad)) (XO:=(xoK (KX K ad))) (E:=E) (np:=2) (nv:=0) (m:=zcT)
      (za6 (zaM (zad (ze0 (zcM T) zac) (zad ((zcj rfl zaf (zad zaf zak))).e zak)))) rfl h⟩
abbrev zfx:Stmt:=top 29
theorem ziV:FnScope ["_law_script","_law_at","_law_ways"] ["_law_script","_law_at","_law_ways"] (zai zfx):=⟨rfl,rfl,rfl,by decide +kernel,rfl,by decide +kernel,by decide +kernel⟩
theorem ziJ {f:Addr} {fd:FuncData} (F:Fun K "_law_next" "_law_next" zfx f fd) (T:Txt K mg ad) (G_law_cell_at:Has P w K mg base CX0 1 "_law_cell_at" ["_law_script","_law_k"] (spM (KX K ad) (xoK (KX K ad)) zay)):FnOk P w K mg base CX0 2 f fd ["_law_script","_law_at","_law_ways"] (spM (KX K ad) (xoK (KX K ad)) zbx):=by
  refine F.ok ziV (fun vs H Q E h=>zbj h) (fun cdv A outer s H vs Q E hr h=>?_)
  have hu:=zbX hr
  exact ⟨_,(zaj (zaS (zlw (zab (zbd zaC (pv 2) (zaV zdj (zaV zhc (zaW G_law_cell_at (hr.mono (by decide)) (by rfl) za0 (zab (pv 0) (zab (pv 1) zae))) zam) (zaA zas (by rfl) T.len PySem.boot_len (zab (pv 2) zae))) (fun _ _=>rfl)) zae)))),zcE (K:=(KX K ad)) (XO:=(xoK (KX K ad))) (E:=E) (np:=3) (nv:=0) (m:=zgB)
      (za6 (zlP (zad (zan zaX zac ((zan zdl ((zan zlB ((zaM (zad zaf (zad zaf zak)))).r (zal).r)).r ((zbO zbt (zav zac zaJ))).r)).r) zak))) rfl h⟩
abbrev zbQ:Stmt:=zdg (top 14) 1
theorem zdP:FnScope ["self"] ["self"] (zai zbQ):=⟨rfl,rfl,rfl,by decide +kernel,rfl,by decide +kernel,by decide +kernel⟩
theorem zdT {f:Addr} {fd:FuncData} (F:Fun K "steps" "RoundQuestion.steps" zbQ f fd) (T:Txt K mg ad)  : FnOk P w K mg base CX0 1 f fd ["self"] (spM (KX K ad) (xoK (KX K ad)) zaZ):=by
  refine F.ok zdP (fun vs H Q E h=>zbj h) (fun cdv A outer s H vs Q E hr h=>?_)
  have hu:=zbX hr
  exact ⟨_,(zaj (zaS (zaV zev (zaA zas (by rfl) T.len PySem.boot_len (zab (zeS (pv 0) rfl) zae)) zam))),zcE (K:=(KX K ad)) (XO:=(xoK (KX K ad))) (E:=E) (np:=1) (nv:=0) (m:=zcv)
      (za6 (zan zer ((zbO zbt (zav ((ze0 (zcM T) zac)).r zaJ))).r (zal).r)) rfl h⟩
abbrev zeb:Stmt:=top 30
theorem sc_law_rounds:FnScope ["_law_script","_law_lengths_here","_law_question","_law_case","_law_low","_law_k","_law_ways","_law_due"] ["_law_script","_law_lengths_here","_law_question"] (zai zeb):=⟨rfl,rfl,rfl,by decide +kernel,rfl,by decide +kernel,by decide +kernel⟩
theorem zg9 {f:Addr} {fd:FuncData} (F:Fun K "_law_rounds" "_law_rounds" zeb f fd) (T:Txt K mg ad) (G_RoundQuestion_ways:HasM P w K mg base CX0 1 "ways" ad.RoundQuestion ["self","case"] (spO (KX K ad) (xoK (KX K ad)) zaB)) (G_law_way:Has P w K mg base CX0 1 "_law_way" ["_law_lengths_here","_law_case"] (spM (KX K ad) (xoK (KX K ad)) zbq)) (G_law_round_ways:Has P w K mg base CX0 1 "_law_round_ways" ["_law_lengths_here","_law_case"] (spO (KX K ad) (xoK (KX K ad)) zaR)) (G_law_is:Has P w K mg base CX0 1 "_law_is" ["_law_found","_law_due"] (spM (KX K ad) (xoK (KX K ad)) za7)) (G_law_numbers:Has P w K mg base CX0 2 "_law_numbers" ["_law_found","_law_due"] (spM (KX K ad) (xoK (KX K ad)) zaL)) (G_law_told_again:Has P w K mg base CX0 3 "_law_told_again" ["_law_question","_law_case","_law_due"] (spM (KX K ad) (xoK (KX K ad)) zaF)) (G_RoundQuestion_answer:HasM P w K mg base CX0 1 "answer" ad.RoundQuestion ["self","case"] (spO (KX K ad) (xoK (KX K ad)) zaq)) (G_RoundQuestion_low:HasM P w K mg base CX0 3 "low" ad.RoundQuestion ["self","case"] (spM (KX K ad) (xoK (KX K ad)) zaI)) (G_law_next:Has P w K mg base CX0 2 "_law_next" ["_law_script","_law_at","_law_ways"] (spM (KX K ad) (xoK (KX K ad)) zbx)) (G_RoundQuestion_steps:HasM P w K mg base CX0 1 "steps" ad.RoundQuestion ["self"] (spM (KX K ad) (xoK (KX K ad)) zaZ)):FnOk P w K mg base CX0 4 f fd ["_law_script","_law_lengths_here","_law_question"] (spM (KX K ad) (xoK (KX K ad)) zbP):=by
  refine F.ok sc_law_rounds (fun vs H Q E h=>zbj h) (fun cdv A outer s H vs Q E hr h=>?_)
  have hu:=zbX hr
  exact ⟨_,(zah (zbf (i:=3) sc_law_rounds.nd rfl (by first | exact Or.inl rfl | exact Or.inr rfl) (zlw zae))
      (zah (zbf (i:=4) sc_law_rounds.nd rfl (by first | exact Or.inl rfl | exact Or.inr rfl) zam)
      (zah (zcV PassesOwn.never rfl (za8 rfl T.range (zab (zaV zev (zaA zas (by rfl) T.len PySem.boot_len (zab (pv 1) zae)) zam) zae)) (zaT (i:=5) sc_law_rounds.nd rfl (by first | exact Or.inl rfl | exact Or.inr rfl))
      (zah (zbf (i:=6) sc_law_rounds.nd rfl (by first | exact Or.inl rfl | exact Or.inr rfl) (zcd G_RoundQuestion_ways (hr.mono (by decide)) za0 (pv 2) (zab (pv 3) zae)))
      (zah (zbf (i:=7) sc_law_rounds.nd rfl (by first | exact Or.inl rfl | exact Or.inr rfl) (zaW G_law_way (hr.mono (by decide)) (by rfl) za0 (zab (pv 1) (zab (pv 3) zae))))
      (zah (zcH (zcA (zcB (zaW G_law_numbers (hr.mono (by decide)) (by rfl) za0 (zab (pv 6) (zab (zaW G_law_round_ways (hr.mono (by decide)) (by rfl) za0 (zab (pv 1) (zab (pv 3) zae))) zae)))))
      (zaj (zaS zd3))
      zbp)
      (zah (zcH (zcA (zcB (zaW G_law_told_again (hr.mono (by decide)) (by rfl) za0 (zab (pv 2) (zab (pv 3) (zab (zaW G_law_round_ways (hr.mono (by decide)) (by rfl) za0 (zab (pv 1) (zab (pv 3) zae))) zae))))))
      (zaj (zaS zd3))
      zbp)
      (zah (zcH ((zgr (zcA (zcB (zaW G_law_is (hr.mono (by decide)) (by rfl) za0 (zab (zcd G_RoundQuestion_low (hr.mono (by decide)) za0 (pv 2) (zab (pv 3) zae)) (zab (pv 7) zae))))) (zeP (zbh zid (pv 7) (pv 4) (zbE _))))).pt
      (zaj (zaS zd3))
      zbp)
      (zah (zbf (i:=4) sc_law_rounds.nd rfl (by first | exact Or.inl rfl | exact Or.inr rfl) (pv 7))
      (zaj (zbf (i:=3) sc_law_rounds.nd rfl (by first | exact Or.inl rfl | exact Or.inr rfl) (zaV zko (pv 3) (zaW G_law_next (hr.mono (by decide)) (by rfl) za0 (zab (pv 0) (zab (zaV zbK zam (pv 5)) (zab (pv 6) zae))))))))))))))
      (zah (zcH ((zgr (zcA (zcB (zaW G_law_is (hr.mono (by decide)) (by rfl) za0 (zab (zcd G_RoundQuestion_low (hr.mono (by decide)) za0 (pv 2) (zab (pv 3) zae)) (zab (zaW G_law_way (hr.mono (by decide)) (by rfl) za0 (zab (pv 1) (zab (pv 3) zae))) zae))))) (zeP (zbh zid (zaW G_law_way (hr.mono (by decide)) (by rfl) za0 (zab (pv 1) (zab (pv 3) zae))) (pv 4) (zbE _))))).pt
      (zaj (zaS zd3))
      zbp)
      (zah (zdv (znC PySem.F.plainAttrs_list PySem.F.slot_list_append PySem.F.type_list_append zfe (zcd G_RoundQuestion_answer (hr.mono (by decide)) za0 (pv 2) (zab (pv 3) zae)) (zab zam zae)))
      (zaj (zaS (zig (zaW G_law_numbers (hr.mono (by decide)) (by rfl) za0 (zab (zcd G_RoundQuestion_answer (hr.mono (by decide)) za0 (pv 2) (zab (pv 3) zae)) (zab (zaV zfq (ze2 (zab zam zae)) (zby zbe (by rfl) T.list boot_list (zab (pv 3) zae))) zae))) (zjx (zaW G_law_is (hr.mono (by decide)) (by rfl) za0 (zab (zi0 G_RoundQuestion_steps (hr.mono (by decide)) za0 (pv 2)) (zab (zaV zev (zaA zas (by rfl) T.len PySem.boot_len (zab (pv 1) zae)) zam) zae)))))))))))),zcE (K:=(KX K ad)) (XO:=(xoK (KX K ad))) (E:=E) (np:=3) (nv:=5) (m:=zfH)
      (zaD (zbg (zlP zak) zaE)
      (zaD (zbg zal zaE)
      (zaD (zdH (za4 len1 (zad (zan zer ((zbO zbt (zav zac zaJ))).r (zal).r) zak)) zaE
      (zaD (zbg ((zcj rfl zaf (zad zaf zak))).e zaE)
      (zaD (zbg (zaM (zad zaf (zad zaf zak))) zaE)
      (zaD (zcI (zcC (st_b (zaM (zad zaf (zad ((zd1 (zad zaf (zad zaf zak)))).e zak)))))
      (za6 zd0)
      zbn)
      (zaD (zcI (zcC (st_b (zaM (zad zaf (zad zaf (zad ((zd1 (zad zaf (zad zaf zak)))).e zak))))))
      (za6 zd0)
      zbn)
      (zaD (zcI (zgm (zcC (st_b (zaM (zad (zfu rfl zaf (zad zaf zak)) (zad zaf zak))))) (zbc (zan zhI zac zac)))
      (za6 zd0)
      zbn)
      (zaD (zbg zaf zaE)
      (zbg (zan zkv zac ((zaM (zad zaf (zad (zan zbI (zal).r zac) (zad zaf zak))))).r) zaE))))))))
      (zaD (zcI (zgm (zcC (st_b (zaM (zad (zfu rfl zaf (zad zaf zak)) (zad (zaM (zad zaf (zad zaf zak))) zak))))) (zbc (zan zhI ((zaM (zad zaf (zad zaf zak)))).r zac)))
      (za6 zd0)
      zbn)
      (zaD (zla (zcj rfl zaf (zad zaf zak)) zal)
      (za6 (zis (zaM (zad ((zcj rfl zaf (zad zaf zak))).e (zad ((zgN zgC ((zeC (zad zal zak))).e.r ((zd8 zcX (zav zac zaJ))).e.r)).e zak))) (zaM (zad (zfu rfl zaf zak) (zad (zan zer ((zbO zbt (zav zac zaJ))).r (zal).r) zak)))))))))) rfl h⟩
abbrev zdp:Stmt:=top 25
theorem sc_law_far:FnScope ["_law_lengths_here","_law_many","_law_case","_law_some"] ["_law_lengths_here","_law_many","_law_case"] (zai zdp):=⟨rfl,rfl,rfl,by decide +kernel,rfl,by decide +kernel,by decide +kernel⟩
theorem zjW {f:Addr} {fd:FuncData} (F:Fun K "_law_far" "_law_far" zdp f fd) (T:Txt K mg ad)  : FnOk P w K mg base CX0 1 f fd ["_law_lengths_here","_law_many","_law_case"] (spM (KX K ad) (xoK (KX K ad)) zch):=by
  refine F.ok sc_law_far (fun vs H Q E h=>zbj h) (fun cdv A outer s H vs Q E hr h=>?_)
  have hu:=zbX hr
  exact ⟨_,(zah (zbf (i:=3) sc_law_far.nd rfl (by first | exact Or.inl rfl | exact Or.inr rfl) (zby zbe (by rfl) T.list boot_list (zab (pv 2) zae)))
      (zah (zcH (zbh zid (zaA zas (by rfl) T.len PySem.boot_len (zab (pv 2) zae)) (pv 1) (zbE _))
      (zaj (zbf (i:=3) sc_law_far.nd rfl (by first | exact Or.inl rfl | exact Or.inr rfl) (zaV zfq (pv 3) (zcc rfl (za8 rfl T.range (zab (zaA zas (by rfl) T.len PySem.boot_len (zab (pv 0) zae)) zae)) (zcm (zai zdp) ["_law_lengths_here","_law_many","_law_case","_law_some"] ["_law_case","_law_p"] [2] 1 rfl rfl rfl (by decide +kernel) (by decide +kernel) (by decide +kernel) rfl (by decide +kernel) (fun cl C s H fp pins=>(zaT (i:=1) (show List.Nodup (["_law_case","_law_p"]:List Str) by decide +kernel) rfl (Or.inl rfl))) (fun cl C s H fp pins=>(pv 1)) (Or.inr ⟨_,_,rfl,rfl,fun cl C s H fp pins=>((zgr (zbh zj0 (zaA zas (by rfl) (by exact T.len) PySem.boot_len (zab (pv 0) zae)) zam (zbE _)) (zeP (zbh zlg (pv 1) (zbd zlx (pv 0) (zgo zew zam) (fun _ _=>rfl)) (zbE _))))).pt⟩))))))
      zbp)
      (zaj (zaS (zaA (zhJ rfl) (by rfl) T.max boot_max (zab (zcc rfl (zc5 (pv 0)) (zcm (zai zdp) ["_law_lengths_here","_law_many","_law_case","_law_some"] ["_law_some","_law_row"] [3] 1 rfl rfl rfl (by decide +kernel) (by decide +kernel) (by decide +kernel) rfl (by decide +kernel) (fun cl C s H fp pins=>(zaT (i:=1) (show List.Nodup (["_law_some","_law_row"]:List Str) by decide +kernel) rfl (by first | exact Or.inl rfl | exact Or.inr rfl))) (fun cl C s H fp pins=>(zaA (zir rfl) (by rfl) (by exact T.min) boot_min (zab (zcc rfl (zc5 (pv 0)) (zcm (zi3 _ (zai zdp)) ["_law_some","_law_row"] ["_law_row","_law_p"] [1] 1 rfl rfl rfl (by decide +kernel) (by decide +kernel) (by decide +kernel) rfl (by decide +kernel) (fun cl C s H fp pins=>(zaT (i:=1) (show List.Nodup (["_law_row","_law_p"]:List Str) by decide +kernel) rfl (Or.inl rfl))) (fun cl C s H fp pins=>(zbd zaC (pv 0) (pv 1) (fun _ _=>rfl))) (Or.inl ⟨rfl,rfl⟩))) zae))) (Or.inl ⟨rfl,rfl⟩))) zae)))))),zcE (K:=(KX K ad)) (XO:=(xoK (KX K ad))) (E:=E) (np:=3) (nv:=1) (m:=zhP)
      (zaD (zbg ((zd8 zcX (zav zac zaJ))).e zaE)
      (zaD (zcI (zbc (zan zhI ((zbO zbt (zav zac zaJ))).r zac))
      (zbg ((zgN zgC zac ((zbZ (za4 len1 (zad (zbO zbt (zav zac zaJ)) zak)).c (by decide) zbi zbA (Or.inr ⟨_,_,rfl,rfl,(zgm (zbc (zan zjS ((zbO zbt (zav zac zaJ))).r (zal).r)) (zbc (zan zlQ zac ((zan zkI zac ((zgs zet (zal).r)).r)).r)))⟩) zaf)).e.r)).e zaE)
      zbn)
      (za6 (zbO zhf (zav ((zbZ (zdC zac) (by decide) zbi zbA (Or.inl ⟨rfl,rfl⟩) (zbO zhf (zav ((zbZ (zdC zac) (by decide) zbi zbA (Or.inl ⟨rfl,rfl⟩) (zan zaX zac zac))).e.r zaJ)))).e.r zaJ))))) rfl h⟩
abbrev zbF:Stmt:=top 27
theorem sc_law_place_ways:FnScope ["_law_lengths_here","_law_many","_law_case","_law_later"] ["_law_lengths_here","_law_many","_law_case"] (zai zbF):=⟨rfl,rfl,rfl,by decide +kernel,rfl,by decide +kernel,by decide +kernel⟩
theorem zfo {f:Addr} {fd:FuncData} (F:Fun K "_law_place_ways" "_law_place_ways" zbF f fd) (T:Txt K mg ad)  : FnOk P w K mg base CX0 1 f fd ["_law_lengths_here","_law_many","_law_case"] (spO (KX K ad) (xoK (KX K ad)) zaN):=by
  refine F.ok sc_law_place_ways (fun vs H Q E h=>zeF h) (fun cdv A outer s H vs Q E hr h=>?_)
  have hu:=zbX hr
  exact ⟨_,(zah (zbf (i:=3) sc_law_place_ways.nd rfl (by first | exact Or.inl rfl | exact Or.inr rfl) (zcc rfl (za8 rfl T.range (zab (zaA zas (by rfl) T.len PySem.boot_len (zab (pv 0) zae)) zae)) (zcm (zai zbF) ["_law_lengths_here","_law_many","_law_case","_law_later"] ["_law_case","_law_p"] [2] 1 rfl rfl rfl (by decide +kernel) (by decide +kernel) (by decide +kernel) rfl (by decide +kernel) (fun cl C s H fp pins=>(zaT (i:=1) (show List.Nodup (["_law_case","_law_p"]:List Str) by decide +kernel) rfl (Or.inl rfl))) (fun cl C s H fp pins=>(pv 1)) (Or.inr ⟨_,_,rfl,rfl,fun cl C s H fp pins=>((zgr (zbh zj0 (zaA zas (by rfl) (by exact T.len) PySem.boot_len (zab (pv 0) zae)) zam (zbE _)) (zeP (zbh zlg (pv 1) (zbd zlx (pv 0) (zgo zew zam) (fun _ _=>rfl)) (zbE _))))).pt⟩))))
      (zaj (zaS (zcc rfl (znn rfl T.enumerate (zab (pv 3) zae)) (zcm (zai zbF) ["_law_lengths_here","_law_many","_law_case","_law_later"] ["_law_many","_law_later","_law_case","_law_k","_law_p"] [1,3,2] 2 rfl rfl rfl (by decide +kernel) (by decide +kernel) (by decide +kernel) rfl (by decide +kernel) (fun cl C s H fp pins=>(zmS rfl (zfR (zaT (i:=3) (show List.Nodup (["_law_many","_law_later","_law_case","_law_k","_law_p"]:List Str) by decide +kernel) rfl (Or.inl rfl)) (zfR (zaT (i:=4) (show List.Nodup (["_law_many","_law_later","_law_case","_law_k","_law_p"]:List Str) by decide +kernel) rfl (Or.inl rfl)) zkE)))) (fun cl C s H fp pins=>(pv 4)) (Or.inr ⟨_,_,rfl,rfl,fun cl C s H fp pins=>(zbh zo1 (zaV zev (zaA zas (by rfl) (by exact T.len) PySem.boot_len (zab (pv 1) zae)) (pv 3)) (zaV zev (pv 0) (zaA zas (by rfl) (by exact T.len) PySem.boot_len (zab (pv 2) zae))) (zbE _))⟩)))))),zfX (K:=(KX K ad)) (XO:=(xoK (KX K ad))) (E:=E) (np:=3) (nv:=1) (m:=zdL)
      (zaD (zbg ((zbZ (za4 len1 (zad (zbO zbt (zav zac zaJ)) zak)).c (by decide) zbi zbA (Or.inr ⟨_,_,rfl,rfl,(zgm (zbc (zan zjS ((zbO zbt (zav zac zaJ))).r (zal).r)) (zbc (zan zlQ zac ((zan zkI zac ((zgs zet (zal).r)).r)).r)))⟩) zaf)).e zaE)
      (zfh (zbZ (zl8 (zav zac zaJ)) (by decide) (zmY (zfP zbi (zfP zbi zln))) (zoO (zjm zbA (zjm zbA zm6))) (Or.inr ⟨_,_,rfl,rfl,(zbc (zan zoT ((zan zer ((zbO zbt (zav zac zaJ))).r zac)).r ((zan zer zac ((zbO zbt (zav zac zaJ))).r)).r))⟩) zaf))) rfl h⟩
abbrev zeQ:Stmt:=top 8
theorem zjE:FnScope ["lengths","place","some"] ["lengths","place","some"] (zai zeQ):=⟨rfl,rfl,rfl,by decide +kernel,rfl,by decide +kernel,by decide +kernel⟩
theorem zj3 {f:Addr} {fd:FuncData} (F:Fun K "nearest" "nearest" zeQ f fd) (T:Txt K mg ad)  : FnOk P w K mg base CX0 1 f fd ["lengths","place","some"] (spM (KX K ad) (xoK (KX K ad)) zdk):=by
  refine F.ok zjE (fun vs H Q E h=>zbj h) (fun cdv A outer s H vs Q E hr h=>?_)
  have hu:=zbX hr
  exact ⟨_,(zaj (zaS (zaA (zir rfl) (by rfl) T.min boot_min (zab (zcc rfl (zc5 (pv 2)) (zcm (zai zeQ) ["lengths","place","some"] ["lengths","place","other"] [0,1] 1 rfl rfl rfl (by decide +kernel) (by decide +kernel) (by decide +kernel) rfl (by decide +kernel) (fun cl C s H fp pins=>(zaT (i:=2) (show List.Nodup (["lengths","place","other"]:List Str) by decide +kernel) rfl (Or.inl rfl))) (fun cl C s H fp pins=>(zbd zaC (zbd zaC (pv 0) (pv 1) (fun _ _=>rfl)) (pv 2) (fun _ _=>rfl))) (Or.inl ⟨rfl,rfl⟩))) zae)))),zcE (K:=(KX K ad)) (XO:=(xoK (KX K ad))) (E:=E) (np:=3) (nv:=0) (m:=zh4)
      (za6 (zbO zhf (zav ((zbZ (zdC zac) (by decide) zbi zbA (Or.inl ⟨rfl,rfl⟩) (zan zaX ((zan zaX zac zac)).r zac))).e.r zaJ))) rfl h⟩
abbrev zgR:Stmt:=top 9
theorem zmx:FnScope ["lengths","some"] ["lengths","some"] (zai zgR):=⟨rfl,rfl,rfl,by decide +kernel,rfl,by decide +kernel,by decide +kernel⟩
theorem zl5 {f:Addr} {fd:FuncData} (F:Fun K "reach" "reach" zgR f fd) (T:Txt K mg ad) (G_nearest:Has P w K mg base CX0 1 "nearest" ["lengths","place","some"] (spM (KX K ad) (xoK (KX K ad)) zdk)):FnOk P w K mg base CX0 2 f fd ["lengths","some"] (spM (KX K ad) (xoK (KX K ad)) zff):=by
  refine F.ok zmx (fun vs H Q E h=>zbj h) (fun cdv A outer s H vs Q E hr h=>?_)
  have hu:=zbX hr
  exact ⟨_,(zaj (zaS (zaA (zhJ rfl) (by rfl) T.max boot_max (zab (zcc rfl (za8 rfl T.range (zab (zaA zas (by rfl) T.len PySem.boot_len (zab (pv 0) zae)) zae)) (zcm (zai zgR) ["lengths","some"] ["lengths","some","place"] [0,1] 1 rfl rfl rfl (by decide +kernel) (by decide +kernel) (by decide +kernel) rfl (by decide +kernel) (fun cl C s H fp pins=>(zaT (i:=2) (show List.Nodup (["lengths","some","place"]:List Str) by decide +kernel) rfl (Or.inl rfl))) (fun cl C s H fp pins=>(zaW G_nearest (hr.mono (by decide)) (by rfl) za0 (zab (pv 0) (zab (pv 2) (zab (pv 1) zae))))) (Or.inl ⟨rfl,rfl⟩))) zae)))),zcE (K:=(KX K ad)) (XO:=(xoK (KX K ad))) (E:=E) (np:=2) (nv:=0) (m:=zlt)
      (za6 (zbO zhf (zav ((zbZ (za4 len1 (zad (zbO zbt (zav zac zaJ)) zak)).c (by decide) zbi zbA (Or.inl ⟨rfl,rfl⟩) (zaM (zad zaf (zad zaf (zad zaf zak)))))).e.r zaJ))) rfl h⟩
abbrev zca:Stmt:=zdg (top 15) 3
theorem sc_PlaceQuestion_low:FnScope ["self","case","some"] ["self","case"] (zai zca):=⟨rfl,rfl,rfl,by decide +kernel,rfl,by decide +kernel,by decide +kernel⟩
theorem zep {f:Addr} {fd:FuncData} (F:Fun K "low" "PlaceQuestion.low" zca f fd) (T:Txt K mg ad) (G_behind_last:Has P w K mg base CX0 1 "behind_last" ["case"] (spM (KX K ad) (xoK (KX K ad)) zaY)) (G_reach:Has P w K mg base CX0 2 "reach" ["lengths","some"] (spM (KX K ad) (xoK (KX K ad)) zff)):FnOk P w K mg base CX0 3 f fd ["self","case"] (spM (KX K ad) (xoK (KX K ad)) zaH):=by
  refine F.ok sc_PlaceQuestion_low (fun vs H Q E h=>zbj h) (fun cdv A outer s H vs Q E hr h=>?_)
  have hu:=zbX hr
  exact ⟨_,(zah (zbf (i:=2) sc_PlaceQuestion_low.nd rfl (by first | exact Or.inl rfl | exact Or.inr rfl) (zby zbe (by rfl) T.list boot_list (zab (pv 1) zae)))
      (zah (zcH (zbh zid (zaA zas (by rfl) T.len PySem.boot_len (zab (pv 1) zae)) (zeS (pv 0) rfl) (zbE _))
      (zaj (znU (i:=2) sc_PlaceQuestion_low.nd rfl (by first | exact Or.inl rfl | exact Or.inr rfl) (zby (zgd rfl) (by rfl) T.list boot_list (zab (zkY (by rfl) T.range (zab (zaW G_behind_last (hr.mono (by decide)) (by rfl) za0 (zab (pv 1) zae)) (zab (zaA zas (by rfl) T.len PySem.boot_len (zab (zeS (pv 0) rfl) zae)) zae))) zae)) zoL))
      zbp)
      (zaj (zaS (zaW G_reach (hr.mono (by decide)) (by rfl) za0 (zab (zeS (pv 0) rfl) (zab (pv 2) zae))))))),zcE (K:=(KX K ad)) (XO:=(xoK (KX K ad))) (E:=E) (np:=2) (nv:=1) (m:=zcZ)
      (zaD (zov (zd8 zcX (zav zac zaJ)))
      (zaD (zcI (zbc (zan zhI ((zbO zbt (zav zac zaJ))).r ((ze0 (ziW T) zac)).r))
      (znp (zgy (zad (zaM (zad zaf zak)) (zad (zbO zbt (zav ((ze0 (zcM T) zac)).r zaJ)) zak))))
      zbn)
      (za6 (zi1 (zfS (ze0 (zcM T) zac) (zkT zfg)))))) rfl h⟩
abbrev zbH:Stmt:=zdg (top 15) 4
theorem zdA:FnScope ["self","case"] ["self","case"] (zai zbH):=⟨rfl,rfl,rfl,by decide +kernel,rfl,by decide +kernel,by decide +kernel⟩
theorem zdx {f:Addr} {fd:FuncData} (F:Fun K "answer" "PlaceQuestion.answer" zbH f fd) (T:Txt K mg ad)  : FnOk P w K mg base CX0 1 f fd ["self","case"] (spO (KX K ad) (xoK (KX K ad)) zaK):=by
  refine F.ok zdA (fun vs H Q E h=>zeF h) (fun cdv A outer s H vs Q E hr h=>?_)
  have hu:=zbX hr
  exact ⟨_,(zaj (zaS (zby zbe (by rfl) T.list boot_list (zab (pv 1) zae)))),zfX (K:=(KX K ad)) (XO:=(xoK (KX K ad))) (E:=E) (np:=2) (nv:=0) (m:=zco)
      (zfh (zd8 zcX (zav zac zaJ))) rfl h⟩
abbrev zbU:Stmt:=zdg (top 15) 1
theorem zdR:FnScope ["self"] ["self"] (zai zbU):=⟨rfl,rfl,rfl,by decide +kernel,rfl,by decide +kernel,by decide +kernel⟩
theorem zdS {f:Addr} {fd:FuncData} (F:Fun K "steps" "PlaceQuestion.steps" zbU f fd) (T:Txt K mg ad)  : FnOk P w K mg base CX0 1 f fd ["self"] (spM (KX K ad) (xoK (KX K ad)) za1):=by
  refine F.ok zdR (fun vs H Q E h=>zbj h) (fun cdv A outer s H vs Q E hr h=>?_)
  have hu:=zbX hr
  exact ⟨_,(zaj (zaS (zeS (pv 0) rfl))),zcE (K:=(KX K ad)) (XO:=(xoK (KX K ad))) (E:=E) (np:=1) (nv:=0) (m:=zcw)
      (za6 (ze0 (ziW T) zac)) rfl h⟩
abbrev zd4:Stmt:=top 31
theorem sc_law_places:FnScope ["_law_script","_law_lengths_here","_law_many","_law_question","_law_case","_law_low","_law_k","_law_ways","_law_due"] ["_law_script","_law_lengths_here","_law_many","_law_question"] (zai zd4):=⟨rfl,rfl,rfl,by decide +kernel,rfl,by decide +kernel,by decide +kernel⟩
theorem zgP {f:Addr} {fd:FuncData} (F:Fun K "_law_places" "_law_places" zd4 f fd) (T:Txt K mg ad) (G_law_is:Has P w K mg base CX0 1 "_law_is" ["_law_found","_law_due"] (spM (KX K ad) (xoK (KX K ad)) za7)) (G_law_numbers:Has P w K mg base CX0 2 "_law_numbers" ["_law_found","_law_due"] (spM (KX K ad) (xoK (KX K ad)) zaL)) (G_PlaceQuestion_ways:HasM P w K mg base CX0 2 "ways" ad.PlaceQuestion ["self","case"] (spO (KX K ad) (xoK (KX K ad)) zaz)) (G_law_told_again:Has P w K mg base CX0 3 "_law_told_again" ["_law_question","_law_case","_law_due"] (spM (KX K ad) (xoK (KX K ad)) zaF)) (G_law_next:Has P w K mg base CX0 2 "_law_next" ["_law_script","_law_at","_law_ways"] (spM (KX K ad) (xoK (KX K ad)) zbx)) (G_law_far:Has P w K mg base CX0 1 "_law_far" ["_law_lengths_here","_law_many","_law_case"] (spM (KX K ad) (xoK (KX K ad)) zch)) (G_law_place_ways:Has P w K mg base CX0 1 "_law_place_ways" ["_law_lengths_here","_law_many","_law_case"] (spO (KX K ad) (xoK (KX K ad)) zaN)) (G_PlaceQuestion_low:HasM P w K mg base CX0 3 "low" ad.PlaceQuestion ["self","case"] (spM (KX K ad) (xoK (KX K ad)) zaH)) (G_PlaceQuestion_answer:HasM P w K mg base CX0 1 "answer" ad.PlaceQuestion ["self","case"] (spO (KX K ad) (xoK (KX K ad)) zaK)) (G_PlaceQuestion_steps:HasM P w K mg base CX0 1 "steps" ad.PlaceQuestion ["self"] (spM (KX K ad) (xoK (KX K ad)) za1)):FnOk P w K mg base CX0 4 f fd ["_law_script","_law_lengths_here","_law_many","_law_question"] (spM (KX K ad) (xoK (KX K ad)) zbN):=by
  refine F.ok sc_law_places (fun vs H Q E h=>zbj h) (fun cdv A outer s H vs Q E hr h=>?_)
  have hu:=zbX hr
  exact ⟨_,(zah (zbf (i:=4) sc_law_places.nd rfl (by first | exact Or.inl rfl | exact Or.inr rfl) (zlw zae))
      (zah (zbf (i:=5) sc_law_places.nd rfl (by first | exact Or.inl rfl | exact Or.inr rfl) zam)
      (zah (zcV PassesOwn.never rfl (za8 rfl T.range (zab (pv 2) zae)) (zaT (i:=6) sc_law_places.nd rfl (by first | exact Or.inl rfl | exact Or.inr rfl))
      (zah (zbf (i:=7) sc_law_places.nd rfl (by first | exact Or.inl rfl | exact Or.inr rfl) (zcd G_PlaceQuestion_ways (hr.mono (by decide)) za0 (pv 3) (zab (pv 4) zae)))
      (zah (zbf (i:=8) sc_law_places.nd rfl (by first | exact Or.inl rfl | exact Or.inr rfl) (zaW G_law_far (hr.mono (by decide)) (by rfl) za0 (zab (pv 1) (zab (pv 2) (zab (pv 4) zae)))))
      (zah (zcH (zcA (zcB (zaW G_law_numbers (hr.mono (by decide)) (by rfl) za0 (zab (pv 7) (zab (zaW G_law_place_ways (hr.mono (by decide)) (by rfl) za0 (zab (pv 1) (zab (pv 2) (zab (pv 4) zae)))) zae)))))
      (zaj (zaS zd3))
      zbp)
      (zah (zcH (zcA (zcB (zaW G_law_told_again (hr.mono (by decide)) (by rfl) za0 (zab (pv 3) (zab (pv 4) (zab (zaW G_law_place_ways (hr.mono (by decide)) (by rfl) za0 (zab (pv 1) (zab (pv 2) (zab (pv 4) zae)))) zae))))))
      (zaj (zaS zd3))
      zbp)
      (zah (zcH ((zgr (zcA (zcB (zaW G_law_is (hr.mono (by decide)) (by rfl) za0 (zab (zcd G_PlaceQuestion_low (hr.mono (by decide)) za0 (pv 3) (zab (pv 4) zae)) (zab (pv 8) zae))))) (zeP (zbh zid (pv 8) (pv 5) (zbE _))))).pt
      (zaj (zaS zd3))
      zbp)
      (zah (zbf (i:=5) sc_law_places.nd rfl (by first | exact Or.inl rfl | exact Or.inr rfl) (pv 8))
      (zaj (zbf (i:=4) sc_law_places.nd rfl (by first | exact Or.inl rfl | exact Or.inr rfl) (zaV zko (pv 4) (zaW G_law_next (hr.mono (by decide)) (by rfl) za0 (zab (pv 0) (zab (zaV zbK zam (pv 6)) (zab (pv 7) zae))))))))))))))
      (zah (zbf (i:=8) sc_law_places.nd rfl (by first | exact Or.inl rfl | exact Or.inr rfl) (zaW G_law_far (hr.mono (by decide)) (by rfl) za0 (zab (pv 1) (zab (pv 2) (zab (pv 4) zae)))))
      (zah (zcH ((zgr (zcA (zcB (zaW G_law_is (hr.mono (by decide)) (by rfl) za0 (zab (zcd G_PlaceQuestion_low (hr.mono (by decide)) za0 (pv 3) (zab (pv 4) zae)) (zab (pv 8) zae))))) (zeP (zbh zid (pv 8) (pv 5) (zbE _))))).pt
      (zaj (zaS zd3))
      zbp)
      (zah (zdv (znC PySem.F.plainAttrs_list PySem.F.slot_list_append PySem.F.type_list_append zfe (zcd G_PlaceQuestion_answer (hr.mono (by decide)) za0 (pv 3) (zab (pv 4) zae)) (zab zam zae)))
      (zaj (zaS (zig (zaW G_law_numbers (hr.mono (by decide)) (by rfl) za0 (zab (zcd G_PlaceQuestion_answer (hr.mono (by decide)) za0 (pv 3) (zab (pv 4) zae)) (zab (zby zbe (by rfl) T.list boot_list (zab (pv 4) zae)) zae))) (zjx (zaW G_law_is (hr.mono (by decide)) (by rfl) za0 (zab (zi0 G_PlaceQuestion_steps (hr.mono (by decide)) za0 (pv 3)) (zab (pv 2) zae))))))))))))),zcE (K:=(KX K ad)) (XO:=(xoK (KX K ad))) (E:=E) (np:=4) (nv:=5) (m:=zfB)
      (zaD (zbg (zlP zak) zaE)
      (zaD (zbg zal zaE)
      (zaD (zdH (za4 len1 (zad zaf zak)) zaE
      (zaD (zbg ((zcj rfl zaf (zad zaf zak))).e zaE)
      (zaD (zbg (zaM (zad zaf (zad zaf (zad zaf zak)))) zaE)
      (zaD (zcI (zcC (st_b (zaM (zad zaf (zad ((zd1 (zad zaf (zad zaf (zad zaf zak))))).e zak)))))
      (za6 zd0)
      zbn)
      (zaD (zcI (zcC (st_b (zaM (zad zaf (zad zaf (zad ((zd1 (zad zaf (zad zaf (zad zaf zak))))).e zak))))))
      (za6 zd0)
      zbn)
      (zaD (zcI (zgm (zcC (st_b (zaM (zad (zfu rfl zaf (zad zaf zak)) (zad zaf zak))))) (zbc (zan zhI zac zac)))
      (za6 zd0)
      zbn)
      (zaD (zbg zaf zaE)
      (zbg (zan zkv zac ((zaM (zad zaf (zad (zan zbI (zal).r zac) (zad zaf zak))))).r) zaE))))))))
      (zaD (zbg (zaM (zad zaf (zad zaf (zad zaf zak)))) zaE)
      (zaD (zcI (zgm (zcC (st_b (zaM (zad (zfu rfl zaf (zad zaf zak)) (zad zaf zak))))) (zbc (zan zhI zac zac)))
      (za6 zd0)
      zbn)
      (zaD (zla (zcj rfl zaf (zad zaf zak)) zal)
      (za6 (zis (zaM (zad ((zcj rfl zaf (zad zaf zak))).e (zad ((zd8 zcX (zav zac zaJ))).e zak))) (zaM (zad (zfu rfl zaf zak) (zad zaf zak))))))))))) rfl h⟩
abbrev zcF:Stmt:=top 32
theorem sc_law_refused:FnScope ["_law_lengths_here","_law_way_here","_law_caught","_law_bent","error"] ["_law_lengths_here","_law_way_here"] (zai zcF):=⟨rfl,rfl,rfl,by decide +kernel,rfl,by decide +kernel,by decide +kernel⟩
theorem zgp {f:Addr} {fd:FuncData} (F:Fun K "_law_refused" "_law_refused" zcF f fd) (T:Txt K mg ad) (G_RoundQuestion___init__:HasC P w K mg base (CX1 P w) 2 "RoundQuestion" ad.RoundQuestion ["self","lengths"] (spX (KX K ad) 3 zau)) (G_PlaceQuestion___init__:HasC P w K mg base (CX1 P w) 2 "PlaceQuestion" ad.PlaceQuestion ["self","lengths","many"] (spX (KX K ad) 4 zat)):FnOk P w K mg base CX0 4 f fd ["_law_lengths_here","_law_way_here"] (spM (KX K ad) (xoK (KX K ad)) zbW):=by
  refine F.ok sc_law_refused (fun vs H Q E h=>zbj h) (fun cdv A outer s H vs Q E hr h=>?_)
  have hu:=zbX hr
  exact ⟨_,(zah (zbf (i:=2) sc_law_refused.nd rfl (by first | exact Or.inl rfl | exact Or.inr rfl) zmZ)
      (zah (ziT (i:=3) sc_law_refused.nd rfl (by first | exact Or.inl rfl | exact Or.inr rfl) rfl (zc5 (pv 0)) (zcm (zai zcF) ["_law_lengths_here","_law_way_here","_law_caught","_law_bent","error"] ["_law_row"] [] 1 rfl rfl rfl (by decide +kernel) (by decide +kernel) (by decide +kernel) rfl (by decide +kernel) (fun cl C s H fp pins=>(zaT (i:=0) (show List.Nodup (["_law_row"]:List Str) by decide +kernel) rfl (Or.inl rfl))) (fun cl C s H fp pins=>(zby zbe (by rfl) T.list boot_list (zab (pv 0) zae))) (Or.inl ⟨rfl,rfl⟩)) rfl)
      (zah (zcH ((zow (zbh zlg (zaA zas (by rfl) T.len PySem.boot_len (zab (pv 0) zae)) zam (zbE _)) (zng (zbh zlg (pv 1) zam (zbE _))))).pt
      (zah (zii (zaV zbK (zaV zbK (zbd zaC (zbd zaC (pv 0) zam (fun _ _=>rfl)) zam (fun _ _=>rfl)) (zbd zaC (zbd zaC (pv 0) zam (fun _ _=>rfl)) (zgo zew zam) (fun _ _=>rfl))) zam) (zic (zbd zaC (pv 3) zam (fun _ _=>rfl)) (zgo zew zam) zeX))
      (zaj (zii (zbd zaC (zbd zaC (pv 3) zam (fun _ _=>rfl)) (zgo zew zam) (fun _ _=>rfl)) (zic (zbd zaC (pv 3) (zgo zew zam) (fun _ _=>rfl)) zam zeX))))
      (zaj (zii (zaV zbK (zbd zaC (zbd zaC (pv 3) zam (fun _ _=>rfl)) (zgo zew zam) (fun _ _=>rfl)) zam) (zic (zbd zaC (pv 3) zam (fun _ _=>rfl)) (zgo zew zam) zeX))))
      (zah (zoG (i:=4) rfl rfl rfl sc_law_refused.nd rfl rfl (by rfl) T.m_EnoughError T.b_EnoughError (fun E pl xe hpx=>(zaj (zcH (zbh zj0 (zaV zdj (pv 1) zam) zam (zbE _))
      (zaj (zdv (zjj G_RoundQuestion___init__ (hr.mono (by decide)) (by rfl) hpx (zab (pv 3) zae))))
      (zaj (zdv (zjj G_PlaceQuestion___init__ (hr.mono (by decide)) (by rfl) hpx (zab (pv 3) (zab zam zae))))))))
      (fun ea=>(zaj (zbf (i:=2) sc_law_refused.nd rfl (by first | exact Or.inl rfl | exact Or.inr rfl) (pv 4)))))
      (zaj (zaS (zig (zkH znF (pv 2) zmZ (zbE _)) (zjx (zaA zfO (by rfl) T.isinstance boot_isinstance (zab (pv 2) (zab (ziM (v:=.ref ad.NoLengths) (by rfl) T.m_NoLengths rfl) zae))))))))))),zcE (K:=(KX K ad)) (XO:=(xoK (KX K ad))) (E:=E) (np:=2) (nv:=3) (m:=zeU)
      (zaD (zbg zm2 zaE)
      (zaD (zlE (zeN (zdC zac) (by decide) zbi zbA (zd8 zcX (zav zac zaJ))))
      (zaD (zcI (znZ (zbc (zan zlQ ((zbO zbt (zav zac zaJ))).r (zal).r)) (zbc (zan zlQ zac (zal).r)))
      (zaD (zfT zal (zgs zet (zal).r) (zan zbI ((zan zbI ((zan zaX ((zan zaX zac (zal).r)).r (zal).r)).r ((zan zaX ((zan zaX zac (zal).r)).r ((zgs zet (zal).r)).r)).r)).r (zal).r))
      (zfT (zgs zet (zal).r) zal (ziO (zan zaX ((zan zaX zac (zal).r)).r ((zgs zet (zal).r)).r))))
      (zfT zal (zgs zet (zal).r) (ziO (zan zbI ((zan zaX ((zan zaX zac (zal).r)).r ((zgs zet (zal).r)).r)).r (zal).r))))
      (zaD (zn8 (zgw T) (fun _=>(zcI (zbc (zan zjS ((zan zdl zac (zal).r)).r (zal).r))
      (zlX ((zhW rfl (zjc zfg))).e)
      (zlX ((zhW rfl (zjc (zfS zal zfg)))).e)))
      (zbg zaf zaE))
      (za6 (zis (zan zmp zac (zm2).r) (znt rfl (zh0 T) zac))))))) rfl h⟩
abbrev zf8:Stmt:=top 33
theorem sc_law:FnScope ["_law_script","_law_size","_law_lengths_here","_law_many","_law_handed","_law_rounds_here","_law_places_here","_law_table","_law_row","_law_way_here"] ["_law_script"] (zai zf8):=⟨rfl,rfl,rfl,by decide +kernel,rfl,by decide +kernel,by decide +kernel⟩
theorem zn2 {f:Addr} {fd:FuncData} (F:Fun K "law" "law" zf8 f fd) (T:Txt K mg ad) (G_law_cell_at:Has P w K mg base CX0 1 "_law_cell_at" ["_law_script","_law_k"] (spM (KX K ad) (xoK (KX K ad)) zay)) (G_law_lengths:Has P w K mg base CX0 3 "_law_lengths" ["_law_script","_law_many"] (spO (KX K ad) (xoK (KX K ad)) zbV)) (G_RoundQuestion___init__:HasC P w K mg base (CX1 P w) 2 "RoundQuestion" ad.RoundQuestion ["self","lengths"] (spX (KX K ad) 3 zau)) (G_PlaceQuestion___init__:HasC P w K mg base (CX1 P w) 2 "PlaceQuestion" ad.PlaceQuestion ["self","lengths","many"] (spX (KX K ad) 4 zat)) (G_law_rounds:Has P w K mg base CX0 4 "_law_rounds" ["_law_script","_law_lengths_here","_law_question"] (spM (KX K ad) (xoK (KX K ad)) zbP)) (G_law_places:Has P w K mg base CX0 4 "_law_places" ["_law_script","_law_lengths_here","_law_many","_law_question"] (spM (KX K ad) (xoK (KX K ad)) zbN)) (G_law_refused:Has P w K mg base CX0 4 "_law_refused" ["_law_lengths_here","_law_way_here"] (spM (KX K ad) (xoK (KX K ad)) zbW)):FnOk P w K mg base CX0 5 f fd ["_law_script"] (zi8 K):=by
  refine F.ok sc_law (fun vs H Q E h=>?_) (fun cdv A outer s H vs Q E hr h=>?_)
  · obtain ⟨a,ns,rfl,_⟩:=h
    rfl
  · obtain ⟨a,ns,rfl,hS,hlen,hq⟩:=h
    have hu:=zbX hr
    exact ⟨_,(zah (zbf (i:=1) sc_law.nd rfl (by first | exact Or.inl rfl | exact Or.inr rfl) (zaV zbK zam (zaV zdj (zaW G_law_cell_at (hr.mono (by decide)) (by rfl) za0 (zab (pv 0) (zab zam zae))) zam)))
      (zah (zbf (i:=2) sc_law.nd rfl (by first | exact Or.inl rfl | exact Or.inr rfl) (zaW G_law_lengths (hr.mono (by decide)) (by rfl) za0 (zab (pv 0) (zab (pv 1) zae))))
      (zah (zbf (i:=3) sc_law.nd rfl (by first | exact Or.inl rfl | exact Or.inr rfl) (zaV zbK zam (zaV zdj (zaV zhc (zaW G_law_cell_at (hr.mono (by decide)) (by rfl) za0 (zab (pv 0) (zab zam zae))) zam) (pv 1))))
      (zah (zbf (i:=4) sc_law.nd rfl (by first | exact Or.inl rfl | exact Or.inr rfl) (ze2 (zab (zcc rfl (zc5 (pv 2)) (zcm (zai zf8) ["_law_script","_law_size","_law_lengths_here","_law_many","_law_handed","_law_rounds_here","_law_places_here","_law_table","_law_row","_law_way_here"] ["_law_row"] [] 1 rfl rfl rfl (by decide +kernel) (by decide +kernel) (by decide +kernel) rfl (by decide +kernel) (fun cl C s H fp pins=>(zaT (i:=0) (show List.Nodup (["_law_row"]:List Str) by decide +kernel) rfl (Or.inl rfl))) (fun cl C s H fp pins=>(zby zbe (by rfl) T.list boot_list (zab (pv 0) zae))) (Or.inl ⟨rfl,rfl⟩))) (zab (zcc rfl (zc5 (pv 2)) (zcm (zai zf8) ["_law_script","_law_size","_law_lengths_here","_law_many","_law_handed","_law_rounds_here","_law_places_here","_law_table","_law_row","_law_way_here"] ["_law_row"] [] 1 rfl rfl rfl (by decide +kernel) (by decide +kernel) (by decide +kernel) rfl (by decide +kernel) (fun cl C s H fp pins=>(zaT (i:=0) (show List.Nodup (["_law_row"]:List Str) by decide +kernel) rfl (Or.inl rfl))) (fun cl C s H fp pins=>(zby zbe (by rfl) T.list boot_list (zab (pv 0) zae))) (Or.inl ⟨rfl,rfl⟩))) zae))))
      (zah (zbf (i:=5) sc_law.nd rfl (by first | exact Or.inl rfl | exact Or.inr rfl) (zkJ G_RoundQuestion___init__ (hr.mono (by decide)) (by rfl) zoD (zab (zbd zaC (pv 4) zam (fun _ _=>rfl)) zae)))
      (zah (zbf (i:=6) sc_law.nd rfl (by first | exact Or.inl rfl | exact Or.inr rfl) (zkJ G_PlaceQuestion___init__ (hr.mono (by decide)) (by rfl) zoD (zab (zbd zaC (pv 4) zam (fun _ _=>rfl)) (zab (pv 3) zae))))
      (zah (zcH ((zgr (zcA (zcB (zaA zbR (by rfl) T.isinstance boot_isinstance (zab (pv 5) (zab (ziM (v:=.ref ad.Question) (by rfl) T.m_Question rfl) zae))))) (zgr (zcA (zcB (zaA zbR (by rfl) T.isinstance boot_isinstance (zab (pv 6) (zab (ziM (v:=.ref ad.Question) (by rfl) T.m_Question rfl) zae))))) (zeP (zbh (zn1 hr.units) (pv 4) (ze2 (zab (pv 2) (zab (pv 2) zae))) (zbE _)))))).pt
      (zaj (zaS zd3))
      zbp)
      (zah (zcV PassesOwn.never rfl (zc5 (pv 4)) (zaT (i:=7) sc_law.nd rfl (by first | exact Or.inl rfl | exact Or.inr rfl))
      (zah (zcV PassesOwn.never rfl (zc5 (pv 7)) (zaT (i:=8) sc_law.nd rfl (by first | exact Or.inl rfl | exact Or.inr rfl))
      (zaj (zdv (zmL PySem.F.plainAttrs_list PySem.F.slot_list_clear PySem.F.type_list_clear zi4 (pv 8)))))
      (zaj (zdv (zmL PySem.F.plainAttrs_list PySem.F.slot_list_clear PySem.F.type_list_clear zi4 (pv 7))))))
      (zah (zcH ((zgr (zcA (zcB (zaW G_law_rounds (hr.mono (by decide)) (by rfl) za0 (zab (pv 0) (zab (pv 2) (zab (pv 5) zae)))))) (zeP (zcA (zcB (zaW G_law_places (hr.mono (by decide)) (by rfl) za0 (zab (pv 0) (zab (pv 2) (zab (pv 3) (zab (pv 6) zae)))))))))).pt
      (zaj (zaS zd3))
      zbp)
      (zah (zcV PassesOwn.never rfl (za8 rfl T.range (zab zam zae)) (zaT (i:=9) sc_law.nd rfl (by first | exact Or.inl rfl | exact Or.inr rfl))
      (zaj (zcH (zcA (zcB (zaW G_law_refused (hr.mono (by decide)) (by rfl) za0 (zab (pv 2) (zab (pv 9) zae)))))
      (zaj (zaS zd3))
      zbp)))
      (zaj (zaS zd3)))))))))))),zcE (K:=(KX K ad)) (XO:=(xoK (KX K ad))) (E:=E) (np:=1) (nv:=9) (m:=zoH)
      (zaD (zbg (zan zbI (zal).r ((zan zdl ((zaM (zad zaf (zad zal zak)))).r (zal).r)).r) zaE)
      (zaD (zbg ((zd1 (zad zaf (zad zaf zak)))).e zaE)
      (zaD (zbg (zan zbI (zal).r ((zan zdl ((zan zlB ((zaM (zad zaf (zad zal zak)))).r (zal).r)).r zac)).r) zaE)
      (zaD (zmc (zmi (zlm (zeN (zdC zac) (by decide) zbi zbA (zd8 zcX (zav zac zaJ)))) (zlm (zeN (zdC zac) (by decide) zbi zbA (zd8 zcX (zav zac zaJ))))))
      (zaD (zbg ((zgx rfl (zk7 zal zfg))).e zaE)
      (zaD (zbg ((zgx rfl (zk7 zal (zfS zaf zfg)))).e zaE)
      (zaD (zcI (zgm (zcC (st_b (zks (zga T) zac))) (zgm (zcC (st_b (zks (zga T) zac))) (zbc (ziO (zan zom zac ((zeC (zad zaf (zad zaf zak)))).e.r)))))
      (za6 zd0)
      zbn)
      (zaD znu
      (zaD (zcI (zgm (zcC (st_b (zaM (zad zaf (zad zaf (zad zaf zak)))))) (zcC (st_b (zaM (zad zaf (zad zaf (zad zaf (zad zaf zak))))))))
      (za6 zd0)
      zbn)
      (zaD (zdH (za4 len1 (zad zal zak)) zaE
      (zcI (zcC (st_b (zaM (zad zaf (zad zaf zak)))))
      (za6 zd0)
      zbn))
      (za6 zd0))))))))))) rfl (zoa (f:=zob) (law_true ns hlen) hS hq)⟩
end
theorem all_mk {l:PySem.W.OpenLaw} {w:World} {K:PySem.W.Frag} {h:Heap} {mg:Str→Option Value} {fa:Addr} (X:K.In h) (G:h.Ns mainGlobals mg) (hfa:mg "law"=some (.ref fa))
    (d0:∃ f fd,DefAt K "_law_cell_at" zdB f fd)
    (d1:∃ f fd,DefAt K "_law_number" zdU f fd)
    (d2:∃ f fd,DefAt K "_law_spot" zfl f fd)
    (d3:∃ f fd,DefAt K "_law_apart" zeE f fd)
    (d4:∃ f fd,DefAt K "_law_lengths" zbY f fd)
    (d5:∃ f fd,DefAt K "look_at" zf0 f fd)
    (d6:∃ f fd,DefAt K "copied_lengths" zb4 f fd)
    (d7:∃ f fd,DefAt K "_law_way" ze8 f fd)
    (d8:∃ f fd,DefAt K "_law_round_ways" zb8 f fd)
    (d9:∃ f fd,DefAt K "_law_is" zhm f fd)
    (d10:∃ f fd,DefAt K "_law_numbers" zdE f fd)
    (d11:∃ f fd,DefAt K "behind_last" zdw f fd)
    (d12:∃ f fd,DefAt K "_law_told_again" zcy f fd)
    (d13:∃ f fd,DefAt K "way_length" zc3 f fd)
    (d14:∃ f fd,DefAt K "round_length" zdb f fd)
    (d15:∃ f fd,DefAt K "_law_next" zfx f fd)
    (d16:∃ f fd,DefAt K "_law_rounds" zeb f fd)
    (d17:∃ f fd,DefAt K "_law_far" zdp f fd)
    (d18:∃ f fd,DefAt K "_law_place_ways" zbF f fd)
    (d19:∃ f fd,DefAt K "nearest" zeQ f fd)
    (d20:∃ f fd,DefAt K "reach" zgR f fd)
    (d21:∃ f fd,DefAt K "_law_places" zd4 f fd)
    (d22:∃ f fd,DefAt K "_law_refused" zcF f fd)
    {fL:Addr} {oc:Value} {od an:Option Addr} {osl:Array (Option Value)} {kV doc pm cdv ct:Value} (aL:PySem.W.nsIn K mainGlobals "law"=some (some (.ref fL)))
    (lL:K.lookup fL=some ⟨oc,od,.func (PySem.W.fnOf "law" "law" (zdW zf8) (zc9 zf8) (zai zf8) .none kV doc pm an cdv ct),osl⟩) (cL:PySem.W.codeIn K cdv "law"=true) (kL:PySem.W.keepIn K (.ref fL)=true)
    (z0:PySem.W.nsIn K mainGlobals "len"=some none)
    (z1:PySem.W.nsIn K mainGlobals "abs"=some none)
    (z2:PySem.W.nsIn K mainGlobals "isinstance"=some none)
    (z3:PySem.W.nsIn K mainGlobals "list"=some none)
    (z4:PySem.W.nsIn K mainGlobals "sum"=some none)
    (z5:PySem.W.nsIn K mainGlobals "int"=some none)
    (z6:PySem.W.nsIn K mainGlobals "bool"=some none)
    (z7:PySem.W.nsIn K mainGlobals "range"=some none)
    (z8:PySem.W.nsIn K mainGlobals "enumerate"=some none)
    (z9:PySem.W.nsIn K mainGlobals "max"=some none)
    (z10:PySem.W.nsIn K mainGlobals "min"=some none)
    (z11:PySem.W.nsIn K mainGlobals "zip"=some none)
    (z12:PySem.W.nsIn K mainGlobals "ValueError"=some none)
    {cEnoughError cNoLengths cQuestion cRoundQuestion cPlaceQuestion:Addr}
    (un_Question:PySem.W.nsIn K mainGlobals "Question"=some (some (.ref cQuestion)))
    (un_RoundQuestion:PySem.W.nsIn K mainGlobals "RoundQuestion"=some (some (.ref cRoundQuestion)))
    (un_PlaceQuestion:PySem.W.nsIn K mainGlobals "PlaceQuestion"=some (some (.ref cPlaceQuestion)))
    (pzn:PySem.W.specialIn K (.builtin "object.__class__") "__get__"=some (some (.builtin "getset_descriptor.__get__")))
    (pzt:PySem.W.takesIn K (.builtin "object.__class__")=some true)
    (phd_Question:PySem.W.hasDictIn K cQuestion=true)
    (phd_RoundQuestion:PySem.W.hasDictIn K cRoundQuestion=true)
    (phd_PlaceQuestion:PySem.W.hasDictIn K cPlaceQuestion=true)
    (pty_Question:PySem.W.typeIn K (.ref cQuestion)=some (.type "type"))
    (ppg_RoundQuestion:PySem.W.plainGet K cRoundQuestion Str.empty=true)
    (ppo_RoundQuestion:PySem.W.plainOver K cRoundQuestion=true)
    (psa_RoundQuestion:PySem.W.findIn K (.ref cRoundQuestion) "__setattr__"=some (some (.builtin "object.__setattr__")))
    (pna_RoundQuestion_lengths:PySem.W.findIn K (.ref cRoundQuestion) "lengths"=some none)
    (pmk_RoundQuestion:PySem.W.makesIn K cRoundQuestion=true)
    (pkp_RoundQuestion:PySem.W.keepIn K (.ref cRoundQuestion)=true)
    (pha_RoundQuestion:PySem.W.findIn K (.ref cRoundQuestion) "__class__"=some (some (.builtin "object.__class__")))
    (pmo_RoundQuestion:PySem.W.mroIn K cRoundQuestion (.type "object")=some true)
    (pmr_RoundQuestion_Question:PySem.W.mroIn K cRoundQuestion (.ref cQuestion)=some true)
    (pmr_RoundQuestion_RoundQuestion:PySem.W.mroIn K cRoundQuestion (.ref cRoundQuestion)=some true)
    (ppg_PlaceQuestion:PySem.W.plainGet K cPlaceQuestion Str.empty=true)
    (ppo_PlaceQuestion:PySem.W.plainOver K cPlaceQuestion=true)
    (psa_PlaceQuestion:PySem.W.findIn K (.ref cPlaceQuestion) "__setattr__"=some (some (.builtin "object.__setattr__")))
    (pna_PlaceQuestion_lengths:PySem.W.findIn K (.ref cPlaceQuestion) "lengths"=some none)
    (pna_PlaceQuestion_many:PySem.W.findIn K (.ref cPlaceQuestion) "many"=some none)
    (pmk_PlaceQuestion:PySem.W.makesIn K cPlaceQuestion=true)
    (pkp_PlaceQuestion:PySem.W.keepIn K (.ref cPlaceQuestion)=true)
    (pha_PlaceQuestion:PySem.W.findIn K (.ref cPlaceQuestion) "__class__"=some (some (.builtin "object.__class__")))
    (pmo_PlaceQuestion:PySem.W.mroIn K cPlaceQuestion (.type "object")=some true)
    (pmr_PlaceQuestion_Question:PySem.W.mroIn K cPlaceQuestion (.ref cQuestion)=some true)
    (pmr_PlaceQuestion_PlaceQuestion:PySem.W.mroIn K cPlaceQuestion (.ref cPlaceQuestion)=some true)
    (un_EnoughError:PySem.W.nsIn K mainGlobals "EnoughError"=some (some (.ref cEnoughError)))
    (un_NoLengths:PySem.W.nsIn K mainGlobals "NoLengths"=some (some (.ref cNoLengths)))
    (ue_NoLengths:PySem.W.excIn K cNoLengths [.type "ValueError",.type "Exception",.type "BaseException",.type "object"] "ValueError.__new__"=true)
    (ub_EnoughError:PySem.W.mroIn K cEnoughError (.type "BaseException")=some true)
    (uzn:PySem.W.specialIn K (.builtin "object.__class__") "__get__"=some (some (.builtin "getset_descriptor.__get__")))
    (uzt:PySem.W.takesIn K (.builtin "object.__class__")=some true)
    (uhd_EnoughError:PySem.W.hasDictIn K cEnoughError=true)
    (uhd_NoLengths:PySem.W.hasDictIn K cNoLengths=true)
    (uty_EnoughError:PySem.W.typeIn K (.ref cEnoughError)=some (.type "type"))
    (uty_NoLengths:PySem.W.typeIn K (.ref cNoLengths)=some (.type "type"))
    (uga_NoLengths:PySem.W.findIn K (.ref cNoLengths) "__getattribute__"=some (some (.builtin "BaseException.__getattribute__")))
    (ugn_NoLengths:PySem.W.findIn K (.ref cNoLengths) "__getattr__"=some none)
    (uha_NoLengths:PySem.W.findIn K (.ref cNoLengths) "__class__"=some (some (.builtin "object.__class__")))
    (umr_NoLengths_EnoughError:PySem.W.mroIn K cNoLengths (.ref cEnoughError)=some true)
    (umr_NoLengths_NoLengths:PySem.W.mroIn K cNoLengths (.ref cNoLengths)=some true)
    (umt_NoLengths_object:PySem.W.mroIn K cNoLengths (.type "object")=some true)
    (umt_NoLengths_BaseException:PySem.W.mroIn K cNoLengths (.type "BaseException")=some true)
    (umt_NoLengths_ValueError:PySem.W.mroIn K cNoLengths (.type "ValueError")=some true)
    (dm_RoundQuestion___init__:∃ f fd,MethAt K cRoundQuestion "__init__" "RoundQuestion.__init__" zbv f fd)
    (dm_PlaceQuestion___init__:∃ f fd,MethAt K cPlaceQuestion "__init__" "PlaceQuestion.__init__" zbw f fd)
    (dm_RoundQuestion_ways:∃ f fd,MethAt K cRoundQuestion "ways" "RoundQuestion.ways" zbu f fd)
    (dm_PlaceQuestion_ways:∃ f fd,MethAt K cPlaceQuestion "ways" "PlaceQuestion.ways" zb1 f fd)
    (dm_RoundQuestion_answer:∃ f fd,MethAt K cRoundQuestion "answer" "RoundQuestion.answer" zbG f fd)
    (dm_RoundQuestion_low:∃ f fd,MethAt K cRoundQuestion "low" "RoundQuestion.low" zcb f fd)
    (dm_RoundQuestion_steps:∃ f fd,MethAt K cRoundQuestion "steps" "RoundQuestion.steps" zbQ f fd)
    (dm_PlaceQuestion_low:∃ f fd,MethAt K cPlaceQuestion "low" "PlaceQuestion.low" zca f fd)
    (dm_PlaceQuestion_answer:∃ f fd,MethAt K cPlaceQuestion "answer" "PlaceQuestion.answer" zbH f fd)
    (dm_PlaceQuestion_steps:∃ f fd,MethAt K cPlaceQuestion "steps" "PlaceQuestion.steps" zbU f fd)
    : ∃ fd:FuncData,(∀ (s:Shared) (v:Value),BindsTo s fd ⟨[v],[]⟩ [("_law_script",v)])∧∀ base:Heap,K.In base→base.Ns mainGlobals mg→FnOk l.prog w K mg base CX0 5 fa fd ["_law_script"] (zi8 K):=by
  have e:=hfa.symm.trans (PySem.W.mg_of X G aL)
  cases e
  let ad:Adr:=⟨cEnoughError,cNoLengths,cQuestion,cRoundQuestion,cPlaceQuestion⟩
  have T:Txt K mg ad:=⟨PySem.W.mg_none_of X G z0,PySem.W.mg_none_of X G z1,PySem.W.mg_none_of X G z2,PySem.W.mg_none_of X G z3,PySem.W.mg_none_of X G z4,PySem.W.mg_none_of X G z5,PySem.W.mg_none_of X G z6,PySem.W.mg_none_of X G z7,PySem.W.mg_none_of X G z8,PySem.W.mg_none_of X G z9,PySem.W.mg_none_of X G z10,PySem.W.mg_none_of X G z11,PySem.W.mg_none_of X G z12,PySem.W.mg_of X G un_Question,PySem.W.mg_of X G un_RoundQuestion,PySem.W.mg_of X G un_PlaceQuestion,⟨ppg_RoundQuestion,phd_RoundQuestion,ppo_RoundQuestion,psa_RoundQuestion⟩,pna_RoundQuestion_lengths,fun H a dx fs e=>TyOf.ins e ⟨ppg_RoundQuestion,phd_RoundQuestion,ppo_RoundQuestion,psa_RoundQuestion⟩ pha_RoundQuestion pzn pzt pmo_RoundQuestion,ziH phd_Question pty_Question pmr_RoundQuestion_Question pmr_RoundQuestion_RoundQuestion,⟨ppg_PlaceQuestion,phd_PlaceQuestion,ppo_PlaceQuestion,psa_PlaceQuestion⟩,pna_PlaceQuestion_lengths,pna_PlaceQuestion_many,fun H a dx fs e=>TyOf.ins e ⟨ppg_PlaceQuestion,phd_PlaceQuestion,ppo_PlaceQuestion,psa_PlaceQuestion⟩ pha_PlaceQuestion pzn pzt pmo_PlaceQuestion,ziH phd_Question pty_Question pmr_PlaceQuestion_Question pmr_PlaceQuestion_PlaceQuestion,PySem.W.mg_of X G un_EnoughError,PySem.W.mg_of X G un_NoLengths,ue_NoLengths,ub_EnoughError,⟨uga_NoLengths,ugn_NoLengths,uhd_NoLengths,uha_NoLengths,uzn,uzt,umt_NoLengths_object,umt_NoLengths_BaseException⟩,zll uhd_EnoughError uty_EnoughError umr_NoLengths_EnoughError,ziH uhd_NoLengths uty_NoLengths umr_NoLengths_NoLengths umr_NoLengths_NoLengths⟩
  obtain ⟨f0,g0,D0⟩:=d0
  obtain ⟨f1,g1,D1⟩:=d1
  obtain ⟨f2,g2,D2⟩:=d2
  obtain ⟨f3,g3,D3⟩:=d3
  obtain ⟨f4,g4,D4⟩:=d4
  obtain ⟨f5,g5,D5⟩:=d5
  obtain ⟨f6,g6,D6⟩:=d6
  obtain ⟨f7,g7,D7⟩:=d7
  obtain ⟨f8,g8,D8⟩:=d8
  obtain ⟨f9,g9,D9⟩:=d9
  obtain ⟨f10,g10,D10⟩:=d10
  obtain ⟨f11,g11,D11⟩:=d11
  obtain ⟨f12,g12,D12⟩:=d12
  obtain ⟨f13,g13,D13⟩:=d13
  obtain ⟨f14,g14,D14⟩:=d14
  obtain ⟨f15,g15,D15⟩:=d15
  obtain ⟨f16,g16,D16⟩:=d16
  obtain ⟨f17,g17,D17⟩:=d17
  obtain ⟨f18,g18,D18⟩:=d18
  obtain ⟨f19,g19,D19⟩:=d19
  obtain ⟨f20,g20,D20⟩:=d20
  obtain ⟨f21,g21,D21⟩:=d21
  obtain ⟨f22,g22,D22⟩:=d22
  obtain ⟨f_RoundQuestion___init__,g_RoundQuestion___init__,D_RoundQuestion___init__⟩:=dm_RoundQuestion___init__
  obtain ⟨f_PlaceQuestion___init__,g_PlaceQuestion___init__,D_PlaceQuestion___init__⟩:=dm_PlaceQuestion___init__
  obtain ⟨f_RoundQuestion_ways,g_RoundQuestion_ways,D_RoundQuestion_ways⟩:=dm_RoundQuestion_ways
  obtain ⟨f_PlaceQuestion_ways,g_PlaceQuestion_ways,D_PlaceQuestion_ways⟩:=dm_PlaceQuestion_ways
  obtain ⟨f_RoundQuestion_answer,g_RoundQuestion_answer,D_RoundQuestion_answer⟩:=dm_RoundQuestion_answer
  obtain ⟨f_RoundQuestion_low,g_RoundQuestion_low,D_RoundQuestion_low⟩:=dm_RoundQuestion_low
  obtain ⟨f_RoundQuestion_steps,g_RoundQuestion_steps,D_RoundQuestion_steps⟩:=dm_RoundQuestion_steps
  obtain ⟨f_PlaceQuestion_low,g_PlaceQuestion_low,D_PlaceQuestion_low⟩:=dm_PlaceQuestion_low
  obtain ⟨f_PlaceQuestion_answer,g_PlaceQuestion_answer,D_PlaceQuestion_answer⟩:=dm_PlaceQuestion_answer
  obtain ⟨f_PlaceQuestion_steps,g_PlaceQuestion_steps,D_PlaceQuestion_steps⟩:=dm_PlaceQuestion_steps
  have FL:=zlJ (st:=zf8) lL cL kL
  refine ⟨PySem.W.fnOf "law" "law" (zdW zf8) (zc9 zf8) (zai zf8) .none kV doc pm an cdv ct,fun s v=>.of_eq rfl,fun base _ _=>?_⟩
  have G_law_cell_at:Has l.prog w K mg base CX0 1 "_law_cell_at" ["_law_script","_law_k"] (spM (KX K ad) (xoK (KX K ad)) zay):=D0.has X G (zgq D0.fn T  ) (D0.fn.binds fun _ _ _ _ _ _ us hl=>match us,hl with | [_,_],_=>rfl)
  have G_law_number:Has l.prog w K mg base CX0 1 "_law_number" ["_law_cell","_law_k"] (spM (KX K ad) (xoK (KX K ad)) zce):=D1.has X G (zgY D1.fn T  ) (D1.fn.binds fun _ _ _ _ _ _ us hl=>match us,hl with | [_,_],_=>rfl)
  have G_law_spot:Has l.prog w K mg base CX0 2 "_law_spot" ["_law_cell","_law_k"] (spM (KX K ad) (xoK (KX K ad)) zcL):=D2.has X G (ziy D2.fn T  G_law_number) (D2.fn.binds fun _ _ _ _ _ _ us hl=>match us,hl with | [_,_],_=>rfl)
  have G_law_apart:Has l.prog w K mg base CX0 1 "_law_apart" ["_law_spots","_law_one","_law_other","_law_top"] (spM (KX K ad) (xoK (KX K ad)) zbT):=D3.has X G (ziq D3.fn T  ) (D3.fn.binds fun _ _ _ _ _ _ us hl=>match us,hl with | [_,_,_,_],_=>rfl)
  have G_law_lengths:Has l.prog w K mg base CX0 3 "_law_lengths" ["_law_script","_law_many"] (spO (KX K ad) (xoK (KX K ad)) zbV):=D4.has X G (zgu D4.fn T  G_law_cell_at G_law_spot G_law_apart) (D4.fn.binds fun _ _ _ _ _ _ us hl=>match us,hl with | [_,_],_=>rfl)
  have G_look_at:Has l.prog w K mg base (CX1 l.prog w) 1 "look_at" ["lengths"] (spM (KX K ad) (xoK (KX K ad)) zci):=D5.has X G (zj8 D5.fn T  ) (D5.fn.binds fun _ _ _ _ _ _ us hl=>match us,hl with | [_],_=>rfl)
  have G_copied_lengths:Has l.prog w K mg base CX0 1 "copied_lengths" ["lengths"] (spP (KX K ad) (xoK (KX K ad)) za9):=D6.has X G (zfy D6.fn T  ) (D6.fn.binds fun _ _ _ _ _ _ us hl=>match us,hl with | [_],_=>rfl)
  have G_RoundQuestion___init__:HasC l.prog w K mg base (CX1 l.prog w) 2 "RoundQuestion" ad.RoundQuestion ["self","lengths"] (spX (KX K ad) 3 zau):=D_RoundQuestion___init__.hasC pmk_RoundQuestion pkp_RoundQuestion T.m_RoundQuestion (zdh D_RoundQuestion___init__.fn T  G_look_at G_copied_lengths) (D_RoundQuestion___init__.fn.binds fun _ _ _ _ _ _ us hl=>match us,hl with | [_,_],_=>rfl)
  have G_PlaceQuestion___init__:HasC l.prog w K mg base (CX1 l.prog w) 2 "PlaceQuestion" ad.PlaceQuestion ["self","lengths","many"] (spX (KX K ad) 4 zat):=D_PlaceQuestion___init__.hasC pmk_PlaceQuestion pkp_PlaceQuestion T.m_PlaceQuestion (zde D_PlaceQuestion___init__.fn T  G_look_at G_copied_lengths) (D_PlaceQuestion___init__.fn.binds fun _ _ _ _ _ _ us hl=>match us,hl with | [_,_,_],_=>rfl)
  have G_RoundQuestion_ways:HasM l.prog w K mg base CX0 1 "ways" ad.RoundQuestion ["self","case"] (spO (KX K ad) (xoK (KX K ad)) zaB):=D_RoundQuestion_ways.hasM T.cl_RoundQuestion (zef D_RoundQuestion_ways.fn T  ) (D_RoundQuestion_ways.fn.binds fun _ _ _ _ _ _ us hl=>match us,hl with | [_,_],_=>rfl)
  have G_law_way:Has l.prog w K mg base CX0 1 "_law_way" ["_law_lengths_here","_law_case"] (spM (KX K ad) (xoK (KX K ad)) zbq):=D7.has X G (zj1 D7.fn T  ) (D7.fn.binds fun _ _ _ _ _ _ us hl=>match us,hl with | [_,_],_=>rfl)
  have G_law_round_ways:Has l.prog w K mg base CX0 1 "_law_round_ways" ["_law_lengths_here","_law_case"] (spO (KX K ad) (xoK (KX K ad)) zaR):=D8.has X G (zfr D8.fn T  ) (D8.fn.binds fun _ _ _ _ _ _ us hl=>match us,hl with | [_,_],_=>rfl)
  have G_law_is:Has l.prog w K mg base CX0 1 "_law_is" ["_law_found","_law_due"] (spM (KX K ad) (xoK (KX K ad)) za7):=D9.has X G (zlh D9.fn T  ) (D9.fn.binds fun _ _ _ _ _ _ us hl=>match us,hl with | [_,_],_=>rfl)
  have G_law_numbers:Has l.prog w K mg base CX0 2 "_law_numbers" ["_law_found","_law_due"] (spM (KX K ad) (xoK (KX K ad)) zaL):=D10.has X G (zgl D10.fn T  G_law_is) (D10.fn.binds fun _ _ _ _ _ _ us hl=>match us,hl with | [_,_],_=>rfl)
  have G_behind_last:Has l.prog w K mg base CX0 1 "behind_last" ["case"] (spM (KX K ad) (xoK (KX K ad)) zaY):=D11.has X G (zgi D11.fn T  ) (D11.fn.binds fun _ _ _ _ _ _ us hl=>match us,hl with | [_],_=>rfl)
  have G_PlaceQuestion_ways:HasM l.prog w K mg base CX0 2 "ways" ad.PlaceQuestion ["self","case"] (spO (KX K ad) (xoK (KX K ad)) zaz):=D_PlaceQuestion_ways.hasM T.cl_PlaceQuestion (zd6 D_PlaceQuestion_ways.fn T  G_behind_last) (D_PlaceQuestion_ways.fn.binds fun _ _ _ _ _ _ us hl=>match us,hl with | [_,_],_=>rfl)
  have G_law_told_again:Has l.prog w K mg base CX0 3 "_law_told_again" ["_law_question","_law_case","_law_due"] (spM (KX K ad) (xoK (KX K ad)) zaF):=D12.has X G (zfi D12.fn T  G_RoundQuestion_ways G_law_numbers G_PlaceQuestion_ways) (D12.fn.binds fun _ _ _ _ _ _ us hl=>match us,hl with | [_,_,_],_=>rfl)
  have G_RoundQuestion_answer:HasM l.prog w K mg base CX0 1 "answer" ad.RoundQuestion ["self","case"] (spO (KX K ad) (xoK (KX K ad)) zaq):=D_RoundQuestion_answer.hasM T.cl_RoundQuestion (zdF D_RoundQuestion_answer.fn T  ) (D_RoundQuestion_answer.fn.binds fun _ _ _ _ _ _ us hl=>match us,hl with | [_,_],_=>rfl)
  have G_way_length:Has l.prog w K mg base CX0 1 "way_length" ["lengths","way"] (spM (KX K ad) (xoK (KX K ad)) zcf):=D13.has X G (zhl D13.fn T  ) (D13.fn.binds fun _ _ _ _ _ _ us hl=>match us,hl with | [_,_],_=>rfl)
  have G_round_length:Has l.prog w K mg base CX0 2 "round_length" ["lengths","way"] (spM (KX K ad) (xoK (KX K ad)) zb3):=D14.has X G (zfW D14.fn T  G_way_length) (D14.fn.binds fun _ _ _ _ _ _ us hl=>match us,hl with | [_,_],_=>rfl)
  have G_RoundQuestion_low:HasM l.prog w K mg base CX0 3 "low" ad.RoundQuestion ["self","case"] (spM (KX K ad) (xoK (KX K ad)) zaI):=D_RoundQuestion_low.hasM T.cl_RoundQuestion (zeo D_RoundQuestion_low.fn T  G_RoundQuestion_answer G_round_length) (D_RoundQuestion_low.fn.binds fun _ _ _ _ _ _ us hl=>match us,hl with | [_,_],_=>rfl)
  have G_law_next:Has l.prog w K mg base CX0 2 "_law_next" ["_law_script","_law_at","_law_ways"] (spM (KX K ad) (xoK (KX K ad)) zbx):=D15.has X G (ziJ D15.fn T  G_law_cell_at) (D15.fn.binds fun _ _ _ _ _ _ us hl=>match us,hl with | [_,_,_],_=>rfl)
  have G_RoundQuestion_steps:HasM l.prog w K mg base CX0 1 "steps" ad.RoundQuestion ["self"] (spM (KX K ad) (xoK (KX K ad)) zaZ):=D_RoundQuestion_steps.hasM T.cl_RoundQuestion (zdT D_RoundQuestion_steps.fn T  ) (D_RoundQuestion_steps.fn.binds fun _ _ _ _ _ _ us hl=>match us,hl with | [_],_=>rfl)
  have G_law_rounds:Has l.prog w K mg base CX0 4 "_law_rounds" ["_law_script","_law_lengths_here","_law_question"] (spM (KX K ad) (xoK (KX K ad)) zbP):=D16.has X G (zg9 D16.fn T  G_RoundQuestion_ways G_law_way G_law_round_ways G_law_is G_law_numbers G_law_told_again G_RoundQuestion_answer G_RoundQuestion_low G_law_next G_RoundQuestion_steps) (D16.fn.binds fun _ _ _ _ _ _ us hl=>match us,hl with | [_,_,_],_=>rfl)
  have G_law_far:Has l.prog w K mg base CX0 1 "_law_far" ["_law_lengths_here","_law_many","_law_case"] (spM (KX K ad) (xoK (KX K ad)) zch):=D17.has X G (zjW D17.fn T  ) (D17.fn.binds fun _ _ _ _ _ _ us hl=>match us,hl with | [_,_,_],_=>rfl)
  have G_law_place_ways:Has l.prog w K mg base CX0 1 "_law_place_ways" ["_law_lengths_here","_law_many","_law_case"] (spO (KX K ad) (xoK (KX K ad)) zaN):=D18.has X G (zfo D18.fn T  ) (D18.fn.binds fun _ _ _ _ _ _ us hl=>match us,hl with | [_,_,_],_=>rfl)
  have G_nearest:Has l.prog w K mg base CX0 1 "nearest" ["lengths","place","some"] (spM (KX K ad) (xoK (KX K ad)) zdk):=D19.has X G (zj3 D19.fn T  ) (D19.fn.binds fun _ _ _ _ _ _ us hl=>match us,hl with | [_,_,_],_=>rfl)
  have G_reach:Has l.prog w K mg base CX0 2 "reach" ["lengths","some"] (spM (KX K ad) (xoK (KX K ad)) zff):=D20.has X G (zl5 D20.fn T  G_nearest) (D20.fn.binds fun _ _ _ _ _ _ us hl=>match us,hl with | [_,_],_=>rfl)
  have G_PlaceQuestion_low:HasM l.prog w K mg base CX0 3 "low" ad.PlaceQuestion ["self","case"] (spM (KX K ad) (xoK (KX K ad)) zaH):=D_PlaceQuestion_low.hasM T.cl_PlaceQuestion (zep D_PlaceQuestion_low.fn T  G_behind_last G_reach) (D_PlaceQuestion_low.fn.binds fun _ _ _ _ _ _ us hl=>match us,hl with | [_,_],_=>rfl)
  have G_PlaceQuestion_answer:HasM l.prog w K mg base CX0 1 "answer" ad.PlaceQuestion ["self","case"] (spO (KX K ad) (xoK (KX K ad)) zaK):=D_PlaceQuestion_answer.hasM T.cl_PlaceQuestion (zdx D_PlaceQuestion_answer.fn T  ) (D_PlaceQuestion_answer.fn.binds fun _ _ _ _ _ _ us hl=>match us,hl with | [_,_],_=>rfl)
  have G_PlaceQuestion_steps:HasM l.prog w K mg base CX0 1 "steps" ad.PlaceQuestion ["self"] (spM (KX K ad) (xoK (KX K ad)) za1):=D_PlaceQuestion_steps.hasM T.cl_PlaceQuestion (zdS D_PlaceQuestion_steps.fn T  ) (D_PlaceQuestion_steps.fn.binds fun _ _ _ _ _ _ us hl=>match us,hl with | [_],_=>rfl)
  have G_law_places:Has l.prog w K mg base CX0 4 "_law_places" ["_law_script","_law_lengths_here","_law_many","_law_question"] (spM (KX K ad) (xoK (KX K ad)) zbN):=D21.has X G (zgP D21.fn T  G_law_is G_law_numbers G_PlaceQuestion_ways G_law_told_again G_law_next G_law_far G_law_place_ways G_PlaceQuestion_low G_PlaceQuestion_answer G_PlaceQuestion_steps) (D21.fn.binds fun _ _ _ _ _ _ us hl=>match us,hl with | [_,_,_,_],_=>rfl)
  have G_law_refused:Has l.prog w K mg base CX0 4 "_law_refused" ["_law_lengths_here","_law_way_here"] (spM (KX K ad) (xoK (KX K ad)) zbW):=D22.has X G (zgp D22.fn T  G_RoundQuestion___init__ G_PlaceQuestion___init__) (D22.fn.binds fun _ _ _ _ _ _ us hl=>match us,hl with | [_,_],_=>rfl)
  exact zn2 FL T G_law_cell_at G_law_lengths G_RoundQuestion___init__ G_PlaceQuestion___init__ G_law_rounds G_law_places G_law_refused
theorem walk {l:PySem.W.OpenLaw} {q:Program} {loose:List Str} {XP:(Str→Option Value)→Heap→Prop} {YP:World→Heap→Prop} {d:DefRec} {K:Params→PySem.W.Frag} (hn:l.most=some 63) (hdf:d.params.defaults = [])
    (hY:∀ (w:World) (h:Heap),YP w h→(K w.params).In h) (hT:∀ w:World,tabOf (K w.params)=none)
    (F:∀ (w:World) (mg:Str→Option Value) (fa:Addr) (h:Heap),(K w.params).In h→h.Ns mainGlobals mg→mg d.name=some (.ref fa) →
      ∃ fd:FuncData,(∀ (s:Shared) (u:Value),BindsTo s fd ⟨[u],[]⟩ [("_law_script",u)])∧∀ base:Heap,(K w.params).In base→base.Ns mainGlobals mg→FnOk l.prog w (K w.params) mg base CX0 5 fa fd ["_law_script"] (zi8 (K w.params))) :
    PySem.W.WalkO q loose XP YP l.row.toRowW d [] (fun f vs=>PySem.call f vs) :=
  L2.walk_of (n:=63) (k:=5) (x:="_law_script") (CX:=fun _=>CX0) (sp:=fun w=>zi8 (K w.params)) hn (by decide) hdf ⟨rfl,by decide,by decide⟩ hY hT F (fun _ _ a ns hl _ hS=>⟨a,ns,rfl,hS,hl,fun _=>rfl⟩) fun _ _ _ _ _ z=>z
end My
def PySem.W.Fast.tw4295644559105763048:Nat:=0
def PySem.W.Fast.tw585008512568614408:Nat:=0
def PySem.W.Fast.tw17686507940404484723:Nat:=0
def PySem.W.Fast.tw5240666217064692276:Nat:=0
def PySem.W.Fast.tw1074090139344577357:Nat:=0
def PySem.W.Fast.tw3129141664401963531:Nat:=0
def PySem.W.Fast.tw1566706615408906315:Nat:=0
def PySem.W.Fast.tw4778102836631861871:Nat:=0
def PySem.W.Fast.tw4621464504505407523:Nat:=0
def PySem.W.Fast.tw7324456646012065381:Nat:=0
def PySem.W.Fast.tw2605357032370789343:Nat:=0
open PySem PySem.W PyProof.Rows
set_option maxRecDepth 100000 in
set_option maxHeartbeats 0 in
theorem PySem.Challenge.cw_goodenough_k38_round_and_place_cases_holds : PySem.Challenge.rw_goodenough_k38_round_and_place_cases.Holds := by
  w_on; o_law; k_head; (case hw=>w_witness2)
  k_fill
  refine My.walk (l:=PySem.Challenge.rw_goodenough_k38_round_and_place_cases) rfl rfl (fun w h Y=>by first | exact PySem.W.kIn_of Y | exact PySem.W.km_in_of Y) ?tab ?F
  (case tab=>intro w; kernel_rfl)
  case F =>
    intro w mg fa h KX G hmg
    refine' My.all_mk KX G hmg (L2.defAt_mk ?a0 ?l0 ?c0 ?k0) (L2.defAt_mk ?a1 ?l1 ?c1 ?k1) (L2.defAt_mk ?a2 ?l2 ?c2 ?k2) (L2.defAt_mk ?a3 ?l3 ?c3 ?k3) (L2.defAt_mk ?a4 ?l4 ?c4 ?k4) (L2.defAt_mk ?a5 ?l5 ?c5 ?k5) (L2.defAt_mk ?a6 ?l6 ?c6 ?k6) (L2.defAt_mk ?a7 ?l7 ?c7 ?k7) (L2.defAt_mk ?a8 ?l8 ?c8 ?k8) (L2.defAt_mk ?a9 ?l9 ?c9 ?k9) (L2.defAt_mk ?a10 ?l10 ?c10 ?k10) (L2.defAt_mk ?a11 ?l11 ?c11 ?k11) (L2.defAt_mk ?a12 ?l12 ?c12 ?k12) (L2.defAt_mk ?a13 ?l13 ?c13 ?k13) (L2.defAt_mk ?a14 ?l14 ?c14 ?k14) (L2.defAt_mk ?a15 ?l15 ?c15 ?k15) (L2.defAt_mk ?a16 ?l16 ?c16 ?k16) (L2.defAt_mk ?a17 ?l17 ?c17 ?k17) (L2.defAt_mk ?a18 ?l18 ?c18 ?k18) (L2.defAt_mk ?a19 ?l19 ?c19 ?k19) (L2.defAt_mk ?a20 ?l20 ?c20 ?k20) (L2.defAt_mk ?a21 ?l21 ?c21 ?k21) (L2.defAt_mk ?a22 ?l22 ?c22 ?k22) ?aL ?lL ?cL ?kL ?z0 ?z1 ?z2 ?z3 ?z4 ?z5 ?z6 ?z7 ?z8 ?z9 ?z10 ?z11 ?z12 ?un_Question ?un_RoundQuestion ?un_PlaceQuestion ?pzn ?pzt ?phd_Question ?phd_RoundQuestion ?phd_PlaceQuestion ?pty_Question ?ppg_RoundQuestion ?ppo_RoundQuestion ?psa_RoundQuestion ?pna_RoundQuestion_lengths ?pmk_RoundQuestion ?pkp_RoundQuestion ?pha_RoundQuestion ?pmo_RoundQuestion ?pmr_RoundQuestion_Question ?pmr_RoundQuestion_RoundQuestion ?ppg_PlaceQuestion ?ppo_PlaceQuestion ?psa_PlaceQuestion ?pna_PlaceQuestion_lengths ?pna_PlaceQuestion_many ?pmk_PlaceQuestion ?pkp_PlaceQuestion ?pha_PlaceQuestion ?pmo_PlaceQuestion ?pmr_PlaceQuestion_Question ?pmr_PlaceQuestion_PlaceQuestion ?un_EnoughError ?un_NoLengths ?ue_NoLengths ?ub_EnoughError ?uzn ?uzt ?uhd_EnoughError ?uhd_NoLengths ?uty_EnoughError ?uty_NoLengths ?uga_NoLengths ?ugn_NoLengths ?uha_NoLengths ?umr_NoLengths_EnoughError ?umr_NoLengths_NoLengths ?umt_NoLengths_object ?umt_NoLengths_BaseException ?umt_NoLengths_ValueError (L2.methAt_mk ?ma0 ?mi0 ?ml0 ?mc0 ?mk0) (L2.methAt_mk ?ma1 ?mi1 ?ml1 ?mc1 ?mk1) (L2.methAt_mk ?ma2 ?mi2 ?ml2 ?mc2 ?mk2) (L2.methAt_mk ?ma3 ?mi3 ?ml3 ?mc3 ?mk3) (L2.methAt_mk ?ma4 ?mi4 ?ml4 ?mc4 ?mk4) (L2.methAt_mk ?ma5 ?mi5 ?ml5 ?mc5 ?mk5) (L2.methAt_mk ?ma6 ?mi6 ?ml6 ?mc6 ?mk6) (L2.methAt_mk ?ma7 ?mi7 ?ml7 ?mc7 ?mk7) (L2.methAt_mk ?ma8 ?mi8 ?ml8 ?mc8 ?mk8) (L2.methAt_mk ?ma9 ?mi9 ?ml9 ?mc9 ?mk9)
    (case a0=>k_is); (case l0=>k_is); (case c0=>k_is); (case k0=>k_is)
    (case a1=>k_is); (case l1=>k_is); (case c1=>k_is); (case k1=>k_is)
    (case a2=>k_is); (case l2=>k_is); (case c2=>k_is); (case k2=>k_is)
    (case a3=>k_is); (case l3=>k_is); (case c3=>k_is); (case k3=>k_is)
    (case a4=>k_is); (case l4=>k_is); (case c4=>k_is); (case k4=>k_is)
    (case a5=>k_is); (case l5=>k_is); (case c5=>k_is); (case k5=>k_is)
    (case a6=>k_is); (case l6=>k_is); (case c6=>k_is); (case k6=>k_is)
    (case a7=>k_is); (case l7=>k_is); (case c7=>k_is); (case k7=>k_is)
    (case a8=>k_is); (case l8=>k_is); (case c8=>k_is); (case k8=>k_is)
    (case a9=>k_is); (case l9=>k_is); (case c9=>k_is); (case k9=>k_is)
    (case a10=>k_is); (case l10=>k_is); (case c10=>k_is); (case k10=>k_is)
    (case a11=>k_is); (case l11=>k_is); (case c11=>k_is); (case k11=>k_is)
    (case a12=>k_is); (case l12=>k_is); (case c12=>k_is); (case k12=>k_is)
    (case a13=>k_is); (case l13=>k_is); (case c13=>k_is); (case k13=>k_is)
    (case a14=>k_is); (case l14=>k_is); (case c14=>k_is); (case k14=>k_is)
    (case a15=>k_is); (case l15=>k_is); (case c15=>k_is); (case k15=>k_is)
    (case a16=>k_is); (case l16=>k_is); (case c16=>k_is); (case k16=>k_is)
    (case a17=>k_is); (case l17=>k_is); (case c17=>k_is); (case k17=>k_is)
    (case a18=>k_is); (case l18=>k_is); (case c18=>k_is); (case k18=>k_is)
    (case a19=>k_is); (case l19=>k_is); (case c19=>k_is); (case k19=>k_is)
    (case a20=>k_is); (case l20=>k_is); (case c20=>k_is); (case k20=>k_is)
    (case a21=>k_is); (case l21=>k_is); (case c21=>k_is); (case k21=>k_is)
    (case a22=>k_is); (case l22=>k_is); (case c22=>k_is); (case k22=>k_is)
    (case aL=>k_is); (case lL=>k_is); (case cL=>k_is); (case kL=>k_is)
    (case z0=>k_is)
    (case z1=>k_is)
    (case z2=>k_is)
    (case z3=>k_is)
    (case z4=>k_is)
    (case z5=>k_is)
    (case z6=>k_is)
    (case z7=>k_is)
    (case z8=>k_is)
    (case z9=>k_is)
    (case z10=>k_is)
    (case z11=>k_is)
    (case z12=>k_is)
    (case un_Question=>k_is)
    (case un_RoundQuestion=>k_is)
    (case un_PlaceQuestion=>k_is)
    (case pzn=>k_is)
    (case pzt=>k_is)
    (case phd_Question=>k_is)
    (case phd_RoundQuestion=>k_is)
    (case phd_PlaceQuestion=>k_is)
    (case pty_Question=>k_is)
    (case ppg_RoundQuestion=>k_is)
    (case ppo_RoundQuestion=>k_is)
    (case psa_RoundQuestion=>k_is)
    (case pna_RoundQuestion_lengths=>k_is)
    (case pmk_RoundQuestion=>k_is)
    (case pkp_RoundQuestion=>k_is)
    (case pha_RoundQuestion=>k_is)
    (case pmo_RoundQuestion=>k_is)
    (case pmr_RoundQuestion_Question=>k_is)
    (case pmr_RoundQuestion_RoundQuestion=>k_is)
    (case ppg_PlaceQuestion=>k_is)
    (case ppo_PlaceQuestion=>k_is)
    (case psa_PlaceQuestion=>k_is)
    (case pna_PlaceQuestion_lengths=>k_is)
    (case pna_PlaceQuestion_many=>k_is)
    (case pmk_PlaceQuestion=>k_is)
    (case pkp_PlaceQuestion=>k_is)
    (case pha_PlaceQuestion=>k_is)
    (case pmo_PlaceQuestion=>k_is)
    (case pmr_PlaceQuestion_Question=>k_is)
    (case pmr_PlaceQuestion_PlaceQuestion=>k_is)
    (case un_EnoughError=>k_is)
    (case un_NoLengths=>k_is)
    (case ue_NoLengths=>k_exc)
    (case ub_EnoughError=>k_is)
    (case uzn=>k_is)
    (case uzt=>k_is)
    (case uhd_EnoughError=>k_is)
    (case uhd_NoLengths=>k_is)
    (case uty_EnoughError=>k_is)
    (case uty_NoLengths=>k_is)
    (case uga_NoLengths=>k_is)
    (case ugn_NoLengths=>k_is)
    (case uha_NoLengths=>k_is)
    (case umr_NoLengths_EnoughError=>k_is)
    (case umr_NoLengths_NoLengths=>k_is)
    (case umt_NoLengths_object=>k_is)
    (case umt_NoLengths_BaseException=>k_is)
    (case umt_NoLengths_ValueError=>k_is)
    (case ma0=>k_is); (case mi0=>k_is); (case ml0=>k_is); (case mc0=>k_is); (case mk0=>k_is)
    (case ma1=>k_is); (case mi1=>k_is); (case ml1=>k_is); (case mc1=>k_is); (case mk1=>k_is)
    (case ma2=>k_is); (case mi2=>k_is); (case ml2=>k_is); (case mc2=>k_is); (case mk2=>k_is)
    (case ma3=>k_is); (case mi3=>k_is); (case ml3=>k_is); (case mc3=>k_is); (case mk3=>k_is)
    (case ma4=>k_is); (case mi4=>k_is); (case ml4=>k_is); (case mc4=>k_is); (case mk4=>k_is)
    (case ma5=>k_is); (case mi5=>k_is); (case ml5=>k_is); (case mc5=>k_is); (case mk5=>k_is)
    (case ma6=>k_is); (case mi6=>k_is); (case ml6=>k_is); (case mc6=>k_is); (case mk6=>k_is)
    (case ma7=>k_is); (case mi7=>k_is); (case ml7=>k_is); (case mc7=>k_is); (case mk7=>k_is)
    (case ma8=>k_is); (case mi8=>k_is); (case ml8=>k_is); (case mc8=>k_is); (case mk8=>k_is)
    (case ma9=>k_is); (case mi9=>k_is); (case ml9=>k_is); (case mc9=>k_is); (case mk9=>k_is)
#print axioms PySem.Challenge.cw_goodenough_k38_round_and_place_cases_holds
