import PyProof.Rows.All
import Wide.All
import OpenK.AllK
import Wide.FinOn
import Lean
import PyProof.EqAt
import PyProof.EqKinds
import PyProof.TupleCall
import PySem.Challenge.RW_goodenough_k17_whole_any_pairing
set_option Elab.async false
set_option linter.all false
set_option maxRecDepth 100000
set_option maxHeartbeats 4000000
noncomputable section
namespace L2
open PySem PySem.Spec PyProof.Rows
abbrev Key:=Sum Int Str
def zhX:Key→Value→Bool
  | .inl k,v=>Value.isInt k v
  | .inr x,v=>Value.isStrOf x v
def keyH (w:World):Key→Int
  | .inl k=>hashInt k
  | .inr x=>hashStr w x
theorem zaY:∀ {k:Key} {v:Value},zhX k v=true→(∃ i t,k=Sum.inl i∧v=Value.int i t)∨(∃ x t,k=Sum.inr x∧v=Value.str x t)
  | .inl i,v,h=>by
    obtain ⟨t,e⟩:=Value.isInt_shape (k:=i) (v:=v) h
    exact .inl ⟨i,t,rfl,e⟩
  | .inr x,v,h=>by
    obtain ⟨t,e⟩:=Value.isStrOf_shape (x:=x) (v:=v) h
    exact .inr ⟨x,t,rfl,e⟩
theorem ziP (i:Int) (t:Tok):zhX (.inl i) (.int i t)=true:=by simp [zhX,Value.isInt]
theorem zjj (x:Str) (t:Tok):zhX (.inr x) (.str x t)=true:=by simp [zhX,Value.isStrOf]
theorem zmT (a b:Int):decide ((Sum.inl a:Key)=Sum.inl b)=(a == b):=by
  by_cases e:a=b
  · subst e; simp
  · have h:¬ (Sum.inl a:Key)=Sum.inl b:=fun q=>e (Sum.inl.inj q)
    rw [decide_eq_false h]
    exact (beq_eq_false_iff_ne.mpr e).symm
theorem zmt (a b:Str):decide ((Sum.inr a:Key)=Sum.inr b)=decide (a=b):=by
  by_cases e:a=b
  · subst e; simp
  · have h:¬ (Sum.inr a:Key)=Sum.inr b:=fun q=>e (Sum.inr.inj q)
    rw [decide_eq_false h,decide_eq_false e]
theorem zmz (a:Int) (b:Str):decide ((Sum.inl a:Key)=Sum.inr b)=false:=decide_eq_false (fun q=>nomatch q)
theorem zmW (a:Str) (b:Int):decide ((Sum.inr a:Key)=Sum.inl b)=false:=decide_eq_false (fun q=>nomatch q)
def zba (prog:Program) (w:World):PySem.KeyKind prog w Key where
  is:=zhX
  hash:=keyH w
  inj:=fun v a b ha hb=>by
    rcases zaY ha with ⟨i,t,rfl,rfl⟩ | ⟨x,t,rfl,rfl⟩
    · rcases zaY hb with ⟨j,u,rfl,e⟩ | ⟨y,u,rfl,e⟩
      · injection e with e1 _; rw [e1]
      · exact nomatch e
    · rcases zaY hb with ⟨j,u,rfl,e⟩ | ⟨y,u,rfl,e⟩
      · exact nomatch e
      · injection e with e1 _; rw [e1]
  byValue:=fun k v h=>by
    rcases zaY h with ⟨i,t,rfl,rfl⟩ | ⟨x,t,rfl,rfl⟩ <;> rfl
  pyHash:=fun hv h=>by
    rcases zaY hv with ⟨i,t,rfl,rfl⟩ | ⟨x,t,rfl,rfl⟩
    · exact wpAny_pyHash_int h
    · exact wpAny_pyHash_str h
  eqBool:=fun hu hv h=>by
    rcases zaY hu with ⟨i,t,rfl,rfl⟩ | ⟨x,t,rfl,rfl⟩
    · rcases zaY hv with ⟨j,u,rfl,rfl⟩ | ⟨y,u,rfl,rfl⟩
      · rw [zmT] at h; exact wpAny_eqBool_int h
      · rw [zmz] at h; exact SeqAt.EqAt.int_str i t y u _ _ _ _ h
    · rcases zaY hv with ⟨j,u,rfl,rfl⟩ | ⟨y,u,rfl,rfl⟩
      · rw [zmW] at h; exact SeqAt.EqAt.str_int x t j u _ _ _ _ h
      · rw [zmt] at h; exact wpAny_eqBool_str h
  «strs»:=fun k x t v h=>by
    rcases zaY h with ⟨i,u,rfl,e⟩ | ⟨y,u,rfl,e⟩
    · exact nomatch e
    · injection e with e1 _
      subst e1
      cases v <;> rfl
theorem zgU (prog:Program) (w:World) (i:Int) (t:Tok):(zba prog w).is (.inl i) (.int i t)=true:=ziP i t
theorem zgJ (prog:Program) (w:World) (x:Str) (t:Tok):(zba prog w).is (.inr x) (.str x t)=true:=zjj x t
end L2
namespace L2
open PySem PySem.Spec PyProof.Rows
inductive V where
  | non | bl (b:Bool) | int (i:Int) | str (x:Str) | byt (b:Array UInt8) | flt (b:UInt64) | ref (a:Addr) | ty (n:String)
  deriving DecidableEq
def RelV:V→Value→Prop
  | .non,u=>u=Value.none
  | .bl b,u=>u=Value.bool b
  | .int i,u=>∃ t,u=Value.int i t
  | .str x,u=>∃ t,u=Value.str x t
  | .byt b,u=>∃ t,u=Value.bytes b t
  | .flt b,u=>∃ t,u=Value.float b t
  | .ref a,u=>u=Value.ref a
  | .ty n,u=>u=Value.type n
abbrev Vals:List V→List Value→Prop:=Paired RelV
theorem Vals.length {xs:List V} {us:List Value} (r:Vals xs us):xs.length=us.length:=Paired.length r
theorem Vals.get:∀ {xs:List V} {us:List Value} {i:Nat} {x:V},Vals xs us→xs[i]?=some x→∃ u,us[i]?=some u∧RelV x u
  | _,_,_,_,.nil,e=>by simp at e
  | _,_,0,_,.cons r _,e=>by simp at e; subst e; exact ⟨_,rfl,r⟩
  | _,_,i + 1,x,.cons _ t,e=>by
    obtain ⟨u,h1,h2⟩:=Vals.get (i:=i) (x:=x) t (by simpa using e)
    exact ⟨u,by simpa using h1,h2⟩
theorem Vals.set {x:V} {u:Value} (r:RelV x u):∀ {xs:List V} {us:List Value} (i:Nat),Vals xs us→Vals (xs.set i x) (us.set i u)
  | _,_,_,.nil=>.nil
  | _,_,0,.cons _ t=>.cons r t
  | _,_,i + 1,.cons q t=>.cons q (Vals.set r i t)
theorem Vals.append:∀ {xs ys:List V} {us ws:List Value},Vals xs us→Vals ys ws→Vals (xs ++ ys) (us ++ ws)
  | _,_,_,_,.nil,s=>s
  | _,_,_,_,.cons r t,s=>.cons r (Vals.append t s)
theorem Vals.take:∀ {xs:List V} {us:List Value} (n:Nat),Vals xs us→Vals (xs.take n) (us.take n)
  | _,_,0,_=>.nil
  | _,_,_ + 1,.nil=>.nil
  | _,_,n + 1,.cons r t=>.cons r (Vals.take n t)
theorem Vals.drop:∀ {xs:List V} {us:List Value} (n:Nat),Vals xs us→Vals (xs.drop n) (us.drop n)
  | _,_,0,r=>r
  | _,_,_ + 1,.nil=>.nil
  | _,_,n + 1,.cons _ t=>Vals.drop n t
def RelO:Option V→Option Value→Prop
  | some v,some u=>RelV v u
  | none,none=>True
  | _,_=>False
def KV {κ:Type}:List (κ × V)→List (κ × Value)→Prop:=Paired fun (p:κ × V) (q:κ × Value)=>p.1=q.1∧RelV p.2 q.2
def kV:Key→V
  | .inl i=>.int i
  | .inr x=>.str x
inductive HO where
  | lst (xs:List V)
  | tup (xs:List V)
  | dK (kvs:List (Key × V)) | dT (kvs:List (List Key × V))
  | set (S:Int→Bool) (n:Nat)
  | ins (C dx:Addr) (fs:List (Str × V))
  | own (x:Addr)
  | xd (fs:List (Str × V))
  | met (f x:Addr)
  | rng (lo hi:Int)
  | frz (o:Obj) (u:HO)
  | tbl (ps:Array Value)
  | ext (φ:Heap→Prop)
abbrev Hp:=Addr→Option HO
def upd (H:Hp) (a:Addr) (o:HO):Hp:=fun b=>if b=a then some o else H b
theorem zah {H:Hp} {a:Addr} {o:HO}:upd H a o a=some o:=by unfold upd; rw [if_pos rfl]
theorem zaf {H:Hp} {a b:Addr} {o:HO} (h:b ≠ a):upd H a o b=H b:=by unfold upd; rw [if_neg h]
theorem zlG {H:Hp} {a:Addr} {o u:HO}:upd (upd H a o) a u=upd H a u:=by
  funext b; unfold upd; split <;> rfl
theorem zmA {H:Hp} {a b:Addr} {o u:HO} (h:H a=some o) (h':H b=some u) (d:o ≠ u):a ≠ b:=by
  intro e; subst e; rw [h] at h'; exact d (Option.some.inj h')
theorem zan {H:Hp} {a b:Addr} {o:HO} (h:H a=some o) (h':H b=none):a ≠ b:=by
  intro e; subst e; rw [h] at h'; cases h'
def zng (fd:FuncData):Option Pos :=
  match fd.body with
  | .stmts [.Return (some (.Call _ _ [⟨_,.Lambda _ _ _ pos,_⟩] _)) _]=>some pos
  | _=>none
def tabAt (K:PySem.W.Frag) (v:Value):Option Addr :=
  match v with
  | .ref c=>match K.lookup c with
    | some o=>match o.data with
      | .fields vs=>match (vs[11]?:Option Value) with
        | some (.ref P)=>some P
        | _=>none
      | _=>none
    | _=>none
  | _=>none
def tabOf (K:PySem.W.Frag):Option (Addr × Array Value) :=
  K.findSome? fun p=>match p.2.data with
    | .func fd=>match zng fd with
      | some pos=>(tabAt K fd.code).map fun P=>(P,#[.str (fd.qualname ++ ".<locals>." ++ "<lambda>") 0,rawInt pos.line,rawInt pos.col])
      | none=>none
    | _=>none
def TblOk (H:Hp) (h:Heap) (a:Addr) (ps:Array Value):Prop :=
  ∃ (q:Str) (t:Tok) (ln cl:Int) (more:List Value) (real:Array Value),ps.toList = .str q t :: rawInt ln :: rawInt cl :: more∧h.get? a=some { cls:=.none,data:=.fields real } ∧
    (real = #[]∨∃ (c:Addr) (o:Obj) (vs:Array Value) (u:Tok),real = #[rawInt ln,rawInt cl,.ref c]∧H c=some (.own a)∧h.get? c=some o∧o.data = .fields vs∧vs[1]?=some (.str q u))
theorem TblOk.lt {H:Hp} {h:Heap} {a:Addr} {ps:Array Value} (x:TblOk H h a ps):a < h.objs.size:=by
  obtain ⟨_,_,_,_,_,_,_,e,_⟩:=x
  exact Heap.lt_size e
theorem TblOk.stay {H H':Hp} {h h':Heap} {a:Addr} {ps:Array Value} (x:TblOk H h a ps) (k:∀ b u,(b=a∨H b=some (.own a))→h.get? b=some u→h'.get? b=some u)
    (ho:∀ b,H b=some (.own a)→H' b=some (.own a)):TblOk H' h' a ps:=by
  obtain ⟨q,t,ln,cl,more,real,e1,e2,e3⟩:=x
  refine ⟨q,t,ln,cl,more,real,e1,k _ _ (.inl rfl) e2,?_⟩
  rcases e3 with e3 | ⟨c,o,vs,u,r1,r2,r3,r4⟩
  · exact .inl e3
  · exact .inr ⟨c,o,vs,u,r1,ho _ r2,k _ _ (.inr r2) r3,r4⟩
def TbAt (K:PySem.W.Frag) (H:Hp):Prop:=∀ t,tabOf K=some t→∃ more,H t.1=some (.tbl (t.2 ++ more))
theorem TbAt.none {K:PySem.W.Frag} {H:Hp} (h:tabOf K = .none):TbAt K H:=fun t e=>by rw [h] at e; cases e
theorem TbAt.grown {K:PySem.W.Frag} {H H':Hp} (x:TbAt K H) (g:∀ b ps,H b=some (.tbl ps)→∃ more,H' b=some (.tbl (ps ++ more))):TbAt K H':=fun t e=>by
  obtain ⟨m1,e1⟩:=x t e
  obtain ⟨m2,e2⟩:=g _ _ e1
  exact ⟨m1 ++ m2,by rw [e2,Array.append_assoc]⟩
section
variable (P:Program) (w:World)
def ObjOk (H:Hp) (h:Heap) (a:Addr):HO→Prop
  | .lst xs=>xs.length ≤ sizeLine∧∃ (its:List Value) (n:Nat),Vals xs its∧h.get? a=some { cls:=.type "list",data:=.seq its.toArray n }
  | .tup xs=>xs.length ≤ sizeLine∧∃ its:List Value,Vals xs its∧IsTup h a its.toArray
  | .dK kvs=>kvs.length ≤ sizeLine∧(a == sysModules)=false∧∃ vs,KV kvs vs∧h.DictOf (zba P w) a vs
  | .dT kvs=>kvs.length ≤ sizeLine∧(a == sysModules)=false∧∃ xs:List (List Key × Addr × Value),
      Paired (fun (p:List Key × V) (q:List Key × Addr × Value)=>p.1=q.1∧H q.2.1=some (.tup (p.1.map kV))∧RelV p.2 q.2.2) kvs xs ∧
      ∃ o es ep,h.get? a=some o∧o.ExactDict∧o.data = .dict es ep∧es.toList=xs.map (entryOfKey (tupleKind (zba P w)))∧(xs.map (·.1)).Nodup
  | .set S n=>h.SetOf (intKind P w) a S n
  | .ins C dx fs=>H dx=some (.own a)∧fs.length ≤ 1000∧dx ≠ a∧h.get? a=some (PySem.W.instObj C dx) ∧
      ∃ mA,h.Ns1 dx mA∧(∀ f,RelO (fs.lookup f) (mA f))∧PySem.Within mA (fs.map (·.1))
  | .own _=>∃ o,h.get? a=some o
  | .xd fs=>∃ mA,h.Ns1 a mA∧∀ f,RelO (fs.lookup f) (mA f)
  | .rng lo hi=>∃ t u v,h.get? a=some { cls:=.type "range",data:=.fields #[.int lo t,.int hi u,.int 1 v] }
  | .frz o u=>h.get? a=some o∧ObjOk H h a u
  | .tbl ps=>TblOk H h a ps
  | .met f x=>h.get? a=some (PySem.W.methodObj (.ref f) (.ref x))
  | .ext φ=>φ h∧(∃ o,h.get? a=some o)∧∀ h1 h2:Heap,φ h1→(∀ o,h1.get? a=some o→h2.get? a=some o)→φ h2
def HOk (H:Hp) (h:Heap):Prop:=∀ a o,H a=some o→ObjOk P w H h a o
end
section
variable {P:Program} {w:World} {H H':Hp} {h h':Heap} {a:Addr} {o:HO}
theorem ObjOk.lt (x:ObjOk P w H h a o):a < h.objs.size:=by
  cases o with
  | lst xs=>obtain ⟨_,_,_,_,e⟩:=x; exact Heap.lt_size e
  | tup xs=>obtain ⟨_,_,_,p⟩:=x; exact p.lt
  | dK kvs=>obtain ⟨_,_,_,_,o,_,_,e,_⟩:=x; exact Heap.lt_size e
  | dT kvs=>obtain ⟨_,_,_,_,o,_,_,e,_⟩:=x; exact Heap.lt_size e
  | set S n=>obtain ⟨o,_,_,_,e,_⟩:=x; exact Heap.lt_size e
  | ins C dx fs=>obtain ⟨_,_,_,e,_⟩:=x; exact Heap.lt_size e
  | own y=>obtain ⟨_,e⟩:=x; exact Heap.lt_size e
  | xd fs=>obtain ⟨_,⟨_,_,_,e,_⟩,_⟩:=x; exact Heap.lt_size e
  | rng lo hi=>obtain ⟨_,_,_,e⟩:=x; exact Heap.lt_size e
  | frz ob u=>obtain ⟨e,_⟩:=x; exact Heap.lt_size e
  | tbl ps=>exact TblOk.lt x
  | met f y=>exact Heap.lt_size (show h.get? a=some _ from x)
  | ext φ=>obtain ⟨_,⟨_,e⟩,_⟩:=x; exact Heap.lt_size e
theorem Paired.mapP {α β:Type} {F G:α→β→Prop}:∀ {l₁:List α} {l₂:List β},Paired F l₁ l₂→(∀ a b,F a b→G a b)→Paired G l₁ l₂
  | _,_,.nil,_=>.nil
  | _,_,.cons r t,f=>.cons (f _ _ r) (Paired.mapP t f)
theorem ObjOk.stay (x:ObjOk P w H h a o) (k:∀ b u,(b=a∨H b=some (.own a))→h.get? b=some u→h'.get? b=some u)
    (ho:∀ b,H b=some (.own a)→H' b=some (.own a)) (ht:∀ b xs,H b=some (.tup xs)→H' b=some (.tup xs)):ObjOk P w H' h' a o:=by
  induction o with
  | lst xs=>obtain ⟨z,its,n,r,e⟩:=x; exact ⟨z,its,n,r,k _ _ (.inl rfl) e⟩
  | tup xs=>obtain ⟨z,its,r,ob,e,c⟩:=x; exact ⟨z,its,r,ob,k _ _ (.inl rfl) e,c⟩
  | dK kvs=>obtain ⟨z,y,vs,r,ob,es,ep,e,c⟩:=x; exact ⟨z,y,vs,r,ob,es,ep,k _ _ (.inl rfl) e,c⟩
  | dT kvs =>
    obtain ⟨z,y,xs,r,ob,es,ep,e,c⟩:=x
    exact ⟨z,y,xs,Paired.mapP r fun p q z=>⟨z.1,ht _ _ z.2.1,z.2.2⟩,ob,es,ep,k _ _ (.inl rfl) e,c⟩
  | set S n=>obtain ⟨ob,es,ep,t,e,c⟩:=x; exact ⟨ob,es,ep,t,k _ _ (.inl rfl) e,c⟩
  | ins C dx fs =>
    obtain ⟨d,z,ne,e,mA,⟨od,es,ep,e2,c⟩,r⟩:=x
    exact ⟨ho _ d,z,ne,k _ _ (.inl rfl) e,mA,⟨od,es,ep,k _ _ (.inr d) e2,c⟩,r⟩
  | own y=>obtain ⟨ob,e⟩:=x; exact ⟨ob,k _ _ (.inl rfl) e⟩
  | xd fs=>obtain ⟨mA,⟨od,es,ep,e,c⟩,r⟩:=x; exact ⟨mA,⟨od,es,ep,k _ _ (.inl rfl) e,c⟩,r⟩
  | rng lo hi=>obtain ⟨t,u,v,e⟩:=x; exact ⟨t,u,v,k _ _ (.inl rfl) e⟩
  | frz ob u ih=>obtain ⟨e,q⟩:=x; exact ⟨k _ _ (.inl rfl) e,ih q⟩
  | tbl ps=>exact TblOk.stay x k ho
  | met f y =>
    have e:h.get? a=some (PySem.W.methodObj (.ref f) (.ref y)):=x
    show h'.get? a=some (PySem.W.methodObj (.ref f) (.ref y))
    exact k a _ (.inl rfl) e
  | ext φ=>obtain ⟨p,⟨o,e⟩,st⟩:=x; exact ⟨st _ _ p fun o q=>k _ _ (.inl rfl) q,⟨o,k _ _ (.inl rfl) e⟩,st⟩
theorem HOk.lt (x:HOk P w H h) (e:H a=some o):a < h.objs.size:=(x a o e).lt
theorem HOk.fresh (x:HOk P w H h) (e:h.objs.size ≤ a):H a=none:=by
  cases q:H a with
  | none=>rfl
  | some u=>exact absurd (Nat.lt_of_lt_of_le (x.lt q) e) (Nat.lt_irrefl _)
theorem HOk.kept (x:HOk P w H h) (k:∀ b u,h.get? b=some u→h'.get? b=some u):HOk P w H h':=fun a o e =>
  (x a o e).stay (fun b u _ q=>k b u q) (fun _ q=>q) fun _ _ q=>q
theorem HOk.laid (x:HOk P w H h) (k:∀ b u,h.get? b=some u→h'.get? b=some u) (hp:h.objs.size ≤ a) (new:ObjOk P w (upd H a o) h' a o):HOk P w (upd H a o) h':=fun b u e=>by
  have hn:=x.fresh hp
  by_cases hb:b=a
  · subst hb; rw [zah] at e; cases e; exact new
  · rw [zaf hb] at e
    exact (x b u e).stay (fun c v _ q=>k c v q) (fun c q=>by rw [zaf (zan q hn)]; exact q) fun c xs q=>by rw [zaf (zan q hn)]; exact q
end
def Rd (H:Hp) (a:Addr) (u:HO):Prop:=H a=some u∨∃ o,H a=some (.frz o u)
theorem Rd.ok {P:Program} {w:World} {H:Hp} {h:Heap} {a:Addr} {u:HO} (r:Rd H a u) (x:HOk P w H h):ObjOk P w H h a u:=by
  rcases r with r | ⟨o,r⟩
  · exact x a u r
  · obtain ⟨_,q⟩:=x a _ r
    exact q
def Mut:Option HO→Prop
  | some (.lst _)=>True
  | some (.dK _)=>True
  | some (.dT _)=>True
  | some (.set _ _)=>True
  | some (.ins _ _ _)=>True
  | some (.ext _)=>True
  | _=>False
section
variable {P:Program} {w:World} {H:Hp} {h h':Heap} {x e:Addr} {o':HO}
theorem HOk.write (ok:HOk P w H h) (mu:Mut (H x)) (he:e=x∨H e=some (.own x)) (k:∀ b u,b ≠ e→h.get? b=some u→h'.get? b=some u) (heo:∃ u,h'.get? e=some u)
    (new:ObjOk P w (upd H x o') h' x o'):HOk P w (upd H x o') h':=fun b u q=>by
  have nown:∀ c y,H c=some (.own y)→c ≠ x:=fun c y r z=>by subst z; rw [r] at mu; exact mu
  have ntup:∀ c xs,H c=some (.tup xs)→c ≠ x:=fun c xs r z=>by subst z; rw [r] at mu; exact mu
  by_cases hb:b=x
  · subst hb; rw [zah] at q; cases q; exact new
  · rw [zaf hb] at q
    by_cases hbe:b=e
    · have q':H b=some (.own x):=by
        rcases he with z | z
        · exact absurd (hbe.trans z) hb
        · rw [hbe]; exact z
      rw [q] at q'; cases q'
      obtain ⟨v,hv⟩:=heo
      exact ⟨v,by rw [hbe]; exact hv⟩
    · refine (ok b u q).stay (fun c v hc r=>k c v ?_ r) (fun c r=>by rw [zaf (nown c b r)]; exact r) fun c xs r=>by rw [zaf (ntup c xs r)]; exact r
      rcases hc with rfl | hc
      · exact hbe
      · rintro rfl
        rcases he with z | z
        · exact nown c b hc z
        · rw [hc] at z; cases z; exact hb rfl
end
structure Un (fs ex:List Addr) (H H':Hp) (h h':Heap):Prop where
  keep:∀ b o,h.get? b=some o→H b=none→b ∉ fs→b ∉ ex→h'.get? b=some o
  slot:∀ b o,h.get? b=some o→H b=none→b ∈ fs→b ∉ ex→∃ sl,h'.get? b=some { o with slots:=sl }
  free:∀ b o,h.get? b=some o→H b=none→b ∉ ex→H' b=none
  there:∀ b o,h.get? b=some o→b ∉ ex→∃ o',h'.get? b=some o'
  tups:∀ b xs,H b=some (.tup xs)→H' b=some (.tup xs)
  frzs:∀ b o u,H b=some (.frz o u)→H' b=some (.frz o u)
  tbls:∀ b ps,H b=some (.tbl ps)→∃ more,H' b=some (.tbl (ps ++ more))
section
variable {fs fs' ex ex':List Addr} {H H1 H2:Hp} {h h1 h2 h':Heap} {a x e:Addr} {o:HO}
theorem Un.any (u:Un fs ex H H1 h h1) {b:Addr} {ob:Obj} (q:h.get? b=some ob) (n:H b=none) (hx:b ∉ ex):∃ sl,h1.get? b=some { ob with slots:=sl }:=by
  by_cases hb:b ∈ fs
  · exact u.slot b ob q n hb hx
  · exact ⟨ob.slots,u.keep b ob q n hb hx⟩
theorem Un.kept (k:∀ b u,h.get? b=some u→h'.get? b=some u):Un fs ex H H h h' :=
  ⟨fun b ob q _ _ _=>k b ob q,fun b ob q _ _ _=>⟨ob.slots,k b ob q⟩,fun _ _ _ n _=>n,fun b ob q _=>⟨ob,k b ob q⟩,fun _ _ q=>q,fun _ _ _ q=>q,fun _ ps q=>⟨#[],by rw [q]; simp⟩⟩
theorem Un.refl:Un fs ex H H h h:=Un.kept fun _ _ q=>q
theorem Un.laid (k:∀ b u,h.get? b=some u→h'.get? b=some u) (hp:h.objs.size ≤ a) (hn:H a=none):Un fs ex H (upd H a o) h h' where
  keep:=fun b u q _ _ _=>k b u q
  slot:=fun b u q _ _ _=>⟨u.slots,k b u q⟩
  free:=fun b u q n _=>by rw [zaf (Nat.ne_of_lt (Nat.lt_of_lt_of_le (Heap.lt_size q) hp))]; exact n
  there:=fun b u q _=>⟨u,k b u q⟩
  tups:=fun b xs q=>by rw [zaf (zan q hn)]; exact q
  frzs:=fun b u xs q=>by rw [zaf (zan q hn)]; exact q
  tbls:=fun b ps q=>⟨#[],by rw [zaf (zan q hn),q]; simp⟩
theorem Un.write (mu:Mut (H x)) (he:e=x∨H e=some (.own x)) (k:∀ b u,b ≠ e→h.get? b=some u→h'.get? b=some u) (heo:∃ u,h'.get? e=some u):Un fs ex H (upd H x o) h h':=by
  have hx:∀ b,H b=none→b ≠ x:=fun b n z=>by subst z; rw [n] at mu; exact mu
  have hb:∀ b,H b=none→b ≠ e:=fun b n z=>by
    subst z
    rcases he with r | r
    · exact hx b n r
    · rw [n] at r; cases r
  have hm:∀ b u,H b=some u→¬ Mut (some u)→b ≠ x:=fun b u q nm z=>by subst z; rw [q] at mu; exact nm mu
  refine ⟨fun b u q n _ _=>k b u (hb b n) q,fun b u q n _ _=>⟨u.slots,k b u (hb b n) q⟩,fun b u q n _=>by rw [zaf (hx b n)]; exact n,fun b u q _=>?_,
    fun b xs q=>by rw [zaf (hm b _ q fun z=>z)]; exact q,fun b u xs q=>by rw [zaf (hm b _ q fun z=>z)]; exact q,fun b ps q=>⟨#[],by rw [zaf (hm b _ q fun z=>z),q]; simp⟩⟩
  by_cases hbe:b=e
  · subst hbe; exact heo
  · exact ⟨u,k b u hbe q⟩
end
def trk (h:Heap) (H:Hp):List Addr:=(List.range h.objs.size).filter fun a=>(H a).isSome
def hidT (h:Heap) (H:Hp):Heap:=PySem.W.hideAll h (trk h H)
theorem ziQ (h:Heap) (H:Hp):(hidT h H).objs.size=h.objs.size:=PySem.W.hideAll_size _ _
theorem zkh {h:Heap} {H:Hp} {b:Addr} {o:Obj} (e:h.get? b=some o) (n:H b=none):(hidT h H).get? b=some o :=
  PySem.W.hideAll_get _ e fun hm=>by
    have q:(H b).isSome=true:=(List.mem_filter.mp hm).2
    rw [n] at q; simp at q
theorem zlL {h:Heap} {H:Hp} {b:Addr} {o:Obj} (e:(hidT h H).get? b=some o):h.get? b=some o∧H b=none:=by
  have e':h.get? b=some o:=PySem.W.of_hideAll (trk h H) e
  refine ⟨e',?_⟩
  cases q:H b with
  | none=>rfl
  | some x =>
    have hm:b ∈ trk h H:=List.mem_filter.mpr ⟨List.mem_range.mpr (Heap.lt_size e'),by simp [q]⟩
    have z:(hidT h H).get? b=none:=PySem.W.hideAll_none (trk h H) hm
    rw [z] at e; cases e
def znA (g h:Heap) (L:Addr):List (Addr × Obj):=(List.range h.objs.size).filterMap fun a=>if a=L∨(g.get? a).isSome=true then none else (h.get? a).map fun o=>(a,o)
end L2
namespace L2
open PySem PySem.Spec PyProof.Rows
structure Mod (K:PySem.W.Frag) (mg:Str→Option Value) (base:Heap):Prop where
  kin:K.In base
  glob:base.Ns mainGlobals mg
  blt:∃ mb,base.Ns builtinsNs mb∧∀ x:Str,x ≠ "__name__"→mb x=bootBuiltins x
  nolimit:base.NoLimit
structure Cx where
  prog:Program
  w:World
  K:PySem.W.Frag
  mg:Str→Option Value
  base:Heap
  A:Around
  N:List Str
  s₀:Shared
  H₀:Hp
  env:Env
  outer:List Env
  stack:List Env
  ex:List Addr
  fn:Str→Bool
  calm:Bool
  pn:List (Addr × Obj)
  xe:Value→Shared→Prop
def frs (l:List Env):List Addr:=l.filterMap (·.frame)
abbrev Cx.fs (X:Cx):List Addr:=frs X.outer
def Vis (sc:Scope) (x:Str):Prop:=sc.names.lookup x=some .local∨sc.names.lookup x=some .cell∨sc.names.lookup x=some .free
def Loc (sc:Scope) (x:Str):Prop:=sc.names.lookup x=some .local∨sc.names.lookup x=some .cell
def Look (env:Env) (h:Heap) (m:Str→Option Value) (x:Str) (u:Value):Prop :=
  (env.kindOf x=some .local∧m x=some u)∨((env.kindOf x=some .cell∨env.kindOf x=some .free)∧∃ c,env.cells.lookup x=some c∧h.IsCell c (some u))
structure Cx.Ok (X:Cx):Prop where
  mod:Mod X.K X.mg X.base
  kind:X.env.scope.kind = .function
  glob:X.env.globals=mainGlobals
  blt:X.env.builtins=builtinsNs
  above:X.s₀.heap.objs.size ≤ X.env.locals
  inj:∀ x y c,X.env.cells.lookup x=some c→X.env.cells.lookup y=some c→x=y
  has:∀ x,(X.env.kindOf x=some .cell∨X.env.kindOf x=some .free)→∃ c,X.env.cells.lookup x=some c
  cab:∀ x c,X.fn x=true→X.env.cells.lookup x=some c→X.s₀.heap.objs.size ≤ c
  hd:X.calm=true→X.A.handled=none
  frames:X.A.frames=some X.stack
  stk:X.stack=X.outer∨(X.stack=X.env :: X.outer∧X.env.frame=some X.env.locals)
  exf:∀ b ∈ X.ex,b ≠ X.env.locals∧∀ x c,X.env.cells.lookup x=some c→c ≠ b
  bs:∀ b o,X.base.get? b=some o→X.s₀.heap.get? b=some o∧X.H₀ b=none
  bsz:X.base.objs.size ≤ X.s₀.heap.objs.size
  noex:∀ b o,X.base.get? b=some o→b ∉ X.ex
  exfs:∀ b ∈ X.ex,b ∉ X.fs
  funs:X.s₀.heap.FunFrames X.base X.outer
  frf:∀ b ∈ X.fs,X.H₀ b=none
  tb:TbAt X.K X.H₀
structure Inv (X:Cx) (pins:List (Addr × Obj)) (σ:List (Option V)) (H:Hp) (s:Shared):Prop where
  ok:X.Ok
  os:s.os=X.s₀.os
  bare:AllBare s.gens
  base:Un X.fs X.ex X.H₀ H X.s₀.heap s.heap
  loc:∃ m,s.heap.Ns X.env.locals m∧∀ (i:Nat) (x:Str) (v:V),X.N[i]?=some x→σ[i]?=some (some v)→Vis X.env.scope x→∃ u,RelV v u∧Look X.env s.heap m x u
  cell:∀ x c,X.env.cells.lookup x=some c→∃ v,s.heap.IsCell c v
  free:H X.env.locals=none
  freeC:∀ x c,X.env.cells.lookup x=some c→H c=none
  pin:∀ p ∈ X.pn ++ pins,s.heap.get? p.1=some p.2∧H p.1=none∧p.1 ≠ X.env.locals∧p.1 ∉ X.fs∧∀ v,p.2.data ≠ .cell v
  hok:HOk X.prog X.w H s.heap
  len:σ.length=X.N.length
section
variable {X:Cx} {pins:List (Addr × Obj)} {σ:List (Option V)} {H H':Hp} {s:Shared} {h':Heap}
theorem Cx.Ok.nofr (ok:X.Ok) {b:Addr} {o:Obj} (e:X.base.get? b=some o):b ∉ X.fs:=fun hb=>by
  have:=(ok.funs.mem hb).1
  rw [e] at this; cases this
theorem Inv.bs (I:Inv X pins σ H s):∀ b o,X.base.get? b=some o→s.heap.get? b=some o∧H b=none:=fun b o e =>
  ⟨I.base.keep b o (I.ok.bs b o e).1 (I.ok.bs b o e).2 (I.ok.nofr e) (I.ok.noex b o e),I.base.free b o (I.ok.bs b o e).1 (I.ok.bs b o e).2 (I.ok.noex b o e)⟩
theorem Inv.bk (I:Inv X pins σ H s):∀ b o,X.base.get? b=some o→s.heap.get? b=some o:=fun b o e=>(I.bs b o e).1
theorem Inv.mod (I:Inv X pins σ H s):Mod X.K X.mg X.base:=I.ok.mod
theorem Inv.kIn (I:Inv X pins σ H s):X.K.In s.heap:=I.ok.mod.kin.keeps I.bk
theorem Inv.lt (I:Inv X pins σ H s):X.env.locals < s.heap.objs.size:=let ⟨_,hn,_⟩:=I.loc; hn.lt
theorem Inv.sz (I:Inv X pins σ H s):X.s₀.heap.objs.size ≤ s.heap.objs.size:=Nat.le_trans I.ok.above (Nat.le_of_lt I.lt)
theorem Inv.nofs (I:Inv X pins σ H s) {a:Addr} (h:s.heap.objs.size ≤ a):a ∉ X.fs:=fun hb=>by
  obtain ⟨_,o,ho,_⟩:=I.ok.funs.mem hb
  exact absurd (Nat.lt_of_lt_of_le (Heap.lt_size ho) (Nat.le_trans I.sz h)) (Nat.lt_irrefl _)
theorem Inv.cne (I:Inv X pins σ H s):∀ x c,X.env.cells.lookup x=some c→c ≠ X.env.locals:=fun x c e z=>by
  obtain ⟨v,o,ho,hd⟩:=I.cell x c e
  obtain ⟨m,⟨o',es,ep,ho',hd',_⟩,_⟩:=I.loc
  rw [z,ho'] at ho; cases ho; rw [hd'] at hd; cases hd
theorem Inv.funs (I:Inv X pins σ H s):s.heap.FunFrames X.base X.outer:=by
  have all:∀ (l:List Env),(∀ b ∈ frs l,b ∈ X.fs)→X.s₀.heap.FunFrames X.base l→s.heap.FunFrames X.base l:=by
    intro l
    induction l with
    | nil=>intro _ _; trivial
    | cons env r ih =>
      intro hs hl
      obtain ⟨hk,⟨L,o,hf,hn,ho,hd⟩,hr⟩:=hl
      have hL:L ∈ X.fs:=hs L (by unfold frs; rw [List.filterMap_cons,hf]; exact List.mem_cons_self)
      obtain ⟨sl,e⟩:=I.base.slot L o ho (I.ok.frf L hL) hL fun z=>I.ok.exfs L z hL
      exact ⟨hk,⟨L,_,hf,hn,e,hd⟩,ih (fun b hb=>hs b (by unfold frs; rw [List.filterMap_cons,hf]; exact List.mem_cons_of_mem _ hb)) hr⟩
  exact all X.outer (fun _ hb=>hb) I.ok.funs
theorem Inv.stack (I:Inv X pins σ H s):s.heap.FunFrames X.base X.stack:=by
  rcases I.ok.stk with e | ⟨e,hf⟩
  · rw [e]; exact I.funs
  · rw [e]
    obtain ⟨m,hn,_⟩:=I.loc
    refine .cons (by rw [I.ok.kind]; decide) hf hn ?_ I.funs
    exact Heap.get?_none_of_le (Nat.le_trans I.ok.bsz I.ok.above)
theorem Inv.stkSub (I:Inv X pins σ H s):∀ b ∈ frs X.stack,b ∈ X.env.locals :: X.fs:=fun b hb=>by
  rcases I.ok.stk with e | ⟨e,hf⟩
  · rw [e] at hb; exact List.mem_cons_of_mem _ hb
  · rw [e] at hb
    unfold frs at hb
    rw [List.filterMap_cons,hf] at hb
    exact hb
theorem Inv.stkFree (I:Inv X pins σ H s):∀ b ∈ frs X.stack,H b=none:=fun b hb=>by
  rcases List.mem_cons.mp (I.stkSub b hb) with e | hb
  · rw [e]; exact I.free
  · obtain ⟨_,o,ho,_⟩:=I.ok.funs.mem hb
    exact I.base.free b o ho (I.ok.frf b hb) fun z=>I.ok.exfs b z hb
theorem Inv.step {g':Array GenState} {t':Nat} {d':Drawn} {ch:List Addr} (I:Inv X pins σ H s)
    (hch:∀ b ∈ ch,(b ∈ X.ex∨X.s₀.heap.objs.size ≤ b)∧b ≠ X.env.locals∧(∀ x c,X.env.cells.lookup x=some c→c ≠ b)∧∀ p ∈ X.pn ++ pins,p.1 ≠ b)
    (keep:∀ b o,b ≠ X.env.locals→b ∉ X.fs→b ∉ ch→s.heap.get? b=some o→H b=none→h'.get? b=some o)
    (slot:∀ b o,b ≠ X.env.locals→b ∈ X.fs→b ∉ ch→s.heap.get? b=some o→H b=none→∃ sl,h'.get? b=some { o with slots:=sl }) (free:∀ b o,b ∉ ch→s.heap.get? b=some o→H b=none→H' b=none)
    (there:∀ b o,b ∉ ch→s.heap.get? b=some o→∃ o',h'.get? b=some o')
    (tups:∀ b xs,H b=some (.tup xs)→H' b=some (.tup xs)) (frzs:∀ b o u,H b=some (.frz o u)→H' b=some (.frz o u)) (tbls:∀ b ps,H b=some (.tbl ps)→∃ more,H' b=some (.tbl (ps ++ more)))
    (ns:∀ m,s.heap.Ns X.env.locals m→h'.Ns X.env.locals m) (hok:HOk X.prog X.w H' h') (hg:AllBare g') :
    Inv X pins σ H' { s with heap:=h',gens:=g',drawn:=d',toks:=t' }:=by
  have neL:∀ b o,X.s₀.heap.get? b=some o→b ≠ X.env.locals:=fun b o e=>Nat.ne_of_lt (Nat.lt_of_lt_of_le (Heap.lt_size e) I.ok.above)
  have neC:∀ b o,X.s₀.heap.get? b=some o→b ∉ X.ex→b ∉ ch:=fun b o e hx hb=>by
    rcases (hch b hb).1 with z | z
    · exact hx z
    · exact absurd (Nat.lt_of_lt_of_le (Heap.lt_size e) z) (Nat.lt_irrefl _)
  have cellK:∀ x c,X.env.cells.lookup x=some c→∀ v,s.heap.IsCell c v→h'.IsCell c v:=fun x c e v ⟨o,ho,hd⟩=>by
    have nch:c ∉ ch:=fun z=>(hch c z).2.2.1 x c e rfl
    by_cases hc:c ∈ X.fs
    · obtain ⟨sl,q⟩:=slot c o (I.cne x c e) hc nch ho (I.freeC x c e)
      exact ⟨_,q,hd⟩
    · exact ⟨o,keep c o (I.cne x c e) hc nch ho (I.freeC x c e),hd⟩
  refine ⟨I.ok,I.os,hg,⟨fun b o e n hb hx=>?_,fun b o e n hb hx=>?_,fun b o e n hx=>?_,fun b o e hx=>?_,fun b xs e=>tups b xs (I.base.tups b xs e),fun b o xs e=>frzs b o xs (I.base.frzs b o xs e),fun b ps e=>?_⟩,?_,fun x c e=>?_,?_,fun x c e=>?_,fun p hp=>?_,hok,I.len⟩
  · exact keep b o (neL b o e) hb (neC b o e hx) (I.base.keep b o e n hb hx) (I.base.free b o e n hx)
  · obtain ⟨sl,e1⟩:=I.base.slot b o e n hb hx
    obtain ⟨sl',e2⟩:=slot b _ (neL b o e) hb (neC b o e hx) e1 (I.base.free b o e n hx)
    exact ⟨sl',e2⟩
  · obtain ⟨o',e1⟩:=I.base.there b o e hx
    exact free b o' (neC b o e hx) e1 (I.base.free b o e n hx)
  · obtain ⟨o',e1⟩:=I.base.there b o e hx
    exact there b o' (neC b o e hx) e1
  · obtain ⟨m1,e1⟩:=I.base.tbls b ps e
    obtain ⟨m2,e2⟩:=tbls b _ e1
    exact ⟨m1 ++ m2,by rw [e2,Array.append_assoc]⟩
  · obtain ⟨m,hn,hl⟩:=I.loc
    refine ⟨m,ns m hn,fun i x v e1 e2 e3=>?_⟩
    obtain ⟨u,r,l⟩:=hl i x v e1 e2 e3
    refine ⟨u,r,?_⟩
    rcases l with l | ⟨k,c,e,z⟩
    · exact .inl l
    · exact .inr ⟨k,c,e,cellK x c e _ z⟩
  · obtain ⟨v,z⟩:=I.cell x c e
    exact ⟨v,cellK x c e v z⟩
  · obtain ⟨m,⟨o,_,_,ho,_⟩,_⟩:=I.loc
    exact free _ o (fun z=>(hch _ z).2.1 rfl) ho I.free
  · obtain ⟨v,o,ho,hd⟩:=I.cell x c e
    exact free c o (fun z=>(hch c z).2.2.1 x c e rfl) ho (I.freeC x c e)
  · obtain ⟨e,n,ne,nf,d⟩:=I.pin p hp
    have nch:p.1 ∉ ch:=fun z=>(hch p.1 z).2.2.2 p hp rfl
    exact ⟨keep p.1 p.2 ne nf nch e n,free p.1 p.2 nch e n,ne,nf,d⟩
theorem Inv.un {t':Nat} (I:Inv X pins σ H s) (u:Un X.fs [] H H' s.heap h') (hok:HOk X.prog X.w H' h'):Inv X pins σ H' { s with heap:=h',toks:=t' }:=by
  obtain ⟨m,⟨o,es,ep,ho,r⟩,_⟩:=id I.loc
  obtain ⟨sl,hL⟩:=u.any ho I.free (by simp)
  exact I.step (g':=s.gens) (d':=s.drawn) (ch:=[]) (fun _ z=>nomatch z) (fun b o _ hb _ e n=>u.keep b o e n hb (by simp)) (fun b o _ hb _ e n=>u.slot b o e n hb (by simp)) (fun b o _ e n=>u.free b o e n (by simp)) (fun b o _ e=>u.there b o e (by simp)) u.tups u.frzs u.tbls (fun m' hm=>by
    obtain ⟨o',es',ep',ho',r'⟩:=hm
    rw [ho] at ho'; cases ho'
    exact ⟨_,es',ep',hL,r'⟩) hok I.bare
theorem Inv.call {g':Array GenState} {t':Nat} {d':Drawn} {ch:List Addr} (I:Inv X pins σ H s) (u:Un (frs X.stack) ch H H' s.heap h') (hok:HOk X.prog X.w H' h') (hg:AllBare g')
    (hch:∀ b ∈ ch,(b ∈ X.ex∨X.s₀.heap.objs.size ≤ b)∧b ≠ X.env.locals∧(∀ x c,X.env.cells.lookup x=some c→c ≠ b)∧∀ p ∈ X.pn ++ pins,p.1 ≠ b) :
    Inv X pins σ H' { s with heap:=h',gens:=g',drawn:=d',toks:=t' }:=by
  obtain ⟨m,⟨o,es,ep,ho,r⟩,_⟩:=id I.loc
  obtain ⟨sl,hL⟩:=u.any ho I.free fun z=>(hch _ z).2.1 rfl
  exact I.step (ch:=ch) hch (fun b o hL hb hc e n=>u.keep b o e n (fun z=>(List.mem_cons.mp (I.stkSub b z)).elim hL hb) hc) (fun b o _ _ hc e n=>u.any e n hc) (fun b o hc e n=>u.free b o e n hc) (fun b o hc e=>u.there b o e hc) u.tups u.frzs u.tbls (fun m' hm=>by
    obtain ⟨o',es',ep',ho',r'⟩:=hm
    rw [ho] at ho'; cases ho'
    exact ⟨_,es',ep',hL,r'⟩) hok hg
theorem Inv.turned {t':Nat} {it:Addr} (I:Inv X pins σ H s) (k:∀ b o,b ≠ it→s.heap.get? b=some o→h'.get? b=some o) (hn:H it=none) (hL:it ≠ X.env.locals)
    (h1:it ∈ X.ex∨X.s₀.heap.objs.size ≤ it) (h2:∀ x c,X.env.cells.lookup x=some c→c ≠ it) (h3:∀ p ∈ X.pn ++ pins,p.1 ≠ it):Inv X pins σ H { s with heap:=h',toks:=t' }:=by
  have nit:∀ b u,H b=some u→b ≠ it:=fun b u e z=>by rw [z,hn] at e; cases e
  refine I.step (g':=s.gens) (d':=s.drawn) (ch:=[it]) (fun b hb=>?_) (fun b o _ _ hc e _=>k b o (fun z=>hc (by simp [z])) e) (fun b o _ _ hc e _=>⟨o.slots,k b o (fun z=>hc (by simp [z])) e⟩) (fun _ _ _ _ n=>n)
    (fun b o hc e=>⟨o,k b o (fun z=>hc (by simp [z])) e⟩) (fun _ _ e=>e) (fun _ _ _ e=>e) (fun b ps e=>⟨#[],by rw [e]; simp⟩) (fun m hm=>?_) (fun b u e=>?_) I.bare
  · have e:b=it:=by simpa using hb
    subst e
    exact ⟨h1,hL,h2,h3⟩
  · obtain ⟨o,es,ep,ho,r⟩:=hm
    exact ⟨o,es,ep,k _ o (Ne.symm hL) ho,r⟩
  · refine (I.hok b u e).stay (fun c v hc q=>k c v ?_ q) (fun _ q=>q) fun _ _ q=>q
    rcases hc with z | z
    · rw [z]; exact nit b u e
    · exact nit c _ z
theorem Inv.tok (I:Inv X pins σ H s) (t:Nat):Inv X pins σ H { s with toks:=t }:=I.un (h':=s.heap) (t':=t) Un.refl I.hok
theorem Inv.kept {t':Nat} (I:Inv X pins σ H s) (k:∀ b u,s.heap.get? b=some u→h'.get? b=some u):Inv X pins σ H { s with heap:=h',toks:=t' }:=I.un (Un.kept k) (I.hok.kept k)
theorem Inv.laid {a:Addr} {o:HO} {t':Nat} (I:Inv X pins σ H s) (k:∀ b u,s.heap.get? b=some u→h'.get? b=some u) (hp:s.heap.objs.size ≤ a) (new:ObjOk X.prog X.w (upd H a o) h' a o) :
    Inv X pins σ (upd H a o) { s with heap:=h',toks:=t' }:=I.un (Un.laid k hp (I.hok.fresh hp)) (I.hok.laid k hp new)
theorem Inv.write {x e:Addr} {o:HO} {t':Nat} (I:Inv X pins σ H s) (mu:Mut (H x)) (he:e=x∨H e=some (.own x)) (k:∀ b u,b ≠ e→s.heap.get? b=some u→h'.get? b=some u) (heo:∃ u,h'.get? e=some u)
    (new:ObjOk X.prog X.w (upd H x o) h' x o):Inv X pins σ (upd H x o) { s with heap:=h',toks:=t' }:=I.un (Un.write mu he k heo) (I.hok.write mu he k heo new)
theorem Inv.pins_of {pins':List (Addr × Obj)} (I:Inv X pins σ H s) (h:∀ p ∈ pins',s.heap.get? p.1=some p.2∧H p.1=none∧p.1 ≠ X.env.locals∧p.1 ∉ X.fs∧∀ v,p.2.data ≠ .cell v):Inv X pins' σ H s :=
  ⟨I.ok,I.os,I.bare,I.base,I.loc,I.cell,I.free,I.freeC,fun p hp=>(List.mem_append.mp hp).elim (fun z=>I.pin p (List.mem_append_left _ z)) (h p),I.hok,I.len⟩
theorem zhG {N:List Str} (hN:N.Nodup) {i j:Nat} {x:Str} (a:N[i]?=some x) (b:N[j]?=some x):i=j:=by
  obtain ⟨h1,e1⟩:=List.getElem?_eq_some_iff.mp a
  obtain ⟨h2,e2⟩:=List.getElem?_eq_some_iff.mp b
  exact (List.getElem_inj hN).mp (e1.trans e2.symm)
theorem zjL {M:Model} {A:Around} {E:Value→Shared→Prop} {i:Nat} {x:Str} {v:V} {u:Value} {Q:Unit→Shared→Prop} (I:Inv X pins σ H s) (hN:X.N.Nodup) (hi:X.N[i]?=some x) (hx:Loc X.env.scope x) (r:RelV v u)
    (h:∀ s',Inv X pins (σ.set i (some v)) H s'→(∃ a,Heap.SameBut a s.heap s'.heap∧(a=X.env.locals∨X.env.cells.lookup x=some a))→Q () s') (hf:X.fn x=true∨X.env.scope.names.lookup x=some .local:=by first | exact .inl rfl | exact .inr rfl | assumption):wpAny M A (storeName X.env x u) Q E s:=by
  obtain ⟨m,hn,hl⟩:=id I.loc
  have hcls:(X.env.scope.kind == .class || (X.env.scope.kind == .module && X.env.locals != X.env.globals))=false:=by rw [I.ok.kind]; rfl
  have hiσ:i < σ.length:=by rw [I.len]; exact (List.getElem?_eq_some_iff.mp hi).1
  have cne:=I.cne
  have tracked:∀ {a:Addr} {h':Heap},(∃ o,s.heap.get? a=some o∧H a=none)→Heap.SameBut a s.heap h'→HOk X.prog X.w H h':=fun {a h'} ha hs b ob e=>by
    obtain ⟨_,_,hfree⟩:=ha
    refine (I.hok b ob e).stay (fun c w' hc q=>(hs.2 c ?_).trans q) (fun _ q=>q) fun _ _ q=>q
    rintro rfl
    rcases hc with rfl | hc
    · rw [hfree] at e; cases e
    · rw [hfree] at hc; cases hc
  rcases hx with hk | hk
  · refine wpAny_storeName_local hk hn (fun h' hn' hs=>?_) hcls
    obtain ⟨oL,_,_,hoL,_⟩:=id hn
    refine h _ ⟨I.ok,I.os,I.bare,⟨fun b o e n hb hx=>?_,fun b o e n hb hx=>?_,I.base.free,fun b o e hx=>?_,I.base.tups,I.base.frzs,I.base.tbls⟩,⟨_,hn',fun j y v' e1 e2 e3=>?_⟩,fun y c e=>?_,I.free,I.freeC,fun p hp=>?_,tracked ⟨oL,hoL,I.free⟩ hs,by simpa using I.len⟩ ⟨_,hs,.inl rfl⟩
    · exact (hs.2 b (Nat.ne_of_lt (Nat.lt_of_lt_of_le (Heap.lt_size e) I.ok.above))).trans (I.base.keep b o e n hb hx)
    · obtain ⟨sl,e1⟩:=I.base.slot b o e n hb hx
      exact ⟨sl,(hs.2 b (Nat.ne_of_lt (Nat.lt_of_lt_of_le (Heap.lt_size e) I.ok.above))).trans e1⟩
    · obtain ⟨o',e1⟩:=I.base.there b o e hx
      exact ⟨o',(hs.2 b (Nat.ne_of_lt (Nat.lt_of_lt_of_le (Heap.lt_size e) I.ok.above))).trans e1⟩
    · by_cases hj:j=i
      · subst hj
        rw [hi] at e1; cases e1
        rw [List.getElem?_set_self hiσ] at e2
        cases e2
        exact ⟨u,r,.inl ⟨hk,by simp⟩⟩
      · rw [List.getElem?_set_ne (Ne.symm hj)] at e2
        obtain ⟨u',r',q⟩:=hl j y v' e1 e2 e3
        refine ⟨u',r',?_⟩
        rcases q with ⟨k,e⟩ | ⟨k,c,e,z⟩
        · refine .inl ⟨k,?_⟩
          have:y ≠ x:=fun e=>hj (zhG hN e1 (e ▸ hi))
          simp [this,e]
        · exact .inr ⟨k,c,e,z.sameBut hs (cne y c e)⟩
    · obtain ⟨w',z⟩:=I.cell y c e
      exact ⟨w',z.sameBut hs (cne y c e)⟩
    · obtain ⟨e,n,ne,nf,d⟩:=I.pin p hp
      exact ⟨(hs.2 p.1 ne).trans e,n,ne,nf,d⟩
  · have hfn:X.fn x=true:=by
      rcases hf with z | z
      · exact z
      · rw [z] at hk; cases hk
    obtain ⟨c,hc⟩:=I.ok.has x (.inl hk)
    obtain ⟨w',z⟩:=I.cell x c hc
    refine wpAny_storeName_cell I.ok.kind hk hc z (fun h' hc' hs=>?_)
    obtain ⟨oc,hoc,hocd⟩:=id z
    refine h { s with heap:=h' } ⟨I.ok,I.os,I.bare,⟨fun b o e n hb hx=>?_,fun b o e n hb hx=>?_,I.base.free,fun b o e hx=>?_,I.base.tups,I.base.frzs,I.base.tbls⟩,⟨m,hn.sameBut hs (Ne.symm (cne x c hc)),fun j y v' e1 e2 e3=>?_⟩,fun y c' e=>?_,I.free,I.freeC,fun p hp=>?_,tracked ⟨oc,hoc,I.freeC x c hc⟩ hs,by simpa using I.len⟩ ⟨c,hs,.inr hc⟩
    · exact (hs.2 b (Nat.ne_of_lt (Nat.lt_of_lt_of_le (Heap.lt_size e) (I.ok.cab x c hfn hc)))).trans (I.base.keep b o e n hb hx)
    · obtain ⟨sl,e1⟩:=I.base.slot b o e n hb hx
      exact ⟨sl,(hs.2 b (Nat.ne_of_lt (Nat.lt_of_lt_of_le (Heap.lt_size e) (I.ok.cab x c hfn hc)))).trans e1⟩
    · obtain ⟨o',e1⟩:=I.base.there b o e hx
      exact ⟨o',(hs.2 b (Nat.ne_of_lt (Nat.lt_of_lt_of_le (Heap.lt_size e) (I.ok.cab x c hfn hc)))).trans e1⟩
    · by_cases hj:j=i
      · subst hj
        rw [hi] at e1; cases e1
        rw [List.getElem?_set_self hiσ] at e2
        cases e2
        exact ⟨u,r,.inr ⟨.inl hk,c,hc,hc'⟩⟩
      · rw [List.getElem?_set_ne (Ne.symm hj)] at e2
        obtain ⟨u',r',q⟩:=hl j y v' e1 e2 e3
        refine ⟨u',r',?_⟩
        rcases q with q | ⟨k,c',e,z'⟩
        · exact .inl q
        · refine .inr ⟨k,c',e,z'.sameBut hs ?_⟩
          rintro rfl
          exact hj (zhG hN e1 (I.ok.inj _ _ _ e hc ▸ hi))
    · by_cases hcc:c'=c
      · subst hcc; exact ⟨_,hc'⟩
      · obtain ⟨w2,z2⟩:=I.cell y c' e
        exact ⟨w2,z2.sameBut hs hcc⟩
    · obtain ⟨e,n,ne,nf,d⟩:=I.pin p hp
      refine ⟨(hs.2 p.1 ?_).trans e,n,ne,nf,d⟩
      intro q
      rw [q,hoc] at e
      have q':oc=p.2:=Option.some.inj e
      exact d w' (by rw [← q']; exact hocd)
theorem zfy {M:Model} {A:Around} {E:Value→Shared→Prop} {i:Nat} {x:Str} {v:V} {u:Value} {Q:Unit→Shared→Prop} (I:Inv X pins σ H s) (hN:X.N.Nodup) (hi:X.N[i]?=some x) (hx:Loc X.env.scope x) (r:RelV v u)
    (h:∀ s',Inv X pins (σ.set i (some v)) H s'→Q () s') (hf:X.fn x=true∨X.env.scope.names.lookup x=some .local:=by first | exact .inl rfl | exact .inr rfl | assumption):wpAny M A (storeName X.env x u) Q E s :=
  zjL I hN hi hx r (fun s' I' _=>h s' I') hf
end
abbrev XK:=Value→Option Addr→Hp→Prop
abbrev St:=List (Option V)
abbrev VK:=V→Hp→Prop
abbrev TE:=St→Hp→VK→Prop
abbrev TT:=St→Hp→(Bool→Hp→Prop)→Prop
abbrev TA:=St→Hp→(List V→Hp→Prop)→Prop
structure Ends where
  nx:St→Hp→Prop
  rt:VK
  bk:St→Hp→Prop:=fun _ _=>False
  ct:St→Hp→Prop:=fun _ _=>False
abbrev TS:=Ends→St→Hp→Prop
def EP (X:Cx) (pins:List (Addr × Obj)) (σ:St) (Q:VK) (u:Value) (s':Shared):Prop:=∃ v H',Inv X pins σ H' s'∧RelV v u∧Q v H'
def TP (X:Cx) (pins:List (Addr × Obj)) (σ:St) (Q:Bool→Hp→Prop) (b:Bool) (s':Shared):Prop:=∃ H',Inv X pins σ H' s'∧Q b H'
def AP (X:Cx) (pins:List (Addr × Obj)) (σ:St) (Q:List V→Hp→Prop) (us:List Value) (s':Shared):Prop:=∃ vs H',Inv X pins σ H' s'∧Vals vs us∧Q vs H'
def SP (X:Cx) (pins:List (Addr × Obj)) (D:Ends) (f:Flow) (s':Shared):Prop :=
  match f with
  | .next=>∃ σ' H',Inv X pins σ' H' s'∧D.nx σ' H'
  | .brk=>∃ σ' H',Inv X pins σ' H' s'∧D.bk σ' H'
  | .cont=>∃ σ' H',Inv X pins σ' H' s'∧D.ct σ' H'
  | .ret u=>∃ v σ' H',Inv X pins σ' H' s'∧RelV v u∧D.rt v H'
def PE (X:Cx) (e:Expr) (t:TE):Prop :=
  ∀ (pins:List (Addr × Obj)) (s:Shared) (σ:St) (H:Hp) (Q:VK),Inv X pins σ H s→t σ H Q→wpAny (model X.prog X.w) X.A (eval e X.env) (EP X pins σ Q) X.xe s
def PT (X:Cx) (e:Expr) (t:TT):Prop :=
  ∀ (pins:List (Addr × Obj)) (s:Shared) (σ:St) (H:Hp) (Q:Bool→Hp→Prop),Inv X pins σ H s→t σ H Q→wpAny (model X.prog X.w) X.A (isTrue e X.env (eval e X.env)) (TP X pins σ Q) X.xe s
def PW (X:Cx) (e:Expr) (t:TT):Prop :=
  ∀ (whole:Sem Value) (pins:List (Addr × Obj)) (s:Shared) (σ:St) (H:Hp) (Q:Bool→Hp→Prop),Inv X pins σ H s→t σ H Q→wpAny (model X.prog X.w) X.A (isTrue e X.env whole) (TP X pins σ Q) X.xe s
theorem PW.pt {X:Cx} {e:Expr} {t:TT} (h:PW X e t):PT X e t:=h _
def PA (X:Cx) (es:List Expr) (t:TA):Prop :=
  ∀ (pos:Pos) (pins:List (Addr × Obj)) (s:Shared) (σ:St) (H:Hp) (Q:List V→Hp→Prop),Inv X pins σ H s→t σ H Q→wpAny (model X.prog X.w) X.A (spliced (backTo pos (starEach es X.env))) (AP X pins σ Q) X.xe s
def PS (X:Cx) (st:Stmt) (t:TS):Prop :=
  ∀ (pins:List (Addr × Obj)) (s:Shared) (σ:St) (H:Hp) (D:Ends),Inv X pins σ H s→t D σ H→wpAny (model X.prog X.w) X.A (exec st X.env) (SP X pins D) X.xe s
def PSs (X:Cx) (st:List Stmt) (t:TS):Prop :=
  ∀ (pins:List (Addr × Obj)) (s:Shared) (σ:St) (H:Hp) (D:Ends),Inv X pins σ H s→t D σ H→wpAny (model X.prog X.w) X.A (execs st X.env) (SP X pins D) X.xe s
theorem thn {α:Type} {t:Sem α} {Q Q':α→Shared→Prop} {M:Model} {A:Around} {E:Value→Shared→Prop} {s:Shared} (h:wpAny M A t Q E s) (hQ:∀ a s,Q a s→Q' a s):wpAny M A t Q' E s:=wpAny_mono h hQ fun _ _ x=>x
end L2
namespace L2
open PySem PySem.Spec PyProof.Rows
section
variable {X:Cx}
def tVar (i:Nat):TE:=fun σ H Q=>∃ v,σ[i]?=some (some v)∧Q v H
def tC (v:V):TE:=fun _ H Q=>Q v H
theorem znd {i:Nat} {x:Str} {pos:Pos} (hN:X.N[i]?=some x) (hv:Vis X.env.scope x) (hd:(x == ("__debug__" : Str))=false:=by decide) (hcd:(x == ("__classdict__" : Str))=false:=by decide):PE X (.Name x pos) (tVar i):=by
  intro pins s σ H Q I h
  obtain ⟨v,e,h⟩:=h
  obtain ⟨m,hn,hl⟩:=I.loc
  obtain ⟨u,r,l⟩:=hl i x v hN e hv
  have fin:EP X pins σ Q u s:=⟨v,H,I,r,h⟩
  rcases l with ⟨hk,hm⟩ | ⟨hk,c,hc,hcell⟩
  · exact wpAny_Name (wpAny_loadName_local I.ok.kind hk hn hm fin) hd
  · rcases hk with hk | hk
    · exact wpAny_Name (wpAny_loadName_cell I.ok.kind hk hc hcell fin) hd
    · exact wpAny_Name (wpAny_loadName_free I.ok.kind hk hc hcell fin hcd) hd
theorem zai {i j pos}:PE X (.Constant (.int i) j pos) (tC (.int i)):=fun _ _ _ H _ I h=>wpAny_Constant_int ⟨.int i,H,I.tok _,⟨_,rfl⟩,h⟩
theorem zft {b j pos}:PE X (.Constant (.bool b) j pos) (tC (.bl b)):=fun _ _ _ H _ I h=>Constant_bool ⟨.bl b,H,I,rfl,h⟩
def Gl (X:Cx) (x:Str):Prop:=X.env.kindOf x=some .globalImplicit
theorem zjx {E:Value→Shared→Prop} {pins:List (Addr × Obj)} {s:Shared} {σ:St} {H:Hp} {x:Str} {u:Value} {pos:Pos} {Q:Value→Shared→Prop} (I:Inv X pins σ H s) (hg:Gl X x) (hm:X.mg x=some u) (h:Q u s)
    (hd:(x == ("__debug__" : Str))=false:=by decide):wpAny (model X.prog X.w) X.A (eval (.Name x pos) X.env) Q E s :=
  Calls.Name_function_global I.ok.kind hg (Calls.loadGlobal_global (by rw [I.ok.glob]; exact I.mod.glob.keeps I.bk) hm h) hd
theorem zfm {E:Value→Shared→Prop} {pins:List (Addr × Obj)} {s:Shared} {σ:St} {H:Hp} {x:Str} {u:Value} {pos:Pos} {Q:Value→Shared→Prop} (I:Inv X pins σ H s) (hg:Gl X x) (hm:X.mg x=none) (hv:bootBuiltins x=some u) (h:Q u s)
    (hn:x ≠ "__name__":=by decide) (hd:(x == ("__debug__" : Str))=false:=by decide):wpAny (model X.prog X.w) X.A (eval (.Name x pos) X.env) Q E s:=by
  obtain ⟨mb,h1,h2⟩:=I.mod.blt
  exact Calls.Name_function_global I.ok.kind hg (Calls.loadGlobal_builtin (by rw [I.ok.glob]; exact I.mod.glob.keeps I.bk) hm (by rw [I.ok.blt]; exact h1.keeps I.bk) ((h2 x hn).trans hv) h) hd
theorem zc2 {x:Str} {v:V} {u:Value} {pos:Pos} (hg:Gl X x) (hm:X.mg x=none) (hv:bootBuiltins x=some u) (r:RelV v u) (hn:x ≠ "__name__":=by decide) (hd:(x == ("__debug__" : Str))=false:=by decide):PE X (.Name x pos) (tC v) :=
  fun _ _ _ H _ I h=>zfm I hg hm hv ⟨v,H,I,r,h⟩ hn hd
variable {a b:Expr} {ta tb:TE} {pos:Pos}
def PC (X:Cx) (op:CmpOp) (a b:Expr) (t:TE):Prop :=
  ∀ (pins:List (Addr × Obj)) (s:Shared) (σ:St) (H:Hp) (Q:VK),Inv X pins σ H s→t σ H Q →
    wpAny (model X.prog X.w) X.A (eval a X.env) (fun v s₁=>wpAny (model X.prog X.w) X.A (eval b X.env) (fun u s₂=>wpAny (model X.prog X.w) X.A (compareOp op v u) (EP X pins σ Q) X.xe s₂) X.xe s₁) X.xe s
def tB (t:TE):TT:=fun σ H Q=>t σ H fun x H1=>∃ c,x = .bl c∧Q c H1
theorem zk6 {op:CmpOp} {t:TE} (h:PC X op a b t) (h1:behindInMarks op b=false:=by first | exact nobehind _ (by decide) (by decide) | rfl):PT X (.Compare a [op] [b] pos) (tB t):=by
  intro pins s σ H Q I hw
  refine wpAny_isTrue_Compare1 (thn (h pins s σ H _ I hw) fun v s1 h1=>thn h1 fun u s2 h2=>thn h2 fun c s3 ⟨x,H1,I1,r1,q1⟩=>?_) h1
  obtain ⟨d,rfl,q⟩:=q1
  cases r1
  exact wpAny_truthy_bool ⟨H1,I1,q⟩
theorem zcP {e:Expr} {t:TE} (h:PE X e t) (he:∀ whole,isTrue e X.env whole=(do let v ← whole; standAt e.pos; holding [v] (truthy v)):=by intro _; rfl):PT X e (tB t):=by
  intro pins s σ H Q I hw
  refine isTrue_plain (thn (h pins s σ H _ I hw) fun v s1 ⟨x,H1,I1,r1,q1⟩=>?_) (he _)
  obtain ⟨d,rfl,q⟩:=q1
  cases r1
  exact wpAny_truthy_bool ⟨H1,I1,q⟩
variable {tA tB':TT} {rest:List Expr}
def tAnd (t u:TT):TT:=fun σ H Q=>t σ H fun c H1=>if c=true then u σ H1 Q else Q false H1
def tOr (t u:TT):TT:=fun σ H Q=>t σ H fun c H1=>if c=true then Q true H1 else u σ H1 Q
def tNot (t:TT):TT:=fun σ H Q=>t σ H fun c H1=>Q (!c) H1
theorem zmh (ha:PT X a tA):PW X (.BoolOp .And [a] pos) tA:=by
  intro wh pins s σ H Q I h
  refine isTrue_and (thn (ha pins s σ H Q I h) fun c s1 e=>?_)
  cases c with
  | true=>exact isTrue_and_nil e
  | false=>exact e
theorem zdQ (ha:PT X a tA):PW X (.BoolOp .Or [a] pos) tA:=by
  intro wh pins s σ H Q I h
  refine isTrue_or (thn (ha pins s σ H Q I h) fun c s1 e=>?_)
  cases c with
  | false=>exact isTrue_or_nil e
  | true=>exact e
theorem zm4 (ha:PT X a tA) (hb:PW X (.BoolOp .And (b :: rest) pos) tB'):PW X (.BoolOp .And (a :: b :: rest) pos) (tAnd tA tB'):=by
  intro wh pins s σ H Q I h
  refine isTrue_and (thn (ha pins s σ H _ I h) fun c s1 ⟨H1,I1,q1⟩=>?_)
  cases c with
  | true=>exact hb wh pins s1 σ H1 Q I1 q1
  | false=>exact ⟨H1,I1,q1⟩
theorem zgD (ha:PT X a tA) (hb:PW X (.BoolOp .Or (b :: rest) pos) tB'):PW X (.BoolOp .Or (a :: b :: rest) pos) (tOr tA tB'):=by
  intro wh pins s σ H Q I h
  refine isTrue_or (thn (ha pins s σ H _ I h) fun c s1 ⟨H1,I1,q1⟩=>?_)
  cases c with
  | true=>exact ⟨H1,I1,q1⟩
  | false=>exact hb wh pins s1 σ H1 Q I1 q1
theorem zdS (ha:PT X a tA):PT X (.UnaryOp .Not a pos) (tNot tA):=by
  intro pins s σ H Q I h
  exact isTrue_not (ha pins s σ H (fun c H1=>Q (!c) H1) I h)
def zmK (ta:TE):TE:=fun σ H Q=>ta σ H fun x H1=>∃ c,x = .bl c∧Q (.bl (!c)) H1
theorem zmN (ha:PE X a ta):PE X (.UnaryOp .Not a pos) (zmK ta):=by
  intro pins s σ H Q I h
  refine UnaryOp_ (thn (ha pins s σ H _ I h) fun v s1 ⟨x,H1,I1,r1,q1⟩=>?_)
  obtain ⟨c,rfl,q1⟩:=q1
  cases r1
  exact not_of (wpAny_truthy_bool ⟨.bl (!c),H1,I1,rfl,q1⟩)
end
end L2
namespace L2
open PySem PySem.Spec PyProof.Rows
def SqL (K:PySem.W.Frag) (H:Hp) (a:Addr) (xs:List V):Prop :=
  Rd H a (.lst xs) ∨
    ∃ (o:Obj) (its:Array Value) (n:Nat),K.lookup a=some o∧o.cls = .type "list"∧o.dict=none∧o.data = .seq its n∧its.size ≤ sizeLine∧Vals xs its.toList
def SqT (K:PySem.W.Frag) (H:Hp) (a:Addr) (xs:List V):Prop :=
  Rd H a (.tup xs) ∨
    ∃ (o:Obj) (its:Array Value) (n:Nat),K.lookup a=some o∧o.cls = .type "tuple"∧o.data = .seq its n∧its.size ≤ sizeLine∧Vals xs its.toList
def absV:Value→Option V
  | .none=>some .non
  | .bool b=>some (.bl b)
  | .int i _=>some (.int i)
  | .str x _=>some (.str x)
  | .bytes b _=>some (.byt b)
  | .float b _=>some (.flt b)
  | .ref a=>some (.ref a)
  | .type n=>some (.ty n)
  | _=>none
theorem RelV.abs {x:V} {u:Value} (r:RelV x u):absV u=some x:=by
  cases x with
  | non=>cases r; rfl
  | bl _=>cases r; rfl
  | int _=>obtain ⟨t,rfl⟩:=r; rfl
  | str _=>obtain ⟨t,rfl⟩:=r; rfl
  | byt _=>obtain ⟨t,rfl⟩:=r; rfl
  | flt _=>obtain ⟨t,rfl⟩:=r; rfl
  | ref _=>cases r; rfl
  | ty _=>cases r; rfl
theorem RelV.inj {x y:V} {u:Value} (r:RelV x u) (q:RelV y u):x=y:=Option.some.inj (r.abs.symm.trans q.abs)
theorem Vals.inj:∀ {xs ys:List V} {us:List Value},Vals xs us→Vals ys us→xs=ys
  | _,_,_,.nil,.nil=>rfl
  | _,_,_,.cons r t,.cons r' t'=>by rw [r.inj r',Vals.inj t t']
section
variable {X:Cx} {pins:List (Addr × Obj)} {σ:St} {H:Hp} {s:Shared} {a:Addr} {xs ys:List V}
theorem SqT.of {K:PySem.W.Frag} (h:H a=some (.tup xs)):SqT K H a xs:=.inl (.inl h)
theorem Inv.list (I:Inv X pins σ H s) (h:SqL X.K H a xs):∃ its:List Value,Vals xs its∧PlainL s.heap a its.toArray∧xs.length ≤ sizeLine:=by
  rcases h with h | ⟨o,its,n,hk,hc,hd,hs,hz,r⟩
  · obtain ⟨z,its,n,r,e⟩:=h.ok I.hok
    exact ⟨its,r,⟨_,n,e,rfl,rfl,rfl⟩,z⟩
  · refine ⟨its.toList,r,⟨o,n,I.kIn a o hk,hc,hd,by simpa using hs⟩,?_⟩
    have e:=r.length
    simp only [Array.length_toList] at e
    omega
theorem Inv.tuple (I:Inv X pins σ H s) (h:SqT X.K H a xs):∃ its:List Value,Vals xs its∧IsTup s.heap a its.toArray∧xs.length ≤ sizeLine:=by
  rcases h with h | ⟨o,its,n,hk,hc,hs,hz,r⟩
  · obtain ⟨z,its,r,p⟩:=h.ok I.hok
    exact ⟨its,r,p,z⟩
  · refine ⟨its.toList,r,⟨o,I.kIn a o hk,hc,n,by simpa using hs⟩,?_⟩
    have e:=r.length
    simp only [Array.length_toList] at e
    omega
theorem Inv.list_inj (I:Inv X pins σ H s) (h:SqL X.K H a xs) (h':SqL X.K H a ys):xs=ys:=by
  obtain ⟨its,r,⟨o,n,e,_,_,d⟩,_⟩:=I.list h
  obtain ⟨its',r',⟨o',n',e',_,_,d'⟩,_⟩:=I.list h'
  rw [e] at e'; cases e'
  rw [d] at d'
  injection d' with d1 _
  have:its=its':=by simpa using congrArg Array.toList d1
  subst this
  exact r.inj r'
theorem Inv.tuple_inj (I:Inv X pins σ H s) (h:SqT X.K H a xs) (h':SqT X.K H a ys):xs=ys:=by
  obtain ⟨its,r,⟨o,e,_,n,d⟩,_⟩:=I.tuple h
  obtain ⟨its',r',⟨o',e',_,n',d'⟩,_⟩:=I.tuple h'
  rw [e] at e'; cases e'
  rw [d] at d'
  injection d' with d1 _
  have:its=its':=by simpa using congrArg Array.toList d1
  subst this
  exact r.inj r'
end
abbrev Cx.wish (X:Cx) (E:Value→Shared→Prop):Cx:={ X with xe:=E }
abbrev Cx.nox (X:Cx):Cx:=X.wish fun _ _=>False
theorem Cx.Ok.wish {X:Cx} (ok:X.Ok) (E:Value→Shared→Prop):(X.wish E).Ok :=
  ⟨ok.mod,ok.kind,ok.glob,ok.blt,ok.above,ok.inj,ok.has,ok.cab,ok.hd,ok.frames,ok.stk,ok.exf,ok.bs,ok.bsz,ok.noex,ok.exfs,ok.funs,ok.frf,ok.tb⟩
theorem Cx.Ok.unwish {X:Cx} {E:Value→Shared→Prop} (ok:(X.wish E).Ok):X.Ok :=
  ⟨ok.mod,ok.kind,ok.glob,ok.blt,ok.above,ok.inj,ok.has,ok.cab,ok.hd,ok.frames,ok.stk,ok.exf,ok.bs,ok.bsz,ok.noex,ok.exfs,ok.funs,ok.frf,ok.tb⟩
section
variable {X:Cx} {pins:List (Addr × Obj)} {σ:St} {H:Hp} {s:Shared} {E:Value→Shared→Prop}
theorem Inv.wish (I:Inv X pins σ H s) (E:Value→Shared→Prop):Inv (X.wish E) pins σ H s:=⟨I.ok.wish E,I.os,I.bare,I.base,I.loc,I.cell,I.free,I.freeC,I.pin,I.hok,I.len⟩
theorem Inv.unwish (I:Inv (X.wish E) pins σ H s):Inv X pins σ H s:=⟨I.ok.unwish,I.os,I.bare,I.base,I.loc,I.cell,I.free,I.freeC,I.pin,I.hok,I.len⟩
theorem SP.unwish {D:Ends} {f:Flow} {s':Shared} (h:SP (X.wish E) pins D f s'):SP X pins D f s':=by
  cases f with
  | next=>obtain ⟨σ',H',I,q⟩:=h; exact ⟨σ',H',I.unwish,q⟩
  | brk=>obtain ⟨σ',H',I,q⟩:=h; exact ⟨σ',H',I.unwish,q⟩
  | cont=>obtain ⟨σ',H',I,q⟩:=h; exact ⟨σ',H',I.unwish,q⟩
  | ret u=>obtain ⟨v,σ',H',I,r,q⟩:=h; exact ⟨v,σ',H',I.unwish,r,q⟩
theorem PSs.nox {st:List Stmt} {t:TS} (h:PSs X.nox st t):PSs X st t:=fun pins s σ H D I hw =>
  wpAny_mono (h pins s σ H D (I.wish _) hw) (fun _ _ q=>q.unwish) fun _ _ z=>False.elim z
end
section
variable {X:Cx} {st:Stmt} {rest:List Stmt} {t u:TS} {e:Expr} {te:TE} {pos:Pos}
def zku:TS:=fun D σ H=>D.nx σ H
def tSeq (t u:TS):TS:=fun D σ H=>t { D with nx:=u D } σ H
theorem za0:PSs X [] zku:=fun _ _ σ H _ I h=>wpAny_execs_nil ⟨σ,H,I,h⟩
theorem zag (h1:PS X st t) (h2:PSs X rest u):PSs X (st :: rest) (tSeq t u):=by
  intro pins s σ H D I h
  refine wpAny_execs_cons (thn (h1 pins s σ H { D with nx:=u D } I h) fun f s1 q=>?_)
  cases f with
  | next =>
    obtain ⟨σ',H',I',q⟩:=q
    exact h2 pins s1 σ' H' D I' q
  | ret v=>exact q
  | brk=>exact q
  | cont=>exact q
theorem zal (h1:PS X st t):PSs X [st] t:=by
  intro pins s σ H D I h
  refine wpAny_execs_cons (thn (h1 pins s σ H D I h) fun f s1 q=>?_)
  cases f with
  | next=>exact wpAny_execs_nil q
  | ret v=>exact q
  | brk=>exact q
  | cont=>exact q
theorem Inv.quiet {pins:List (Addr × Obj)} {σ:St} {H:Hp} {s:Shared} (I:Inv X pins σ H s):interactive X.env=false:=by simp [interactive,I.ok.kind]
def zka (te:TE):TS:=fun D σ H=>te σ H fun _ H1=>D.nx σ H1
theorem zdM (he:PE X e te) (hs:swapsWith e none pos.line X.env=pure false:=by rfl):PS X (.Expr e pos) (zka te):=by
  intro pins s σ H D I h
  exact wpAny_Expr_any (thn (he pins s σ H _ I h) fun v s1 ⟨x,H1,I1,r1,q1⟩=>⟨σ,H1,I1,q1⟩) I.quiet hs
def tRet (te:TE):TS:=fun D σ H=>te σ H D.rt
theorem zaZ (he:PE X e te):PS X (.Return (some e) pos) (tRet te):=by
  intro pins s σ H D I h
  exact wpAny_Return_some (thn (he pins s σ H _ I h) fun v s1 ⟨x,H1,I1,r1,q1⟩=>⟨x,σ,H1,I1,r1,q1⟩)
def tIfS (c:TT) (t u:TS):TS:=fun D σ H=>c σ H fun b H1=>if b=true then t D σ H1 else u D σ H1
theorem zcc {c:Expr} {a b:List Stmt} {tc:TT} (hc:PT X c tc) (ha:PSs X a t) (hb:PSs X b u):PS X (.If c a b pos) (tIfS tc t u):=by
  intro pins s σ H D I h
  refine wpAny_If (thn (hc pins s σ H _ I h) fun d s1 ⟨H1,I1,q1⟩=>?_)
  cases d with
  | true=>exact ha pins s1 σ H1 D I1 q1
  | false=>exact hb pins s1 σ H1 D I1 q1
def zhR:TS:=fun _ _ _=>False
theorem zfF:PS X st zhR:=fun _ _ _ _ _ _ h=>h.elim
theorem zjG {sts:List Stmt}:PSs X sts zhR:=fun _ _ _ _ _ _ h=>h.elim
end
abbrev TG:=V→St→Hp→(St→Hp→Prop)→Prop
abbrev TGs:=List V→St→Hp→(St→Hp→Prop)→Prop
def PG (X:Cx) (target:Expr) (t:TG):Prop :=
  ∀ (pins:List (Addr × Obj)) (s:Shared) (σ:St) (H:Hp) (v:V) (u:Value) (Q:St→Hp→Prop),Inv X pins σ H s→RelV v u→t v σ H Q →
    wpAny (model X.prog X.w) X.A (assign target X.env u) (fun _ s'=>∃ σ' H',Inv X pins σ' H' s'∧Q σ' H') X.xe s
def PGs (X:Cx) (ts:List Expr) (t:TGs):Prop :=
  ∀ (pins:List (Addr × Obj)) (s:Shared) (σ:St) (H:Hp) (vs:List V) (us:List Value) (Q:St→Hp→Prop),Inv X pins σ H s→Vals vs us→t vs σ H Q →
    wpAny (model X.prog X.w) X.A (assignInOrder ((assignEach ts X.env).map (·.2)) us) (fun _ s'=>∃ σ' H',Inv X pins σ' H' s'∧Q σ' H') X.xe s
abbrev TSet:=V→V→V→Hp→(Hp→Prop)→Prop
def PSet (X:Cx) (t:TSet):Prop :=
  ∀ (pins:List (Addr × Obj)) (s:Shared) (σ:St) (H:Hp) (o i v:V) (ov iv u:Value) (Q:Hp→Prop),Inv X pins σ H s→RelV o ov→RelV i iv→RelV v u→t o i v H Q →
    wpAny (model X.prog X.w) X.A (setItem ov iv u) (fun _ s'=>∃ H',Inv X pins σ H' s'∧Q H') X.xe s
section
variable {X:Cx} {pos:Pos}
def zdE (i:Nat):TG:=fun v σ H Q=>Q (σ.set i (some v)) H
theorem zaE {i:Nat} {x:Str} (hN:X.N.Nodup) (hi:X.N[i]?=some x) (hx:Loc X.env.scope x) (hf:X.fn x=true∨X.env.scope.names.lookup x=some .local:=by first | exact .inl rfl | exact .inr rfl | assumption):PG X (.Name x pos) (zdE i):=by
  intro pins s σ H v u Q I r h
  exact wpAny_assign_Name (zfy I hN hi hx r (fun s' I'=>⟨_,H,I',h⟩) hf)
def gNil:TGs:=fun vs σ H Q=>vs = []∧Q σ H
def zmO (t:TG) (u:TGs):TGs:=fun vs σ H Q=>∃ v r,vs=v :: r∧t v σ H fun σ' H'=>u r σ' H' Q
theorem ziX:PGs X [] gNil:=by
  intro pins s σ H vs us Q I r h
  obtain ⟨e,h⟩:=h
  subst e
  cases r
  exact assignInOrder_nil ⟨σ,H,I,h⟩
theorem zef {e:Expr} {es:List Expr} {t:TG} {u:TGs} (h1:PG X e t) (h2:PGs X es u)
    (hs:(assignEach (e :: es) X.env).map (·.2)=assign e X.env :: (assignEach es X.env).map (·.2):=by rfl):PGs X (e :: es) (zmO t u):=by
  intro pins s σ H vs us Q I r h
  obtain ⟨v,vr,e1,h⟩:=h
  subst e1
  cases r with
  | cons r rr =>
    rw [hs]
    refine assignInOrder_cons (thn (h1 pins s σ H _ _ _ I r h) fun _ s1 ⟨σ1,H1,I1,q1⟩=>?_)
    exact h2 pins s1 σ1 H1 _ _ Q I1 rr q1
def gTup (K:PySem.W.Frag) (n:Nat) (t:TGs):TG:=fun v σ H Q=>∃ a xs,v = .ref a∧SqT K H a xs∧xs.length=n∧t xs σ H Q
theorem zlg {es:List Expr} {k:Nat} {t:TGs} {n:Nat} (hc:X.calm=true) (h:PGs X es t)
    (hn:(assignEach es X.env).length=n:=by rfl) (hst:(assignEach es X.env).findIdx? (·.1)=none:=by rfl):PG X (.Tuple es k pos) (gTup X.K n t):=by
  intro pins s σ H v u Q I r hw
  obtain ⟨a,xs,e1,hq,hl,hw⟩:=hw
  subst e1
  cases r
  obtain ⟨its,rv,ht,hz⟩:=I.tuple hq
  refine assign_Tuple_tuple (I.ok.hd hc) ht (by simp [hn,← hl,rv.length]) hst fun h' hx=>?_
  have I1:Inv X pins σ H { s with heap:=h' }:=I.kept (t':=s.toks) fun b o e=>hx b o (Nat.ne_of_lt (Heap.lt_size e)) e
  exact h pins _ σ H xs _ Q I1 (by simpa using rv) hw
def gSub (to ti:TE) (t:TSet):TG:=fun v σ H Q=>to σ H fun o H1=>ti σ H1 fun i H2=>t o i v H2 fun H3=>Q σ H3
theorem zi2 {o i:Expr} {to ti:TE} {t:TSet} (ho:PE X o to) (hi:PE X i ti) (hs:PSet X t)
    (ha:∀ v,assign (.Subscript o i pos) X.env v=(do
      let ov ← holding [v] (eval o X.env)
      let iv ← holding [v,ov] (eval i X.env)
      standAt pos
      holding [v,ov,iv] (setItem ov iv v)
      release [v,ov,iv] []):=by intro _; rfl):PG X (.Subscript o i pos) (gSub to ti t):=by
  intro pins s σ H v u Q I r h
  rw [ha]
  refine wpAny_bind (wpAny_holding (thn (ho pins s σ H _ I h) fun ov s1 ⟨x,H1,I1,r1,q1⟩=>?_))
  refine wpAny_bind (wpAny_holding (thn (hi pins s1 σ H1 _ I1 q1) fun iv s2 ⟨y,H2,I2,r2,q2⟩=>?_))
  refine wpAny_bind (wpAny_standAt (wpAny_bind (wpAny_holding (thn (hs pins s2 σ H2 x y v ov iv u _ I2 r1 r2 r q2) fun _ s3 ⟨H3,I3,q3⟩=>?_))))
  exact wpAny_release ⟨σ,H3,I3,q3⟩
def tAsg (te:TE) (g:TG):TS:=fun D σ H=>te σ H fun x H1=>g x σ H1 D.nx
theorem zjP {tg e:Expr} {te:TE} {g:TG} (he:PE X e te) (hg:PG X tg g) (hs:swapsWithSole [tg] e pos.line X.env=pure false:=by rfl) (hw:swappedStores [tg] e X.env=pure none:=by rfl)
    (h1:(assignEach [tg] X.env).map (·.2) = [assign tg X.env]:=by rfl):PS X (.Assign [tg] e pos) (tAsg te g):=by
  intro pins s σ H D I h
  refine wpAny_Assign_stores (thn (he pins s σ H _ I h) fun v s1 ⟨x,H1,I1,r1,q1⟩=>?_) hs hw
  rw [h1]
  exact thn (hg pins s1 σ H1 x v _ I1 r1 q1) fun _ s2 q=>q
theorem zaM {i:Nat} {x:Str} {e:Expr} {te:TE} {pos':Pos} (hN:X.N.Nodup) (hi:X.N[i]?=some x) (hx:Loc X.env.scope x) (he:PE X e te) (hs:swapsWith e (some (.Name x pos')) pos.line X.env=pure false:=by rfl) (hf:X.fn x=true∨X.env.scope.names.lookup x=some .local:=by first | exact .inl rfl | exact .inr rfl | assumption) :
    PS X (.Assign [.Name x pos'] e pos) (tAsg te (zdE i)):=by
  intro pins s σ H D I h
  refine wpAny_Assign_Name (thn (he pins s σ H _ I h) fun v s1 ⟨y,H1,I1,r1,q1⟩=>?_) hs
  exact zfy I1 hN hi hx r1 (fun s2 I2=>⟨_,H1,I2,q1⟩) hf
end
section
variable {X:Cx} {pos:Pos}
end
structure It where
  go:Nat→Hp→Prop
  yld:Nat→Hp→V→Hp→Prop
  stop:Nat→Hp→Prop
def FpOk (X:Cx) (pins:List (Addr × Obj)) (H:Hp) (b:Addr):Prop :=
  H b=none∧b ≠ X.env.locals∧b ∉ X.fs∧(b ∈ X.ex∨X.s₀.heap.objs.size ≤ b)∧(∀ x c,X.env.cells.lookup x=some c→c ≠ b)∧∀ p ∈ X.pn ++ pins,p.1 ≠ b
theorem Inv.fpOk {X:Cx} {pins:List (Addr × Obj)} {σ:St} {H H':Hp} {s:Shared} {b:Addr} (I:Inv X pins σ H s) (hb:s.heap.objs.size ≤ b) (hn:H' b=none):FpOk X pins H' b:=by
  refine ⟨hn,Nat.ne_of_gt (Nat.lt_of_lt_of_le I.lt hb),I.nofs hb,.inr (Nat.le_trans I.sz hb),fun x c e z=>?_,fun p hp z=>?_⟩
  · obtain ⟨v,q⟩:=I.cell x c e
    exact absurd (Nat.lt_of_lt_of_le q.lt (by rw [z]; exact hb)) (Nat.lt_irrefl _)
  · exact absurd (Nat.lt_of_lt_of_le (Heap.lt_size (I.pin p hp).1) (by rw [z]; exact hb)) (Nat.lt_irrefl _)
structure Turn (P:Program) (w:World) (K:PySem.W.Frag) (tg:Expr) (J:It) (fp:List Addr) (it:Addr) (tn:Nat→Heap→Prop):Prop where
  mem:it ∈ fp
  obj:∀ i h,tn i h→∀ b ∈ fp,∃ o,h.get? b=some o∧∀ v,o.data ≠ .cell v
  keep:∀ i h h',tn i h→(∀ b ∈ fp,∀ o,h.get? b=some o→h'.get? b=some o)→tn i h'
  item:∀ (X:Cx),X.prog=P→X.w=w→X.K=K→X.calm=true→∀ (i:Nat) (pins:List (Addr × Obj)) (s:Shared) (σ:St) (H:Hp) (E:Value→Shared→Prop),Inv X pins σ H s→(∀ b ∈ fp,FpOk X pins H b)→tn i s.heap→J.go i H →
    wpAny (model P w) X.A (pyNext (.ref it)) (fun r s1=>∃ u,r=some u ∧
      wpAny (model P w) X.A (letOwnedTupleGo tg (.ref it) u) (fun _ s2=>∃ x H',Inv X pins σ H' s2∧RelV x u∧J.yld i H x H'∧tn (i + 1) s2.heap∧∀ b ∈ fp,H' b=none) E s1) E s
  done:∀ (X:Cx),X.prog=P→X.w=w→X.K=K→X.calm=true→∀ (i:Nat) (pins:List (Addr × Obj)) (s:Shared) (σ:St) (H:Hp) (E:Value→Shared→Prop),Inv X pins σ H s→(∀ b ∈ fp,FpOk X pins H b)→tn i s.heap→J.stop i H →
    wpAny (model P w) X.A (pyNext (.ref it)) (fun r s1=>r=none∧Inv X pins σ H s1) E s
  self:∀ (A:Around) (i:Nat) (s:Shared) (Q:Value→Shared→Prop) (E:Value→Shared→Prop),tn i s.heap→Q (.ref it) s→wpAny (model P w) A (pyIter (.ref it)) Q E s
abbrev TI:=St→Hp→(It→Hp→Prop)→Prop
def PIE (X:Cx) (pins:List (Addr × Obj)) (σ:St) (tg:Expr) (R:It→Hp→Prop) (itv:Value) (s2:Shared):Prop :=
  ∃ (it:Addr) (fp:List Addr) (tn:Nat→Heap→Prop) (J:It) (H':Hp),itv = .ref it∧Inv X pins σ H' s2∧Turn X.prog X.w X.K tg J fp it tn∧tn 0 s2.heap∧(∀ b ∈ fp,FpOk X pins H' b)∧R J H'
def PI (X:Cx) (tg iter:Expr) (wi:TI):Prop :=
  ∀ (pins:List (Addr × Obj)) (s:Shared) (σ:St) (H:Hp) (R:It→Hp→Prop),Inv X pins σ H s→wi σ H R →
    wpAny (model X.prog X.w) X.A (eval iter X.env) (fun v s1=>wpAny (model X.prog X.w) X.A (pyIter v) (PIE X pins σ tg R) X.xe s1) X.xe s
theorem zkP {M:Model} {A:Around} {E:Value→Shared→Prop} {s:Shared} {tg:Expr} {it:Addr} {u:Value} {o:Obj} {n:String} {vs:Array Value} {Q:Unit→Shared→Prop} (ho:s.heap.get? it=some o) (hc:o.cls = .type n) (hd:o.data = .fields vs)
    (hn : ["enumerate","zip","dict_itemiterator","dict_reverseitemiterator","odict_iterator","itertools.zip_longest","itertools.pairwise"].contains n=false) (hQ:Q () s):wpAny M A (letOwnedTupleGo tg (.ref it) u) Q E s:=by
  unfold letOwnedTupleGo
  cases tg <;> first
    | exact wpAny_pure hQ
    | (cases u <;> first
        | exact wpAny_pure hQ
        | (refine wpAny_bind (wpAny_load ho ?_)
           rw [hc,hd]
           show wpAny M A (if (["enumerate","zip","dict_itemiterator","dict_reverseitemiterator","odict_iterator","itertools.zip_longest","itertools.pairwise"].contains n && vs[0]? == some (rawInt _))=true then _ else _) Q E s
           rw [if_neg (by intro h; rw [hn,Bool.false_and] at h; cases h)]
           exact wpAny_pure hQ))
def Itl (K:PySem.W.Frag) (a:Addr):It :=
  ⟨fun i H=>∃ xs x,SqL K H a xs∧xs[i]?=some x,fun i H x H'=>H'=H∧∀ xs,SqL K H a xs→xs[i]?=some x,fun i H=>∃ xs,SqL K H a xs∧xs.length ≤ i⟩
def Itt (K:PySem.W.Frag) (a:Addr):It :=
  ⟨fun i H=>∃ xs x,SqT K H a xs∧xs[i]?=some x,fun i H x H'=>H'=H∧∀ xs,SqT K H a xs→xs[i]?=some x,fun i H=>∃ xs,SqT K H a xs∧xs.length ≤ i⟩
def Itr (lo:Int) (n:Nat):It:=⟨fun i _=>i < n,fun i H x H'=>H'=H∧x = .int (lo + i),fun i _=>n ≤ i⟩
theorem zjI {P:Program} {w:World} {K:PySem.W.Frag} {tg:Expr} (a it:Addr):Turn P w K tg (Itl K a) [it] it (fun i h=>h.IsListIter it a i) where
  mem:=by simp
  obj:=fun i h st b hb=>by
    have e:b=it:=by simpa using hb
    subst e
    obtain ⟨o,e,c,d⟩:=st
    exact ⟨o,e,fun v z=>by rw [d] at z; cases z⟩
  keep:=fun i h h' st k=>st.at fun o e=>k it (by simp) o e
  item:=by
    intro X hP hw hK hc i pins s σ H E I hf st hg
    subst hP hw hK
    obtain ⟨xs,x,hq,hx⟩:=hg
    obtain ⟨its,rv,p,hz⟩:=I.list hq
    obtain ⟨u,hu,ru⟩:=rv.get hx
    obtain ⟨f0,f1,f2,f3,f4,f5⟩:=hf it (by simp)
    refine wpAny_pyNext_list_item st p.isList (x:=u) (by simpa using hu) fun h' st' sb=>?_
    have I1:Inv X pins σ H { s with heap:=h' }:=I.turned (t':=s.toks) (fun b o hb e=>(sb.2 b hb).trans e) f0 f1 f3 f4 f5
    obtain ⟨o,e,c,d⟩:=id st'
    exact ⟨u,rfl,zkP (s:={ s with heap:=h' }) e c d (by decide) ⟨x,H,I1,ru,⟨rfl,fun ys hy=>by rw [I.list_inj hy hq]; exact hx⟩,st',fun b hb=>(hf b hb).1⟩⟩
  done:=by
    intro X hP hw hK hc i pins s σ H E I hf st hg
    subst hP hw hK
    obtain ⟨xs,hq,hx⟩:=hg
    obtain ⟨its,rv,p,hz⟩:=I.list hq
    obtain ⟨f0,f1,f2,f3,f4,f5⟩:=hf it (by simp)
    have hl:=rv.length
    exact wpAny_pyNext_list_end (I.ok.hd hc) st p.isList (by simp; omega) fun h' eb=>⟨rfl,I.turned (t':=s.toks) (fun b o hb e=>eb b o hb e) f0 f1 f3 f4 f5⟩
  self:=fun _ _ _ _ _ st h=>wpAny_pyIter_listiter st h
theorem zic {P:Program} {w:World} {K:PySem.W.Frag} {tg:Expr} (a it:Addr):Turn P w K tg (Itt K a) [it] it (fun i h=>h.IsTupleIter it a i) where
  mem:=by simp
  obj:=fun i h st b hb=>by
    have e:b=it:=by simpa using hb
    subst e
    obtain ⟨o,e,c,d⟩:=st
    exact ⟨o,e,fun v z=>by rw [d] at z; cases z⟩
  keep:=fun i h h' st k=>st.at fun o e=>k it (by simp) o e
  item:=by
    intro X hP hw hK hc i pins s σ H E I hf st hg
    subst hP hw hK
    obtain ⟨xs,x,hq,hx⟩:=hg
    obtain ⟨its,rv,p,hz⟩:=I.tuple hq
    obtain ⟨u,hu,ru⟩:=rv.get hx
    obtain ⟨f0,f1,f2,f3,f4,f5⟩:=hf it (by simp)
    refine wpAny_pyNext_tuple_item st (show s.heap.IsTuple a its.toArray from p) (x:=u) (by simpa using hu) fun h' st' sb=>?_
    have I1:Inv X pins σ H { s with heap:=h' }:=I.turned (t':=s.toks) (fun b o hb e=>(sb.2 b hb).trans e) f0 f1 f3 f4 f5
    obtain ⟨o,e,c,d⟩:=id st'
    exact ⟨u,rfl,zkP (s:={ s with heap:=h' }) e c d (by decide) ⟨x,H,I1,ru,⟨rfl,fun ys hy=>by rw [I.tuple_inj hy hq]; exact hx⟩,st',fun b hb=>(hf b hb).1⟩⟩
  done:=by
    intro X hP hw hK hc i pins s σ H E I hf st hg
    subst hP hw hK
    obtain ⟨xs,hq,hx⟩:=hg
    obtain ⟨its,rv,p,hz⟩:=I.tuple hq
    obtain ⟨f0,f1,f2,f3,f4,f5⟩:=hf it (by simp)
    have hl:=rv.length
    exact wpAny_pyNext_tuple_end (I.ok.hd hc) st (show s.heap.IsTuple a its.toArray from p) (by simp; omega) fun h' eb=>⟨rfl,I.turned (t':=s.toks) (fun b o hb e=>eb b o hb e) f0 f1 f3 f4 f5⟩
  self:=fun _ _ _ _ _ st h=>wpAny_pyIter_tupleiter st h
theorem zh1 {P:Program} {w:World} {K:PySem.W.Frag} {tg:Expr} (it:Addr) (lo:Int) (n:Nat):Turn P w K tg (Itr lo n) [it] it (fun i h=>IsRangeIter h it (lo + (i:Nat) * 1) ((n:Int) - (i:Nat)) 1) where
  mem:=by simp
  obj:=fun i h st b hb=>by
    have e:b=it:=by simpa using hb
    subst e
    exact ⟨_,st,fun v z=>by
      have z':Data.fields _=Data.cell v:=z
      cases z'⟩
  keep:=fun i h h' st k=>k it (by simp) _ st
  item:=by
    intro X hP hw hK hc i pins s σ H E I hf st hg
    subst hP hw hK
    obtain ⟨f0,f1,f2,f3,f4,f5⟩:=hf it (by simp)
    have W:=Walks.range (prog:=X.prog) (w:=X.w) (I.ok.hd hc) it lo 1 n
    refine W.item i s _ _ hg st fun v h' tk hv st' kk=>?_
    obtain ⟨t,rfl⟩:=hv
    have I1:Inv X pins σ H { s with heap:=h',toks:=tk }:=I.turned (fun b o hb e=>kk b o (by simpa using hb) e) f0 f1 f3 f4 f5
    refine ⟨_,rfl,zkP (s:={ s with heap:=h',toks:=tk }) (n:="range_iterator") st' rfl rfl (by decide) ⟨.int (lo + i),H,I1,⟨t,?_⟩,⟨rfl,rfl⟩,st',fun b hb=>(hf b hb).1⟩⟩
    rw [Int.mul_one]
  done:=by
    intro X hP hw hK hc i pins s σ H E I hf st hg
    subst hP hw hK
    obtain ⟨f0,f1,f2,f3,f4,f5⟩:=hf it (by simp)
    exact wpAny_pyNext_range_end (I.ok.hd hc) st (by have:n ≤ i:=hg; omega) fun h' eb=>⟨rfl,I.turned (t':=s.toks) (fun b o hb e=>eb b o hb e) f0 f1 f3 f4 f5⟩
  self:=fun _ _ _ _ _ st h=>wpAny_pyIter_rangeiter st h
end L2
namespace L2
open PySem PySem.Spec PyProof.Rows
section
variable {X:Cx} {tg:Expr}
def zlk (K:PySem.W.Frag) (tl:TE):TI:=fun σ H R=>tl σ H fun x H1=>∃ a,x = .ref a∧(∃ xs,SqL K H1 a xs)∧R (Itl K a) H1
def iTup (K:PySem.W.Frag) (tl:TE):TI:=fun σ H R=>tl σ H fun x H1=>∃ a,x = .ref a∧(∃ xs,SqT K H1 a xs)∧R (Itt K a) H1
theorem zcy {l:Expr} {tl:TE} (hl:PE X l tl):PI X tg l (zlk X.K tl):=by
  intro pins s σ H R I h
  refine thn (hl pins s σ H _ I h) fun v s1 ⟨x,H1,I1,r1,q1⟩=>?_
  obtain ⟨a,e,⟨xs,hq⟩,q⟩:=q1
  subst e
  cases r1
  obtain ⟨its,rv,p,hz⟩:=I1.list hq
  refine wpAny_pyIter_list p.isList ?_
  refine ⟨s1.heap.objs.size,[s1.heap.objs.size],_,_,H1,rfl,I1.kept (t':=s1.toks) fun b o e=>Heap.get?_push_of_some _ e,zjI a _,⟨_,Heap.get?_push_size _ rfl,rfl,rfl⟩,fun b hb=>?_,q⟩
  have e:b=s1.heap.objs.size:=by simpa using hb
  subst e
  exact I1.fpOk (Nat.le_refl _) (I1.hok.fresh (Nat.le_refl _))
theorem zk9 {l:Expr} {tl:TE} (hl:PE X l tl):PI X tg l (iTup X.K tl):=by
  intro pins s σ H R I h
  refine thn (hl pins s σ H _ I h) fun v s1 ⟨x,H1,I1,r1,q1⟩=>?_
  obtain ⟨a,e,⟨xs,hq⟩,q⟩:=q1
  subst e
  cases r1
  obtain ⟨its,rv,p,hz⟩:=I1.tuple hq
  refine wpAny_pyIter_tuple (show s1.heap.IsTuple a its.toArray from p) ?_
  refine ⟨s1.heap.objs.size,[s1.heap.objs.size],_,_,H1,rfl,I1.kept (t':=s1.toks) fun b o e=>Heap.get?_push_of_some _ e,zic a _,⟨_,Heap.get?_push_size _ rfl,rfl,rfl⟩,fun b hb=>?_,q⟩
  have e:b=s1.heap.objs.size:=by simpa using hb
  subst e
  exact I1.fpOk (Nat.le_refl _) (I1.hok.fresh (Nat.le_refl _))
theorem zhS {pins:List (Addr × Obj)} {σ:St} {H:Hp} {s:Shared} {R:It→Hp→Prop} {E:Value→Shared→Prop} {lo hi:Int} {t u v:Tok} {tk:Nat} (I:Inv X pins σ H s) (h1 : -(2 ^ 62) ≤ lo) (h2:lo < 2 ^ 62) (h3 : -(2 ^ 62) ≤ hi) (h4:hi < 2 ^ 62)
    (q:R (Itr lo (hi - lo).toNat) H):wpAny (model X.prog X.w) X.A (pyIter (.ref s.heap.objs.size)) (PIE X pins σ tg R) E { s with heap:=s.heap.push { cls:=.type "range",data:=.fields #[.int lo t,.int hi u,.int 1 v] },toks:=tk }:=by
  refine wpAny_pyIter_range (IsRange.new ..) (small_one h1 h2 h3 h4) ?_
  have I1:Inv X pins σ H { s with heap:=s.heap.push { cls:=.type "range",data:=.fields #[.int lo t,.int hi u,.int 1 v] },toks:=tk }:=I.kept fun b o e=>Heap.get?_push_of_some _ e
  refine ⟨(s.heap.push { cls:=.type "range",data:=.fields #[.int lo t,.int hi u,.int 1 v] }).objs.size,[(s.heap.push { cls:=.type "range",data:=.fields #[.int lo t,.int hi u,.int 1 v] }).objs.size],_,_,H,rfl,
    I1.kept (t':=tk) fun b o e=>Heap.get?_push_of_some _ e,zh1 _ lo (hi - lo).toNat,?_,fun b hb=>?_,q⟩
  · have e1:lo + ((0:Nat):Int) * 1=lo:=by simp
    have e2:(((hi - lo).toNat:Nat):Int) - ((0:Nat):Int)=Builtin.Range.rangeSize lo hi 1:=by rw [rangeSize_one]; split <;> omega
    show IsRangeIter _ _ (lo + ((0:Nat):Int) * 1) ((((hi - lo).toNat:Nat):Int) - ((0:Nat):Int)) 1
    rw [e1,e2]
    exact Heap.get?_push_size _ rfl
  · have e:b=(s.heap.push { cls:=.type "range",data:=.fields #[.int lo t,.int hi u,.int 1 v] }).objs.size:=by simpa using hb
    subst e
    exact I1.fpOk (Nat.le_refl _) (I1.hok.fresh (Nat.le_refl _))
def zmx (ta:TA):TI:=fun σ H R=>ta σ H fun vs H1=>∃ j:Int,vs = [.int j]∧-(2 ^ 62) ≤ j∧j < 2 ^ 62∧R (Itr 0 j.toNat) H1
def zmG (ta:TA):TI:=fun σ H R=>ta σ H fun vs H1=>∃ i j:Int,vs = [.int i,.int j]∧(-(2 ^ 62) ≤ i∧i < 2 ^ 62∧-(2 ^ 62) ≤ j∧j < 2 ^ 62)∧R (Itr i (j - i).toNat) H1
theorem zaJ {a:Expr} {ta:TA} {p pos:Pos} (hg:Gl X "range") (hm:X.mg "range"=none) (ha:PA X [a] ta) (hs:starEach [a] X.env = [(false,eval a X.env)]:=by rfl):PI X tg (.Call (.Name "range" p) [a] [] pos) (zmx ta):=by
  intro pins s σ H R I h
  refine Call_ (zfm I hg hm boot_range (PyProof.Rows.callWith_type1 (thn (ha pos pins s σ H _ I h) fun us s1 ⟨vs,H1,I1,r1,q1⟩=>?_) hs rfl))
  obtain ⟨j,e,q1,q2,q⟩:=q1
  subst e
  cases r1 with
  | cons r rr =>
    cases rr
    obtain ⟨t,rfl⟩:=r
    exact call_range_1 (zhS I1 (by omega) (by omega) q1 q2 (by simpa using q))
theorem zjS {a b:Expr} {ta:TA} {p pos:Pos} (hg:Gl X "range") (hm:X.mg "range"=none) (ha:PA X [a,b] ta) (hs:starEach [a,b] X.env = [(false,eval a X.env),(false,eval b X.env)]:=by rfl) (hs2:starEach [b] X.env = [(false,eval b X.env)]:=by rfl) :
    PI X tg (.Call (.Name "range" p) [a,b] [] pos) (zmG ta):=by
  intro pins s σ H R I h
  refine Call_ (zfm I hg hm boot_range (PyProof.Rows.callWith_type1 (thn (ha pos pins s σ H _ I h) fun us s1 ⟨vs,H1,I1,r1,q1⟩=>?_) (by rw [hs,hs2]) (by rw [hs2]; rfl)))
  obtain ⟨i,j,e,⟨q1,q2,q3,q4⟩,q⟩:=q1
  subst e
  cases r1 with
  | cons r rr =>
    cases rr with
    | cons r' rr =>
      cases rr
      obtain ⟨t,rfl⟩:=r
      obtain ⟨t',rfl⟩:=r'
      exact call_range_2 (zhS I1 q1 q2 q3 q4 q)
def tFor (wi:TI) (g:TG) (tb:TS):TS:=fun D σ H=>wi σ H fun J H1=>∃ W:Nat→Nat→St→Hp→Prop,(∃ m,W 0 m σ H1)∧∀ i m σ H,W i m σ H →
  (J.stop i H∧D.nx σ H)∨(J.go i H∧∃ N:St→Hp→Prop,(∀ σ' H',N σ' H'→∃ m',m' < m∧W (i + 1) m' σ' H')∧∀ x H',J.yld i H x H'→g x σ H' fun σ2 H2=>tb { D with nx:=N,ct:=N,bk:=D.nx } σ2 H2)
def ze5 (fp:List Addr) (h:Heap):List (Addr × Obj):=fp.filterMap fun b=>(h.get? b).map fun o=>(b,o)
theorem zca {fp:List Addr} {h:Heap} {b:Addr} {o:Obj} (hb:b ∈ fp) (e:h.get? b=some o):(b,o) ∈ ze5 fp h:=List.mem_filterMap.mpr ⟨b,hb,by rw [e]; rfl⟩
theorem zjD {fp:List Addr} {h:Heap} {p:Addr × Obj} (hp:p ∈ ze5 fp h):p.1 ∈ fp∧h.get? p.1=some p.2:=by
  obtain ⟨b,hb,e⟩:=List.mem_filterMap.mp hp
  cases q:h.get? b with
  | none=>rw [q] at e; cases e
  | some o =>
    rw [q] at e
    have e':(b,o)=p:=Option.some.inj e
    subst e'
    exact ⟨hb,q⟩
theorem Inv.pinned {pins:List (Addr × Obj)} {σ:St} {H:Hp} {s:Shared} {fp:List Addr} (I:Inv X pins σ H s) (hf:∀ b ∈ fp,FpOk X pins H b) (ho:∀ b ∈ fp,∃ o,s.heap.get? b=some o∧∀ v,o.data ≠ .cell v):Inv X (pins ++ ze5 fp s.heap) σ H s :=
  I.pins_of fun p hp=>(List.mem_append.mp hp).elim (fun z=>I.pin p (List.mem_append_right _ z)) fun z=>by
    obtain ⟨hb,e⟩:=zjD z
    obtain ⟨f0,f1,f2,_⟩:=hf p.1 hb
    obtain ⟨o,e',d⟩:=ho p.1 hb
    rw [e] at e'; cases e'
    exact ⟨e,f0,f1,f2,d⟩
theorem Inv.unpinned {pins pl:List (Addr × Obj)} {σ:St} {H:Hp} {s:Shared} (I:Inv X (pins ++ pl) σ H s):Inv X pins σ H s:=I.pins_of fun p hp=>I.pin p (List.mem_append_right _ (List.mem_append_left _ hp))
theorem zbj {iter:Expr} {body:List Stmt} {wi:TI} {g:TG} {tb:TS} {pos:Pos} (hp:PassesOwn (model X.prog X.w) X.A X.env X.xe) (hc:X.calm=true) (hi:PI X tg iter wi) (hg:PG X tg g) (hb:PSs X body tb)
    (hs:∀ x,foldedSetIterable iter X.env x=pure x:=by intro _; rfl):PS X (.For tg iter body [] pos) (tFor wi g tb):=by
  intro pins s σ H D I h
  refine wpAny_For (thn (hi pins s σ H _ I h) fun v s1 h1=>thn h1 fun itv s2 h2=>?_) hs
  obtain ⟨it,fp,tn,J,H2,e,I2,T,st2,f2,W,⟨m0,w0⟩,turn⟩:=h2
  subst e
  -- what stays true of the iterator's objects through the loop
  have stat:∀ {H':Hp},(∀ b ∈ fp,H' b=none)→∀ b ∈ fp,FpOk X pins H' b:=fun hn b hb=>⟨hn b hb,(f2 b hb).2⟩
  refine codeAny_forLoop_any (fun n s'=>∃ i σ' H',Inv X pins σ' H' s'∧tn i s'.heap∧(∀ b ∈ fp,H' b=none)∧W i n σ' H') ?_ m0 ⟨0,σ,H2,I2,st2,fun b hb=>(f2 b hb).1,w0⟩
  rintro n s3 ⟨i,σ3,H3,I3,st3,fr3,w3⟩
  rcases turn i n σ3 H3 w3 with ⟨stop,qn⟩ | ⟨go,N,hN,step⟩
  · refine wpAny_passesOwn hp (thn (T.done X rfl rfl rfl hc i pins s3 σ3 H3 X.xe I3 (stat fr3) st3 stop) fun r s4 ⟨hr,I4⟩=>?_)
    subst hr
    exact wpAny_execs_nil ⟨σ3,H3,I4,qn⟩
  · refine wpAny_passesOwn hp (thn (T.item X rfl rfl rfl hc i pins s3 σ3 H3 X.xe I3 (stat fr3) st3 go) fun r s4 ⟨u,hr,h4⟩=>?_)
    subst hr
    refine wpAny_passesOwn hp (thn h4 fun _ s5 ⟨x,H5,I5,r5,y5,st5,fr5⟩=>?_)
    have I5':=I5.pinned (stat fr5) (T.obj _ _ st5)
    refine wpAny_passesOwn hp (thn (hg _ s5 σ3 H5 x u _ I5' r5 (step x H5 y5)) fun _ s6 ⟨σ6,H6,I6,q6⟩=>?_)
    refine wpAny_passesOwn hp (thn (hb _ s6 σ6 H6 _ I6 q6) fun f s7 q7=>?_)
    have again:∀ {σ7:St} {H7:Hp},Inv X (pins ++ ze5 fp s5.heap) σ7 H7 s7→N σ7 H7→∃ m,m < n∧∃ i σ' H',Inv X pins σ' H' s7∧tn i s7.heap∧(∀ b ∈ fp,H' b=none)∧W i m σ' H':=fun {σ7 H7} I7 n7=>by
      obtain ⟨m',hm,w7⟩:=hN σ7 H7 n7
      refine ⟨m',hm,i + 1,σ7,H7,I7.unpinned,T.keep _ _ _ st5 fun b hb o e=>(I7.pin (b,o) (List.mem_append_right _ (List.mem_append_right _ (zca hb e)))).1,fun b hb=>?_,w7⟩
      obtain ⟨o,e,d⟩:=T.obj _ _ st5 b hb
      exact (I7.pin (b,o) (List.mem_append_right _ (List.mem_append_right _ (zca hb e)))).2.1
    cases f with
    | next=>obtain ⟨σ7,H7,I7,n7⟩:=q7; exact again I7 n7
    | cont=>obtain ⟨σ7,H7,I7,n7⟩:=q7; exact again I7 n7
    | brk=>obtain ⟨σ7,H7,I7,q7⟩:=q7; exact ⟨σ7,H7,I7.unpinned,q7⟩
    | ret v=>obtain ⟨x7,σ7,H7,I7,r7,q7⟩:=q7; exact ⟨x7,σ7,H7,I7.unpinned,r7,q7⟩
end
end L2
namespace L2
open PySem PySem.Spec PyProof.Rows
abbrev R2:=V→V→Hp→VK→Prop
def OpR (X:Cx) (f:Value→Value→Sem Value) (r:R2):Prop :=
  ∀ (pins:List (Addr × Obj)) (s:Shared) (σ:St) (H:Hp) (x y:V) (v u:Value) (Q:VK),Inv X pins σ H s→RelV x v→RelV y u→r x y H Q →
    wpAny (model X.prog X.w) X.A (f v u) (EP X pins σ Q) X.xe s
def zd4 (X:Cx) (f:Value) (r:List V→Hp→VK→Prop):Prop :=
  ∀ (pins:List (Addr × Obj)) (s:Shared) (σ:St) (H:Hp) (xs:List V) (us:List Value) (Q:VK),Inv X pins σ H s→Vals xs us→r xs H Q →
    wpAny (model X.prog X.w) X.A (call f us) (EP X pins σ Q) X.xe s
def tOp (r:R2) (ta tb:TE):TE:=fun σ H Q=>ta σ H fun x H1=>tb σ H1 fun y H2=>r x y H2 Q
def rI (C:Int→Int→Prop) (g:Int→Int→V):R2:=fun x y H Q=>∃ i j,x = .int i∧y = .int j∧C i j∧Q (g i j) H
def rI0 (g:Int→Int→V):R2:=fun x y H Q=>∃ i j,x = .int i∧y = .int j∧Q (g i j) H
section
variable {X:Cx} {a b c:Expr} {ta tb tc:TE} {pos:Pos}
theorem binT (ha:PE X a ta) (hb:PE X b tb) {pins:List (Addr × Obj)} {s:Shared} {σ:St} {H:Hp} {R:V→V→Hp→Prop} (I:Inv X pins σ H s)
    (h:ta σ H fun x H1=>tb σ H1 fun y H2=>R x y H2) {Q:Value→Shared→Prop} {f:Value→Value→Sem Value}
    (hf:∀ v u s2 x y H2,Inv X pins σ H2 s2→RelV x v→RelV y u→R x y H2→wpAny (model X.prog X.w) X.A (f v u) Q X.xe s2) :
    wpAny (model X.prog X.w) X.A (eval a X.env) (fun v s₁=>wpAny (model X.prog X.w) X.A (eval b X.env) (fun u s₂=>wpAny (model X.prog X.w) X.A (f v u) Q X.xe s₂) X.xe s₁) X.xe s:=by
  refine thn (ha pins s σ H _ I h) fun v s1 ⟨x,H1,I1,r1,q1⟩=>?_
  refine thn (hb pins s1 σ H1 _ I1 q1) fun u s2 ⟨y,H2,I2,r2,q2⟩=>?_
  exact hf v u s2 x y H2 I2 r1 r2 q2
theorem zay {op:Operator} {r:R2} (ho:OpR X (binaryOp op) r) (ha:PE X a ta) (hb:PE X b tb):PE X (.BinOp a op b pos) (tOp r ta tb):=by
  intro pins s σ H Q I h
  exact wpAny_BinOp (binT ha hb I h fun v u s2 x y H2 I2 rx ry q=>ho pins s2 σ H2 x y v u Q I2 rx ry q)
theorem opI {f:Value→Value→Sem Value} {C:Int→Int→Prop} {g:Int→Int→Int}
    (rule:∀ (i j:Int) (t u:Tok) (s:Shared) (Q:Value→Shared→Prop) (E:Value→Shared→Prop),C i j→Q (.int (g i j) s.toks) { s with toks:=s.toks + 1 }→wpAny (model X.prog X.w) X.A (f (.int i t) (.int j u)) Q E s) :
    OpR X f (rI C fun i j=>.int (g i j)):=by
  intro pins s σ H x y v u Q I rx ry h
  obtain ⟨i,j,rfl,rfl,hc,q⟩:=h
  obtain ⟨t,rfl⟩:=rx
  obtain ⟨t',rfl⟩:=ry
  exact rule i j t t' s _ _ hc ⟨.int (g i j),H,I.tok _,⟨_,rfl⟩,q⟩
theorem opI0 {f:Value→Value→Sem Value} {g:Int→Int→Int}
    (rule:∀ (i j:Int) (t u:Tok) (s:Shared) (Q:Value→Shared→Prop) (E:Value→Shared→Prop),Q (.int (g i j) s.toks) { s with toks:=s.toks + 1 }→wpAny (model X.prog X.w) X.A (f (.int i t) (.int j u)) Q E s) :
    OpR X f (rI0 fun i j=>.int (g i j)):=by
  intro pins s σ H x y v u Q I rx ry h
  obtain ⟨i,j,rfl,rfl,q⟩:=h
  obtain ⟨t,rfl⟩:=rx
  obtain ⟨t',rfl⟩:=ry
  exact rule i j t t' s _ _ ⟨.int (g i j),H,I.tok _,⟨_,rfl⟩,q⟩
theorem opB0 {f:Value→Value→Sem Value} {g:Int→Int→Bool}
    (rule:∀ (i j:Int) (t u:Tok) (s:Shared) (Q:Value→Shared→Prop) (E:Value→Shared→Prop),Q (.bool (g i j)) s→wpAny (model X.prog X.w) X.A (f (.int i t) (.int j u)) Q E s) :
    OpR X f (rI0 fun i j=>.bl (g i j)):=by
  intro pins s σ H x y v u Q I rx ry h
  obtain ⟨i,j,rfl,rfl,q⟩:=h
  obtain ⟨t,rfl⟩:=rx
  obtain ⟨t',rfl⟩:=ry
  exact rule i j t t' s _ _ ⟨.bl (g i j),H,I,rfl,q⟩
def CPow (i j:Int):Prop:=0 ≤ j∧j ≤ 1000000∧i.natAbs < 2 ^ 64
theorem za3:OpR X (binaryOp .Add) (rI0 fun i j=>.int (i + j)):=opI0 fun _ _ _ _ _ _ _ q=>add_int q
theorem zgv:OpR X (binaryOp .Sub) (rI0 fun i j=>.int (i - j)):=opI0 fun _ _ _ _ _ _ _ q=>sub_int q
theorem zb1:OpR X (binaryOp .Mod) (rI (fun _ j=>0 < j) fun i j=>.int (i % j)):=opI fun i j _ _ _ _ _ hc q=>by
  have h1:(0:Int) < j:=hc
  exact mod_int' (by omega) (by rw [Int.fmod_eq_emod_of_nonneg i (by omega)]; exact q)
theorem zjp:OpR X (binaryOp .Pow) (rI CPow fun i j=>.int (i ^ j.toNat)):=opI fun _ _ _ _ _ _ _ hc q=>pow_int_small hc.1 hc.2.1 hc.2.2 q
end
def scal:V→V→Bool
  | .non,.non=>true | .non,.int _=>true | .int _,.non=>true | .non,.bl _=>true | .bl _,.non=>true | .non,.str _=>true | .str _,.non=>true
  | .int _,.int _=>true | .bl _,.bl _=>true | .str _,.str _=>true | .byt _,.byt _=>true
  | .int _,.str _=>true | .str _,.int _=>true | .bl _,.str _=>true | .str _,.bl _=>true
  | _,_=>false
def rEq:R2:=fun x y H Q=>scal x y=true∧Q (.bl (decide (x=y))) H
def rNe:R2:=fun x y H Q=>scal x y=true∧Q (.bl (!decide (x=y))) H
theorem ziI {i j:Int}:decide (V.int i=V.int j)=(i == j):=by
  rw [Bool.eq_iff_iff]
  simp
theorem zlc {i j:Bool}:decide (V.bl i=V.bl j)=(i == j):=by
  rw [Bool.eq_iff_iff]
  simp
theorem zi8 {i j:Str}:decide (V.str i=V.str j)=(i == j):=by
  rw [Bool.eq_iff_iff]
  simp
theorem ziV {i j:Array UInt8}:decide (V.byt i=V.byt j)=(i.toList == j.toList):=by
  rw [Bool.eq_iff_iff]
  cases i
  cases j
  simp
section
variable {X:Cx} {a b c:Expr} {ta tb tc:TE} {pos:Pos}
theorem zaT {pins:List (Addr × Obj)} {σ:St} {H:Hp} {s:Shared} {Q:VK} {k k':Bool} (I:Inv X pins σ H s) (q:Q (.bl k) H) (e:k=k'):EP X pins σ Q (.bool k') s:=by
  subst e
  exact ⟨.bl k,H,I,rfl,q⟩
theorem zf1:OpR X (compareOp .Eq) rEq:=by
  intro pins s σ H x y v u Q I rx ry h
  obtain ⟨hs,q⟩:=h
  cases x with
  | non =>
    cases rx
    cases y with
    | non=>cases ry; exact PySem.EqNone.eq_none_none (zaT I q (by simp))
    | bl j=>cases ry; exact PySem.EqNone.eq_none_bool (zaT I q (by simp))
    | int j=>obtain ⟨t',rfl⟩:=ry; exact PySem.EqNone.eq_none_int (zaT I q (by simp))
    | str j=>obtain ⟨t',rfl⟩:=ry; exact PySem.EqNone.eq_none_str (zaT I q (by simp))
    | _=>exact absurd (show false=true from hs) Bool.false_ne_true
  | bl i =>
    cases rx
    cases y with
    | non=>cases ry; exact PySem.EqNone.eq_bool_none (zaT I q (by simp))
    | bl j=>cases ry; exact eq_bool (zaT I q zlc)
    | str j=>obtain ⟨t',rfl⟩:=ry; exact PySem.EqMixed.eq_bool_str (zaT I q (by simp))
    | _=>exact absurd (show false=true from hs) Bool.false_ne_true
  | int i =>
    obtain ⟨t,rfl⟩:=rx
    cases y with
    | non=>cases ry; exact PySem.EqNone.eq_int_none (zaT I q (by simp))
    | int j=>obtain ⟨t',rfl⟩:=ry; exact eq_int (zaT I q ziI)
    | str j=>obtain ⟨t',rfl⟩:=ry; exact PySem.EqMixed.eq_int_str (zaT I q (by simp))
    | _=>exact absurd (show false=true from hs) Bool.false_ne_true
  | str i =>
    obtain ⟨t,rfl⟩:=rx
    cases y with
    | non=>cases ry; exact PySem.EqNone.eq_str_none (zaT I q (by simp))
    | bl j=>cases ry; exact PySem.EqMixed.eq_str_bool (zaT I q (by simp))
    | int j=>obtain ⟨t',rfl⟩:=ry; exact PySem.EqMixed.eq_str_int (zaT I q (by simp))
    | str j=>obtain ⟨t',rfl⟩:=ry; exact eq_str (zaT I q zi8)
    | _=>exact absurd (show false=true from hs) Bool.false_ne_true
  | byt i =>
    obtain ⟨t,rfl⟩:=rx
    cases y with
    | byt j=>obtain ⟨t',rfl⟩:=ry; exact PySem.W.eq_bytes (zaT I q ziV)
    | _=>exact absurd (show false=true from hs) Bool.false_ne_true
  | _=>cases y <;> exact absurd (show false=true from hs) Bool.false_ne_true
theorem zl8:OpR X (compareOp .NotEq) rNe:=by
  intro pins s σ H x y v u Q I rx ry h
  obtain ⟨hs,q⟩:=h
  cases x with
  | non =>
    cases rx
    cases y with
    | non=>cases ry; exact PySem.EqNone.ne_none_none (zaT I q (by simp))
    | bl j=>cases ry; exact PySem.EqNone.ne_none_bool (zaT I q (by simp))
    | int j=>obtain ⟨t',rfl⟩:=ry; exact PySem.EqNone.ne_none_int (zaT I q (by simp))
    | str j=>obtain ⟨t',rfl⟩:=ry; exact PySem.EqNone.ne_none_str (zaT I q (by simp))
    | _=>exact absurd (show false=true from hs) Bool.false_ne_true
  | bl i =>
    cases rx
    cases y with
    | non=>cases ry; exact PySem.EqNone.ne_bool_none (zaT I q (by simp))
    | bl j=>cases ry; exact ne_bool (zaT I q (congrArg not zlc))
    | str j=>obtain ⟨t',rfl⟩:=ry; exact PySem.EqMixed.ne_bool_str (zaT I q (by simp))
    | _=>exact absurd (show false=true from hs) Bool.false_ne_true
  | int i =>
    obtain ⟨t,rfl⟩:=rx
    cases y with
    | non=>cases ry; exact PySem.EqNone.ne_int_none (zaT I q (by simp))
    | int j=>obtain ⟨t',rfl⟩:=ry; exact ne_int (zaT I q (congrArg not ziI))
    | str j=>obtain ⟨t',rfl⟩:=ry; exact PySem.EqMixed.ne_int_str (zaT I q (by simp))
    | _=>exact absurd (show false=true from hs) Bool.false_ne_true
  | str i =>
    obtain ⟨t,rfl⟩:=rx
    cases y with
    | non=>cases ry; exact PySem.EqNone.ne_str_none (zaT I q (by simp))
    | bl j=>cases ry; exact PySem.EqMixed.ne_str_bool (zaT I q (by simp))
    | int j=>obtain ⟨t',rfl⟩:=ry; exact PySem.EqMixed.ne_str_int (zaT I q (by simp))
    | str j=>obtain ⟨t',rfl⟩:=ry; exact ne_str (zaT I q (congrArg not zi8))
    | _=>exact absurd (show false=true from hs) Bool.false_ne_true
  | byt i =>
    obtain ⟨t,rfl⟩:=rx
    cases y with
    | byt j=>obtain ⟨t',rfl⟩:=ry; exact PySem.W.ne_bytes (zaT I q (congrArg not ziV))
    | _=>exact absurd (show false=true from hs) Bool.false_ne_true
  | _=>cases y <;> exact absurd (show false=true from hs) Bool.false_ne_true
theorem zmJ:OpR X (compareOp .Lt) (rI0 fun i j=>.bl (decide (i < j))):=opB0 fun _ _ _ _ _ _ _ q=>lt_int q
theorem zmD:OpR X (compareOp .Gt) (rI0 fun i j=>.bl (decide (j < i))):=opB0 fun _ _ _ _ _ _ _ q=>gt_int q
theorem znv:OpR X (compareOp .GtE) (rI0 fun i j=>.bl (decide (j ≤ i))):=opB0 fun _ _ _ _ _ _ _ q=>ge_int q
theorem zbg (b:Expr) {op:CmpOp} (h:op ≠ .In:=by decide) (h2:op ≠ .NotIn:=by decide):behindInMarks op b=false:=by
  have e1:(op == CmpOp.In)=false:=by cases op <;> first | rfl | exact absurd rfl h
  have e2:(op == CmpOp.NotIn)=false:=by cases op <;> first | rfl | exact absurd rfl h2
  cases b <;> simp [behindInMarks,e1,e2]
theorem zhj {op:CmpOp} {r:R2} (ho:OpR X (compareOp op) r) (ha:PE X a ta) (hb:PE X b tb) (hm:behindInMarks op b=false):PE X (.Compare a [op] [b] pos) (tOp r ta tb):=by
  intro pins s σ H Q I h
  exact wpAny_Compare1 (binT ha hb I h fun v u s2 x y H2 I2 rx ry q=>ho pins s2 σ H2 x y v u Q I2 rx ry q) hm
def zm0 (t:TE):TT:=fun σ H Q=>t σ H fun x H'=>∃ k,x = .bl k∧Q k H'
theorem za4 {op:CmpOp} {r:R2} (ho:OpR X (compareOp op) r) (ha:PE X a ta) (hb:PE X b tb) (hm:behindInMarks op b=false):PT X (.Compare a [op] [b] pos) (zm0 (tOp r ta tb)):=by
  intro pins s σ H Q I h
  refine wpAny_isTrue_Compare1 (thn (ha pins s σ H _ I h) fun v s1 ⟨x,H1,I1,r1,q1⟩=>thn (hb pins s1 σ H1 _ I1 q1) fun u s2 ⟨y,H2,I2,r2,q2⟩ =>
    thn (ho pins s2 σ H2 x y v u _ I2 r1 r2 q2) fun c s3 ⟨z,H3,I3,r3,k,e,q3⟩=>?_) hm
  subst e
  cases r3
  exact wpAny_truthy_bool ⟨H3,I3,q3⟩
theorem zhL:(sizeLine:Nat) < 2 ^ 63:=by rw [sizeLine_eq]; decide
theorem zfY {x:V} {us:List Value} (r:Vals [x] us):∃ u,us = [u]∧RelV x u:=by
  cases r with
  | cons r1 r2=>cases r2; exact ⟨_,rfl,r1⟩
theorem zmL {x y:V} {us:List Value} (r:Vals [x,y] us):∃ u w',us = [u,w']∧RelV x u∧RelV y w':=by
  cases r with
  | cons r1 r2 =>
    cases r2 with
    | cons r3 r4=>cases r4; exact ⟨_,_,rfl,r1,r3⟩
theorem zhr:zd4 X (.builtin "abs") (fun xs H Q=>∃ i,xs = [.int i]∧Q (.int (if i < 0 then -i else i)) H):=by
  intro pins s σ H xs us Q I r h
  obtain ⟨i,rfl,q⟩:=h
  obtain ⟨u,rfl,t,rfl⟩:=zfY r
  exact call_abs_int fun u tk=>⟨.int (if i < 0 then -i else i),H,I.tok _,⟨_,rfl⟩,q⟩
theorem zjA (hc:X.calm=true):zd4 X (.builtin "min") (fun xs H Q=>∃ i j,xs = [.int i,.int j]∧Q (.int (if j < i then j else i)) H):=by
  intro pins s σ H xs us Q I r h
  obtain ⟨i,j,rfl,q⟩:=h
  obtain ⟨u,w',rfl,⟨t,rfl⟩,⟨t',rfl⟩⟩:=zmL r
  refine min_two_ints (I.ok.hd hc) fun h' tk k=>⟨_,H,I.kept k,?_,q⟩
  by_cases hj:j < i
  · rw [if_pos hj,if_pos hj]; exact ⟨_,rfl⟩
  · rw [if_neg hj,if_neg hj]; exact ⟨_,rfl⟩
end
end L2
namespace L2
open PySem PySem.Spec PyProof.Rows
structure ObjM (h:Heap) (x dx C:Addr) (mA:Str→Option Value):Prop where
  obj:h.get? x=some (PySem.W.instObj C dx)
  ns:h.Ns1 dx mA
  ne:dx ≠ x
theorem ziU {h:Heap} {dx:Addr} {mA:Str→Option Value} (n:h.Ns1 dx mA):∃ od,h.get? dx=some od∧∀ name,PySem.W.lookIn name od=some (mA name):=by
  obtain ⟨o,es,ep,ho,hd,hk,_,hm⟩:=n
  refine ⟨o,ho,fun name=>?_⟩
  have e:=hm name
  unfold nsFind findBy at e
  rw [← Array.find?_toList] at e
  unfold PySem.W.lookIn
  rw [hd]
  dsimp only
  split
  · rename_i y q
    rw [q] at e
    exact congrArg some e
  · rename_i q
    rw [q] at e
    have a:es.toList.any (·.refKey)=false:=by
      rw [List.any_eq_false]
      intro y hy
      obtain ⟨z,t,hkey⟩:=hk y (Array.mem_toList_iff.mp hy)
      simp [DictEntry.refKey,hkey]
    have a':¬ es.toList.any (·.refKey)=true:=by rw [a]; exact Bool.false_ne_true
    rw [if_neg a']
    exact congrArg some e
theorem ObjM.look {h:Heap} {x dx C:Addr} {mA:Str→Option Value} (I:ObjM h x dx C mA):∃ od,PySem.W.InstAt h x (PySem.W.instObj C dx) C (some od)∧∀ name,PySem.W.lookIn name od=some (mA name) :=
  let ⟨od,ho,hl⟩:=ziU I.ns
  ⟨od,⟨I.obj,rfl,rfl,ho⟩,hl⟩
section
variable {prog:Program} {w:World} {A:Around} {E:Value→Shared→Prop} {s:Shared} {K:PySem.W.Frag} {x dx C f:Addr} {mA:Str→Option Value} {name:Str} {v:Value}
theorem get_map {expr:Bool} {Q:Value→Shared→Prop} (X:K.In s.heap) (I:ObjM s.heap x dx C mA) (hg:PySem.W.plainGet K C name=true) (hh:PySem.W.hasDictIn K C=true)
    (ha:PySem.W.findIn K (.ref C) name=some none) (hv:mA name=some v) (hv':PySem.W.handedIn v=true) (h:Q v { s with toks:=s.toks + 1 }) :
    wpAny (model prog w) A (getAttr (.ref x) name expr) Q E s:=by
  obtain ⟨od,J,hl⟩:=I.look
  exact PySem.W.get_value X J (PySem.W.plainGet_of hg).1 (PySem.W.findObj_own hh ha rfl (by rw [hl,hv])) hv' h
theorem zkz {pl:Sem Bool} {Q:Value × List Value→Shared→Prop} (X:K.In s.heap) (I:ObjM s.heap x dx C mA) (hg:PySem.W.plainGet K C name=true)
    (hf:PySem.W.findIn K (.ref C) name=some (some (.ref f))) (ht:PySem.W.isFn K (.ref f)=true) (hv:mA name=none) (h:Q (.ref f,[.ref x]) s) :
    wpAny (model prog w) A (getMethod (.ref x) name pl) Q E s:=by
  obtain ⟨od,J,hl⟩:=I.look
  exact PySem.W.method_fn X J (PySem.W.plainGet_of hg).1 (PySem.W.plainGet_of hg).2 hf (beq_iff_eq.mp ht) (by show (PySem.W.lookIn name od).map (·.isSome)=some false; rw [hl,hv]; rfl) h
theorem zls {ns:List Str} {Q:Unit→Shared→Prop} (X:K.In s.heap) (I:ObjM s.heap x dx C mA)
    (hs:PySem.W.findIn K (.ref C) "__setattr__"=some (some (.builtin "object.__setattr__"))) (hp:PySem.W.plainOver K C=true) (ht:PySem.W.takerIn K C name=some none) (hh:PySem.W.hasDictIn K C=true)
    (hw:PySem.Within mA ns) (hsz:ns.length ≤ sizeLine)
    (h:∀ h',ObjM h' x dx C (fun y=>if y=name then some v else mA y)→Heap.SameBut dx s.heap h'→Q () { s with heap:=h',toks:=s.toks + 2 }) :
    wpAny (model prog w) A (setAttr (.ref x) name v) Q E s:=by
  obtain ⟨od,J,hl⟩:=I.look
  refine PySem.W.set_plain X J hs (PySem.W.osa_open (s:={ s with toks:=s.toks + 1 }) (r:=none) X J hp ht fun b=>?_)
  obtain ⟨cd,hc,hd'⟩:=PySem.W.any_some hh
  have hx:s.heap.get? x=some ⟨.ref C,some dx,.plain,#[]⟩:=I.obj
  refine wpAny_bind (wpAny_pure (wpAny_bind (wpAny_bind (wpAny_loadPart hx (wpAny_bind (PySem.W.Looks.here (s:={ s with toks:=s.toks + 1 }) (PySem.W.looks_clsIn X hc) ?_))))))
  rw [hd']
  refine wpAny_pure (a:=some dx) (wpAny_bind (wpAny_pure (wpAny_bind ?_)))
  refine wpAny_nsSet1 (s:={ s with toks:=s.toks + 1 }) I.ns fun h' hn2 hs2=>?_
  obtain ⟨oD,esD,epD,hoD,hdD,hcD⟩:=hn2.count (PySem.Within.cons name v hw)
  refine wpAny_bind (wpAny_lookBehind hoD (by rw [hdD]; exact pastItsLine_dict (Nat.le_trans hcD (by rw [List.length_cons]; omega))) ?_)
  exact wpAny_pure (h _ ⟨(hs2.2 _ (Ne.symm I.ne)).trans I.obj,hn2,I.ne⟩ hs2)
theorem zj2 {R:Result→Shared→Prop} {vs:List Value} {kw:List (Str × Value)} (X:K.In s.heap) (hm:PySem.W.makesIn K C=true)
    (hi:PySem.W.findIn K (.ref C) "__init__"=some (some (.ref f))) (hf:PySem.W.typeIn K (.ref f)=some (.type "function"))
    (h:codeAny (model prog w) (A.under (.builtin "type.__call__" ⟨.ref C :: vs,kw⟩)) (.call (.ref f) ⟨.ref (s.heap.objs.size + 1) :: vs,kw⟩) (PySem.W.InitBack (s.heap.objs.size + 1) R)
      { s with heap:=(s.heap.push PySem.W.emptyDict).push (PySem.W.instObj C s.heap.objs.size) }) :
    codeAny (model prog w) A (.call (.ref C) ⟨vs,kw⟩) R s:=by
  obtain ⟨hh,g,d,t,os⟩:=s
  exact PySem.W.make_core (PySem.W.makes_of X hm) (PySem.W.looks_findIn X hi) (fun self=>PySem.W.bind_fn X self hf) (.inl rfl) h
end
def putF (f:Str) (v:V):List (Str × V)→List (Str × V)
  | []=>[(f,v)]
  | (g,x) :: r=>if g=f then (g,v) :: r else (g,x) :: putF f v r
theorem zew (f g:Str) (v:V):∀ fs:List (Str × V),(putF f v fs).lookup g=if g=f then some v else fs.lookup g
  | []=>by
    show List.lookup g [(f,v)]=_
    by_cases h:g=f
    · have hb:(g == f)=true:=beq_iff_eq.mpr h
      simp only [List.lookup,hb,if_pos h]
    · have hb:(g == f)=false:=beq_eq_false_iff_ne.mpr h
      simp only [List.lookup,hb,if_neg h]
  | (k,x) :: r=>by
    have ih:=zew f g v r
    rw [show putF f v ((k,x) :: r)=(if k=f then (k,v) :: r else (k,x) :: putF f v r) from rfl]
    by_cases hk:k=f
    · rw [if_pos hk]
      by_cases h:g=k
      · have hb:(g == k)=true:=beq_iff_eq.mpr h
        simp only [List.lookup,hb,if_pos (h.trans hk)]
      · have hb:(g == k)=false:=beq_eq_false_iff_ne.mpr h
        simp only [List.lookup,hb,if_neg (fun e:g=f=>h (e.trans hk.symm))]
    · rw [if_neg hk]
      by_cases h:g=k
      · have hb:(g == k)=true:=beq_iff_eq.mpr h
        simp only [List.lookup,hb,if_neg (fun e:g=f=>hk (h.symm.trans e))]
      · have hb:(g == k)=false:=beq_eq_false_iff_ne.mpr h
        simp only [List.lookup,hb]
        exact ih
theorem zeM (f:Str) (v:V):∀ fs:List (Str × V),f ∈ (putF f v fs).map (·.1)∧∀ g,g ∈ fs.map (·.1)→g ∈ (putF f v fs).map (·.1)
  | []=>⟨by simp [putF],fun g h=>by simp at h⟩
  | (k,x) :: r=>by
    obtain ⟨i1,i2⟩:=zeM f v r
    rw [show putF f v ((k,x) :: r)=(if k=f then (k,v) :: r else (k,x) :: putF f v r) from rfl]
    by_cases hk:k=f
    · rw [if_pos hk]
      subst hk
      exact ⟨by simp,fun g h=>by simpa using h⟩
    · rw [if_neg hk]
      refine ⟨?_,fun g h=>?_⟩
      · rw [List.map_cons]
        exact List.mem_cons_of_mem _ i1
      · rw [List.map_cons] at h ⊢
        rcases List.mem_cons.mp h with e | e
        · exact List.mem_cons.mpr (.inl e)
        · exact List.mem_cons_of_mem _ (i2 g e)
theorem zeC (f:Str) (v:V):∀ fs:List (Str × V),(putF f v fs).length ≤ fs.length + 1
  | []=>by simp [putF]
  | (k,x) :: r=>by
    have ih:=zeC f v r
    rw [show putF f v ((k,x) :: r)=(if k=f then (k,v) :: r else (k,x) :: putF f v r) from rfl]
    by_cases hk:k=f
    · rw [if_pos hk,List.length_cons,List.length_cons]; omega
    · rw [if_neg hk,List.length_cons,List.length_cons]; omega
theorem RelO.some_of {v:V} {o:Option Value} (r:RelO (some v) o):∃ u,o=some u∧RelV v u:=by
  cases o with
  | none=>exact (show False from r).elim
  | some u=>exact ⟨u,rfl,r⟩
theorem RelO.none_of {o:Option Value} (r:RelO none o):o=none:=by
  cases o with
  | none=>rfl
  | some u=>exact (show False from r).elim
theorem zjq {v:V} {u:Value} (r:RelV v u):PySem.W.handedIn u=true:=by
  cases v with
  | non=>cases (show u=Value.none from r); rfl
  | bl b=>cases (show u=Value.bool b from r); rfl
  | int i=>obtain ⟨t,e⟩:=(show ∃ t,u=Value.int i t from r); cases e; rfl
  | str x=>obtain ⟨t,e⟩:=(show ∃ t,u=Value.str x t from r); cases e; rfl
  | byt b=>obtain ⟨t,e⟩:=(show ∃ t,u=Value.bytes b t from r); cases e; rfl
  | flt b=>obtain ⟨t,e⟩:=(show ∃ t,u=Value.float b t from r); cases e; rfl
  | ref a=>cases (show u=Value.ref a from r); rfl
  | ty n=>cases (show u=Value.type n from r); rfl
section
variable {P:Program} {w:World} {H H':Hp} {h h':Heap} {a C dx:Addr} {fs fs':List (Str × V)}
theorem zfR (hok:HOk P w H h) (e:H a=some (.ins C dx fs)):∃ mA,ObjM h a dx C mA∧(∀ f,RelO (fs.lookup f) (mA f))∧PySem.Within mA (fs.map (·.1))∧fs.length ≤ 1000∧H dx=some (.own a):=by
  obtain ⟨d,z,ne,ob,mA,n,r,q⟩:=(show ObjOk P w H h a (.ins C dx fs) from hok a _ e)
  exact ⟨mA,⟨ob,n,ne⟩,r,q,z,d⟩
end
structure Cls (K:PySem.W.Frag) (C:Addr):Prop where
  pg:PySem.W.plainGet K C Str.empty=true
  hd:PySem.W.hasDictIn K C=true
  po:PySem.W.plainOver K C=true
  sa:PySem.W.findIn K (.ref C) "__setattr__"=some (some (.builtin "object.__setattr__"))
theorem Cls.get {K:PySem.W.Frag} {C:Addr} (c:Cls K C) (f:Str):PySem.W.plainGet K C f=true:=c.pg
def NoAttr (K:PySem.W.Frag) (C:Addr) (f:Str):Prop:=PySem.W.findIn K (.ref C) f=some none
theorem NoAttr.taker {K:PySem.W.Frag} {C:Addr} {f:Str} (n:NoAttr K C f):PySem.W.takerIn K C f=some none:=by
  unfold PySem.W.takerIn
  rw [show PySem.W.findIn K (.ref C) f=some none from n]
  rfl
structure Meth (K:PySem.W.Frag) (C:Addr) (m:Str) (f:Addr):Prop where
  at_:PySem.W.findIn K (.ref C) m=some (some (.ref f))
  fn:PySem.W.isFn K (.ref f)=true
  kp:PySem.W.keepIn K (.ref f)=true
section
variable {X:Cx} {pins:List (Addr × Obj)} {σ:St} {H:Hp} {s:Shared} {a C dx:Addr} {fs:List (Str × V)} {f:Str} {v:V} {A:Around} {E:Value→Shared→Prop}
theorem ziz {b:Bool} {Q:Value→Shared→Prop} (I:Inv X pins σ H s) (e:H a=some (.ins C dx fs)) (c:Cls X.K C) (n:NoAttr X.K C f) (l:fs.lookup f=some v)
    (h:∀ u s',Inv X pins σ H s'→RelV v u→Q u s'):wpAny (model X.prog X.w) A (getAttr (.ref a) f b) Q E s:=by
  obtain ⟨mA,O,r,_,_,_⟩:=zfR I.hok e
  obtain ⟨u,hu,ru⟩:=RelO.some_of (v:=v) (o:=mA f) (by rw [← l]; exact r f)
  exact get_map I.kIn O (c.get f) c.hd n hu (zjq ru) (h u _ (I.tok _) ru)
theorem zif {m:Str} {g:Addr} {pl:Sem Bool} {Q:Value × List Value→Shared→Prop} (I:Inv X pins σ H s) (e:H a=some (.ins C dx fs)) (c:Cls X.K C) (k:Meth X.K C m g) (l:fs.lookup m=none)
    (h:Q (.ref g,[.ref a]) s):wpAny (model X.prog X.w) A (getMethod (.ref a) m pl) Q E s:=by
  obtain ⟨mA,O,r,_,_,_⟩:=zfR I.hok e
  have hn:mA m=none:=RelO.none_of (by rw [← l]; exact r m)
  exact zkz I.kIn O (c.get m) k.at_ k.fn hn h
theorem zil {y:V} {u:Value} {Q:Unit→Shared→Prop} (I:Inv X pins σ H s) (e:H a=some (.ins C dx fs)) (c:Cls X.K C) (n:NoAttr X.K C f) (hl:fs.length < 1000) (ry:RelV y u)
    (h:∀ s',Inv X pins σ (upd H a (.ins C dx (putF f y fs))) s'→Q () s'):wpAny (model X.prog X.w) A (setAttr (.ref a) f u) Q E s:=by
  obtain ⟨mA,O,r,wi,_,ho⟩:=zfR I.hok e
  have hz:(fs.map (·.1)).length ≤ sizeLine:=by rw [List.length_map,sizeLine_eq]; omega
  refine zls I.kIn O c.sa c.po n.taker c.hd wi hz fun h' O' sb=>h _ ?_
  have hd:∃ o,h'.get? dx=some o:=let ⟨o,_,_,e',_⟩:=O'.ns; ⟨o,e'⟩
  refine I.write (x:=a) (e:=dx) (by rw [e]; exact True.intro) (.inr ho) (fun b q hb z=>(sb.2 b hb).trans z) hd ?_
  refine ⟨by rw [zaf O.ne]; exact ho,?_,O.ne,O'.obj,_,O'.ns,fun g=>?_,fun g hg=>?_⟩
  · have:=zeC f y fs; omega
  · show RelO ((putF f y fs).lookup g) (if g=f then some u else mA g)
    rw [zew]
    by_cases q:g=f
    · rw [if_pos q,if_pos q]; exact ry
    · rw [if_neg q,if_neg q]; exact r g
  · by_cases q:g=f
    · rw [q]; exact (zeM f y fs).1
    · refine (zeM f y fs).2 g (wi g fun z=>hg ?_)
      show (if g=f then some u else mA g)=none
      rw [if_neg q]; exact z
theorem Inv.made (I:Inv X pins σ H s):Inv X pins σ (upd (upd H s.heap.objs.size (.own (s.heap.objs.size + 1))) (s.heap.objs.size + 1) (.ins C s.heap.objs.size []))
    { s with heap:=(s.heap.push PySem.W.emptyDict).push (PySem.W.instObj C s.heap.objs.size) }:=by
  have e1:(s.heap.push PySem.W.emptyDict).get? s.heap.objs.size=some PySem.W.emptyDict:=Heap.get?_push_size s.heap rfl
  have e2:((s.heap.push PySem.W.emptyDict).push (PySem.W.instObj C s.heap.objs.size)).get? (s.heap.objs.size + 1)=some (PySem.W.instObj C s.heap.objs.size):=by
    have:=Heap.get?_push_size (s.heap.push PySem.W.emptyDict) (o:=PySem.W.instObj C s.heap.objs.size) rfl
    rwa [Heap.size_push] at this
  have e3:(s.heap.push PySem.W.emptyDict).Ns s.heap.objs.size (fun _=>none):=⟨PySem.W.emptyDict,#[],_,e1,rfl,(fun e he=>absurd he (by simp)),fun _=>rfl⟩
  have I1:=I.laid (a:=s.heap.objs.size) (o:=.own (s.heap.objs.size + 1)) (h':=s.heap.push PySem.W.emptyDict) (t':=s.toks) (fun b u q=>Heap.get?_push_of_some _ q) (Nat.le_refl _) ⟨_,e1⟩
  refine I1.laid (a:=s.heap.objs.size + 1) (o:=.ins C s.heap.objs.size []) (t':=s.toks) (fun b u q=>Heap.get?_push_of_some _ q) (Nat.le_of_eq (Heap.size_push _ _)) ?_
  have ne:s.heap.objs.size ≠ s.heap.objs.size + 1:=Nat.ne_of_lt (Nat.lt_succ_self _)
  refine ⟨by rw [zaf ne,zah],Nat.zero_le _,ne,e2,fun _=>none,(Heap.Ns1.of_empty e3).at fun o q=>Heap.get?_push_of_some _ q,fun _=>True.intro,fun y hy=>absurd rfl hy⟩
theorem zmd {prog:Program} {w:World} {env:Env} {e:Expr} {f:Str} {pos:Pos} {s:Shared} {Q:Value→Shared→Prop} (hb:attributeBase e f env (eval e env)=eval e env)
    (h:wpAny (model prog w) A (eval e env) (fun o s₁=>wpAny (model prog w) A (getAttr o f true) Q E s₁) E s):wpAny (model prog w) A (eval (.Attribute e f pos) env) Q E s :=
  Attribute_any_ h (by rw [arm_eval_Attribute,hb])
end
def tFld (K:PySem.W.Frag) (ta:TE) (f:Str):TE:=fun σ H Q=>ta σ H fun x H1=>∃ a C dx fs v,x = .ref a∧H1 a=some (.ins C dx fs)∧Cls K C∧NoAttr K C f∧fs.lookup f=some v∧Q v H1
def sFld (K:PySem.W.Frag) (ta tv:TE) (f:Str):TS:=fun D σ H=>tv σ H fun y H1=>ta σ H1 fun x H2=>∃ a C dx fs,x = .ref a∧H2 a=some (.ins C dx fs)∧Cls K C∧NoAttr K C f∧fs.length < 1000 ∧
  D.nx σ (upd H2 a (.ins C dx (putF f y fs)))
section
variable {X:Cx} {o e value:Expr} {f:Str} {pos pos' tpos:Pos} {ta tv:TE}
theorem zfb (he:PE X e ta) (hb:attributeBase e f X.env (eval e X.env)=eval e X.env):PE X (.Attribute e f pos) (tFld X.K ta f):=by
  intro pins s σ H Q I h
  refine zmd hb (thn (he pins s σ H _ I h) fun u s1 ⟨x,H1,I1,rx,a,C,dx,fs,v,ex,ea,c,n,l,q⟩=>?_)
  subst ex
  obtain rfl:u=Value.ref a:=rx
  exact ziz I1 ea c n l fun u' s2 I2 ru=>⟨v,H1,I2,ru,q⟩
theorem zlh (ha:PE X o ta) (hv:PE X value tv) (hs:swapsWith value (some (.Attribute o f pos')) pos.line X.env=pure false):PS X (.Assign [.Attribute o f pos'] value pos) (sFld X.K ta tv f):=by
  intro pins s σ H D I h
  refine plainObj_wpAny_Assign_Attribute (thn (hv pins s σ H _ I h) fun u s1 ⟨y,H1,I1,ry,q⟩=>thn (ha pins s1 σ H1 _ I1 q) fun ov s2 ⟨x,H2,I2,rx,a,C,dx,fs,ex,ea,c,n,l,q2⟩=>?_) hs
  subst ex
  obtain rfl:ov=Value.ref a:=rx
  exact zil I2 ea c n l ry fun s3 I3=>⟨σ,_,I3,q2⟩
end
section
variable {X:Cx} {pins:List (Addr × Obj)} {σ:St} {H:Hp} {s:Shared} {A:Around} {E:Value→Shared→Prop} {Q:Value→Shared→Prop} {c:Value} {b:Bool}
inductive TyOf (K:PySem.W.Frag) (H:Hp):V→Value→Prop where
  | non:TyOf K H .non (.type "NoneType")
  | bl (x:Bool):TyOf K H (.bl x) (.type "bool")
  | int (i:Int):TyOf K H (.int i) (.type "int")
  | str (x:Str):TyOf K H (.str x) (.type "str")
  | flt (x:UInt64):TyOf K H (.flt x) (.type "float")
  | lst {a:Addr} {xs:List V} (e:H a=some (.lst xs)):TyOf K H (.ref a) (.type "list")
  | frz {a:Addr} {o:Obj} {xs:List V} (e:H a=some (.frz o (.lst xs))):TyOf K H (.ref a) (.type "list")
  | tup {a:Addr} {xs:List V} (e:H a=some (.tup xs)):TyOf K H (.ref a) (.type "tuple")
  | dK {a:Addr} {kvs:List (Key × V)} (e:H a=some (.dK kvs)):TyOf K H (.ref a) (.type "dict")
  | dT {a:Addr} {kvs:List (List Key × V)} (e:H a=some (.dT kvs)):TyOf K H (.ref a) (.type "dict")
  | ins {a C dx:Addr} {fs:List (Str × V)} (e:H a=some (.ins C dx fs)) (cl:Cls K C) (ha:PySem.W.findIn K (.ref C) "__class__"=some (some (.builtin "object.__class__")))
      (hn:PySem.W.specialIn K (.builtin "object.__class__") "__get__"=some (some (.builtin "getset_descriptor.__get__"))) (htk:PySem.W.takesIn K (.builtin "object.__class__")=some true)
      (hm:PySem.W.mroIn K C (.type "object")=some true):TyOf K H (.ref a) (.ref C)
theorem zjZ {x:V} {u t:Value} (I:Inv X pins σ H s) (rx:RelV x u) (ty:TyOf X.K H x t) (e:PySem.W.kitOne X.K t c=some b) (h:∀ tk,Q (.bool b) { s with toks:=tk }) :
    wpAny (model X.prog X.w) A (call (.builtin "isinstance") [u,c]) Q E s:=by
  cases ty with
  | non=>cases (show u=Value.none from rx); exact PySem.W.kia_one PySem.W.kitx_none I.kIn True.intro e (fun z=>nomatch z) h
  | bl y=>cases (show u=Value.bool y from rx); exact PySem.W.kia_one PySem.W.kitx_bool I.kIn True.intro e (fun z=>nomatch z) h
  | int i=>obtain ⟨t,q⟩:=(show ∃ t,u=Value.int i t from rx); cases q; exact PySem.W.kia_one PySem.W.kitx_int I.kIn True.intro e (fun z=>nomatch z) h
  | str y=>obtain ⟨t,q⟩:=(show ∃ t,u=Value.str y t from rx); cases q; exact PySem.W.kia_one PySem.W.kitx_str I.kIn True.intro e (fun z=>nomatch z) h
  | flt y=>obtain ⟨t,q⟩:=(show ∃ t,u=Value.float y t from rx); cases q; exact PySem.W.kia_one PySem.W.kitx_float I.kIn True.intro e (fun z=>nomatch z) h
  | @lst a xs ea =>
    cases (show u=Value.ref a from rx)
    obtain ⟨_,_,n,_,h1⟩:=(show ObjOk X.prog X.w H s.heap a (.lst xs) from I.hok a _ ea)
    exact PySem.W.kia_one PySem.W.kitx_list I.kIn ⟨_,h1,rfl⟩ e (fun z=>nomatch z) h
  | @frz a ob xs ea =>
    cases (show u=Value.ref a from rx)
    obtain ⟨_,_,_,n,_,h1⟩:=(show ObjOk X.prog X.w H s.heap a (.frz ob (.lst xs)) from I.hok a _ ea)
    exact PySem.W.kia_one PySem.W.kitx_list I.kIn ⟨_,h1,rfl⟩ e (fun z=>nomatch z) h
  | @tup a xs ea =>
    cases (show u=Value.ref a from rx)
    obtain ⟨_,_,_,p⟩:=(show ObjOk X.prog X.w H s.heap a (.tup xs) from I.hok a _ ea)
    obtain ⟨o,h1,h2,_⟩:=p
    exact PySem.W.kia_one PySem.W.kitx_tuple I.kIn ⟨o,h1,h2⟩ e (fun z=>nomatch z) h
  | @dK a kvs ea =>
    cases (show u=Value.ref a from rx)
    obtain ⟨_,_,vs,_,p⟩:=(show ObjOk X.prog X.w H s.heap a (.dK kvs) from I.hok a _ ea)
    obtain ⟨o,es,ep,h1,h2,_⟩:=p
    exact PySem.W.kia_one PySem.W.kitx_dict I.kIn ⟨o,h1,h2.1⟩ e (fun z=>nomatch z) h
  | @dT a kvs ea =>
    cases (show u=Value.ref a from rx)
    obtain ⟨_,_,xs,_,o,es,ep,h1,h2,_⟩:=(show ObjOk X.prog X.w H s.heap a (.dT kvs) from I.hok a _ ea)
    exact PySem.W.kia_one PySem.W.kitx_dict I.kIn ⟨o,h1,h2.1⟩ e (fun z=>nomatch z) h
  | @ins a C dx fs ea cl ha hn htk hm =>
    cases (show u=Value.ref a from rx)
    obtain ⟨mA,O,_⟩:=zfR I.hok ea
    obtain ⟨od,J,_⟩:=O.look
    exact PySem.W.kia_one (PySem.W.kitx_own (cl.get _) cl.hd ha hn htk hm) I.kIn J e (fun z=>nomatch z) h
end
end L2
namespace L2
open PySem PySem.Spec PyProof.Rows
structure Room (k:Nat) (A:Around):Prop where
  hd:A.handled=none
  dp:A.depth + 3 * k + 5 < recursionLimit
  un:A.units + 16 * k + 200 < cLine
theorem Room.mono {j k:Nat} {A:Around} (r:Room k A) (h:j ≤ k):Room j A:=⟨r.hd,by have:=r.dp; omega,by have:=r.un; omega⟩
theorem Room.deeper {k:Nat} {A:Around} (r:Room (k + 1) A) (env:Env):Room k (A.deeper env) :=
  ⟨r.hd,by have:=r.dp; show A.depth + 1 + 3 * k + 5 < _; omega,by have:=r.un; show A.units + 3 + 16 * k + 200 < _; omega⟩
theorem zhY {A:Around} {C:Addr} {us:List Value} {kw:List (Str × Value)}:(A.under (.builtin "type.__call__" ⟨.ref C :: us,kw⟩)).depth=A.depth + 1:=by
  first | rfl | simp [Around.under,Code.weight,Code.isCreation,Code.isGuard,Code.isCaller,Code.frames,Code.isFrame,guardIds]
theorem zh5 {A:Around} {C:Addr} {us:List Value} {kw:List (Str × Value)}:(A.under (.builtin "type.__call__" ⟨.ref C :: us,kw⟩)).units=A.units + 1:=by
  first | rfl | simp [Around.under,Code.cUnits,Code.frames,Code.isFrame]
theorem Room.make {k:Nat} {A:Around} (r:Room (k + 1) A) (C:Addr) (us:List Value) (kw:List (Str × Value)):Room k (A.under (.builtin "type.__call__" ⟨.ref C :: us,kw⟩)) :=
  ⟨r.hd,by have:=r.dp; rw [zhY]; omega,by have:=r.un; rw [zh5]; omega⟩
theorem Room.depth {k:Nat} {A:Around} (r:Room k A):A.depth < recursionLimit:=by have:=r.dp; omega
theorem Room.units {k:Nat} {A:Around} (r:Room k A):A.units + 64 < cLine:=by have:=r.un; omega
def tNil:TA:=fun _ H Q=>Q [] H
def zbf (ta:TE) (tr:TA):TA:=fun σ H Q=>ta σ H fun x H1=>tr σ H1 fun xs H2=>Q (x :: xs) H2
section
variable {X:Cx} {e:Expr} {es:List Expr} {te:TE} {t:TA} {pos:Pos}
theorem zae:PA X [] tNil:=fun _ _ _ _ H Q I h=>Calls.spliced_nil ⟨[],H,I,.nil,h⟩
theorem zaa (ha:PE X e te) (hr:PA X es t) (hs:starEach (e :: es) X.env=(false,eval e X.env) :: starEach es X.env:=by rfl):PA X (e :: es) (zbf te t):=by
  intro pos pins s σ H Q I h
  rw [hs]
  show wpAny _ _ (spliced ((false,eval e X.env) :: backTo pos (starEach es X.env))) _ _ s
  refine Calls.spliced_cons (thn (ha pins s σ H _ I h) fun u s1 ⟨x,H1,I1,r1,q1⟩=>?_)
  exact thn (hr pos pins s1 σ H1 _ I1 q1) fun us s2 ⟨xs,H2,I2,r2,q2⟩=>⟨x :: xs,H2,I2,.cons r1 r2,q2⟩
def tTup (t:TA):TE:=fun σ H Q=>t σ H fun xs H1=>xs.length ≤ sizeLine∧∀ p,H1 p=none→Q (.ref p) (upd H1 p (.tup xs))
def tLst (t:TA):TE:=fun σ H Q=>t σ H fun xs H1=>xs.length ≤ sizeLine∧∀ p,H1 p=none→Q (.ref p) (upd H1 p (.lst xs))
theorem zcY {x1} (h:PA X es t):PE X (.Tuple es x1 pos) (tTup t):=by
  intro pins s σ H Q I hq
  refine wpAny_Tuple_spliced (thn (h pos pins s σ H _ I hq) fun us s1 ⟨xs,H1,I1,r,z,q⟩=>⟨by rw [← r.length]; exact z,?_⟩)
  have hf:H1 s1.heap.objs.size=none:=I1.hok.fresh (Nat.le_refl _)
  refine ⟨.ref s1.heap.objs.size,upd H1 s1.heap.objs.size (.tup xs),I1.laid (t':=s1.toks) (fun b u e=>Heap.get?_push_of_some _ e) (Nat.le_refl _) ?_,rfl,q _ hf⟩
  exact ⟨z,us,r,⟨_,Heap.get?_push_size _ rfl,rfl,_,rfl⟩⟩
theorem zdv (h:PA X es t):PE X (.List es pos) (tLst t):=by
  intro pins s σ H Q I hq
  refine wpAny_List_spliced (thn (h pos pins s σ H _ I hq) fun us s1 ⟨xs,H1,I1,r,z,q⟩=>⟨by rw [← r.length]; exact z,?_⟩)
  have hf:H1 s1.heap.objs.size=none:=I1.hok.fresh (Nat.le_refl _)
  refine ⟨.ref s1.heap.objs.size,upd H1 s1.heap.objs.size (.lst xs),I1.laid (t':=s1.toks) (fun b u e=>Heap.get?_push_of_some _ e) (Nat.le_refl _) ?_,rfl,q _ hf⟩
  exact ⟨z,us,0,r,Heap.get?_push_size _ rfl⟩
end
abbrev Sp:=List V→Hp→VK→XK→Prop
abbrev CXT:=List Env→Hp→Shared→XK→Value→Shared→Prop
structure Env0 (P:Program) (w:World) (K:PySem.W.Frag) (mg:Str→Option Value) (base:Heap) (A:Around) (outer:List Env) (s:Shared) (H:Hp):Prop where
  frames:A.frames=some outer
  mod:Mod K mg base
  bs:∀ b o,base.get? b=some o→s.heap.get? b=some o∧H b=none
  bsz:base.objs.size ≤ s.heap.objs.size
  funs:s.heap.FunFrames base outer
  frf:∀ b ∈ frs outer,H b=none
  hok:HOk P w H s.heap
  bare:AllBare s.gens
  tb:TbAt K H
def CE (outer:List Env) (P:Program) (w:World) (H:Hp) (s:Shared) (Q:VK) (u:Value) (s':Shared):Prop :=
  ∃ v H',s'.os=s.os∧AllBare s'.gens∧Un (frs outer) [] H H' s.heap s'.heap∧HOk P w H' s'.heap∧RelV v u∧Q v H'
def CR (CX:CXT) (outer:List Env) (P:Program) (w:World) (H:Hp) (s:Shared) (Q:VK) (E:XK) (r:Result) (s':Shared):Prop :=
  match r with
  | .ok (.ret u)=>CE outer P w H s Q u s'
  | .ok _=>False
  | .error e=>CX outer H s E e s'
structure FnOk (P:Program) (w:World) (K:PySem.W.Frag) (mg:Str→Option Value) (base:Heap) (CX:CXT) (k:Nat) (f:Addr) (fd:FuncData) (ps:List Str) (sp:Sp):Prop where
  len:∀ vs H Q E,sp vs H Q E→vs.length=ps.length
  run:∀ (A:Around) (outer:List Env) (s:Shared) (H:Hp) (args:Args) (us:List Value) (vs:List V) (Q:VK) (E:XK),Room k A→Env0 P w K mg base A outer s H→BindsTo s fd args (ps.zip us)→Vals vs us→sp vs H Q E →
    codeAny (model P w) A (.call (.ref f) args) (CR CX outer P w H s Q E) s
theorem FnOk.mono {P:Program} {w:World} {K:PySem.W.Frag} {mg:Str→Option Value} {base:Heap} {CX:CXT} {j k:Nat} {f:Addr} {fd:FuncData} {ps:List Str} {sp:Sp} (F:FnOk P w K mg base CX j f fd ps sp) (h:j ≤ k) :
    FnOk P w K mg base CX k f fd ps sp:=⟨F.len,fun A outer s H args us vs Q E hr=>F.run A outer s H args us vs Q E (hr.mono h)⟩
theorem FnOk.imp {P:Program} {w:World} {K:PySem.W.Frag} {mg:Str→Option Value} {base:Heap} {CX:CXT} {k:Nat} {f:Addr} {fd:FuncData} {ps:List Str} {sp sp':Sp} (F:FnOk P w K mg base CX k f fd ps sp)
    (h:∀ vs H Q E,sp' vs H Q E→sp vs H Q E):FnOk P w K mg base CX k f fd ps sp' :=
  ⟨fun vs H Q E q=>F.len vs H Q E (h _ _ _ _ q),fun A outer s H args us vs Q E hr he hb hv hs=>F.run A outer s H args us vs Q E hr he hb hv (h _ _ _ _ hs)⟩
theorem Env0.make {P:Program} {w:World} {K:PySem.W.Frag} {mg:Str→Option Value} {base:Heap} {A:Around} {outer:List Env} {s:Shared} {H:Hp} (e:Env0 P w K mg base A outer s H) (C:Addr) (us:List Value) (kw:List (Str × Value)) :
    Env0 P w K mg base (A.under (.builtin "type.__call__" ⟨.ref C :: us,kw⟩)) outer s H:=⟨by first | exact e.frames | (simpa [Around.under,Code.envs,Code.isFrame,pushEnvs] using e.frames),e.mod,e.bs,e.bsz,e.funs,e.frf,e.hok,e.bare,e.tb⟩
section
variable {X:Cx} {pins:List (Addr × Obj)} {σ:St} {H:Hp} {s s':Shared}
theorem Inv.env0 (I:Inv X pins σ H s):Env0 X.prog X.w X.K X.mg X.base X.A X.stack s H :=
  ⟨I.ok.frames,I.ok.mod,I.bs,Nat.le_trans I.ok.bsz I.sz,I.stack,I.stkFree,I.hok,I.bare,I.ok.tb.grown I.base.tbls⟩
theorem Inv.after {Q:VK} {u:Value} (I:Inv X pins σ H s) (h:CE X.stack X.prog X.w H s Q u s'):EP X pins σ Q u s':=by
  obtain ⟨v,H',os,bare,un,hok,r,q⟩:=h
  obtain ⟨hh,g,d,t,os'⟩:=s'
  obtain rfl:os'=s.os:=os
  exact ⟨v,H',I.call (h':=hh) (g':=g) (d':=d) (t':=t) (ch:=[]) un hok bare (fun b z=>absurd z (by simp)),r,q⟩
end
def zh9 (sp:Sp) (dvs:List V) (E:XK) (t:TA):TE:=fun σ H Q=>t σ H fun vs H1=>sp (vs ++ dvs) H1 Q E
def zjc (C:Addr) (m:Str) (sp:Sp) (dvs:List V) (E:XK) (ta:TE) (t:TA):TE:=fun σ H Q=>ta σ H fun x H1=>∃ a dx fs,x = .ref a∧H1 a=some (.ins C dx fs)∧fs.lookup m=none ∧
  t σ H1 fun vs H2=>sp (x :: (vs ++ dvs)) H2 Q E
def zly (C:Addr) (sp:Sp) (dvs:List V) (E:XK) (t:TA):TE:=fun σ H Q=>t σ H fun vs H1=>∀ x dx,H1 x=none→H1 dx=none→dx ≠ x →
  sp (.ref x :: (vs ++ dvs)) (upd (upd H1 dx (.own x)) x (.ins C dx [])) (fun v H2=>v = .non∧Q (.ref x) H2) E
def Binds (K:PySem.W.Frag) (fd:FuncData) (ps:List Str) (ds:List Value):Prop :=
  ∀ (s:Shared) (us:List Value),K.In s.heap→(us ++ ds).length=ps.length→BindsTo s fd ⟨us,[]⟩ (ps.zip (us ++ ds))
theorem Binds.all {K:PySem.W.Frag} {fd:FuncData} {ps:List Str} (h:∀ us:List Value,us.length=ps.length→bindArgs fd ⟨us,[]⟩=pure (ps.zip us)):Binds K fd ps []:=fun s us _ hl=>by
  rw [List.append_nil] at hl ⊢
  exact .of_eq (h us hl)
def zdB (CX:CXT) (X:Cx) (E:XK):Prop:=∀ (pins:List (Addr × Obj)) (σ:St) (H:Hp) (s:Shared) (e:Value) (s':Shared),Inv X pins σ H s→CX X.stack H s E e s'→X.xe e s'
section
variable {X:Cx} {CX:CXT} {k:Nat} {f C:Addr} {fd:FuncData} {ps:List Str} {sp:Sp} {dvs:List V} {ds:List Value} {E:XK} {x m:Str} {p pos apos:Pos} {e o:Expr} {es:List Expr} {ta:TE} {t:TA}
theorem zkY {pins:List (Addr × Obj)} {σ:St} {H:Hp} {s:Shared} {Q:VK} {us:List Value} {vs:List V} (F:FnOk X.prog X.w X.K X.mg X.base CX k f fd ps sp) (hr:Room k X.A) (hb:Binds X.K fd ps ds) (hd:Vals dvs ds) (hx:zdB CX X E)
    (I:Inv X pins σ H s) (r:Vals vs us) (h:sp (vs ++ dvs) H Q E):wpAny (model X.prog X.w) X.A (call (.ref f) us) (EP X pins σ Q) X.xe s:=by
  have r2:Vals (vs ++ dvs) (us ++ ds):=r.append hd
  have hl:(us ++ ds).length=ps.length:=by rw [← r2.length]; exact F.len _ _ _ _ h
  refine wpAny_call (codeAny_mono (F.run X.A X.stack s H ⟨us,[]⟩ (us ++ ds) (vs ++ dvs) Q E hr I.env0 (hb s us I.kIn hl) r2 h) fun r s' hq=>?_)
  cases r with
  | error e=>exact hx pins σ H s e s' I hq
  | ok fl =>
    cases fl with
    | ret u=>exact I.after hq
    | next=>exact False.elim hq
    | brk=>exact False.elim hq
    | cont=>exact False.elim hq
theorem zlw (F:FnOk X.prog X.w X.K X.mg X.base CX k f fd ps sp) (hr:Room k X.A) (hg:Gl X x) (hm:X.mg x=some (.ref f)) (hk:PySem.W.keepIn X.K (.ref f)=true) (hb:Binds X.K fd ps ds) (hd:Vals dvs ds) (hx:zdB CX X E)
    (ha:PA X (e :: es) t) (hdb:(x == ("__debug__" : Str))=false:=by decide) (he:starEach (e :: es) X.env=(false,eval e X.env) :: starEach es X.env:=by rfl) (hpl:(backTo pos (starEach es X.env)).any (·.1)=false:=by rfl) :
    PE X (.Call (.Name x p) (e :: es) [] pos) (zh9 sp dvs E t):=by
  intro pins s σ H Q I h
  refine wpAny_Call_Name_kw (zjx I hg hm ?_ hdb)
  refine PySem.W.callWith_K (h₀:=X.base) I.ok.mod.kin hk (thn (ha pos pins s σ H _ I h) fun us s1 ⟨vs,H1,I1,r,q⟩=>⟨I1.kIn,?_⟩) he hpl
  exact zkY F hr hb hd hx I1 r q
theorem zlB {pl:Sem Bool} (he:PE X o ta) (c:Cls X.K C) (hm:Meth X.K C m f) (F:FnOk X.prog X.w X.K X.mg X.base CX k f fd ps sp) (hr:Room k X.A) (hb:Binds X.K fd ps ds) (hd:Vals dvs ds) (hx:zdB CX X E) (ha:PA X (e :: es) t)
    (hst:starEach (e :: es) X.env=(false,eval e X.env) :: starEach es X.env:=by rfl) (hpl:(backTo pos (starEach es X.env)).any (·.1)=false:=by rfl)
    (ht:eval (.Call (.Attribute o m apos) (e :: es) [] pos) X.env=(do
      let ov ← eval o X.env
      standAt apos.atName
      let (f,first) ← holding [ov] (getMethod ov m pl)
      callWith pos f first (backTo pos (starEach (e :: es) X.env)) (backToKw pos (keywordEach [] X.env))):=by rfl) :
    PE X (.Call (.Attribute o m apos) (e :: es) [] pos) (zjc C m sp dvs E ta t):=by
  intro pins s σ H Q I h
  refine PySem.W.methodCall_KW (pl:=pl) (thn (he pins s σ H _ I h) fun u s1 ⟨x,H1,I1,rx,a,dx,fs,ex,ea,l,q⟩=>?_) ht
  subst ex
  obtain rfl:u=Value.ref a:=rx
  refine zif I1 ea c hm l ?_
  refine PySem.W.callWith_K (first:=[.ref a]) (h₀:=X.base) I.ok.mod.kin hm.kp (thn (ha pos pins s1 σ H1 _ I1 q) fun us s2 ⟨vs,H2,I2,r,q2⟩=>⟨I2.kIn,?_⟩) hst hpl
  exact zkY (us:=.ref a :: us) (vs:=.ref a :: vs) F hr hb hd hx I2 (.cons rfl r) q2
structure Mk (K:PySem.W.Frag) (C f:Addr):Prop where
  makes:PySem.W.makesIn K C=true
  init:PySem.W.findIn K (.ref C) "__init__"=some (some (.ref f))
  fn:PySem.W.isFn K (.ref f)=true
  kp:PySem.W.keepIn K (.ref C)=true
theorem zkq {pins:List (Addr × Obj)} {σ:St} {H:Hp} {s:Shared} {Q:VK} {us:List Value} {vs:List V} (M:Mk X.K C f) (F:FnOk X.prog X.w X.K X.mg X.base CX k f fd ps sp) (hr:Room (k + 1) X.A) (hb:Binds X.K fd ps ds) (hd:Vals dvs ds)
    (hx:zdB CX X E) (I:Inv X pins σ H s) (r:Vals vs us)
    (h:∀ x dx,H x=none→H dx=none→dx ≠ x→sp (.ref x :: (vs ++ dvs)) (upd (upd H dx (.own x)) x (.ins C dx [])) (fun v H2=>v = .non∧Q (.ref x) H2) E) :
    wpAny (model X.prog X.w) X.A (call (.ref C) us) (EP X pins σ Q) X.xe s:=by
  have hq:=h (s.heap.objs.size + 1) s.heap.objs.size (I.hok.fresh (Nat.le_succ _)) (I.hok.fresh (Nat.le_refl _)) (Nat.ne_of_lt (Nat.lt_succ_self _))
  have I2:=Inv.made (C:=C) I
  have r2:Vals (V.ref (s.heap.objs.size + 1) :: (vs ++ dvs)) (Value.ref (s.heap.objs.size + 1) :: (us ++ ds)):=.cons rfl (r.append hd)
  have hl:(Value.ref (s.heap.objs.size + 1) :: us ++ ds).length=ps.length:=by
    have e:=r2.length
    rw [F.len _ _ _ _ hq] at e
    exact e.symm
  refine wpAny_call (zj2 (f:=f) I.kIn M.makes M.init (beq_iff_eq.mp M.fn) (codeAny_mono (F.run _ X.stack _ _ ⟨Value.ref (s.heap.objs.size + 1) :: us,[]⟩ (Value.ref (s.heap.objs.size + 1) :: (us ++ ds)) _ _ E (hr.make C us [])
    (I2.env0.make C us []) (hb _ (Value.ref (s.heap.objs.size + 1) :: us) I2.kIn hl) r2 hq) fun r s' hq'=>?_))
  cases r with
  | error e=>exact hx pins σ _ _ e s' I2 hq'
  | ok fl =>
    cases fl with
    | ret u =>
      obtain ⟨v,H',I3,rv,ev,q3⟩:=I2.after hq'
      subst ev
      exact ⟨rv,⟨V.ref (s.heap.objs.size + 1),H',I3,rfl,q3⟩⟩
    | next=>exact False.elim hq'
    | brk=>exact False.elim hq'
    | cont=>exact False.elim hq'
theorem zlW (M:Mk X.K C f) (F:FnOk X.prog X.w X.K X.mg X.base CX k f fd ps sp) (hr:Room (k + 1) X.A) (hg:Gl X x) (hm:X.mg x=some (.ref C)) (hb:Binds X.K fd ps ds) (hd:Vals dvs ds) (hx:zdB CX X E)
    (ha:PA X (e :: es) t) (hdb:(x == ("__debug__" : Str))=false:=by decide) (he:starEach (e :: es) X.env=(false,eval e X.env) :: starEach es X.env:=by rfl) (hpl:(backTo pos (starEach es X.env)).any (·.1)=false:=by rfl) :
    PE X (.Call (.Name x p) (e :: es) [] pos) (zly C sp dvs E t):=by
  intro pins s σ H Q I h
  refine wpAny_Call_Name_kw (zjx I hg hm ?_ hdb)
  refine PySem.W.callWith_K (h₀:=X.base) I.ok.mod.kin M.kp (thn (ha pos pins s σ H _ I h) fun us s1 ⟨vs,H1,I1,r,q⟩=>⟨I1.kIn,?_⟩) he hpl
  exact zkq M F hr hb hd hx I1 r q
end
section
variable {X:Cx} {CX:CXT} {k:Nat} {f C:Addr} {fd:FuncData} {ps ks:List Str} {sp:Sp} {E:XK} {x m:Str} {p pos apos kpos:Pos} {e o:Expr} {es:List Expr} {kws:List Keyword} {te ta:TE} {t tk:TA} {nm:Option Str}
variable {g:List Value→List Value→List Value} {gV:List V→List V→List V}
end
structure FnScope (N P:List Str) (sc:Scope):Prop where
  kind:sc.kind = .function
  co:sc.isCoroutine=false
  gen:sc.isGenerator=false
  nd:N.Nodup
  pre:N.take P.length=P
  par:∀ x ∈ P,sc.names.lookup x=some .local∨sc.names.lookup x=some .cell
  nofree:∀ y ∈ sc.names,y.2 ≠ .free
theorem zgb {kindOf:Str→Option NameKind} {x:Str}:∀ {binds:List (Str × Value)} {m:Str→Option Value},(∀ v,(x,v) ∉ binds)→bindL kindOf binds m x=m x
  | [],_,_=>rfl
  | (n,v) :: r,m,h=>by
    unfold bindL
    rw [zgb fun w hw=>h w (List.mem_cons_of_mem _ hw)]
    split
    · have:x ≠ n:=by rintro rfl; exact h v List.mem_cons_self
      simp [this]
    · rfl
theorem zgG {kindOf:Str→Option NameKind} {x:Str}:∀ {binds:List (Str × Value)} {m:Str→Option Value},(∀ v,(x,v) ∉ binds)→bindC kindOf binds m x=m x
  | [],_,_=>rfl
  | (n,v) :: r,m,h=>by
    unfold bindC
    rw [zgG fun w hw=>h w (List.mem_cons_of_mem _ hw)]
    split
    · rfl
    · have:x ≠ n:=by rintro rfl; exact h v List.mem_cons_self
      simp [this]
theorem zf5 {kindOf:Str→Option NameKind} {x:Str} {v:Value}:∀ {P:List Str} {vs:List Value} {i:Nat} {m:Str→Option Value},P.Nodup→P[i]?=some x→vs[i]?=some v→kindOf x=some .local →
    bindL kindOf (P.zip vs) m x=some v
  | [],_,_,_,_,h,_,_=>by simp at h
  | _ :: _,[],_,_,_,_,h,_=>by simp at h
  | p :: P,w :: vs,0,m,nd,h1,h2,hk=>by
    simp at h1 h2; subst h1; subst h2
    show bindL kindOf ((p,w) :: P.zip vs) m p=_
    unfold bindL
    rw [zgb fun v hv=>(List.nodup_cons.mp nd).1 (List.of_mem_zip hv).1,if_pos hk]
    simp
  | p :: P,w :: vs,i + 1,m,nd,h1,h2,hk=>by
    show bindL kindOf ((p,w) :: P.zip vs) m x=_
    unfold bindL
    exact zf5 (i:=i) (List.nodup_cons.mp nd).2 (by simpa using h1) (by simpa using h2) hk
theorem zgu {kindOf:Str→Option NameKind} {x:Str} {v:Value}:∀ {P:List Str} {vs:List Value} {i:Nat} {m:Str→Option Value},P.Nodup→P[i]?=some x→vs[i]?=some v→kindOf x ≠ some .local →
    bindC kindOf (P.zip vs) m x=some v
  | [],_,_,_,_,h,_,_=>by simp at h
  | _ :: _,[],_,_,_,_,h,_=>by simp at h
  | p :: P,w :: vs,0,m,nd,h1,h2,hk=>by
    simp at h1 h2; subst h1; subst h2
    show bindC kindOf ((p,w) :: P.zip vs) m p=_
    unfold bindC
    rw [zgG fun v hv=>(List.nodup_cons.mp nd).1 (List.of_mem_zip hv).1,if_neg hk]
    simp
  | p :: P,w :: vs,i + 1,m,nd,h1,h2,hk=>by
    show bindC kindOf ((p,w) :: P.zip vs) m x=_
    unfold bindC
    exact zgu (i:=i) (List.nodup_cons.mp nd).2 (by simpa using h1) (by simpa using h2) hk
def start (N:List Str) (vs:List V):St:=vs.map some ++ List.replicate (N.length - vs.length) none
def cxOf (CX:CXT) (P:Program) (w:World) (K:PySem.W.Frag) (mg:Str→Option Value) (base:Heap) (N:List Str) (qual:Str) (scope:Scope) (f:Addr) (cd:Value) (A:Around) (outer:List Env) (s:Shared) (H:Hp) (E:XK):Cx where
  prog:=P
  w:=w
  K:=K
  mg:=mg
  base:=base
  A:=A.deeper (envOfC qual scope s.heap.objs.size f cd)
  N:=N
  s₀:=s
  H₀:=H
  env:=envOfC qual scope s.heap.objs.size f cd
  outer:=outer
  stack:=envOfC qual scope s.heap.objs.size f cd :: outer
  ex:=[]
  calm:=true
  fn:=fun _=>true
  pn:=[]
  xe:=fun e s'=>wpAny (model P w) (A.deeper (envOfC qual scope s.heap.objs.size f cd)) (leaving (envOfC qual scope s.heap.objs.size f cd) e) (fun _ s''=>CX outer H s E e s'') (fun e' s''=>CX outer H s E e' s'') s'
theorem zhx {sc:Scope} {n:Nat} {x:Str} (h:sc.names.lookup x=some .cell):∃ c,(cellsFrom n sc.names []).lookup x=some c:=by
  have q:=PySem.W.cellsFrom_some sc.names n [] (.inl h)
  exact Option.isSome_iff_exists.mp q
theorem zjn {CX:CXT} {P:Program} {w:World} {K:PySem.W.Frag} {mg:Str→Option Value} {base:Heap} {N ps:List Str} {qual:Str} {scope:Scope} {f:Addr} {cd:Value} {A:Around} {outer:List Env} {s s1:Shared} {H:Hp} {E:XK} {us:List Value} {vs:List V}
    (S:FnScope N ps scope) (hd:A.handled=none) (e0:Env0 P w K mg base A outer s H) (hl:vs.length=ps.length) (r:Vals vs us)
    (x:InCallC s s.heap.objs.size (bindL (envOfC qual scope s.heap.objs.size f cd).kindOf (ps.zip us) fun _=>none) (cellsFrom (s.heap.objs.size + 1) scope.names []) (bindC (envOfC qual scope s.heap.objs.size f cd).kindOf (ps.zip us) fun _=>none) s1) :
    Inv (cxOf CX P w K mg base N qual scope f cd A outer s H E) [] (start N vs) H s1:=by
  have hpl:ps.length ≤ N.length:=by have:=congrArg List.length S.pre; rw [List.length_take] at this; omega
  obtain ⟨h1,tk,rfl,hk⟩:=x.done
  have noA:∀ b:Addr,b ∉ (cxOf CX P w K mg base N qual scope f cd A outer s H E).ex:=fun b z=>absurd (show b ∈ ([]:List Addr) from z) (by simp)
  refine ⟨⟨e0.mod,S.kind,rfl,rfl,Nat.le_refl _,fun y z c h1 h2=>?_,fun y hy=>?_,fun y c _ h=>?_,fun _=>hd,Around.frames_deeper e0.frames,.inr ⟨rfl,rfl⟩,fun b z=>absurd z (noA b),e0.bs,e0.bsz,fun b _ _=>noA b,fun b z=>absurd z (noA b),e0.funs,e0.frf,e0.tb⟩,
    rfl,e0.bare,Un.kept hk,⟨_,x.toInCall.ns,fun i y v h1 h2 h3=>?_⟩,fun y c h=>⟨_,x.cell y c h⟩,e0.hok.fresh (Nat.le_refl _),fun y c h=>?_,fun p hp=>absurd (show p ∈ ([]:List (Addr × Obj)) from hp) (by simp),e0.hok.kept hk,?_⟩
  · exact name_of_addr x.apart (PySem.mem_of_lookup h1) (PySem.mem_of_lookup h2)
  · have hy:scope.names.lookup y=some .cell∨scope.names.lookup y=some .free:=hy
    rcases hy with hy | hy
    · exact zhx hy
    · exact absurd rfl (S.nofree _ (PySem.mem_of_lookup hy))
  · exact Nat.le_of_lt (x.above y c (PySem.mem_of_lookup h))
  · have hi:i < vs.length:=by
      unfold start at h2
      by_cases hi:i < vs.length
      · exact hi
      · rw [List.getElem?_append_right (by simpa using hi)] at h2
        rw [List.getElem?_replicate] at h2
        split at h2 <;> cases h2
    have ha:vs[i]?=some v:=by
      unfold start at h2
      rw [List.getElem?_append_left (by simpa using hi),List.getElem?_map] at h2
      cases e:vs[i]? with
      | none=>rw [e] at h2; cases h2
      | some a=>rw [e] at h2; cases h2; rfl
    obtain ⟨u,hu,rv⟩:=r.get ha
    have hp:ps[i]?=some y:=by
      rw [← S.pre,List.getElem?_take_of_lt (by omega)]; exact h1
    have ndP:ps.Nodup:=by rw [← S.pre]; exact S.nd.sublist (List.take_sublist _ _)
    refine ⟨u,rv,?_⟩
    rcases S.par y (List.mem_of_getElem? hp) with k | k
    · exact .inl ⟨k,zf5 ndP hp hu k⟩
    · obtain ⟨c,e⟩:=zhx (n:=s.heap.objs.size + 1) k
      refine .inr ⟨.inl k,c,e,?_⟩
      have q:=x.cell y c e
      rw [zgu ndP hp hu (by show scope.names.lookup y ≠ _; rw [k]; decide)] at q
      exact q
  · exact e0.hok.fresh (Nat.le_of_lt (x.above y c (PySem.mem_of_lookup h)))
  · unfold start
    show _=N.length
    rw [List.length_append,List.length_map,List.length_replicate]
    omega
theorem zns {CX:CXT} {P:Program} {w:World} {K:PySem.W.Frag} {mg:Str→Option Value} {base:Heap} {k:Nat} {f:Addr} {name qual:Str} {params:Arguments} {body:List Stmt} {scope:Scope} {dV kV doc pm cdv ct oc:Value} {an od:Option Addr}
    {osl:Array (Option Value)} {N ps:List Str} {sp:Sp} (lk:K.lookup f=some ⟨oc,od,.func (PySem.W.fnOf name qual params body scope dV kV doc pm an cdv ct),osl⟩) (hcd:PySem.W.codeIn K cdv qual=true) (S:FnScope N ps scope)
    (len:∀ vs H Q E,sp vs H Q E→vs.length=ps.length)
    (hbody:∀ (A:Around) (outer:List Env) (s:Shared) (H:Hp) (vs:List V) (Q:VK) (E:XK),Room k (A.deeper (envOfC qual scope s.heap.objs.size f cdv))→sp vs H Q E →
      ∃ t,PSs (cxOf CX P w K mg base N qual scope f cdv A outer s H E) body t∧t { nx:=fun _ H'=>Q .non H',rt:=Q } (start N vs) H) :
    FnOk P w K mg base CX (k + 1) f (PySem.W.fnOf name qual params body scope dV kV doc pm an cdv ct) ps sp:=by
  refine ⟨len,fun A outer s H args us vs Q E hr e0 hb r hsp=>?_⟩
  have hl:=len _ _ _ _ hsp
  have KX:K.In s.heap:=e0.mod.kin.keeps fun b o e=>(e0.bs b o e).1
  have lim:s.heap.NoLimit:=e0.mod.nolimit.keeps fun b o e=>(e0.bs b o e).1
  have hkind:∀ y ∈ ps.zip us,scope.names.lookup y.1=some .local∨(scope.names.lookup y.1=some .cell∧((cellsFrom (s.heap.objs.size + 1) scope.names []).lookup y.1).isSome=true):=fun ⟨n,v⟩ hy=>by
    rcases S.par n (List.of_mem_zip hy).1 with q | q
    · exact .inl q
    · exact .inr ⟨q,PySem.W.cellsFrom_some _ _ _ (.inl q)⟩
  refine codeAny_call_function hr.depth (KX _ _ lk) rfl S.co S.gen rfl (PySem.W.codeRec_of KX hcd) (hb _ _ _ _ ?_)
  refine wpAny_newFunctionEnv_cells S.kind hkind fun env he s1 x=>?_
  subst he
  refine ⟨lim.keeps x.toInCall.keep,codeAny_func ?_⟩
  obtain ⟨t,ht,hq⟩:=hbody A outer s H vs Q E (hr.deeper _) hsp
  have I:Inv (cxOf CX P w K mg base N qual scope f cdv A outer s H E) [] (start N vs) H s1:=zjn S hr.hd e0 hl r x
  refine wpAny_mono (ht [] s1 (start N vs) H _ I hq) (fun fl s' hs=>?_) fun e s' hs=>hs
  have fin:∀ {σ':St} {H':Hp} {v:V} {u:Value},Inv (cxOf CX P w K mg base N qual scope f cdv A outer s H E) [] σ' H' s'→RelV v u→Q v H'→CE outer P w H s Q u s' :=
    fun {σ' H' v u} J rv q=>⟨v,H',J.os,J.bare,J.base,J.hok,rv,q⟩
  cases fl with
  | ret u =>
    obtain ⟨v,σ',H',J,rv,q⟩:=hs
    exact fin J rv q
  | next =>
    obtain ⟨σ',H',J,q⟩:=hs
    exact fin (v:=V.non) (u:=Value.none) J rfl q
  | brk =>
    obtain ⟨_,_,_,q⟩:=hs
    exact False.elim q
  | cont =>
    obtain ⟨_,_,_,q⟩:=hs
    exact False.elim q
end L2
namespace L2
open PySem PySem.Spec PyProof.Rows
section
variable {X:Cx} {x:Str} {p pos:Pos} {e:Expr} {es:List Expr} {t:TA} {id T:String} {r:List V→Hp→VK→Prop}
def tCB (r:List V→Hp→VK→Prop) (t:TA):TE:=fun σ H Q=>t σ H fun vs H1=>r vs H1 Q
theorem zaw (hc:zd4 X (.builtin id) r) (hg:Gl X x) (hm:X.mg x=none) (hv:bootBuiltins x=some (.builtin id)) (ha:PA X (e :: es) t) (hn:x ≠ "__name__":=by decide) (hdb:(x == ("__debug__" : Str))=false:=by decide)
    (he:starEach (e :: es) X.env=(false,eval e X.env) :: starEach es X.env:=by rfl) (hpl:(backTo pos (starEach es X.env)).any (·.1)=false:=by rfl):PE X (.Call (.Name x p) (e :: es) [] pos) (tCB r t):=by
  intro pins s σ H Q I h
  refine wpAny_Call_Name_kw (zfm I hg hm hv ?_ hn hdb)
  exact PyProof.Rows.callWith_builtin1 (thn (ha pos pins s σ H _ I h) fun us s1 ⟨vs,H1,I1,r1,q1⟩=>hc pins s1 σ H1 vs us Q I1 r1 q1) he hpl
theorem zbM (hc:zd4 X (.type T) r) (hg:Gl X x) (hm:X.mg x=none) (hv:bootBuiltins x=some (.type T)) (ha:PA X (e :: es) t) (hn:x ≠ "__name__":=by decide) (hdb:(x == ("__debug__" : Str))=false:=by decide)
    (he:starEach (e :: es) X.env=(false,eval e X.env) :: starEach es X.env:=by rfl) (hpl:(backTo pos (starEach es X.env)).any (·.1)=false:=by rfl):PE X (.Call (.Name x p) (e :: es) [] pos) (tCB r t):=by
  intro pins s σ H Q I h
  refine wpAny_Call_Name_kw (zfm I hg hm hv ?_ hn hdb)
  exact PyProof.Rows.callWith_type1 (thn (ha pos pins s σ H _ I h) fun us s1 ⟨vs,H1,I1,r1,q1⟩=>hc pins s1 σ H1 vs us Q I1 r1 q1) he hpl
end
end L2
namespace HT
open PySem PyProof.Rows
section
open PySem.SeqAt
open PySem.AutoSeq1 (wpAny_loadPart')
open PySem.MeetsSeq PySem.MeetsSeq2 PySem.MeetsSeq3
end
section
variable {prog:Program} {w:World} {A:Around} {E:Value→Shared→Prop} {s:Shared}
theorem cat_tup {t b:Addr} {vs ws:List Value} {Q:Value→Shared→Prop} (ht:IsTup s.heap t vs.toArray) (hb:IsTup s.heap b ws.toArray) (hv:vs ≠ [])
    (h1:ws = []→Q (.ref t) s) (h2:ws ≠ []→Q (.ref s.heap.objs.size) { s with heap:=s.heap.push { cls:=.type "tuple",data:=.seq (vs ++ ws).toArray } })
    (hsz:vs.length + ws.length ≤ sizeLine):wpAny (model prog w) A (binaryOp .Add (.ref t) (.ref b)) Q E s:=by
  obtain ⟨⟨cls,dd,data,sl⟩,ho,hc,n,hd⟩:=id ht
  obtain ⟨⟨cls2,dd2,data2,sl2⟩,ho2,hc2,n2,hd2⟩:=id hb
  simp only at hc hd hc2 hd2
  subst hc hd hc2 hd2
  have e:vs.toArray ++ ws.toArray=(vs ++ ws).toArray:=by simp
  by_cases hw:ws = []
  · exact concat_meets ⟨_,ho,rfl⟩ ⟨_,ho2,rfl⟩ noFill_tuple_add seq_tuple_add PySem.F.slot_tuple_add PySem.F.entry_tuple_add (PySem.F.args_tuple_add_2 _ _)
      (tuple_addW1 t b vs.toArray ws.toArray n n2 dd dd2 sl sl2 (by simpa using hv) (by simp [hw])) ⟨ho,ho2,h1 hw⟩
  · refine concat_meets ⟨_,ho,rfl⟩ ⟨_,ho2,rfl⟩ noFill_tuple_add seq_tuple_add PySem.F.slot_tuple_add PySem.F.entry_tuple_add (PySem.F.args_tuple_add_2 _ _)
      (tuple_addW2 t b vs.toArray ws.toArray n n2 dd dd2 sl sl2 (by simpa using hv) (by simpa using hw) (by rw [List.size_toArray,List.size_toArray]; exact hsz)) ⟨ho,ho2,?_⟩
    rw [e]
    exact h2 hw
def sIx (n d:Nat):Option Int→Nat
  | none=>d
  | some v=>if v < 0 then (v + (n:Int)).toNat else min v.toNat n
theorem zmH (n d:Nat) (hd:d ≤ n) (o:Option Int):sIx n d o ≤ n:=by
  cases o with
  | none=>exact hd
  | some v =>
    show (if v < 0 then (v + (n:Int)).toNat else min v.toNat n) ≤ n
    by_cases hv:v < 0
    · rw [if_pos hv]; omega
    · rw [if_neg hv]; exact Nat.min_le_right _ _
theorem zjh (v:Int) (n d:Nat):(if v < 0 then max (v + (n:Int)) 0 else min v (n:Int))=((sIx n d (some v):Nat):Int):=by
  show (if v < 0 then max (v + (n:Int)) 0 else min v (n:Int))=(((if v < 0 then (v + (n:Int)).toNat else min v.toNat n):Nat):Int)
  by_cases hv:v < 0
  · simp only [if_pos hv]; omega
  · simp only [if_neg hv]; omega
theorem zii (lo hi:Option Int) (n:Nat):Builtin.Slice.sliceAdjust lo hi 1 (n:Int)=(((sIx n 0 lo:Nat):Int),((sIx n n hi:Nat):Int)):=by
  have h1:¬ ((1:Int) < 0):=by omega
  unfold Builtin.Slice.sliceAdjust
  simp only [h1,if_false]
  refine Prod.ext ?_ ?_
  · cases lo with
    | none=>rfl
    | some v=>exact zjh v n 0
  · cases hi with
    | none=>rfl
    | some v=>exact zjh v n n
theorem zib (i j:Nat):Builtin.Slice.slicePlaces (i:Int) (j:Int) 1=j - i:=by
  unfold Builtin.Slice.slicePlaces
  have h1:(1:Int) > 0:=by omega
  simp only [h1,if_true,Int.ediv_one]
  split <;> omega
theorem ze9 {v:Value} {o:Option Int} {Q:Option Int→Shared→Prop} (p:IsPart v o) (h:Q o s):wpAny (model prog w) A (Builtin.Slice.slicePartIndex v) Q E s:=by
  cases p with
  | none=>exact slicePart_none h
  | int i t=>exact slicePart_int h
theorem zd2 {sl:Addr} {vl vu:Value} {lo hi:Option Int} {n:Nat} {Q:Int × Int × Nat→Shared→Prop} (hs:s.heap.IsSliceOf sl vl vu .none) (pl:IsPart vl lo) (pu:IsPart vu hi)
    (h:Q (((sIx n 0 lo:Nat):Int),1,sIx n n hi - sIx n 0 lo) s):wpAny (model prog w) A (Builtin.Slice.sliceApplied (.ref sl) (pure (n:Int))) Q E s:=by
  obtain ⟨os,hos,hcs,hds⟩:=id hs
  unfold Builtin.Slice.sliceApplied Builtin.Slice.sliceFields
  refine wpAny_bind (wpAny_bind (wpAny_field hos hds (x:=vl) rfl (wpAny_bind (wpAny_field hos hds (x:=vu) rfl (wpAny_bind (wpAny_field hos hds (x:=.none) rfl (wpAny_pure ?_)))))))
  refine wpAny_bind (slicePart_none ?_)
  show wpAny _ _ (if ((1:Int) == 0)=true then _ else _) _ _ s
  rw [if_neg (by decide)]
  refine wpAny_bind (ze9 pl (wpAny_bind (ze9 pu (wpAny_bind (wpAny_pure ?_)))))
  show wpAny _ _ (match Builtin.Slice.sliceAdjust lo hi 1 (n:Int) with | (lo,hi)=>pure (lo,(1:Int),Builtin.Slice.slicePlaces lo hi 1)) _ _ s
  rw [zii lo hi n]
  show wpAny _ _ (pure (((sIx n 0 lo:Nat):Int),(1:Int),Builtin.Slice.slicePlaces ((sIx n 0 lo:Nat):Int) ((sIx n n hi:Nat):Int) 1)) _ _ s
  rw [zib]
  exact wpAny_pure h
theorem zkD (xs:Array Value) (i k:Nat):((List.range k).filterMap fun (m:Nat)=>xs[((i:Int) + (m:Int) * 1).toNat]?).toArray=((xs.toList.drop i).take k).toArray:=by
  have e:(fun (m:Nat)=>xs[((i:Int) + (m:Int) * 1).toNat]?)=fun m=>xs[i + m]?:=by
    funext m
    have:((i:Int) + (m:Int) * 1).toNat=i + m:=by omega
    rw [this]
  rw [e]
  have:=pick_run xs i k
  rw [List.filterMap_map] at this
  have e2:((fun x=>xs[x]?) ∘ fun x=>i + x)=fun m=>xs[i + m]?:=rfl
  rw [e2] at this
  rw [this]
theorem getItem_tuple_cut {t sl:Addr} {items:Array Value} {vl vu:Value} {lo hi:Option Int} {Q:Value→Shared→Prop} (ht:IsTup s.heap t items) (hs:s.heap.IsSliceOf sl vl vu .none) (pl:IsPart vl lo) (pu:IsPart vu hi)
    (hw:¬ (sIx items.size 0 lo=0∧sIx items.size items.size hi=items.size))
    (h:Q (.ref s.heap.objs.size) { s with heap:=s.heap.push { cls:=.type "tuple",data:=.seq ((items.toList.drop (sIx items.size 0 lo)).take (sIx items.size items.size hi - sIx items.size 0 lo)).toArray } })
    (hsz:items.size ≤ sizeLine):wpAny (model prog w) A (getItem (.ref t) (.ref sl)) Q E s:=by
  have htake:sizeOk (.seq ((items.toList.drop (sIx items.size 0 lo)).take (sIx items.size items.size hi - sIx items.size 0 lo)).toArray):=by
    show ((items.toList.drop (sIx items.size 0 lo)).take (sIx items.size items.size hi - sIx items.size 0 lo)).toArray.size ≤ sizeLine
    rw [List.size_toArray,List.length_take,List.length_drop,Array.length_toList]
    omega
  have hj:sIx items.size items.size hi ≤ items.size:=zmH _ _ (Nat.le_refl _) hi
  obtain ⟨os,hos,hcs,hds⟩:=id hs
  have hTs:s.TypeIs (.ref sl) "slice":=⟨os,hos,hcs⟩
  unfold getItem
  try with_reducible refine wpAny_holding ?_
  first | refine wpAny_bind (wpAny_pure ?_) | skip
  refine wpAny_bind (wpAny_sequenceKey ht.typeIs (by decide) ?_)
  refine wpAny_bind (wpAny_callSpecial?_slot (name:=Str.ofString "__getitem__") ht.typeIs PyProof.Rows.slot_tuple_getitem
    (wpAny_call_entry PyProof.Rows.slot_tuple_getitem ht.typeIs entry_tuple_getitem ?_ (args_tuple_getitem _ _)))
  show wpAny _ _ (Builtin.Tuple.tupleItemsOf (.ref t) >>= _) _ _ s
  refine wpAny_bind (tupleItemsOf_ ht ?_)
  refine wpAny_bind (wpAny_typeOf hTs ?_)
  rw [if_pos (by decide)]
  refine wpAny_bind (zd2 hs pl pu ?_)
  have hno:¬ ((((sIx items.size 0 lo:Nat):Int) == 0 && (1:Int) == 1 && (sIx items.size items.size hi - sIx items.size 0 lo) == items.size)=true):=by
    intro q
    rw [Bool.and_eq_true,Bool.and_eq_true] at q
    have q1:((sIx items.size 0 lo:Nat):Int)=0:=eq_of_beq q.1.1
    have q2:sIx items.size items.size hi - sIx items.size 0 lo=items.size:=eq_of_beq q.2
    exact hw ⟨by omega,by omega⟩
  show wpAny _ _ (if (((sIx items.size 0 lo:Nat):Int) == 0 && (1:Int) == 1 && (sIx items.size items.size hi - sIx items.size 0 lo) == items.size)=true then _ else _) _ _ s
  rw [if_neg hno,zkD]
  first
    | exact wpAny_bind (m:=Builtin.Tuple.tupleExact _) (wpAny_newObj_type (wpAny_pure ⟨_,rfl,wpAny_pure h⟩) htake)
    | exact wpAny_bind (m:=Builtin.Tuple.tupleExact _) (wpAny_newObj_type (wpAny_bind (wpAny_pure (wpAny_pure ⟨_,rfl,wpAny_pure h⟩))) htake)
    | exact wpAny_bind (wpAny_bind (m:=Builtin.Tuple.tupleExact _) (wpAny_newObj_type (wpAny_pure (wpAny_pure ⟨_,rfl,wpAny_pure h⟩)) htake))
    | exact wpAny_bind (wpAny_bind (m:=Builtin.Tuple.tupleExact _) (wpAny_newObj_type (wpAny_pure ⟨_,rfl,wpAny_pure h⟩) htake))
end
end HT
namespace L2
open PySem PySem.Spec PyProof.Rows
abbrev TO:=St→Hp→(Option Int→Hp→Prop)→Prop
def PO (X:Cx) (e:Option Expr) (t:TO):Prop :=
  ∀ (pins:List (Addr × Obj)) (s:Shared) (σ:St) (H:Hp) (Q:Option Int→Hp→Prop),Inv X pins σ H s→t σ H Q →
    wpAny (model X.prog X.w) X.A (evalPart e X.env) (fun u s'=>∃ o H',Inv X pins σ H' s'∧IsPart u o∧Q o H') X.xe s
def zhi:TO:=fun _ H Q=>Q none H
def ziK (t:TE):TO:=fun σ H Q=>t σ H fun x H1=>∃ i,x = .int i∧Q (some i) H1
section
variable {X:Cx} {e:Expr} {te:TE} {lo hi:Option Expr} {tl th:TO} {pos p2:Pos}
theorem zlq:PO X none zhi:=by
  intro pins s σ H Q I h
  rw [evalPart_none]
  exact wpAny_pure ⟨none,H,I,.none,h⟩
theorem zgO (h:PE X e te):PO X (some e) (ziK te):=by
  intro pins s σ H Q I hw
  rw [evalPart_some]
  refine thn (h pins s σ H _ I hw) fun u s1 ⟨x,H1,I1,r1,q1⟩=>?_
  obtain ⟨i,rfl,q⟩:=q1
  obtain ⟨t,rfl⟩:=r1
  exact ⟨some i,H1,I1,.int i t,q⟩
def SlR (X:Cx) (r:V→Option Int→Option Int→Hp→VK→Prop):Prop :=
  ∀ (pins:List (Addr × Obj)) (s:Shared) (σ:St) (H:Hp) (x:V) (v vl vu:Value) (lo hi:Option Int) (sl:Addr) (Q:VK),Inv X pins σ H s→RelV x v→s.heap.IsSliceOf sl vl vu .none→IsPart vl lo→IsPart vu hi→r x lo hi H Q →
    ∃ T id,typeLookup (.type T) "__getitem__"=pure (some (.builtin id))∧s.TypeIs v T∧wpAny (model X.prog X.w) X.A (getItem v (.ref sl)) (EP X pins σ Q) X.xe s
def tSl (r:V→Option Int→Option Int→Hp→VK→Prop) (te:TE) (tl th:TO):TE:=fun σ H Q=>te σ H fun x H1=>tl σ H1 fun l H2=>th σ H2 fun u H3=>r x l u H3 Q
theorem zhq {r:V→Option Int→Option Int→Hp→VK→Prop} (hr:SlR X r) (he:PE X e te) (hl:PO X lo tl) (hu:PO X hi th):PE X (.Subscript e (.Slice lo hi none p2) pos) (tSl r te tl th):=by
  intro pins s σ H Q I h
  refine Subscript_ (thn (he pins s σ H _ I h) fun v s1 ⟨x,H1,I1,r1,q1⟩=>?_)
  refine wpAny_Slice (thn (hl pins s1 σ H1 _ I1 q1) fun vl s2 ⟨l,H2,I2,pl,q2⟩=>thn (hu pins s2 σ H2 _ I2 q2) fun vu s3 ⟨u,H3,I3,pu,q3⟩=>?_)
  rw [evalPart_none]
  refine wpAny_pure ?_
  have I4:Inv X pins σ H3 { s3 with heap:=s3.heap.push { cls:=.type "slice",data:=.fields #[vl,vu,.none] } }:=I3.kept (t':=s3.toks) fun b ob q=>Heap.get?_push_of_some _ q
  obtain ⟨T,id,hT,ht,hg⟩:=hr pins { s3 with heap:=s3.heap.push { cls:=.type "slice",data:=.fields #[vl,vu,.none] } } σ H3 x v vl vu l u s3.heap.objs.size Q I4 r1 (Heap.IsSliceOf.new ..) pl pu q3
  show wpAny (model X.prog X.w) X.A (subscriptTail e (.Slice lo hi none p2) v (.ref s3.heap.objs.size)) (EP X pins σ Q) X.xe { s3 with heap:=s3.heap.push { cls:=.type "slice",data:=.fields #[vl,vu,.none] } }
  exact tail_any (ops:=[.ref s3.heap.objs.size,v]) ht hT hg (by with_unfolding_all rfl)
def cutV (xs:List V) (lo hi:Option Int):List V:=(xs.drop (HT.sIx xs.length 0 lo)).take (HT.sIx xs.length xs.length hi - HT.sIx xs.length 0 lo)
theorem zgK (xs:List V) (lo hi:Option Int):(cutV xs lo hi).length ≤ xs.length:=by
  unfold cutV
  rw [List.length_take,List.length_drop]
  omega
def rSlT (K:PySem.W.Frag):V→Option Int→Option Int→Hp→VK→Prop:=fun x lo hi H Q=>∃ a xs,x = .ref a∧SqT K H a xs ∧
  ¬ (HT.sIx xs.length 0 lo=0∧HT.sIx xs.length xs.length hi=xs.length)∧∀ p,H p=none→Q (.ref p) (upd H p (.tup (cutV xs lo hi)))
theorem zkW:SlR X (rSlT X.K):=by
  intro pins s σ H x v vl vu lo hi sl Q I rx hs pl pu h
  obtain ⟨a,xs,rfl,hx,hw,q⟩:=h
  cases rx
  obtain ⟨its,r,ht,hz⟩:=I.tuple hx
  have hlen:its.toArray.size=xs.length:=by rw [List.size_toArray]; exact r.length.symm
  refine ⟨"tuple",_,PyProof.Rows.slot_tuple_getitem.lookup,ht.typeIs,?_⟩
  refine HT.getItem_tuple_cut ht hs pl pu (by rw [hlen]; exact hw) ?_ (by rw [hlen]; exact hz)
  rw [hlen]
  refine ⟨.ref s.heap.objs.size,_,I.laid (t':=s.toks) (o:=.tup (cutV xs lo hi)) (fun b ob q=>Heap.get?_push_of_some _ q) (Nat.le_refl _) ?_,rfl,q _ (I.hok.fresh (Nat.le_refl _))⟩
  exact ⟨Nat.le_trans (zgK xs lo hi) hz,_,(r.drop (HT.sIx xs.length 0 lo)).take (HT.sIx xs.length xs.length hi - HT.sIx xs.length 0 lo),IsTup.new _ _⟩
def znw (K:PySem.W.Frag):R2:=fun x y H Q=>∃ a b xs ys,x = .ref a∧y = .ref b∧SqT K H a xs∧SqT K H b ys∧xs ≠ []∧xs.length + ys.length ≤ sizeLine ∧
  (ys = []→Q (.ref a) H)∧(ys ≠ []→∀ p,H p=none→Q (.ref p) (upd H p (.tup (xs ++ ys))))
theorem Vals.nil_iff {xs:List V} {us:List Value} (r:Vals xs us):us = [] ↔ xs = []:=by
  cases r with
  | nil=>simp
  | cons _ _=>simp
theorem zlA:OpR X (binaryOp .Add) (znw X.K):=by
  intro pins s σ H x y v u Q I rx ry h
  obtain ⟨a,b,xs,ys,rfl,rfl,ha,hb,hx,hz,q1,q2⟩:=h
  cases rx
  cases ry
  obtain ⟨its,r1,p1,_⟩:=I.tuple ha
  obtain ⟨its2,r2,p2,_⟩:=I.tuple hb
  refine HT.cat_tup p1 p2 (fun z=>hx (r1.nil_iff.mp z)) (fun z=>⟨.ref a,H,I,rfl,q1 (r2.nil_iff.mp z)⟩) (fun z=>?_) (by rw [← r1.length,← r2.length]; exact hz)
  refine ⟨.ref s.heap.objs.size,_,I.laid (t':=s.toks) (o:=.tup (xs ++ ys)) (fun b ob q=>Heap.get?_push_of_some _ q) (Nat.le_refl _) ?_,rfl,q2 (fun w=>z (r2.nil_iff.mpr w)) _ (I.hok.fresh (Nat.le_refl _))⟩
  exact ⟨by rw [List.length_append]; exact hz,_,r1.append r2,IsTup.new _ _⟩
end
end L2
namespace L2
open PySem PySem.Spec PyProof.Rows
def ixN (n:Nat) (i:Int):Option Nat:=if 0 ≤ i then (if i < n then some i.toNat else none) else if -(n:Int) ≤ i then some (i + n).toNat else none
def atI {α:Type} (xs:List α) (i:Int):Option α:=(ixN xs.length i).bind fun j=>xs[j]?
theorem zjd {n:Nat} {i:Int} {j:Nat} (h:ixN n i=some j):seqIndex? i n=some j∧j < n∧-(n:Int) ≤ i∧i < n:=by
  unfold ixN at h
  by_cases h0:0 ≤ i
  · rw [if_pos h0] at h
    by_cases h1:i < n
    · rw [if_pos h1] at h
      have e:i.toNat=j:=Option.some.inj h
      exact ⟨by rw [seqIndex_of h0 h1,e],by omega,by omega,h1⟩
    · rw [if_neg h1] at h; cases h
  · rw [if_neg h0] at h
    by_cases h1 : -(n:Int) ≤ i
    · rw [if_pos h1] at h
      have e:(i + n).toNat=j:=Option.some.inj h
      exact ⟨by rw [seqIndex_neg (by omega) h1,e],by omega,h1,by omega⟩
    · rw [if_neg h1] at h; cases h
theorem ziJ {α:Type} {xs:List α} {i:Int} {v:α} (h:atI xs i=some v):∃ j,seqIndex? i xs.length=some j∧xs[j]?=some v∧j < xs.length∧-(xs.length:Int) ≤ i∧i < xs.length:=by
  unfold atI at h
  cases e:ixN xs.length i with
  | none=>rw [e] at h; cases h
  | some j =>
    rw [e] at h
    obtain ⟨h1,h2,h3,h4⟩:=zjd e
    exact ⟨j,h1,h,h2,h3,h4⟩
theorem atI_nat {α:Type} {xs:List α} {j:Nat} {v:α} (h:xs[j]?=some v):atI xs (j:Int)=some v:=by
  have hj:j < xs.length:=(List.getElem?_eq_some_iff.mp h).1
  have e:ixN xs.length (j:Int)=some j:=by
    unfold ixN
    rw [if_pos (by omega),if_pos (by omega)]; simp
  unfold atI; rw [e]; exact h
def zmf (b:Expr):Prop:=∀ o i,subscripted b false o i=operate [o,i] (getItem o i)
def IxR (X:Cx) (r:R2):Prop :=
  ∀ (value slice:Expr) (pins:List (Addr × Obj)) (s:Shared) (σ:St) (H:Hp) (x y:V) (v u:Value) (Q:VK),Inv X pins σ H s→RelV x v→RelV y u→r x y H Q →
    subscripted slice false v u=operate [v,u] (getItem v u)→wpAny (model X.prog X.w) X.A (subscriptTail value slice v u) (EP X pins σ Q) X.xe s
def MtR (X:Cx) (id:String) (r:V→List V→Hp→VK→Prop):Prop :=
  ∀ (pins:List (Addr × Obj)) (s:Shared) (σ:St) (H:Hp) (x:V) (xs:List V) (v:Value) (us:List Value) (Q:VK),Inv X pins σ H s→RelV x v→Vals xs us→r x xs H Q →
    wpAny (model X.prog X.w) X.A (call (.builtin id) (v :: us)) (EP X pins σ Q) X.xe s
section
variable {X:Cx} {a b:Expr} {ta tb:TE} {pos:Pos}
theorem zaR {r:R2} (hr:IxR X r) (ha:PE X a ta) (hb:PE X b tb) (hs:zmf b):PE X (.Subscript a b pos) (tOp r ta tb):=by
  intro pins s σ H Q I h
  exact Subscript_ (binT ha hb I h fun v u s2 x y H2 I2 rx ry q=>hr a b pins s2 σ H2 x y v u Q I2 rx ry q (hs _ _))
def rIxL (K:PySem.W.Frag):R2:=fun x y H Q=>∃ p xs i v,x = .ref p∧y = .int i∧SqL K H p xs∧atI xs i=some v∧Q v H
def rIxT (K:PySem.W.Frag):R2:=fun x y H Q=>∃ p xs i v,x = .ref p∧y = .int i∧SqT K H p xs∧atI xs i=some v∧Q v H
theorem zaC:IxR X (rIxL X.K):=by
  intro value slice pins s σ H x y v u Q I rx ry h hs
  obtain ⟨p,xs,i,z,rfl,rfl,hq,he,q⟩:=h
  cases rx
  obtain ⟨t,rfl⟩:=ry
  obtain ⟨its,r,pl,hz⟩:=I.list hq
  obtain ⟨j,h1,h2,h3,h4,h5⟩:=ziJ he
  obtain ⟨w,ew,rw'⟩:=r.get h2
  have hl:=r.length
  have hn:=zhL
  have fin:EP X pins σ Q w s:=⟨z,H,I,rw',q⟩
  by_cases h0:0 ≤ i
  · have hj:i.toNat=j:=by
      rw [seqIndex_of h0 h5] at h1
      exact Option.some.inj h1
    exact item_listR pl.isList h0 (by omega) (by rw [hj]; simpa using ew) fin hs
  · have hj:(i + (its.toArray.size:Int)).toNat=j:=by
      rw [seqIndex_neg (by omega) h4] at h1
      rw [List.size_toArray,← hl]
      exact Option.some.inj h1
    exact subscriptTail_builtinR (x:=w) pl.isList.typeIs slot_list_getitem.lookup
      (wpAny_getItem_list_neg (Q:=fun r s'=>r=w∧EP X pins σ Q r s') pl.isList (by omega) (by rw [List.size_toArray] <;> omega) (by omega) (by rw [hj]; simpa using ew) ⟨rfl,fin⟩) hs
theorem zbN:IxR X (rIxT X.K):=by
  intro value slice pins s σ H x y v u Q I rx ry h hs
  obtain ⟨p,xs,i,z,rfl,rfl,hq,he,q⟩:=h
  cases rx
  obtain ⟨t,rfl⟩:=ry
  obtain ⟨its,r,pl,hz⟩:=I.tuple hq
  obtain ⟨j,h1,h2,h3,h4,h5⟩:=ziJ he
  obtain ⟨w,ew,rw'⟩:=r.get h2
  have hl:=r.length
  have hn:=zhL
  have fin:EP X pins σ Q w s:=⟨z,H,I,rw',q⟩
  exact subscriptTail_builtinR (x:=w) pl.typeIs slot_tuple_getitem.lookup
    (getItem_tuple (j:=j) (Q:=fun r s'=>r=w∧EP X pins σ Q r s') pl (by omega) (by omega) (by rw [List.size_toArray,← hl]; exact h1) (by simpa using ew) ⟨rfl,fin⟩) hs
theorem ziA (its:List Value) (n j:Nat) (u:Value):Obj.mapSeq (·.setIfInBounds j u) { cls:=.type "list",data:=.seq its.toArray n } = { cls:=.type "list",data:=.seq (its.set j u).toArray n }:=by
  simp [Obj.mapSeq]
theorem Inv.lst {pins:List (Addr × Obj)} {σ:St} {H:Hp} {s:Shared} {p:Addr} {xs:List V} (I:Inv X pins σ H s) (h:H p=some (.lst xs)) :
    ∃ (its:List Value) (n:Nat),Vals xs its∧s.heap.get? p=some { cls:=.type "list",data:=.seq its.toArray n }∧xs.length ≤ sizeLine:=by
  obtain ⟨z,its,n,r,e⟩:=I.hok p _ h
  exact ⟨its,n,r,e,z⟩
theorem Inv.lstUpd {pins:List (Addr × Obj)} {σ:St} {H:Hp} {s:Shared} {p:Addr} {xs ys:List V} {its its':List Value} {n n':Nat} {f:Obj→Obj} (I:Inv X pins σ H s) (h:H p=some (.lst xs))
    (ho:s.heap.get? p=some { cls:=.type "list",data:=.seq its.toArray n }) (hf:f { cls:=.type "list",data:=.seq its.toArray n } = { cls:=.type "list",data:=.seq its'.toArray n' }) (r:Vals ys its') (hz:ys.length ≤ sizeLine) (t:Nat) :
    Inv X pins σ (upd H p (.lst ys)) { s with heap:=s.heap.update p f,toks:=t }:=by
  have e:(s.heap.update p f).get? p=some { cls:=.type "list",data:=.seq its'.toArray n' }:=by
    rw [Heap.get?_update_self f ho (by rw [hf] <;> rfl),hf]
  refine I.write (x:=p) (e:=p) (by rw [h]; trivial) (.inl rfl) (fun b u hb q=>(Heap.get?_update_other _ _ (Ne.symm hb)).trans q) ⟨_,e⟩ ?_
  exact ⟨hz,its',n',r,e⟩
def zm7:V→V→V→Hp→(Hp→Prop)→Prop:=fun o i v H Q=>∃ p xs k j,o = .ref p∧i = .int k∧H p=some (.lst xs)∧ixN xs.length k=some j∧Q (upd H p (.lst (xs.set j v)))
theorem zfu:PSet X zm7:=by
  intro pins s σ H o i v ov iv u Q I ro ri rv h
  obtain ⟨p,xs,k,j,rfl,rfl,hp,hj,q⟩:=h
  cases ro
  obtain ⟨t,rfl⟩:=ri
  obtain ⟨its,n,r,ho,hz⟩:=I.lst hp
  obtain ⟨h1,h2,h3,h4⟩:=zjd hj
  have hl:=r.length
  have hn:=zhL
  have I':Inv X pins σ (upd H p (.lst (xs.set j v))) { s with heap:=s.heap.update p (Obj.mapSeq (·.setIfInBounds j u)) } :=
    I.lstUpd hp ho (ziA its n j u) (r.set rv j) (by rw [List.length_set]; exact hz) s.toks
  by_cases h0:0 ≤ k
  · have hk:k.toNat=j:=by
      rw [seqIndex_of h0 h4] at h1
      exact Option.some.inj h1
    exact PySem.W.ki_setAt ho h0 (by omega) (by rw [List.size_toArray,← hl]; exact h4) (by rw [hk]; exact ⟨_,I',q⟩)
  · have hk:(k + (its.toArray.size:Int)).toNat=j:=by
      rw [seqIndex_neg (by omega) h3] at h1
      rw [List.size_toArray,← hl]
      exact Option.some.inj h1
    exact PySem.W.ki_setBack ho (by omega) (by rw [List.size_toArray,← hl]; exact h3) (by omega) (by rw [hk]; exact ⟨_,I',q⟩)
theorem zaz:zd4 X (.builtin "len") (fun xs H Q=>∃ p ys,xs = [.ref p]∧(SqL X.K H p ys∨SqT X.K H p ys)∧Q (.int ys.length) H):=by
  intro pins s σ H xs us Q I r h
  obtain ⟨p,ys,rfl,hq,q⟩:=h
  obtain ⟨u,rfl,rx⟩:=zfY r
  cases rx
  have hn:=zhL
  rcases hq with hq | hq
  · obtain ⟨its,r',pl,hz⟩:=I.list hq
    have hlen:=r'.length
    exact Calls.call_len_list pl.isList (by simp only [List.size_toArray] <;> omega) ⟨.int ys.length,H,I.tok _,⟨s.toks + 1,by rw [List.size_toArray,hlen]⟩,q⟩
  · obtain ⟨its,r',pl,hz⟩:=I.tuple hq
    have hlen:=r'.length
    exact len_tuple pl (by simp only [List.size_toArray] <;> omega) ⟨.int ys.length,H,I.tok _,⟨s.toks + 1,by rw [List.size_toArray,hlen]⟩,q⟩
theorem zby:zd4 X (.type "list") (fun xs H Q=>∃ p ys,xs = [.ref p]∧(SqL X.K H p ys∨SqT X.K H p ys)∧∀ l,H l=none→Q (.ref l) (upd H l (.lst ys))):=by
  intro pins s σ H xs us Q I r h
  obtain ⟨p,ys,rfl,hq,q⟩:=h
  obtain ⟨u,rfl,rx⟩:=zfY r
  cases rx
  have fin:∀ (its:List Value),Vals ys its→ys.length ≤ sizeLine→∀ (h':Heap) (c':Nat),(∀ b o',s.heap.get? b=some o'→h'.get? b=some o') →
      h'.get? s.heap.objs.size=some { cls:=.type "list",dict:=none,data:=.seq its.toArray c',slots:=#[] }→EP X pins σ Q (.ref s.heap.objs.size) { s with heap:=h' }:=fun its r' hz h' c' kp e =>
    ⟨.ref s.heap.objs.size,_,I.laid (t':=s.toks) kp (Nat.le_refl _) (show ObjOk X.prog X.w _ h' _ (.lst ys) from ⟨hz,its,c',r',e⟩),rfl,q _ (I.hok.fresh (Nat.le_refl _))⟩
  rcases hq with hq | hq
  · obtain ⟨its,r',pl,hz⟩:=I.list hq
    have hlen:=r'.length
    obtain ⟨o,ho,hc,n,hd⟩:=pl.isList
    exact call_list_seq p (.inl rfl) ho hc hd (fun h' c' kp e=>fin its r' hz h' c' kp e) (by simp only [List.size_toArray] <;> omega)
  · obtain ⟨its,r',pl,hz⟩:=I.tuple hq
    have hlen:=r'.length
    obtain ⟨o,ho,hc,n,hd⟩:=pl
    exact call_list_seq p (.inr rfl) ho hc hd (fun h' c' kp e=>fin its r' hz h' c' kp e) (by simp only [List.size_toArray] <;> omega)
theorem zfL:zd4 X (.type "tuple") (fun xs H Q=>∃ p ys,xs = [.ref p]∧((SqL X.K H p ys∧∀ l,H l=none→Q (.ref l) (upd H l (.tup ys)))∨(SqT X.K H p ys∧Q (.ref p) H))):=by
  intro pins s σ H xs us Q I r h
  obtain ⟨p,ys,rfl,h⟩:=h
  obtain ⟨u,rfl,rx⟩:=zfY r
  cases rx
  rcases h with ⟨hq,q⟩ | ⟨hq,q⟩
  · obtain ⟨its,r',pl,hz⟩:=I.list hq
    have hlen:=r'.length
    refine call_tuple_list pl.isList (fun h' kp=>?_) (by simp only [List.size_toArray] <;> omega)
    have I1:Inv X pins σ H { s with heap:=h' }:=I.kept (t':=s.toks) kp
    have I2:Inv X pins σ (upd H h'.objs.size (.tup ys)) { s with heap:=h'.push { cls:=.type "tuple",data:=.seq its.toArray } } :=
      I1.laid (t':=s.toks) (fun b o e=>Heap.get?_push_of_some _ e) (Nat.le_refl _) (show ObjOk X.prog X.w _ _ _ (.tup ys) from ⟨hz,its,r',IsTup.new _ _⟩)
    exact ⟨.ref h'.objs.size,_,I2,rfl,q _ (I1.hok.fresh (Nat.le_refl _))⟩
  · obtain ⟨its,r',pl,hz⟩:=I.tuple hq
    exact call_tuple_same pl ⟨.ref p,H,I,rfl,q⟩
def tyV (K:PySem.W.Frag) (T:String) (x:V) (H:Hp):Prop:=match x with
  | .str _=>T = "str"
  | .int _=>T = "int"
  | .ref p=>(T = "list"∧∃ xs,SqL K H p xs)∨(T = "tuple"∧∃ o,K.lookup p=some o∧o.cls = .type "tuple"∧o.dict=none) ∨
      (T = "dict"∧((∃ kvs,H p=some (.dK kvs))∨∃ kvs,H p=some (.dT kvs)))∨(T = "set"∧∃ S n,H p=some (.set S n))
  | _=>False
theorem zmm {pins:List (Addr × Obj)} {σ:St} {H:Hp} {s:Shared} {T:String} {x:V} {v:Value} (I:Inv X pins σ H s) (r:RelV x v) (ty:tyV X.K T x H) :
    s.TypeIs v T∧∀ a,v = .ref a→∃ ob,s.heap.get? a=some ob∧ob.dict=none:=by
  cases x with
  | str z =>
    obtain ⟨t,rfl⟩:=r
    cases (show T = "str" from ty)
    exact ⟨typeIs_str s z t,fun _ e=>nomatch e⟩
  | int i =>
    obtain ⟨t,rfl⟩:=r
    cases (show T = "int" from ty)
    exact ⟨typeIs_int s i t,fun _ e=>nomatch e⟩
  | ref p =>
    cases r
    rcases ty with ⟨rfl,xs,hq⟩ | ⟨rfl,o,hk,hc,hd⟩ | ⟨rfl,hk⟩ | ⟨rfl,S,n,hk⟩
    · obtain ⟨its,_,pl,_⟩:=I.list hq
      refine ⟨pl.isList.typeIs,fun a e=>?_⟩
      cases e
      obtain ⟨o,n,e,c,hd,_⟩:=pl
      exact ⟨o,e,hd⟩
    · refine ⟨⟨o,I.kIn p o hk,hc⟩,fun a e=>?_⟩
      cases e
      exact ⟨o,I.kIn _ o hk,hd⟩
    · have z:∃ o,s.heap.get? p=some o∧o.ExactDict:=by
        rcases hk with ⟨kvs,hk⟩ | ⟨kvs,hk⟩
        · obtain ⟨_,_,_,_,o,_,_,e,ex,_⟩:=I.hok p _ hk
          exact ⟨o,e,ex⟩
        · obtain ⟨_,_,_,_,o,_,_,e,ex,_⟩:=I.hok p _ hk
          exact ⟨o,e,ex⟩
      obtain ⟨o,e,ex⟩:=z
      refine ⟨⟨o,e,ex.1⟩,fun a e2=>?_⟩
      cases e2
      exact ⟨o,e,ex.2.1⟩
    · obtain ⟨o,_,_,_,e,ex,_⟩:=I.hok p _ hk
      refine ⟨⟨o,e,ex.1⟩,fun a e2=>?_⟩
      cases e2
      exact ⟨o,e,ex.2.1⟩
  | _=>exact False.elim ty
def tBM (K:PySem.W.Frag) (T:String) (r:V→List V→Hp→VK→Prop) (to:TE) (t:TA):TE:=fun σ H Q=>to σ H fun x H1=>tyV K T x H1∧t σ H1 fun xs H2=>r x xs H2 Q
variable {o e:Expr} {es:List Expr} {to:TE} {t:TA} {name:Str} {apos cpos:Pos} {T id:String} {r:V→List V→Hp→VK→Prop}
theorem ziw (pa:PlainAttrs T) (slot:Slot T name id) (hty:typeOf (.builtin id)=pure (.type "method_descriptor")) (hm:MtR X id r) (ho:PE X o to) (ha:PA X (e :: es) t)
    (hbase:attributeBase o name X.env (eval o X.env)=eval o X.env:=by rfl)
    (hfew:((backTo cpos (starEach (e :: es) X.env)).all (fun x=>!x.1) && (backToKw cpos (keywordEach [] X.env)).all (fun x=>x.1.isSome)
      && decide ((e :: es).length + ([]:List Keyword).length + (if ([]:List Keyword).isEmpty then 0 else 1) < 30))=true:=by rfl)
    (hline:(apos.endLine == cpos.line)=true:=by rfl) (hs:starEach (e :: es) X.env=(false,eval e X.env) :: starEach es X.env:=by rfl) (hplain:(backTo cpos (starEach es X.env)).any (·.1)=false:=by rfl) :
    PE X (.Call (.Attribute o name apos) (e :: es) [] cpos) (tBM X.K T r to t):=by
  intro pins s σ H Q I h
  refine wpAny_Call_method_late hbase hfew hline rfl (thn (ho pins s σ H _ I h) fun v s1 ⟨x,H1,I1,r1,ty,q1⟩=>?_)
  obtain ⟨h1,h2⟩:=zmm I1 r1 ty
  refine ⟨T,id,pa,slot,hty,h1,h2,?_⟩
  have hA:=ha cpos pins s1 σ H1 _ I1 q1
  rw [hs] at hA ⊢
  refine Calls.callWith_builtin (by show (false || (backTo cpos (starEach es X.env)).any (·.1))=false; rw [hplain] <;> rfl) (Calls.evalArgs_plain ?_)
  exact thn hA fun us s2 ⟨vs,H2,I2,r2,q2⟩=>hm pins s2 σ H2 x vs v us Q I2 r1 r2 q2
end
end L2
namespace L2
open PySem PySem.Spec PyProof.Rows
def MtM (X:Cx) (id:String) (r:V→List V→Hp→VK→Prop):Prop :=
  ∀ (pins:List (Addr × Obj)) (s:Shared) (σ:St) (H:Hp) (x:V) (xs:List V) (v:Value) (us:List Value) (Q:VK),Inv X pins σ H s→RelV x v→Vals xs us→r x xs H Q →
    wpAny (model X.prog X.w) X.A (call (.builtin id) (v :: us)) (EP X pins σ Q) X.xe s
theorem Vals.one:∀ {x:V} {us:List Value},Vals [x] us→∃ u,us = [u]∧RelV x u
  | _,_,.cons r .nil=>⟨_,rfl,r⟩
theorem Vals.eraseIdx:∀ {xs:List V} {us:List Value} (i:Nat),Vals xs us→Vals (xs.eraseIdx i) (us.eraseIdx i)
  | _,_,_,.nil=>.nil
  | _,_,0,.cons _ t=>t
  | _,_,i + 1,.cons r t=>.cons r (Vals.eraseIdx i t)
theorem zgw {α:Type}:∀ (l:List α) (i:Nat),(l.eraseIdx i).length ≤ l.length
  | [],_=>Nat.le_refl _
  | _ :: _,0=>Nat.le_succ _
  | _ :: r,i + 1=>Nat.succ_le_succ (zgw r i)
section
variable {X:Cx} {pins:List (Addr × Obj)} {σ:St} {H:Hp} {s:Shared} {l b:Addr} {xs ys zs:List V}
theorem Inv.lset {its its':List Value} {n:Nat} {f:Array Value→Array Value} {t':Nat} (I:Inv X pins σ H s) (hH:H l=some (.lst xs))
    (e:s.heap.get? l=some { cls:=.type "list",data:=.seq its.toArray n }) (hf:f its.toArray=its'.toArray) (hv:Vals ys its') (hz:ys.length ≤ sizeLine) :
    Inv X pins σ (upd H l (.lst ys)) { s with heap:=s.heap.update l (Obj.mapSeq f),toks:=t' }:=by
  have q:=PySem.IsL.update e f
  rw [hf] at q
  refine I.write (x:=l) (e:=l) (by rw [hH]; exact trivial) (.inl rfl) (fun b' u hb hu=>(Heap.get?_update_other s.heap (Obj.mapSeq f) (Ne.symm hb)).trans hu) ⟨_,q⟩ ?_
  exact ⟨hz,its',_,hv,q⟩
theorem Inv.lnew {its:List Value} {t':Nat} (I:Inv X pins σ H s) (hv:Vals ys its) (hz:ys.length ≤ sizeLine) :
    Inv X pins σ (upd H s.heap.objs.size (.lst ys)) { s with heap:=s.heap.push { cls:=.type "list",data:=.seq its.toArray },toks:=t' } :=
  I.laid (fun _ _ q=>Heap.get?_push_of_some _ q) (Nat.le_refl _) ⟨hz,its,0,hv,Heap.get?_push_size _ rfl⟩
theorem Inv.fresh (I:Inv X pins σ H s):H s.heap.objs.size=none:=I.hok.fresh (Nat.le_refl _)
theorem Inv.lstM (I:Inv X pins σ H s) (hH:H l=some (.lst xs)):xs.length ≤ sizeLine∧∃ (its:List Value) (n:Nat),Vals xs its∧xs.length=its.length∧s.heap.get? l=some { cls:=.type "list",data:=.seq its.toArray n }:=by
  obtain ⟨z,its,n,r,e⟩:=I.hok l _ hH
  exact ⟨z,its,n,r,r.length,e⟩
end
section
variable {X:Cx}
def zgS:V→List V→Hp→VK→Prop:=fun x vs H Q=>∃ l xs y,x = .ref l∧vs = [y]∧H l=some (.lst xs)∧xs.length < sizeLine∧Q .non (upd H l (.lst (xs ++ [y])))
theorem zb9:MtM X "list.append" zgS:=by
  intro pins s σ H x vs v us Q I rx rv h
  obtain ⟨l,xs,y,rfl,rfl,hH,hz,q⟩:=h
  cases rx
  obtain ⟨u,rfl,ru⟩:=rv.one
  obtain ⟨z,its,n,r,hl,e⟩:=I.lstM hH
  refine call_meets F.slot_list_append ⟨_,e,rfl⟩ F.entry_list_append (F.args_list_append_2 _ _) (PySem.list_append l its.toArray n u (by rw [List.size_toArray]; omega)) ⟨e,?_⟩
  refine ⟨.non,_,I.lset (its':=its ++ [u]) hH e (by simp) (r.append (.cons ru .nil)) ?_,rfl,q⟩
  rw [List.length_append,List.length_singleton]
  omega
def zk7:V→List V→Hp→VK→Prop:=fun x vs H Q=>∃ l xs i k y,x = .ref l∧vs = [.int i]∧H l=some (.lst xs)∧-(2 ^ 63) ≤ i∧i < 2 ^ 63∧seqIndex? i xs.length=some k∧xs[k]?=some y∧Q y (upd H l (.lst (xs.eraseIdx k)))
theorem zkL:MtM X "list.pop" zk7:=by
  intro pins s σ H x vs v us Q I rx rv h
  obtain ⟨l,xs,i,k,y,rfl,rfl,hH,h1,h2,hk,hy,q⟩:=h
  cases rx
  obtain ⟨u,rfl,ru⟩:=rv.one
  obtain ⟨t,rfl⟩:=ru
  obtain ⟨z,its,n,r,hl,e⟩:=I.lstM hH
  obtain ⟨w,hw,rw'⟩:=r.get hy
  refine call_meets F.slot_list_pop ⟨_,e,rfl⟩ F.entry_list_pop (F.args_list_pop_2 _ _)
    (MeetsSeq.list_pop_at l its.toArray n i t k w (fitsIndex_both h1 h2) (by rw [List.size_toArray,← hl]; exact hk) (by rw [← Array.getElem?_toList]; exact hw) (by rw [List.size_toArray]; omega)) ⟨e,?_⟩
  refine ⟨y,_,I.lset (its':=its.eraseIdx k) hH e ?_ (r.eraseIdx k) ?_,rw',q⟩
  · show its.toArray.eraseIdxIfInBounds k=(its.eraseIdx k).toArray
    rw [List.eraseIdxIfInBounds_toArray]
  · have:=zgw xs k
    omega
end
section
variable {prog:Program} {w:World} {A:Around} {E:Value→Shared→Prop} {s:Shared}
end
section
variable {X:Cx}
end
end L2
namespace L2
open PySem PySem.Spec PyProof.Rows
section
variable {κ:Type} [DecidableEq κ]
def valV (kvs:List (κ × V)) (k:κ):Option V:=(kvs.find? fun kv=>decide (kv.1=k)).map (·.2)
def putK (kvs:List (κ × V)) (k:κ) (v:V):List (κ × V) :=
  if (kvs.any fun kv=>decide (kv.1=k))=true then kvs.map (fun kv=>if kv.1=k then (kv.1,v) else kv) else kvs ++ [(k,v)]
theorem zbp {p:κ × V} {r:List (κ × V)} {k:κ} (e:p.1=k):valV (p :: r) k=some p.2:=by simp [valV,List.find?_cons,e]
theorem zbl {p:κ × V} {r:List (κ × V)} {k:κ} (e:¬ p.1=k):valV (p :: r) k=valV r k:=by simp [valV,List.find?_cons,e]
theorem zd9 (k:κ):∀ kvs:List (κ × V),(kvs.any fun kv=>decide (kv.1=k))=(valV kvs k).isSome
  | []=>rfl
  | p :: r=>by
    rw [List.any_cons]
    by_cases e:p.1=k
    · simp only [zbp e,decide_eq_true e,Bool.true_or,Option.isSome_some]
    · rw [zbl e,decide_eq_false e,Bool.false_or]; exact zd9 k r
theorem zhA (k j:κ) (y:V):∀ kvs:List (κ × V),valV (kvs.map fun kv=>if kv.1=k then (kv.1,y) else kv) j=(valV kvs j).map fun x=>if j=k then y else x
  | []=>rfl
  | p :: r=>by
    have ih:=zhA k j y r
    rw [List.map_cons]
    by_cases h:p.1=k
    · rw [if_pos h]
      by_cases e:p.1=j
      · rw [zbp (p:=(p.1,y)) e,zbp e,Option.map_some,if_pos (e.symm.trans h)]
      · rw [zbl (p:=(p.1,y)) e,zbl e,ih]
    · rw [if_neg h]
      by_cases e:p.1=j
      · rw [zbp (p:=p) e,zbp e,Option.map_some,if_neg (fun z=>h (e.trans z))]
      · rw [zbl (p:=p) e,zbl e,ih]
theorem zgi (k j:κ) (y:V):∀ kvs:List (κ × V),valV kvs k=none→valV (kvs ++ [(k,y)]) j=if j=k then some y else valV kvs j
  | [],_=>by
    by_cases e:k=j
    · rw [if_pos e.symm]; exact zbp (p:=(k,y)) e
    · rw [if_neg (fun z=>e z.symm)]; exact zbl (p:=(k,y)) e
  | p :: r,hn=>by
    rw [List.cons_append]
    have hk:¬ p.1=k:=fun z=>by rw [zbp z] at hn; cases hn
    rw [zbl hk] at hn
    have ih:=zgi k j y r hn
    by_cases e:p.1=j
    · rw [zbp e,zbp e,if_neg (fun z=>hk (e.trans z))]
    · rw [zbl e,zbl e,ih]
theorem zhw (kvs:List (κ × V)) (k j:κ) (y:V):valV (putK kvs k y) j=if j=k then some y else valV kvs j:=by
  unfold putK
  by_cases a:(kvs.any fun kv=>decide (kv.1=k))=true
  · rw [if_pos a,zhA]
    rw [zd9] at a
    by_cases e:j=k
    · obtain ⟨x,hx⟩:=Option.isSome_iff_exists.mp a
      rw [if_pos e,e,hx,Option.map_some,if_pos rfl]
    · rw [if_neg e]
      cases valV kvs j with
      | none=>rfl
      | some x=>rw [Option.map_some,if_neg e]
  · rw [if_neg a]
    refine zgi k j y kvs ?_
    rw [zd9] at a
    cases q:valV kvs k with
    | none=>rfl
    | some x=>rw [q] at a; exact (a rfl).elim
theorem zc7 (kvs:List (κ × V)) (k:κ) (v:V):(putK kvs k v).length ≤ kvs.length + 1:=by
  unfold putK
  split
  · rw [List.length_map]; omega
  · rw [List.length_append,List.length_cons,List.length_nil]; omega
theorem RelO.isSome_eq {o:Option V} {u:Option Value} (r:RelO o u):o.isSome=u.isSome:=by
  cases o with
  | none=>cases u with
    | none=>rfl
    | some _=>exact (show False from r).elim
  | some _=>cases u with
    | none=>exact (show False from r).elim
    | some _=>rfl
theorem RelO.getD {o:Option V} {u:Option Value} {d:V} {d':Value} (r:RelO o u) (rd:RelV d d'):RelV (o.getD d) (u.getD d'):=by
  cases o with
  | none=>cases u with
    | none=>exact rd
    | some _=>exact (show False from r).elim
  | some _=>cases u with
    | none=>exact (show False from r).elim
    | some _=>exact r
theorem KV.val {kvs:List (κ × V)} {vs:List (κ × Value)} (r:KV kvs vs) (k:κ):RelO (valV kvs k) (valueAt vs k):=by
  unfold KV at r
  induction r with
  | nil=>exact True.intro
  | @cons p q ps qs h t ih =>
    obtain ⟨h1,h2⟩:=h
    by_cases e:p.1=k
    · have e':q.1=k:=h1.symm.trans e
      have b:valueAt (q :: qs) k=some q.2:=by simp [valueAt,List.find?_cons,e']
      rw [zbp e,b]; exact h2
    · have e':¬ q.1=k:=fun z=>e (h1.trans z)
      have b:valueAt (q :: qs) k=valueAt qs k:=by simp [valueAt,List.find?_cons,e']
      rw [zbl e,b]; exact ih
theorem KV.any {kvs:List (κ × V)} {vs:List (κ × Value)} (r:KV kvs vs) (k:κ):(kvs.any fun kv=>decide (kv.1=k))=vs.any fun kv=>decide (kv.1=k):=by
  unfold KV at r
  induction r with
  | nil=>rfl
  | cons h t ih=>rw [List.any_cons,List.any_cons,ih,h.1]
theorem KV.repl {kvs:List (κ × V)} {vs:List (κ × Value)} (r:KV kvs vs) (k:κ) {y:V} {u:Value} (ry:RelV y u) :
    KV (kvs.map fun kv=>if kv.1=k then (kv.1,y) else kv) (vs.map fun kv=>if kv.1=k then (kv.1,u) else kv):=by
  unfold KV at r ⊢
  induction r with
  | nil=>exact .nil
  | @cons p q ps qs h t ih =>
    rw [List.map_cons,List.map_cons]
    refine .cons ?_ ih
    obtain ⟨h1,h2⟩:=h
    by_cases e:p.1=k
    · rw [if_pos e,if_pos (h1.symm.trans e)]; exact ⟨h1,ry⟩
    · rw [if_neg e,if_neg (fun z=>e (h1.trans z))]; exact ⟨h1,h2⟩
theorem KV.put {kvs:List (κ × V)} {vs:List (κ × Value)} (r:KV kvs vs) (k:κ) {y:V} {u:Value} (ry:RelV y u):KV (putK kvs k y) (stored vs k u):=by
  unfold putK stored
  rw [r.any k]
  by_cases e:(vs.any fun kv=>decide (kv.1=k))=true
  · rw [if_pos e,if_pos e]; exact r.repl k ry
  · rw [if_neg e,if_neg e]; exact Paired.snoc r ⟨rfl,ry⟩
theorem KV.length {kvs:List (κ × V)} {vs:List (κ × Value)} (r:KV kvs vs):kvs.length=vs.length:=Paired.length r
end
theorem ziN {P:Program} {w:World} {k:Key} {u:Value} (r:RelV (kV k) u):(zba P w).is k u=true:=by
  cases k with
  | inl i=>obtain ⟨t,e⟩:=(show ∃ t,u=Value.int i t from r); subst e; exact zgU P w i t
  | inr x=>obtain ⟨t,e⟩:=(show ∃ t,u=Value.str x t from r); subst e; exact zgJ P w x t
theorem zgl {P:Program} {w:World}:∀ {ks:List Key} {us:List Value},Vals (ks.map kV) us→ItemsAre (zba P w) ks us
  | [],_,r=>by rw [List.map_nil] at r; cases r; exact .nil
  | k :: ks,_,r=>by
    rw [List.map_cons] at r
    cases r with
    | cons h t=>exact .cons (ziN h) (zgl t)
abbrev KT (H:Hp):List (List Key × V)→List (List Key × Addr × Value)→Prop:=Paired fun p q=>p.1=q.1∧H q.2.1=some (.tup (p.1.map kV))∧RelV p.2 q.2.2
theorem KT.val {H:Hp} {kvs:List (List Key × V)} {xs:List (List Key × Addr × Value)} (r:KT H kvs xs) (k:List Key):RelO (valV kvs k) ((atKey xs k).map (·.2)):=by
  induction r with
  | nil=>exact True.intro
  | @cons p q ps qs h t ih =>
    obtain ⟨h1,_,h2⟩:=h
    by_cases e:p.1=k
    · have e':q.1=k:=h1.symm.trans e
      have b:atKey (q :: qs) k=some q.2:=by simp [atKey,List.find?_cons,e']
      rw [zbp e,b]; exact h2
    · have e':¬ q.1=k:=fun z=>e (h1.trans z)
      have b:atKey (q :: qs) k=atKey qs k:=by simp [atKey,List.find?_cons,e']
      rw [zbl e,b]; exact ih
theorem KT.repl {H:Hp} {kvs:List (List Key × V)} {xs:List (List Key × Addr × Value)} (r:KT H kvs xs) (k:List Key) {y:V} {u:Value} (ry:RelV y u) :
    KT H (kvs.map fun kv=>if kv.1=k then (kv.1,y) else kv) (xs.map (putAt k u)):=by
  induction r with
  | nil=>exact .nil
  | @cons p q ps qs h t ih =>
    rw [List.map_cons,List.map_cons]
    refine .cons ?_ ih
    obtain ⟨h1,h2,h3⟩:=h
    unfold putAt
    by_cases e:p.1=k
    · rw [if_pos e,if_pos (h1.symm.trans e)]; exact ⟨h1,h2,ry⟩
    · rw [if_neg e,if_neg (fun z=>e (h1.trans z))]; exact ⟨h1,h2,h3⟩
theorem KT.put {H:Hp} {kvs:List (List Key × V)} {xs:List (List Key × Addr × Value)} (r:KT H kvs xs) (k:List Key) {b:Addr} {y:V} {u:Value} (hb:H b=some (.tup (k.map kV))) (ry:RelV y u) :
    KT H (putK kvs k y) (storedH xs k b u):=by
  have e:(kvs.any fun kv=>decide (kv.1=k))=(atKey xs k).isSome:=by
    rw [zd9,(r.val k).isSome_eq,Option.isSome_map]
  unfold putK storedH
  rw [e]
  by_cases q:(atKey xs k).isSome=true
  · rw [if_pos q,if_pos q]; exact r.repl k ry
  · rw [if_neg q,if_neg q]; exact Paired.snoc r ⟨rfl,hb,ry⟩
theorem KT.keeps {H H':Hp} {kvs:List (List Key × V)} {xs:List (List Key × Addr × Value)} (r:KT H kvs xs) (ht:∀ b ys,H b=some (.tup ys)→H' b=some (.tup ys)):KT H' kvs xs :=
  Paired.mapP r fun _ _ z=>⟨z.1,ht _ _ z.2.1,z.2.2⟩
section
variable {P:Program} {w:World} {H:Hp} {h:Heap} {a:Addr}
theorem zmZ {u:HO} (ok:HOk P w H h) (e:Rd H a u):ObjOk P w H h a u:=e.ok ok
theorem ziy {kvs:List (Key × V)} (ok:HOk P w H h) (e:Rd H a (.dK kvs)):kvs.length ≤ sizeLine∧(a == sysModules)=false∧∃ vs,KV kvs vs∧h.DictOf (zba P w) a vs :=
  show ObjOk P w H h a (.dK kvs) from zmZ ok e
theorem znB {kvs:List (Key × V)} (ok:HOk P w H h) (e:H a=some (.dK kvs)):kvs.length ≤ sizeLine∧(a == sysModules)=false∧∃ vs,KV kvs vs∧h.DictOf (zba P w) a vs:=ziy ok (.inl e)
theorem zfa {ks:List Key} (ok:HOk P w H h) (e:H a=some (.tup (ks.map kV))):(tupleKind (zba P w)).is h ks a:=by
  obtain ⟨_,its,r,o,h1,h2,n,h3⟩:=(show ObjOk P w H h a (.tup (ks.map kV)) from ok a _ e)
  exact ⟨o,its.toArray,n,h1,h2,h3,by simpa using zgl r⟩
theorem zis {kvs:List (List Key × V)} (ok:HOk P w H h) (e:Rd H a (.dT kvs)):kvs.length ≤ sizeLine∧(a == sysModules)=false ∧
    ∃ xs,KT H kvs xs∧h.DictOfH (tupleKind (zba P w)) a xs:=by
  obtain ⟨z,y,xs,r,o,es,ep,h1,h2,h3,h4,h5⟩:=(show ObjOk P w H h a (.dT kvs) from zmZ ok e)
  refine ⟨z,y,xs,r,o,es,ep,h1,h2,h3,h4,fun x hx=>?_,h5⟩
  have all:∀ {l:List (List Key × V)} {m:List (List Key × Addr × Value)},KT H l m→∀ x ∈ m,(tupleKind (zba P w)).is h x.1 x.2.1:=by
    intro l m q
    induction q with
    | nil=>intro x hx; exact nomatch hx
    | @cons p q ps qs hq t ih =>
      intro x hx
      rcases List.mem_cons.mp hx with e | hx
      · subst e
        exact zfa ok (by rw [← hq.1]; exact hq.2.1)
      · exact ih x hx
  exact all r x hx
theorem zmC {kvs:List (List Key × V)} (ok:HOk P w H h) (e:H a=some (.dT kvs)):kvs.length ≤ sizeLine∧(a == sysModules)=false ∧
    ∃ xs,KT H kvs xs∧h.DictOfH (tupleKind (zba P w)) a xs:=zis ok (.inl e)
end
def DGet (H:Hp) (a:Addr) (y:V) (r:Option V):Prop :=
  (∃ kvs k,Rd H a (.dK kvs)∧y=kV k∧r=valV kvs k)∨∃ kvs k b,Rd H a (.dT kvs)∧y = .ref b∧H b=some (.tup (k.map kV))∧r=valV kvs k
def DPut (H:Hp) (a:Addr) (y v:V) (H':Hp):Prop :=
  (∃ kvs k,H a=some (.dK kvs)∧y=kV k∧kvs.length < sizeLine∧H'=upd H a (.dK (putK kvs k v))) ∨
  ∃ kvs k b,H a=some (.dT kvs)∧y = .ref b∧H b=some (.tup (k.map kV))∧kvs.length < sizeLine∧H'=upd H a (.dT (putK kvs k v))
theorem DGet.k {H:Hp} {a:Addr} {kvs:List (Key × V)} {k:Key} (e:H a=some (.dK kvs)):DGet H a (kV k) (valV kvs k):=.inl ⟨kvs,k,.inl e,rfl,rfl⟩
theorem DGet.t {H:Hp} {a b:Addr} {kvs:List (List Key × V)} {k:List Key} (e:H a=some (.dT kvs)) (eb:H b=some (.tup (k.map kV))):DGet H a (.ref b) (valV kvs k):=.inr ⟨kvs,k,b,.inl e,rfl,eb,rfl⟩
theorem DPut.k {H:Hp} {a:Addr} {kvs:List (Key × V)} {k:Key} {v:V} (e:H a=some (.dK kvs)) (hl:kvs.length < sizeLine):DPut H a (kV k) v (upd H a (.dK (putK kvs k v))):=.inl ⟨kvs,k,e,rfl,hl,rfl⟩
theorem DPut.t {H:Hp} {a b:Addr} {kvs:List (List Key × V)} {k:List Key} {v:V} (e:H a=some (.dT kvs)) (eb:H b=some (.tup (k.map kV))) (hl:kvs.length < sizeLine) :
    DPut H a (.ref b) v (upd H a (.dT (putK kvs k v))):=.inr ⟨kvs,k,b,e,rfl,eb,hl,rfl⟩
section
variable {X:Cx} {pins:List (Addr × Obj)} {σ:St} {H:Hp} {s:Shared} {a:Addr} {y v:V} {u r:Value} {o:Option V} {A:Around} {E:Value→Shared→Prop}
theorem Inv.big (I:Inv X pins σ H s):sysModules < s.heap.objs.size:=by
  have h:mainGlobals < s.heap.objs.size:=(I.mod.glob.keeps I.bk).lt
  exact Nat.lt_trans (by decide) h
theorem zjg {Q:Value→Shared→Prop} (hu:A.units + 1 < cLine) (I:Inv X pins σ H s) (g:DGet H a y (some v)) (ry:RelV y u) (h:∀ w' s',Inv X pins σ H s'→RelV v w'→Q w' s') :
    wpAny (model X.prog X.w) A (getItem (.ref a) u) Q E s:=by
  rcases g with ⟨kvs,k,e,ey,l⟩ | ⟨kvs,k,b,e,ey,eb,l⟩
  · subst ey
    obtain ⟨z,hd,vs,rel,dd⟩:=ziy I.hok e
    obtain ⟨w',hw,rw'⟩:=RelO.some_of (v:=v) (o:=valueAt vs k) (by rw [l]; exact rel.val k)
    exact wpAny_getItem_of (ziN ry) dd.mapOf hw (h w' _ (I.tok _) rw')
  · subst ey
    cases (show u=Value.ref b from ry)
    obtain ⟨z,hd,xs,rel,dd⟩:=zis I.hok e
    obtain ⟨w',hw,rw'⟩:=RelO.some_of (v:=v) (o:=(atKey xs k).map (·.2)) (by rw [l]; exact rel.val k)
    obtain ⟨p,hp,hp2⟩:=Option.map_eq_some_iff.mp hw
    refine wpAny_getItem_heap (tupleKind_room_in1 hu) (zfa I.hok eb) dd hp ?_
    rw [hp2]
    exact h w' _ (I.tok _) rw'
theorem zl2 {Q:Value→Shared→Prop} (hu:A.units + 1 < cLine) (I:Inv X pins σ H s) (g:DGet H a y o) (ry:RelV y u) (h:∀ s',Inv X pins σ H s'→Q (.bool (!o.isSome)) s') :
    wpAny (model X.prog X.w) A (compareOp .NotIn u (.ref a)) Q E s:=by
  rcases g with ⟨kvs,k,e,ey,l⟩ | ⟨kvs,k,b,e,ey,eb,l⟩
  · subst ey
    obtain ⟨z,hd,vs,rel,dd⟩:=ziy I.hok e
    refine wpAny_notIn_of (ziN ry) hd dd.mapOf ?_
    rw [← (rel.val k).isSome_eq,← l]
    exact h _ (I.tok _)
  · subst ey
    cases (show u=Value.ref b from ry)
    obtain ⟨z,hd,xs,rel,dd⟩:=zis I.hok e
    refine wpAny_notIn_heap (tupleKind_room_in1 hu) (zfa I.hok eb) hd dd ?_
    have q:=(rel.val k).isSome_eq
    rw [Option.isSome_map] at q
    rw [← q,← l]
    exact h _ (I.tok _)
theorem zgL {h':Heap} {t':Nat} {ob:HO} (I:Inv X pins σ H s) (mu:Mut (H a)) (hs:Heap.SameBut a s.heap h') (he:∃ q,h'.get? a=some q) (new:ObjOk X.prog X.w (upd H a ob) h' a ob) :
    Inv X pins σ (upd H a ob) { s with heap:=h',toks:=t' } :=
  I.write (x:=a) (e:=a) mu (.inl rfl) (fun b q hb z=>(hs.2 b hb).trans z) he new
theorem zmP {P:Program} {w:World} {H':Hp} {h':Heap} {kvs:List (Key × V)} {vs:List (Key × Value)} (z:kvs.length ≤ sizeLine) (hd:(a == sysModules)=false) (rel:KV kvs vs) (dd:h'.DictOf (zba P w) a vs) :
    ObjOk P w H' h' a (.dK kvs):=⟨z,hd,vs,rel,dd⟩
theorem zjw {H':Hp} {Q:Unit→Shared→Prop} (hu:A.units + 1 < cLine) (I:Inv X pins σ H s) (g:DPut H a y v H') (ry:RelV y u) (rv:RelV v r) (h:∀ s',Inv X pins σ H' s'→Q () s') :
    wpAny (model X.prog X.w) A (setItem (.ref a) u r) Q E s:=by
  rcases g with ⟨kvs,k,e,ey,l,eH⟩ | ⟨kvs,k,b,e,ey,eb,l,eH⟩
  · subst ey eH
    obtain ⟨z,hd,vs,rel,dd⟩:=znB I.hok e
    have hz:vs.length ≤ sizeLine:=by rw [← rel.length]; exact z
    have hl:(putK kvs k v).length ≤ sizeLine:=by have:=zc7 kvs k v; omega
    refine wpAny_setItem_pairs (hsz:=hz) (ziN ry) dd fun h' dd' hs=>h _ ?_
    have he:∃ q,h'.get? a=some q:=let ⟨q,_,_,hq,_⟩:=dd'; ⟨q,hq⟩
    exact zgL I (by rw [e]; exact True.intro) hs he (zmP hl hd (rel.put k rv) dd')
  · subst ey eH
    cases (show u=Value.ref b from ry)
    obtain ⟨z,hd,xs,rel,dd⟩:=zmC I.hok e
    have hz:xs.length ≤ sizeLine:=by rw [← Paired.length rel]; exact z
    have hl:(putK kvs k v).length ≤ sizeLine:=by have:=zc7 kvs k v; omega
    refine wpAny_setItem_heap (hsz:=hz) (tupleKind_room_in1 hu) (zfa I.hok eb) dd fun h' dd' hs=>h _ ?_
    obtain ⟨q,es,ep,hq,h2,h3,h4,_,h5⟩:=dd'
    refine zgL I (by rw [e]; exact True.intro) hs ⟨q,hq⟩ ⟨hl,hd,_,(rel.put k eb rv).keeps fun c ys ec=>?_,q,es,ep,hq,h2,h3,h4,h5⟩
    rw [zaf (zmA ec e (fun z=>nomatch z))]
    exact ec
end
section
variable {X:Cx} {pins:List (Addr × Obj)} {σ:St} {H:Hp} {s:Shared} {a:Addr} {kvs:List (Key × V)} {k:Key} {u:Value} {A:Around} {E:Value→Shared→Prop}
end
def NoSl (i:Expr):Prop:=∀ ov iv,subscripted i false ov iv=operate [ov,iv] (getItem ov iv)
theorem zlJ {prog:Program} {w:World} {A:Around} {E:Value→Shared→Prop} {s:Shared} {env:Env} {value slice:Expr} {pos:Pos} {T id:String} {Q:Value→Shared→Prop}
    (hl:typeLookup (.type T) "__getitem__"=pure (some (.builtin id))) (hs:NoSl slice)
    (h:wpAny (model prog w) A (eval value env) (fun o s₁=>wpAny (model prog w) A (eval slice env) (fun i s₂=>s₂.TypeIs o T∧wpAny (model prog w) A (getItem o i) Q E s₂) E s₁) E s) :
    wpAny (model prog w) A (eval (.Subscript value slice pos) env) Q E s:=by
  refine Subscript_ (wpAny_mono h (fun o s₁ h₁=>wpAny_mono h₁ (fun i s₂ h₂=>?_) fun _ _ x=>x) fun _ _ x=>x)
  obtain ⟨hT,h₂⟩:=h₂
  unfold subscriptTail
  refine wpAny_bind ?_
  rw [getitemInPython_of_ne hT.not_modules]
  refine wpAny_bind (wpAny_specialOf hT hl ?_)
  have fin:wpAny (model prog w) A (subscripted slice false o i) (fun r s₃=>wpAny (model prog w) A (letTemporaryGo value o r >>= fun _=>pure r) Q E s₃) E s₂:=by
    rw [hs o i]
    exact wpAny_operating (wpAny_mono h₂ (fun r s₃ h₃=>wpAny_bind (wpAny_letTemporaryGo (wpAny_pure h₃))) fun _ _ x=>x)
  first
    | exact wpAny_pure (wpAny_bind fin)
    | exact wpAny_bind (wpAny_pure (wpAny_bind fin))
    | exact wpAny_bind fin
theorem zg1 {X:Cx} {pins:List (Addr × Obj)} {σ:St} {H:Hp} {s:Shared} {a:Addr} {y:V} {o:Option V} (I:Inv X pins σ H s) (g:DGet H a y o):s.TypeIs (.ref a) "dict":=by
  rcases g with ⟨kvs,k,e,_,_⟩ | ⟨kvs,k,b,e,_,_,_⟩
  · obtain ⟨_,_,vs,_,dd⟩:=ziy I.hok e
    exact dd.typeIs
  · obtain ⟨_,_,xs,_,dd⟩:=zis I.hok e
    exact dd.typeIs
def zj7 (td ty:TE):TE:=fun σ H Q=>td σ H fun x H1=>ty σ H1 fun y H2=>∃ a v,x = .ref a∧DGet H2 a y (some v)∧Q v H2
def zgI (ty td:TE):TE:=fun σ H Q=>ty σ H fun y H1=>td σ H1 fun x H2=>∃ a o,x = .ref a∧DGet H2 a y o∧Q (.bl (!o.isSome)) H2
def zlR (td ty tv:TE):TS:=fun D σ H=>tv σ H fun v H1=>td σ H1 fun x H2=>ty σ H2 fun y H3=>∃ a H4,x = .ref a∧DPut H3 a y v H4∧D.nx σ H4
section
variable {X:Cx} {o i e value:Expr} {pos pos' tpos:Pos} {td ty tv:TE}
theorem zg2 (hu:X.A.units + 1 < cLine) (ho:PE X o td) (hi:PE X i ty) (hs:NoSl i):PE X (.Subscript o i pos) (zj7 td ty):=by
  intro pins s σ H Q I h
  refine zlJ PySem.F.slot_dict_getitem.lookup hs (thn (ho pins s σ H _ I h) fun u s1 ⟨x,H1,I1,rx,q1⟩=>thn (hi pins s1 σ H1 _ I1 q1) fun iv s2 ⟨y,H2,I2,ry,a,v,ex,g,q2⟩=>?_)
  subst ex
  obtain rfl:u=Value.ref a:=rx
  exact ⟨zg1 I2 g,zjg hu I2 g ry fun w' s3 I3 rw'=>⟨v,H2,I3,rw',q2⟩⟩
theorem zf2 (hu:X.A.units + 1 < cLine) (hi:PE X i ty) (ho:PE X o td):PC X .NotIn i o (zgI ty td):=by
  intro pins s σ H Q I h
  refine thn (hi pins s σ H _ I h) fun iv s1 ⟨y,H1,I1,ry,q1⟩=>thn (ho pins s1 σ H1 _ I1 q1) fun u s2 ⟨x,H2,I2,rx,a,ov,ex,g,q2⟩=>?_
  subst ex
  obtain rfl:u=Value.ref a:=rx
  exact zl2 hu I2 g ry fun s3 I3=>⟨.bl (!ov.isSome),H2,I3,rfl,q2⟩
theorem zjV (hu:X.A.units + 1 < cLine) (ho:PE X o td) (hi:PE X i ty) (hv:PE X value tv) (hs:swapsWith value (some (.Subscript o i pos')) pos.line X.env=pure false) :
    PS X (.Assign [.Subscript o i pos'] value pos) (zlR td ty tv):=by
  intro pins s σ H D I h
  refine wpAny_Assign_Subscript (thn (hv pins s σ H _ I h) fun r s1 ⟨v,H1,I1,rv,q1⟩=>thn (ho pins s1 σ H1 _ I1 q1) fun u s2 ⟨x,H2,I2,rx,q2⟩=>thn (hi pins s2 σ H2 _ I2 q2) fun iv s3 ⟨y,H3,I3,ry,a,H4,ex,g,q3⟩=>?_) hs
  subst ex
  obtain rfl:u=Value.ref a:=rx
  exact zjw hu I3 g ry rv fun s4 I4=>⟨σ,H4,I4,q3⟩
end
theorem zkl {P:Program} {w:World} {H:Hp} (h:Heap) (hb:sysModules < h.objs.size):ObjOk P w H (h.push { cls:=.type "dict",data:=.dict #[] }) h.objs.size (.dK []) :=
  ⟨Nat.zero_le _,beq_eq_false_iff_ne.mpr (Ne.symm (Nat.ne_of_lt hb)),[],.nil,Heap.DictOf.new h⟩
theorem zj4 {P:Program} {w:World} {H:Hp} (h:Heap) (hb:sysModules < h.objs.size):ObjOk P w H (h.push { cls:=.type "dict",data:=.dict #[] }) h.objs.size (.dT []) :=
  ⟨Nat.zero_le _,beq_eq_false_iff_ne.mpr (Ne.symm (Nat.ne_of_lt hb)),[],.nil,_,#[],0,Heap.get?_push_size _ rfl,⟨rfl,rfl,rfl⟩,rfl,rfl,List.nodup_nil⟩
def zk4:TE:=fun _ H Q=>∀ p,H p=none→Q (.ref p) (upd H p (.dK []))
section
variable {X:Cx} {pos:Pos}
theorem zko:PE X (.Dict [] [] pos) zk4:=fun pins s σ H Q I h =>
  wpAny_Dict_empty ⟨.ref s.heap.objs.size,_,I.laid (a:=s.heap.objs.size) (o:=.dK []) (t':=s.toks) (fun _ _ q=>Heap.get?_push_of_some _ q) (Nat.le_refl _) (zkl s.heap I.big),rfl,h _ (I.hok.fresh (Nat.le_refl _))⟩
end
def ziO:List (TE × TE)→St→Hp→(List (V × V)→Hp→Prop)→Prop
  | [],_,H,Q=>Q [] H
  | (tk,tv) :: r,σ,H,Q=>tk σ H fun x H1=>tv σ H1 fun y H2=>ziO r σ H2 fun ps H3=>Q ((x,y) :: ps) H3
abbrev VV:List (V × V)→List (Value × Value)→Prop:=Paired fun p q=>RelV p.1 q.1∧RelV p.2 q.2
def PPs (X:Cx) (pos:Pos) (keys:List (Option Expr)) (values:List Expr) (trs:List (TE × TE)):Prop :=
  ∀ (pins:List (Addr × Obj)) (s:Shared) (σ:St) (H:Hp) (Q:List (V × V)→Hp→Prop),Inv X pins σ H s→ziO trs σ H Q →
    wpAny (model X.prog X.w) X.A (evalPairs (pairTrees keys values X.env pos)) (fun vs s'=>∃ ps H',Inv X pins σ H' s'∧VV ps vs∧Q ps H') X.xe s
theorem zlZ {X:Cx} {pos:Pos}:PPs X pos [] [] []:=fun pins s σ H Q I h=>pairTrees_nil_walk ⟨[],H,I,.nil,h⟩
theorem zkI {X:Cx} {pos:Pos} {k v:Expr} {ks:List (Option Expr)} {vs:List Expr} {tk tv:TE} {trs:List (TE × TE)} (hk:PE X k tk) (hv:PE X v tv) (hr:PPs X pos ks vs trs) :
    PPs X pos (some k :: ks) (v :: vs) ((tk,tv) :: trs):=fun pins s σ H Q I h =>
  pairTrees_cons_walk (thn (hk pins s σ H _ I h) fun u s1 ⟨x,H1,I1,rx,q1⟩=>thn (hv pins s1 σ H1 _ I1 q1) fun w2 s2 ⟨y,H2,I2,ry,q2⟩ =>
    thn (hr pins s2 σ H2 _ I2 q2) fun ws s3 ⟨ps,H3,I3,rel,q3⟩=>⟨(x,y) :: ps,H3,I3,.cons ⟨rx,ry⟩ rel,q3⟩)
structure M2 (X:Cx) (o:Expr) (m:Str) (apos:Pos) (e f:Expr) (cpos:Pos):Prop where
  base:attributeBase o m X.env (eval o X.env)=eval o X.env
  few:((backTo cpos (starEach [e,f] X.env)).all (fun x=>!x.1) && (backToKw cpos (keywordEach [] X.env)).all (fun x=>x.1.isSome)
    && decide (([e,f]:List Expr).length + ([]:List Keyword).length + (if ([]:List Keyword).isEmpty then 0 else 1) < 30))=true
  line:(apos.endLine == cpos.line)=true
  trees:backTo cpos (starEach [e,f] X.env) = [(false,eval e X.env),(false,eval f X.env)]
def IsD (H:Hp) (a:Addr):Prop:=(∃ kvs,Rd H a (.dK kvs))∨∃ kvs,Rd H a (.dT kvs)
theorem zla {X:Cx} {pins:List (Addr × Obj)} {σ:St} {H:Hp} {s:Shared} {a:Addr} (I:Inv X pins σ H s) (d:IsD H a) :
    s.TypeIs (.ref a) "dict"∧(∀ b,Value.ref a = .ref b→∃ ob,s.heap.get? b=some ob∧ob.dict=none)∧(a == sysModules)=false:=by
  rcases d with ⟨kvs,e⟩ | ⟨kvs,e⟩
  · obtain ⟨_,hd,vs,_,dd⟩:=ziy I.hok e
    refine ⟨dd.typeIs,fun b q=>?_,hd⟩
    cases q
    obtain ⟨ob,_,_,h1,h2,_⟩:=dd
    exact ⟨ob,h1,h2.2.1⟩
  · obtain ⟨_,hd,xs,_,dd⟩:=zis I.hok e
    refine ⟨dd.typeIs,fun b q=>?_,hd⟩
    cases q
    obtain ⟨ob,_,_,h1,h2,_⟩:=dd
    exact ⟨ob,h1,h2.2.1⟩
section
variable {X:Cx} {pins:List (Addr × Obj)} {σ:St} {H:Hp} {s:Shared} {a:Addr} {y d:V} {u r:Value} {o:Option V} {A:Around} {E:Value→Shared→Prop}
theorem znf {Q:Value→Shared→Prop} (hu:A.units + 1 < cLine) (I:Inv X pins σ H s) (g:DGet H a y o) (ry:RelV y u) (rd:RelV d r) (h:∀ w' s',Inv X pins σ H s'→RelV (o.getD d) w'→Q w' s') :
    wpAny (model X.prog X.w) A (call (.builtin "dict.get") [.ref a,u,r]) Q E s:=by
  rcases g with ⟨kvs,k,e,ey,l⟩ | ⟨kvs,k,b,e,ey,eb,l⟩
  · subst ey
    obtain ⟨z,hd,vs,rel,dd⟩:=ziy I.hok e
    refine call_meetsIn PySem.F.slot_dict_get dd.typeIs PySem.F.entry_dict_get (PySem.F.args_dict_get_3 _ _ _) (meets_dict_get_default (zba X.prog X.w) a (ziN ry) hd r) ⟨_,dd.mapOf,h _ _ (I.tok _) ?_⟩
    rw [l]
    exact (rel.val k).getD rd
  · subst ey
    cases (show u=Value.ref b from ry)
    obtain ⟨z,hd,xs,rel,dd⟩:=zis I.hok e
    refine call_meetsIn PySem.F.slot_dict_get dd.typeIs PySem.F.entry_dict_get (PySem.F.args_dict_get_3 _ _ _) (meetsH_dict_get_default (tupleKind (zba X.prog X.w)) a b hd r) ⟨tupleKind_room_in1 hu,k,xs,zfa I.hok eb,dd,h _ _ (I.tok _) ?_⟩
    rw [l]
    exact (rel.val k).getD rd
end
def zlb (td ty tx:TE):TE:=fun σ H Q=>td σ H fun x H1=>∃ a,x = .ref a∧IsD H1 a∧ty σ H1 fun y H2=>tx σ H2 fun z H3=>∃ o,DGet H3 a y o∧Q (o.getD z) H3
section
variable {X:Cx} {o e f:Expr} {apos cpos:Pos} {td ty tx:TE}
theorem zkc (hu:X.A.units + 1 < cLine) (ho:PE X o td) (he:PE X e ty) (hf:PE X f tx) (m:M2 X o "get" apos e f cpos):PE X (.Call (.Attribute o "get" apos) [e,f] [] cpos) (zlb td ty tx):=by
  intro pins s σ H Q I h
  refine wpAny_Call_method m.base m.few m.line PySem.F.plainAttrs_dict PySem.F.slot_dict_get PySem.F.type_dict_get (thn (ho pins s σ H _ I h) fun u s1 ⟨x,H1,I1,rx,a,ex,d,q1⟩=>?_)
  subst ex
  obtain rfl:u=Value.ref a:=rx
  obtain ⟨t1,t2,_⟩:=zla I1 d
  refine ⟨t1,t2,?_⟩
  rw [m.trees]
  refine Calls.callWith_builtin rfl (Calls.evalArgs_plain (Calls.spliced_cons (thn (he pins s1 σ H1 _ I1 q1) fun iv s2 ⟨y,H2,I2,ry,q2⟩ =>
    Calls.spliced_cons (thn (hf pins s2 σ H2 _ I2 q2) fun fv s3 ⟨z,H3,I3,rz,ov,g,q3⟩=>Calls.spliced_nil ?_))))
  exact znf hu I3 g ry rz fun w' s4 I4 rw'=>⟨_,H3,I4,rw',q3⟩
end
section
variable {X:Cx} {pins:List (Addr × Obj)} {σ:St} {H:Hp} {s:Shared} {a:Addr} {kvs:List (Key × V)} {A:Around} {E:Value→Shared→Prop}
end
section
variable {X:Cx} {pins:List (Addr × Obj)} {σ:St} {H:Hp} {s:Shared} {a:Addr} {y:V} {u:Value} {A:Around} {E:Value→Shared→Prop}
end
end L2
namespace Att
open PySem PySem.W PySem.Calls PyProof.Rows
theorem zen {P:Params} {h:Heap}:∀ (ns:List Int) (vs:List Value),WellAll P h vs (ns.map WData.int)→IntsAre vs ns:=by
  intro ns
  induction ns with
  | nil =>
    intro vs w
    rw [List.map_nil] at w
    cases w
    exact .nil
  | cons n ns ih =>
    intro vs w
    rw [List.map_cons] at w
    cases w with
    | cons a b =>
      cases a
      exact .cons _ _ (ih _ b)
theorem zjs {l:OpenLaw} {n:Nat} (hn:l.most=some n) {P:Params} {h:Heap} {args:List WData} {vals:List Value}
    (hpre:l.row.toRowW.claim.pre args=true) (hwl:WellAll P h vals args) :
    ∃ a vs ns,vals = [Value.ref a]∧args = [WData.list (ns.map WData.int)]∧h.get? a=some { cls:=.type "list",data:=.seq vs.toArray }∧IntsAre vs ns∧ns.length ≤ n:=by
  have hsh:WShape.hasAll [] args [.list .int]=true:=(pre_splitW hpre).1
  have hc:l.pre.holds [] { args:=args }=true:=(pre_splitW hpre).2
  obtain ⟨d,r,rfl,h1,h2⟩:=hasAllW_cons hsh
  obtain rfl:=hasAllW_nil h2
  obtain ⟨xs,rfl,h3⟩:=hasW_list h1
  obtain ⟨ns,rfl⟩:=items_int h3
  have hlen:ns.length ≤ n:=by
    unfold OpenLaw.pre at hc
    have h4:(WTm.not (.lt (.lit (.int (n:Int))) (.len (.arg 0)))).holds [] { args:=[.list (ns.map .int)] }=true:=by
      have h4:=(holds_andW hc).1
      rw [hn] at h4
      exact h4
    have h5:=condW_of h4 (w_not (w_lt w_lit (w_len_list (w_arg rfl))))
    rw [List.length_map] at h5
    refine Nat.le_of_not_lt fun q=>?_
    have q':(n:Int) < ((ns.length:Nat):Int):=by omega
    first
      | (rw [decide_eq_true q'] at h5; exact absurd h5 (by decide))
      | (simp at h5; omega)
  cases hwl with
  | cons w1 w2 =>
    cases w2
    cases w1 with
    | list ho hall=>exact ⟨_,_,ns,rfl,rfl,ho,zen ns _ hall,hlen⟩
theorem zju (l:OpenLaw) (args:List WData):l.row.toRowW.claim.post args (.bool true) args=true :=
  postW_of (r:=l.row.toRowW) (X:=(true == true))
    (show WShape.has [] (.bool true) .bool=true by first | rfl | decide | simp [WShape.has,WShape.arms,WShape.armsAll])
    (show (WTm.eq .res (.lit (.bool true))).value [] { args:=args,res:=some (.bool true),after:=args }=some (.bool (true == true)) from w_eq_bool (w_res rfl) w_lit) rfl
theorem attach_call {l:OpenLaw} {n:Nat} {q:Program} {loose:List Str} {XP:(Str→Option Value)→Heap→Prop} {YP:World→Heap→Prop} {d:DefRec}
    (hn:l.most=some n) (hdf:d.params.defaults = [])
    (call:∀ (w:World) (s₀ s₁:Shared) (mg mb:Str→Option Value) (fa:Addr) (o:Obj) (pm cd doc:Value) (a:Addr) (vs:List Value) (ns:List Int),
      Ground q loose [] XP w s₀ mg mb s₁.heap→YP w s₁.heap →
      s₁.heap.get? fa=some o→o.data = .func (docDef d.name d.params d.body d.scope pm cd doc)→s₁.heap.CodeRec cd d.name→mg d.name=some (.ref fa) →
      s₁.heap.get? a=some { cls:=.type "list",data:=.seq vs.toArray }→IntsAre vs ns→ns.length ≤ n→s₁.gens = #[] →
      codeAny (model l.prog w) callerA (.call (.ref fa) ⟨[.ref a],[]⟩) (fun r s'=>r = .ok (.ret (.bool true))∧OldK s₁.heap s'.heap∧s'.os=s₁.os∧AllBare s'.gens) s₁) :
    WalkO q loose XP YP l.row.toRowW d [] (fun f vs=>PySem.call f vs):=by
  intro w s₀ s₁ mg mb G Y fa o pm cd doc dV kV ho hd hcd hD hmg hg args vals as hpre hlay hrd hwl hlo
  obtain rfl:dV = .none:=Dflts.none hD hdf
  obtain rfl:kV = .none:=Dflts.noKw hD
  obtain ⟨a,vs,ns,rfl,rfl,hobj,hints,hlen⟩:=zjs hn hpre hwl
  refine enter_call (codeAny_mono (call w s₀ s₁ mg mb fa o pm cd doc a vs ns G Y ho (fd_plain hd) hcd hmg hobj hints hlen hg) fun r s' hq=>?_)
  obtain ⟨rfl,h2,h3,h4⟩:=hq
  exact ⟨.inl ⟨.bool true,.bool true,[],rfl,fun _=>rfl,.bool true,zju l _,fun _=>⟨List.Pairwise.nil,fun _ hm=>(nomatch hm)⟩⟩,h2,h3,h4⟩
section
variable {prog:Program} {w:World} {A:Around} {E:Value→Shared→Prop} {s:Shared} {K:Frag}
end
end Att
namespace L2
open PySem PySem.Spec PyProof.Rows
theorem zgB:∀ {vs:List Value} {ns:List Int},IntsAre vs ns→Vals (ns.map V.int) vs
  | _,_,.nil=>.nil
  | _,_,.cons n t h=>.cons ⟨t,rfl⟩ (zgB h)
def Only (H:Hp):Prop:=∀ b,H b=none∨∃ o xs,H b=some (.frz o (.lst xs))
theorem zj6 {P:Program} {w:World} {K:PySem.W.Frag} {mg mb:Str→Option Value} {CX:CXT} {k:Nat} {fa a:Addr} {fd:FuncData} {x:Str} {sp:Sp} {s₁:Shared} {vs:List Value} {ns:List Int}
    (KX:K.In s₁.heap) (hT0:tabOf K=none) (hns:s₁.heap.Ns mainGlobals mg) (hb:s₁.heap.Ns builtinsNs mb) (hbb:∀ x:Str,x ≠ "__name__"→mb x=bootBuiltins x) (hlim:s₁.heap.NoLimit) (hg:s₁.gens = #[])
    (ha:s₁.heap.get? a=some { cls:=.type "list",data:=.seq vs.toArray }) (hi:IntsAre vs ns) (hl:ns.length ≤ sizeLine) (hr:Room k callerA)
    (F:∀ base:Heap,K.In base→base.Ns mainGlobals mg→FnOk P w K mg base CX k fa fd [x] sp) (hbind:∀ (s:Shared) (u:Value),BindsTo s fd ⟨[u],[]⟩ [(x,u)])
    (hsp:∀ H:Hp,Only H→SqL K H a (ns.map V.int)→sp [.ref a] H (fun v _=>v = .bl true) fun _ _ _=>False)
    (hCX:∀ H e s',CX [] H s₁ (fun _ _ _=>False) e s'→False) :
    codeAny (model P w) callerA (.call (.ref fa) ⟨[.ref a],[]⟩) (fun r s'=>r = .ok (.ret (.bool true))∧OldK s₁.heap s'.heap∧s'.os=s₁.os∧AllBare s'.gens) s₁:=by
  have rv:=zgB hi
  have lenV:=hi.length
  -- from an abstract heap in which nothing but the script may be tracked
  have core:∀ H:Hp,Only H→SqL K H a (ns.map V.int)→HOk P w H s₁.heap→(∀ b,H b ≠ none→b=a)→(H a ≠ none→K.lookup a=none) →
      codeAny (model P w) callerA (.call (.ref fa) ⟨[.ref a],[]⟩) (fun r s'=>r = .ok (.ret (.bool true))∧OldK s₁.heap s'.heap∧s'.os=s₁.os∧AllBare s'.gens) s₁:=by
    intro H hO hS hok hA hK
    have base_of:∀ {b:Addr} {o:Obj},s₁.heap.get? b=some o→H b=none→(hidT s₁.heap H).get? b=some o:=fun e n=>zkh e n
    have noA:∀ {b:Addr} {o:Obj} {es:Array DictEntry} {ep:Nat},s₁.heap.get? b=some o→o.data = .dict es ep→H b=none:=fun {b o es ep} e d=>by
      cases q:H b with
      | none=>rfl
      | some u =>
        have e':b=a:=hA b (by rw [q]; simp)
        subst e'
        rw [ha] at e; cases e
        have d':Data.seq vs.toArray _=Data.dict es ep:=d
        cases d'
    have nsK:∀ {b:Addr} {m:Str→Option Value},s₁.heap.Ns b m→(hidT s₁.heap H).Ns b m:=fun {b m} ⟨o,es,ep,e,d,r⟩=>⟨o,es,ep,base_of e (noA e d),d,r⟩
    have hKb:K.In (hidT s₁.heap H):=fun b o e=>base_of (KX b o e) (by
      cases q:H b with
      | none=>rfl
      | some u =>
        have e':b=a:=hA b (by rw [q]; simp)
        subst e'
        rw [hK (by rw [q]; simp)] at e; cases e)
    have hM:Mod K mg (hidT s₁.heap H):=⟨hKb,nsK hns,⟨mb,nsK hb,hbb⟩,let ⟨mc,h1,h2⟩:=hlim; ⟨mc,nsK h1,h2⟩⟩
    have e0:Env0 P w K mg (hidT s₁.heap H) callerA [] s₁ H:=⟨rfl,hM,fun b o e=>zlL e,Nat.le_of_eq (ziQ _ _),trivial,fun b hb=>absurd (show b ∈ ([]:List Addr) from hb) (by simp),hok,.of_eq hg,.none hT0⟩
    refine codeAny_mono ((F _ hKb (nsK hns)).run callerA [] s₁ H ⟨[.ref a],[]⟩ [.ref a] [.ref a] _ _ hr e0 (hbind s₁ (.ref a)) (.cons rfl .nil) (hsp H hO hS)) fun r s' h=>?_
    cases r with
    | error e=>exact (hCX H e s' h).elim
    | ok fl =>
      cases fl with
      | next=>exact False.elim h
      | brk=>exact False.elim h
      | cont=>exact False.elim h
      | ret u =>
        obtain ⟨v,H',os,bare,un,hok',r',q⟩:=h
        have q':v = .bl true:=q
        subst q'
        obtain rfl:u=Value.bool true:=r'
        refine ⟨rfl,OldK.of_keep fun b o e=>?_,os,bare⟩
        cases q:H b with
        | none=>exact un.keep b o e q (by intro z; exact absurd (show b ∈ ([]:List Addr) from z) (by simp)) (by simp)
        | some u =>
          rcases hO b with z | ⟨ob,xs,z⟩
          · rw [q] at z; cases z
          · have z2:=un.frzs b ob _ z
            obtain ⟨e1,_⟩:=hok b _ z
            obtain ⟨e2,_⟩:=hok' b _ z2
            rw [e] at e1; cases e1
            exact e2
  cases hk:K.lookup a with
  | some o =>
    -- the script is one of the module's own objects
    have e:=KX a o hk
    rw [ha] at e
    cases e
    refine core (fun _=>none) (fun _=>.inl rfl) (.inr ⟨_,vs.toArray,_,hk,rfl,rfl,rfl,by rw [List.size_toArray,lenV]; exact hl,by simpa using rv⟩) (fun b u z=>by have z':(none:Option HO)=some u:=z; cases z') (fun b z=>absurd rfl z) fun z=>absurd rfl z
  | none =>
    refine core (fun b=>if b=a then some (.frz { cls:=.type "list",data:=.seq vs.toArray } (.lst (ns.map V.int))) else none) (fun b=>?_) (.inl (.inr ⟨{ cls:=.type "list",data:=.seq vs.toArray },if_pos rfl⟩)) (fun b u z=>?_) (fun b z=>?_) fun _=>hk
    · by_cases hb:b=a
      · exact .inr ⟨_,_,if_pos hb⟩
      · exact .inl (if_neg hb)
    · by_cases hb:b=a
      · have z':=(if_pos hb).symm.trans z
        cases z'
        subst hb
        exact ⟨ha,by rw [List.length_map]; exact hl,vs,_,rv,ha⟩
      · have z':=(if_neg hb).symm.trans z
        cases z'
    · by_cases hb:b=a
      · exact hb
      · exact absurd (if_neg hb) z
end L2
namespace L2
open PySem PySem.Spec PyProof.Rows
theorem walk_of {l:PySem.W.OpenLaw} {n k:Nat} {q:Program} {loose:List Str} {XP:(Str→Option Value)→Heap→Prop} {YP:World→Heap→Prop} {d:DefRec} {K:Params→PySem.W.Frag} {CX:World→CXT} {sp:World→Sp} {x:Str}
    (hn:l.most=some n) (hn2:n ≤ sizeLine) (hdf:d.params.defaults = []) (hr:Room k callerA)
    (hY:∀ (w:World) (h:Heap),YP w h→(K w.params).In h) (hT0:∀ w:World,tabOf (K w.params)=none)
    (F:∀ (w:World) (mg:Str→Option Value) (fa:Addr) (h:Heap),(K w.params).In h→h.Ns mainGlobals mg→mg d.name=some (.ref fa) →
      ∃ fd:FuncData,(∀ (s:Shared) (u:Value),BindsTo s fd ⟨[u],[]⟩ [(x,u)]) ∧
        ∀ base:Heap,(K w.params).In base→base.Ns mainGlobals mg→FnOk l.prog w (K w.params) mg base (CX w) k fa fd [x] (sp w))
    (hsp:∀ (w:World) (H:Hp) (a:Addr) (ns:List Int),ns.length ≤ n→Only H→SqL (K w.params) H a (ns.map V.int)→sp w [.ref a] H (fun v _=>v = .bl true) fun _ _ _=>False)
    (hCX:∀ (w:World) (H:Hp) (s:Shared) (e:Value) (s':Shared),CX w [] H s (fun _ _ _=>False) e s'→False) :
    PySem.W.WalkO q loose XP YP l.row.toRowW d [] (fun f vs=>PySem.call f vs):=by
  refine Att.attach_call hn hdf fun w s₀ s₁ mg mb fa o pm cd doc a vs ns G Y ho hd hcd hmg hobj hints hlen hg=>?_
  have KX:=hY w _ Y
  obtain ⟨fd,hb,hF⟩:=F w mg fa _ KX G.T.g hmg
  exact zj6 KX (hT0 w) G.T.g G.T.b G.T.builtins G.T.nolimit hg hobj hints (Nat.le_trans hlen hn2) hr hF hb (fun H hO hS=>hsp w H a ns hlen hO hS) fun H e s'=>hCX w H s₁ e s'
end L2
namespace L2
open PySem PySem.Spec PyProof.Rows
def zg6 (s:Stmt) (j:Nat):Stmt:=match s with
  | .ClassDef _ _ _ body _ _ _ _ _ _ _=>body.getD j (.Pass ⟨0,0,0,0⟩)
  | _=>.Pass ⟨0,0,0,0⟩
def zcI (s:Stmt):Arguments:=match s with
  | .FunctionDef _ a _ _ _ _ _ _ _ _=>a
  | _=>{ posonlyargs:=[],args:=[],vararg:=none,kwonlyargs:=[],kw_defaults:=[],kwarg:=none,defaults:=[] }
def zch (s:Stmt):List Stmt:=match s with
  | .FunctionDef _ _ b _ _ _ _ _ _ _=>b
  | _=>[]
def zaq (s:Stmt):Scope:=match s with
  | .FunctionDef _ _ _ _ _ _ sc _ _ _=>sc
  | _=>{ kind:=.function,names:=[],isGenerator:=false,isCoroutine:=false }
abbrev CX0:CXT:=fun _ _ _ _ _ _=>False
abbrev E0:XK:=fun _ _ _=>False
theorem zbm {X:Cx}:zdB CX0 X E0:=fun _ _ _ _ _ _ _ h=>h.elim
structure Fun (K:PySem.W.Frag) (x qual:Str) (st:Stmt) (f:Addr) (fd:FuncData):Prop where
  ex:∃ (oc:Value) (od:Option Addr) (kV doc pm:Value) (an:Option Addr) (cdv ct:Value) (osl:Array (Option Value)),
    fd=PySem.W.fnOf x qual (zcI st) (zch st) (zaq st) .none kV doc pm an cdv ct∧K.lookup f=some ⟨oc,od,.func fd,osl⟩∧PySem.W.codeIn K cdv qual=true
  kp:PySem.W.keepIn K (.ref f)=true
section
variable {P:Program} {w:World} {K:PySem.W.Frag} {mg:Str→Option Value} {base:Heap}
theorem Fun.ok {x qual:Str} {st:Stmt} {f:Addr} {fd:FuncData} {N ps:List Str} {k:Nat} {sp:Sp} (F:Fun K x qual st f fd) (S:FnScope N ps (zaq st)) (len:∀ vs H Q E,sp vs H Q E→vs.length=ps.length)
    (hbody:∀ (cdv:Value) (A:Around) (outer:List Env) (s:Shared) (H:Hp) (vs:List V) (Q:VK) (E:XK),Room k (A.deeper (envOfC qual (zaq st) s.heap.objs.size f cdv))→sp vs H Q E →
      ∃ t,PSs (cxOf CX0 P w K mg base N qual (zaq st) f cdv A outer s H E).nox (zch st) t∧t { nx:=fun _ H'=>Q .non H',rt:=Q } (start N vs) H):FnOk P w K mg base CX0 (k + 1) f fd ps sp:=by
  obtain ⟨oc,od,kV,doc,pm,an,cdv,ct,osl,rfl,lk,hcd⟩:=F.ex
  refine zns lk hcd S len fun A outer s H vs Q E hr hsp=>?_
  obtain ⟨t,h,q⟩:=hbody cdv A outer s H vs Q E hr hsp
  exact ⟨t,h.nox,q⟩
theorem Fun.binds {x qual:Str} {st:Stmt} {f:Addr} {fd:FuncData} {ps:List Str} (F:Fun K x qual st f fd)
    (h:∀ (kV doc pm:Value) (an:Option Addr) (cdv ct:Value) (us:List Value),us.length=ps.length→bindArgs (PySem.W.fnOf x qual (zcI st) (zch st) (zaq st) .none kV doc pm an cdv ct) ⟨us,[]⟩=pure (ps.zip us)):Binds K fd ps []:=by
  obtain ⟨oc,od,kV,doc,pm,an,cdv,ct,osl,rfl,lk,hcd⟩:=F.ex
  exact .all (h kV doc pm an cdv ct)
theorem zi6 {x qual:Str} {st:Stmt} {f:Addr} {oc:Value} {od an:Option Addr} {osl:Array (Option Value)} {kV doc pm cdv ct:Value} (l:K.lookup f=some ⟨oc,od,.func (PySem.W.fnOf x qual (zcI st) (zch st) (zaq st) .none kV doc pm an cdv ct),osl⟩)
    (c:PySem.W.codeIn K cdv qual=true) (k:PySem.W.keepIn K (.ref f)=true):Fun K x qual st f (PySem.W.fnOf x qual (zcI st) (zch st) (zaq st) .none kV doc pm an cdv ct):=⟨⟨oc,od,kV,doc,pm,an,cdv,ct,osl,rfl,l,c⟩,k⟩
end
theorem zcu {A:Around} {k:Nat} (hr:Room k A):A.units + 1 < cLine:=Nat.lt_of_le_of_lt (Nat.add_le_add_left (by decide:1 ≤ 64) _) hr.units
section
variable {X:Cx}
theorem pv (i:Nat) {x:Str} {pos:Pos} (hN:X.N[i]?=some x:=by rfl) (hv:Vis X.env.scope x:=by first | exact Or.inl rfl | exact Or.inr (Or.inl rfl) | exact Or.inr (Or.inr rfl)) (hd:(x == ("__debug__" : Str))=false:=by decide)
    (hcd:(x == ("__classdict__" : Str))=false:=by decide):PE X (.Name x pos) (tVar i):=znd hN hv hd hcd
end
def Same (H H':Hp):Prop:=∀ b o,H b=some o→H' b=some o
theorem Same.refl (H:Hp):Same H H:=fun _ _ h=>h
theorem Same.trans {H H1 H2:Hp} (a:Same H H1) (b:Same H1 H2):Same H H2:=fun c o h=>b c o (a c o h)
theorem Same.free {H H':Hp} (e:Same H H') {l:Addr} (h:H' l=Option.none):H l=Option.none:=by
  cases q:H l with
  | none=>rfl
  | some o =>
    rw [e l o q] at h
    cases h
theorem Same.seq {K:PySem.W.Frag} {H H':Hp} {a:Addr} {xs:List V} (e:Same H H') (h:SqL K H a xs):SqL K H' a xs:=by
  rcases h with (h | ⟨o,h⟩) | h
  · exact .inl (.inl (e _ _ h))
  · exact .inl (.inr ⟨o,e _ _ h⟩)
  · exact .inr h
section
variable {κ:Type} [DecidableEq κ]
end
end L2
namespace L2
open PySem PySem.Spec PyProof.Rows
def Fit (i:Int):Prop:=i.natAbs < 2 ^ 8000
theorem log2_lt {n k:Nat} (hk:0 < k) (h:n < 2 ^ k):n.log2 < k:=by
  by_cases h0:n=0
  · subst h0; simpa using hk
  · exact (Nat.log2_lt h0).mpr h
theorem Fit.log {i:Int} (h:Fit i):i.natAbs.log2 < 8000:=log2_lt (by decide) h
theorem Fit.bits {i:Int} (h:Fit i):Builtin.Int.intBits i ≤ 2 ^ 20:=by
  have h1:=h.log
  have h2:(8000:Nat) ≤ 2 ^ 20:=by decide
  unfold Builtin.Int.intBits
  split <;> omega
section
variable {X:Cx}
theorem zbo:OpR X (binaryOp .Mult) (rI (fun i j=>Fit i∧Fit j) fun i j=>.int (i * j)):=opI fun _ _ _ _ _ _ _ hc q=>mul_int q (.of_bits hc.1.bits hc.2.bits)
theorem zbE:OpR X (binaryOp .FloorDiv) (rI (fun _ j=>j ≠ 0∧Fit j) fun i j=>.int (i.fdiv j)):=opI fun _ _ _ _ _ _ _ hc q =>
  floordiv_int hc.1 q (.inl (PyProof.noPylong_of_log2 (Nat.lt_trans hc.2.log (by decide))))
end
def clsV:V→Option Value
  | .ty n=>some (.type n)
  | .ref a=>some (.ref a)
  | _=>none
section
variable {X:Cx}
theorem zj5 {c:V} {cv u:Value} (h:clsV c=some cv) (r:RelV c u):u=cv:=by
  cases c with
  | ty n=>cases h; exact r
  | ref a=>cases h; exact r
  | _=>cases h
def rIs (K:PySem.W.Frag):List V→Hp→VK→Prop:=fun xs H Q=>∃ x c cv t b,xs = [x,c]∧clsV c=some cv∧TyOf K H x t∧PySem.W.kitOne K t cv=some b∧Q (.bl b) H
theorem zaP:zd4 X (.builtin "isinstance") (rIs X.K):=by
  intro pins s σ H xs us Q I r h
  obtain ⟨x,c,cv,t,b,rfl,hc,ty,hk,q⟩:=h
  obtain ⟨u,v,rfl,rx,ry⟩:=zmL r
  cases zj5 hc ry
  exact zjZ I rx ty hk fun tk=>⟨.bl b,H,I.tok _,rfl,q⟩
end
section
variable {X:Cx}
end
end L2
namespace L2
open PySem PySem.Spec PyProof.Rows
theorem zdI {env:Env}:∀ (names:List (Str × NameKind)) (acc:List (Str × Addr)),(∀ y ∈ names,y.2 = .free→∃ c,env.cells.lookup y.1=some c) →
    ∃ cl,(forIn (m:=Sem) names acc fun (x:Str × NameKind) (cs:List (Str × Addr))=>if (x.2 == NameKind.free)=true then do let c ← cellOf env x.1; pure (ForInStep.yield ((x.1,c) :: cs)) else pure (ForInStep.yield cs))=pure cl ∧
      (∀ p ∈ cl,p ∈ acc∨env.cells.lookup p.1=some p.2)∧(∀ p ∈ acc,p ∈ cl)∧∀ y ∈ names,y.2 = .free→∃ c,(y.1,c) ∈ cl
  | [],acc,_=>⟨acc,by simp,fun p hp=>.inl hp,fun p hp=>hp,fun y hy=>by cases hy⟩
  | (n,k) :: r,acc,h=>by
    by_cases hk:k = .free
    · subst hk
      obtain ⟨c,hc⟩:=h (n,.free) List.mem_cons_self rfl
      obtain ⟨cl,e,h1,h2,h3⟩:=zdI r ((n,c) :: acc) fun y hy=>h y (List.mem_cons_of_mem _ hy)
      refine ⟨cl,?_,fun p hp=>?_,fun p hp=>h2 p (List.mem_cons_of_mem _ hp),fun y hy hf=>?_⟩
      · have hco:cellOf env n=pure c:=by unfold cellOf; rw [hc]
        rw [List.forIn_cons]
        simp only [beq_self_eq_true,if_true,hco,pure_bind]
        exact e
      · rcases h1 p hp with z | z
        · rcases List.mem_cons.mp z with rfl | z
          · exact .inr hc
          · exact .inl z
        · exact .inr z
      · rcases List.mem_cons.mp hy with rfl | hy
        · exact ⟨c,h2 _ List.mem_cons_self⟩
        · exact h3 y hy hf
    · obtain ⟨cl,e,h1,h2,h3⟩:=zdI r acc fun y hy=>h y (List.mem_cons_of_mem _ hy)
      refine ⟨cl,?_,h1,h2,fun y hy hf=>?_⟩
      · have hb:(k == NameKind.free)=false:=by simpa using hk
        rw [List.forIn_cons]
        simp only [hb,Bool.false_eq_true,if_false,pure_bind]
        exact e
      · rcases List.mem_cons.mp hy with rfl | hy
        · exact absurd hf hk
        · exact h3 y hy hf
theorem zdr {f:Str→Option Addr}:∀ {cl:List (Str × Addr)} {x:Str} {c:Addr},(∀ p ∈ cl,f p.1=some p.2)→(x,c) ∈ cl→cl.lookup x=some c
  | [],_,_,_,h=>by cases h
  | (n,d) :: r,x,c,h,hm=>by
    rw [List.lookup_cons]
    cases e:x == n with
    | true =>
      have e':x=n:=by simpa using e
      subst e'
      have z1:=h (x,d) List.mem_cons_self
      have z2:=h (x,c) hm
      rw [z1] at z2
      simpa using z2
    | false =>
      rcases List.mem_cons.mp hm with z | z
      · cases z; simp at e
      · exact zdr (fun p hp=>h p (List.mem_cons_of_mem _ hp)) z
theorem zdu {scope:Scope} {env:Env} (h:∀ y ∈ scope.names,y.2 = .free→∃ c,env.cells.lookup y.1=some c) :
    ∃ cl,closureFor scope env=pure cl∧(∀ x c,cl.lookup x=some c→env.cells.lookup x=some c)∧∀ y ∈ scope.names,y.2 = .free→cl.lookup y.1=env.cells.lookup y.1:=by
  obtain ⟨cl,e,h1,_,h3⟩:=zdI scope.names [] h
  have all:∀ p ∈ cl,env.cells.lookup p.1=some p.2:=fun p hp=>(h1 p hp).elim (fun z=>by cases z) id
  refine ⟨cl,?_,fun x c z=>all (x,c) (PySem.mem_of_lookup z),fun y hy hf=>?_⟩
  · simp only [closureFor]
    rw [e]
    rfl
  · obtain ⟨c,hc⟩:=h3 y hy hf
    rw [all _ hc]
    exact zdr (f:=fun x=>env.cells.lookup x) all hc
end L2
namespace L2
open PySem PySem.Spec PyProof.Rows
section
variable {prog:Program} {w:World} {A:Around} {R:Result→Shared→Prop} {s:Shared}
theorem zgs {elt target iter:Expr} {ifs:List Expr} {scope:Scope} {pos:Pos} {it acc:Value} {env:Env} (I:Nat→Shared→Prop)
    (turn:∀ n s,I n s→wpAny (model prog w) A (pyNext it) (fun r s₁=>match r with
      | none=>R (.ok .next) s₁
      | some v=>wpAny (model prog w) A (letOwnedTupleGo target it v) (fun _ s₁'=>wpAny (model prog w) A (assign target env v) (fun _ s₂ =>
          wpAny (model prog w) A (forIn ifs true fun c r=>if r=true then do let ok ← isTrue c env (eval c env); pure (ForInStep.yield ok) else pure (ForInStep.yield r)) (fun ok s₃ =>
            if ok=true then wpAny (model prog w) A (eval elt env) (fun x s₄ =>
              wpAny (model prog w) A (call (.builtin "list.append") [acc,x]) (fun _ s₅=>∃ m,m < n∧I m s₅) (fun _ _=>False) s₄) (fun _ _=>False) s₃
            else ∃ m,m < n∧I m s₃) (fun _ _=>False) s₂) (fun _ _=>False) s₁') (fun _ _=>False) s₁) (fun _ _=>False) s)
    (n:Nat) (h:I n s) :
    codeAny (model prog w) A (.compLoop (.ListComp elt [⟨target,iter,ifs,0⟩] scope pos) 0 it acc env) R s:=by
  refine codeAny_loop rfl I (fun n s hI=>?_) n h
  show wpAny _ A ((compTurn (.ListComp elt [⟨target,iter,ifs,0⟩] scope pos) 0 it acc env).onRaise (fun x=>do noteFrame x env; theTreesLotGoes x)) _ _ s
  refine wpAny_noted ?_
  rw [compTurn_list]
  refine wpAny_bind (wpAny_standAt (wpAny_bind (wpAny_mono (turn n s hI) (fun r s₁ h₁=>?_) fun _ _ h'=>h'.elim)))
  cases r with
  | none=>exact wpAny_pure h₁
  | some v =>
    refine wpAny_bind (wpAny_mono h₁ (fun _ s₁' h₁'=>?_) fun _ _ h'=>h'.elim)
    refine wpAny_bind (wpAny_mono h₁' (fun _ s₂ h₂=>wpAny_bind (wpAny_mono h₂ (fun ok s₃ h₃=>?_) fun _ _ h'=>h'.elim)) fun _ _ h'=>h'.elim)
    cases ok with
    | false=>exact wpAny_pure ⟨rfl,h₃⟩
    | true =>
      exact wpAny_bind (wpAny_bind (wpAny_mono h₃ (fun x s₄ h₄=>wpAny_bind (wpAny_mono h₄ (fun _ s₅ h₅=>wpAny_pure (wpAny_pure ⟨rfl,h₅⟩)) fun _ _ h'=>h'.elim)) fun _ _ h'=>h'.elim))
end
def Cx.comp (X:Cx) (scope:Scope) (cl:List (Str × Addr)) (C:Addr) (N':List Str) (s:Shared) (H:Hp) (fp:List Addr) (pins:List (Addr × Obj)):Cx :=
  { X with N:=N',s₀:=s,H₀:=H,env:=compEnvC scope cl C X.env,outer:=X.stack,stack:=X.stack,ex:=fp,fn:=fun x=>scope.names.lookup x == some .cell,pn:=X.pn ++ pins,xe:=fun _ _=>False }
def zbQ (σ:St) (ix:List Nat) (n:Nat):St:=ix.map (fun i=>(σ[i]?).getD none) ++ List.replicate n none
def zhC:Option TT→TT
  | none=>fun _ H Q=>Q true H
  | some t=>t
def zmu (D:Addr) (J:It) (g:TG) (tc:Option TT) (te:TE) (Q:VK) (σ0:St) (H0:Hp):Prop :=
  ∃ W:Nat→Nat→List V→St→Hp→Prop,(∃ m,W 0 m [] σ0 H0)∧∀ i m ys σ2 H2,W i m ys σ2 H2→H2 D=some (.lst ys) ∧
    ((J.stop i H2∧Q (.ref D) H2)∨(J.go i H2∧∃ N:List V→St→Hp→Prop,(∀ ys' σ' H',N ys' σ' H'→∃ m',m' < m∧W (i + 1) m' ys' σ' H') ∧
      ∀ x H',J.yld i H2 x H'→g x σ2 H' fun σ3 H3=>zhC tc σ3 H3 fun b H4=>if b=true then te σ3 H4 fun y H5=>H5 D=some (.lst ys)∧ys.length < sizeLine∧N (ys ++ [y]) σ3 (upd H5 D (.lst (ys ++ [y]))) else N ys σ3 H4))
def zha (wi:TI) (ix:List Nat) (n:Nat) (g:TG) (tc:Option TT) (te:TE):TE:=fun σ H Q=>wi σ H fun J H1=>∀ D,H1 D=none→zmu D J g tc te Q (zbQ σ ix n) (upd H1 D (.lst []))
structure CompOk (X:Cx) (scope:Scope) (N':List Str) (ix:List Nat) (n:Nat) (tg elt:Expr) (ifs:List Expr) (g:TG) (tc:Option TT) (te:TE):Prop where
  kind:scope.kind = .function
  nocell:∀ y ∈ scope.names,y.2 = .free→(y.1,NameKind.cell) ∉ scope.names
  names:∀ y ∈ scope.names,y.2 = .local→scope.names.lookup y.1=some .local
  free:∀ y ∈ scope.names,y.2 = .free→X.env.kindOf y.1=some .cell∨X.env.kindOf y.1=some .free
  len:ix.length + n=N'.length
  take:∀ (j i:Nat),ix[j]?=some i→∃ x,N'[j]?=some x∧X.N[i]?=some x∧scope.names.lookup x=some .free
  tgt:∀ (cl:List (Str × Addr)) (C:Addr) (s:Shared) (H:Hp) (fp:List Addr) (pins:List (Addr × Obj)),PG (X.comp scope cl C N' s H fp pins) tg g
  elt:∀ (cl:List (Str × Addr)) (C:Addr) (s:Shared) (H:Hp) (fp:List Addr) (pins:List (Addr × Obj)),PE (X.comp scope cl C N' s H fp pins) elt te
  test:(ifs = []∧tc=none)∨∃ c t,ifs = [c]∧tc=some t∧∀ (cl:List (Str × Addr)) (C:Addr) (s:Shared) (H:Hp) (fp:List Addr) (pins:List (Addr × Obj)),PT (X.comp scope cl C N' s H fp pins) c t
theorem zbO {env:Env}:∀ {names:List (Str × NameKind)} {x:Str},names.lookup x=some .free →
    (names.map fun (n,k)=>if (k == NameKind.free && env.scope.kind == .function && env.kindOf n == some .cell) then (n,NameKind.cell) else (n,k)).lookup x=some .cell ∨
    (names.map fun (n,k)=>if (k == NameKind.free && env.scope.kind == .function && env.kindOf n == some .cell) then (n,NameKind.cell) else (n,k)).lookup x=some .free
  | [],_,h=>by simp at h
  | (n,k) :: r,x,h=>by
    have ih:=@zbO env r x
    show List.lookup x ((if (k == NameKind.free && env.scope.kind == .function && env.kindOf n == some .cell)=true then (n,NameKind.cell) else (n,k)) :: _)=_∨List.lookup x ((if (k == NameKind.free && env.scope.kind == .function && env.kindOf n == some .cell)=true then (n,NameKind.cell) else (n,k)) :: _)=_
    cases hx:x == n with
    | true =>
      simp only [List.lookup_cons,hx] at h
      cases h
      by_cases hc:(NameKind.free == NameKind.free && env.scope.kind == .function && env.kindOf n == some .cell)=true
      · rw [if_pos hc]; left; simp only [List.lookup_cons,hx]
      · rw [if_neg hc]; right; simp only [List.lookup_cons,hx]
    | false =>
      simp only [List.lookup_cons,hx] at h
      by_cases hc:(k == NameKind.free && env.scope.kind == .function && env.kindOf n == some .cell)=true
      · rw [if_pos hc]; simp only [List.lookup_cons,hx]; exact ih h
      · rw [if_neg hc]; simp only [List.lookup_cons,hx]; exact ih h
theorem zdZ {env:Env}:∀ {names:List (Str × NameKind)} {x:Str},
    ((names.map fun (n,k)=>if (k == NameKind.free && env.scope.kind == .function && env.kindOf n == some .cell) then (n,NameKind.cell) else (n,k)).lookup x=some .cell ∨
    (names.map fun (n,k)=>if (k == NameKind.free && env.scope.kind == .function && env.kindOf n == some .cell) then (n,NameKind.cell) else (n,k)).lookup x=some .free)→(x,NameKind.free) ∈ names∨(names.lookup x=some .cell∧(x,NameKind.cell) ∈ names)
  | [],_,h=>by simp at h
  | (n,k) :: r,x,h=>by
    have ih:=@zdZ env r x
    cases hx:x == n with
    | true =>
      have e:x=n:=by simpa using hx
      subst e
      by_cases hc:(k == NameKind.free && env.scope.kind == .function && env.kindOf x == some .cell)=true
      · have hk:k = .free:=by
          have:(k == NameKind.free)=true:=by
            simp only [Bool.and_eq_true] at hc
            exact hc.1.1
          simpa using this
        subst hk
        exact .inl List.mem_cons_self
      · rw [List.map_cons] at h
        have e2:(match (x,k) with | (n,k)=>if (k == NameKind.free && env.scope.kind == .function && env.kindOf n == some .cell)=true then (n,NameKind.cell) else (n,k))=(x,k):=if_neg hc
        rw [e2] at h
        simp only [List.lookup_cons,beq_self_eq_true] at h
        rcases h with h | h
        · cases h; exact .inr ⟨by simp only [List.lookup_cons,beq_self_eq_true],List.mem_cons_self⟩
        · cases h; exact .inl List.mem_cons_self
    | false =>
      refine (ih ?_).imp (List.mem_cons_of_mem _) fun z=>⟨by simp only [List.lookup_cons,hx]; exact z.1,List.mem_cons_of_mem _ z.2⟩
      rw [List.map_cons] at h
      by_cases hc:(k == NameKind.free && env.scope.kind == .function && env.kindOf n == some .cell)=true
      · have e2:(match (n,k) with | (n,k)=>if (k == NameKind.free && env.scope.kind == .function && env.kindOf n == some .cell)=true then (n,NameKind.cell) else (n,k))=(n,NameKind.cell):=if_pos hc
        rw [e2] at h
        simpa only [List.lookup_cons,hx] using h
      · have e2:(match (n,k) with | (n,k)=>if (k == NameKind.free && env.scope.kind == .function && env.kindOf n == some .cell)=true then (n,NameKind.cell) else (n,k))=(n,k):=if_neg hc
        rw [e2] at h
        simpa only [List.lookup_cons,hx] using h
theorem zck {x:Str} {c:Addr}:∀ (names:List (Str × NameKind)) (n:Nat) (acc:List (Str × Addr)),(x,NameKind.cell) ∈ names→(cellsFrom n names acc).lookup x=some c→(∀ y,acc.lookup x=some y→n ≤ y∨True)→n ≤ c
  | [],_,_,h,_,_=>by cases h
  | (y,k) :: r,n,acc,h,e,_=>by
    unfold cellsFrom at e
    by_cases hr:(x,NameKind.cell) ∈ r
    · split at e
      · exact Nat.le_of_succ_le (zck r (n + 1) _ hr e fun _ _=>.inr trivial)
      · exact zck r n _ hr e fun _ _=>.inr trivial
    · rcases List.mem_cons.mp h with z | z
      · cases z
        rw [if_pos (by rfl)] at e
        have key:∀ (r:List (Str × NameKind)) (n':Nat) (acc:List (Str × Addr)),(x,NameKind.cell) ∉ r→(cellsFrom n' r acc).lookup x=acc.lookup x:=by
          intro r
          induction r with
          | nil=>intro _ _ _; rfl
          | cons p r ih =>
            intro n' acc hp
            obtain ⟨y',k'⟩:=p
            unfold cellsFrom
            split
            · rename_i hk
              have hk':k' = .cell:=by simpa using hk
              subst hk'
              have ne:¬ x=y':=fun z=>hp (by rw [z]; exact List.mem_cons_self)
              rw [ih _ _ fun z=>hp (List.mem_cons_of_mem _ z),List.lookup_cons,show (x == y')=false by simpa using ne]
            · exact ih _ _ fun z=>hp (List.mem_cons_of_mem _ z)
        rw [key r _ _ hr] at e
        simp only [List.lookup_cons,beq_self_eq_true] at e
        cases e; exact Nat.le_refl _
      · exact absurd z hr
theorem zbF {x:Str}:∀ (names:List (Str × NameKind)) (n:Nat) (acc:List (Str × Addr)),(x,NameKind.cell) ∉ names→(cellsFrom n names acc).lookup x=acc.lookup x
  | [],_,_,_=>rfl
  | (y,k) :: r,n,acc,h=>by
    unfold cellsFrom
    split
    · rename_i hk
      have hk':k = .cell:=by simpa using hk
      subst hk'
      have ne:¬ x=y:=fun z=>h (by rw [z]; exact List.mem_cons_self)
      rw [zbF r _ _ fun z=>h (List.mem_cons_of_mem _ z),List.lookup_cons,show (x == y)=false by simpa using ne]
    · exact zbF r _ _ fun z=>h (List.mem_cons_of_mem _ z)
theorem zcn:∀ (names:List (Str × NameKind)) (n:Nat) (acc:List (Str × Addr)),(∀ x c,acc.lookup x=some c→c < n)→(∀ x y c,acc.lookup x=some c→acc.lookup y=some c→x=y) →
    ∀ x y c,(cellsFrom n names acc).lookup x=some c→(cellsFrom n names acc).lookup y=some c→x=y
  | [],_,_,_,h=>h
  | (z,k) :: r,n,acc,h1,h2=>by
    unfold cellsFrom
    split
    · have lk:∀ x c,((z,n) :: acc).lookup x=some c→(x=z∧c=n)∨acc.lookup x=some c:=fun x c h=>by
        rw [List.lookup_cons] at h
        cases hb:x == z with
        | true=>rw [hb] at h; cases h; exact .inl ⟨by simpa using hb,rfl⟩
        | false=>rw [hb] at h; exact .inr h
      refine zcn r (n + 1) _ (fun x c h=>?_) fun x y c e1 e2=>?_
      · rcases lk x c h with ⟨_,z⟩ | z
        · rw [z]; exact Nat.lt_succ_self _
        · exact Nat.lt_succ_of_lt (h1 x c z)
      · rcases lk x c e1 with ⟨a1,a2⟩ | a <;> rcases lk y c e2 with ⟨b1,b2⟩ | b
        · rw [a1,b1]
        · have:=h1 y c b; rw [a2] at this; exact absurd this (Nat.lt_irrefl _)
        · have:=h1 x c a; rw [b2] at this; exact absurd this (Nat.lt_irrefl _)
        · exact h2 x y c a b
    · exact zcn r n acc h1 h2
theorem zg0 {M:Model} {A:Around} {E:Value→Shared→Prop} {s:Shared} {scope:Scope} {globals:Addr} {cl:List (Str × Addr)} {qual:Str} {env:Env} {Q:Env→Shared→Prop}
    (hQ:Q (newEnv scope s.heap.objs.size globals (cellsFrom (s.heap.objs.size + 1) scope.names cl) qual none .none (some env) builtinsNs) { s with heap:=pushCells (s.heap.push { cls:=.type "dict",data:=.dict #[] }) scope.names }) :
    wpAny M A (newFunctionEnv scope globals cl [] qual none .none (some env)) Q E s:=by
  simp only [newFunctionEnv,Option.isSome_some,if_true]
  refine wpAny_bind (wpAny_alloc ?_)
  refine wpAny_bind (wpAny_layCells _ (fun name kind cells=>by cases hkc:kind == NameKind.cell <;> simp [hkc]) _ _ _ _ ?_)
  rw [show ({ s with heap:=s.heap.push { cls:=.type "dict",data:=.dict #[] } }:Shared).heap.objs.size=s.heap.objs.size + 1 from Heap.size_push ..]
  refine wpAny_bind ?_
  rw [List.forIn_nil]
  exact wpAny_pure (wpAny_pure hQ)
section
variable {X:Cx} {scope:Scope} {N':List Str} {ix:List Nat} {n:Nat} {tg elt iter:Expr} {ifs:List Expr} {g:TG} {tc:Option TT} {te:TE} {pos:Pos}
theorem zhU {pins:List (Addr × Obj)} {σ:St} {H:Hp} {s:Shared} {fp:List Addr} {cl:List (Str × Addr)} {h1:Heap} {tk:Nat} {m:Str→Option Value} (B:CompOk X scope N' ix n tg elt ifs g tc te) (I:Inv X pins σ H s)
    (hf:∀ b ∈ fp,FpOk X pins H b) (hfo:∀ b ∈ fp,∃ o,s.heap.get? b=some o) (hcl:∀ x c,cl.lookup x=some c→X.env.cells.lookup x=some c∨(s.heap.objs.size + 1 < c∧∃ v,h1.IsCell c v)) (hcf:∀ y ∈ scope.names,y.2 = .free→cl.lookup y.1=X.env.cells.lookup y.1)
    (hinj:∀ x y c,cl.lookup x=some c→cl.lookup y=some c→x=y) (hown:∀ x,scope.names.lookup x=some .cell→∃ c,cl.lookup x=some c) (hnew:∀ x c,scope.names.lookup x=some .cell→cl.lookup x=some c→s.heap.objs.size + 1 < c)
    (hk:∀ b o,s.heap.get? b=some o→h1.get? b=some o) (hD:h1.get? s.heap.objs.size=some { cls:=.type "list",data:=.seq #[] 0 }) (hC:h1.Ns (s.heap.objs.size + 1) m) :
    Inv (X.comp scope cl (s.heap.objs.size + 1) N' s H fp pins) [] (zbQ σ ix n) (upd H s.heap.objs.size (.lst [])) { s with heap:=h1,toks:=tk }:=by
  have hn:H s.heap.objs.size=none:=I.hok.fresh (Nat.le_refl _)
  have lt:∀ {b:Addr} {o:Obj},s.heap.get? b=some o→b ≠ s.heap.objs.size∧b ≠ s.heap.objs.size + 1:=fun e=>⟨Nat.ne_of_lt (Heap.lt_size e),Nat.ne_of_lt (Nat.lt_succ_of_lt (Heap.lt_size e))⟩
  have cellLt:∀ x c,X.env.cells.lookup x=some c→c < s.heap.objs.size:=fun x c e=>by
    obtain ⟨v,o,ho,_⟩:=I.cell x c e
    exact Heap.lt_size ho
  have fpLt:∀ b ∈ fp,b ≠ s.heap.objs.size + 1:=fun b hb=>by
    obtain ⟨o,e⟩:=hfo b hb
    exact (lt e).2
  · have keep:Un (frs X.stack) fp H (upd H s.heap.objs.size (.lst [])) s.heap h1:=Un.laid hk (Nat.le_refl _) hn
    refine ⟨⟨I.ok.mod, ?_, I.ok.glob, I.ok.blt, Nat.le_succ _, hinj, fun x hx => ?_, fun x c z e => Nat.le_of_lt (Nat.lt_trans (Nat.lt_succ_self _) (hnew x c (by simpa using (show (scope.names.lookup x == some NameKind.cell) = true from z)) e)), I.ok.hd, I.ok.frames, .inl rfl, fun b hb => ⟨fpLt b hb, fun x c e => (hcl x c e).elim (fun z => (hf b hb).2.2.2.2.1 x c z) fun z w => by
          obtain ⟨o,ho⟩:=hfo b hb
          have:=Heap.lt_size ho
          rw [← w] at this; exact Nat.lt_irrefl _ (Nat.lt_trans (Nat.lt_trans (Nat.lt_succ_self _) z.1) this)⟩,
        I.bs,Nat.le_trans I.ok.bsz I.sz,fun b o e hb=>?_,fun b hb z=>?_,I.stack,I.stkFree,I.ok.tb.grown I.base.tbls⟩,
      rfl,I.bare,keep,⟨m,hC,fun i x v e1 e2 e3=>?_⟩,fun x c e=>?_,?_,fun x c e=>?_,fun p hp=>?_,?_,?_⟩
    · show (relabel scope X.env).kind = .function
      exact B.kind
    · show ∃ c,cl.lookup x=some c
      rcases zdZ hx with hx' | hx'
      case inr=>exact hown x hx'.1
      have z:=hcf _ hx' rfl
      dsimp only at z
      rw [z]
      exact I.ok.has x (B.free _ hx' rfl)
    · obtain ⟨_,_,_,f3,_⟩:=hf b hb
      rcases f3 with z | z
      · exact I.ok.noex b o e z
      · exact absurd (Nat.lt_of_lt_of_le (Heap.lt_size e) (Nat.le_trans I.ok.bsz z)) (Nat.lt_irrefl _)
    · rcases List.mem_cons.mp (I.stkSub b z) with e | e
      · exact (hf b hb).2.1 e
      · exact (hf b hb).2.2.1 e
    · have hj:i < ix.length:=by
        unfold zbQ at e2
        by_cases hj:i < ix.length
        · exact hj
        · rw [List.getElem?_append_right (by simpa using hj),List.getElem?_replicate] at e2
          split at e2 <;> cases e2
      obtain ⟨j,hj2⟩:∃ j,ix[i]?=some j:=⟨ix[i],by simp [hj]⟩
      obtain ⟨y,y1,y2,y3⟩:=B.take i j hj2
      have exy:x=y:=by
        have z:N'[i]?=some x:=e1
        rw [y1] at z
        exact (Option.some.inj z).symm
      subst exy
      have ev:σ[j]?=some (some v):=by
        unfold zbQ at e2
        rw [List.getElem?_append_left (by simpa using hj),List.getElem?_map,hj2] at e2
        have z:(σ[j]?).getD none=some v:=Option.some.inj e2
        cases q:σ[j]? with
        | none=>rw [q] at z; cases z
        | some w=>rw [q] at z; exact congrArg some z
      obtain ⟨m0,hn0,hl⟩:=I.loc
      have hm:(x,NameKind.free) ∈ scope.names:=PySem.mem_of_lookup y3
      have kx:=B.free _ hm rfl
      have vis:Vis X.env.scope x:=kx.elim (fun z=>.inr (.inl z)) fun z=>.inr (.inr z)
      obtain ⟨u,ru,lu⟩:=hl j x v y2 ev vis
      refine ⟨u,ru,.inr ⟨?_,?_⟩⟩
      · exact zbO y3
      · rcases lu with ⟨z,_⟩ | ⟨_,c,hc,hcell⟩
        · rcases kx with w | w <;> (rw [w] at z; cases z)
        · refine ⟨c,?_,?_⟩
          · show cl.lookup x=some c
            rw [hcf _ hm rfl]
            exact hc
          · obtain ⟨o,ho,hd⟩:=hcell
            exact ⟨o,hk c o ho,hd⟩
    · rcases hcl x c e with z | ⟨_,z⟩
      · obtain ⟨v,o,ho,hd⟩:=I.cell x c z
        exact ⟨v,o,hk c o ho,hd⟩
      · exact z
    · show upd H s.heap.objs.size (.lst []) (s.heap.objs.size + 1)=none
      rw [zaf (Nat.succ_ne_self _)]
      exact I.hok.fresh (Nat.le_succ _)
    · rcases hcl x c e with z | ⟨z,_⟩
      · have:=cellLt x c z
        rw [zaf (Nat.ne_of_lt this)]
        exact I.freeC x c z
      · rw [zaf (Nat.ne_of_gt (Nat.lt_trans (Nat.lt_succ_self _) z))]
        exact I.hok.fresh (Nat.le_of_lt (Nat.lt_trans (Nat.lt_succ_self _) z))
    · rw [List.append_nil] at hp
      obtain ⟨q1,q2,q3,q4,q5⟩:=I.pin p hp
      refine ⟨hk _ _ q1,by rw [zaf (lt q1).1]; exact q2,(lt q1).2,fun z=>?_,q5⟩
      rcases List.mem_cons.mp (I.stkSub _ z) with e | e
      · exact q3 e
      · exact q4 e
    · exact I.hok.laid hk (Nat.le_refl _) ⟨Nat.zero_le _,[],0,.nil,hD⟩
    · show (zbQ σ ix n).length=N'.length
      unfold zbQ
      rw [List.length_append,List.length_map,List.length_replicate]
      exact B.len
theorem zjo {pins:List (Addr × Obj)} {σ σ':St} {H H':Hp} {s s':Shared} {fp:List Addr} {cl:List (Str × Addr)} {C:Addr} (I:Inv X pins σ H s) (hf:∀ b ∈ fp,FpOk X pins H b)
    (J:Inv (X.comp scope cl C N' s H fp pins) [] σ' H' s'):Inv X pins σ H' s':=by
  obtain ⟨hh,g,d,t,os'⟩:=s'
  obtain rfl:os'=s.os:=J.os
  exact I.call (h':=hh) (g':=g) (d':=d) (t':=t) (ch:=fp) J.base J.hok J.bare fun b hb=>⟨(hf b hb).2.2.2.1,(hf b hb).2.1,(hf b hb).2.2.2.2.1,(hf b hb).2.2.2.2.2⟩
theorem zhI {pins:List (Addr × Obj)} {σ:St} {H:Hp} {s:Shared} {Q:VK} {it:Addr} {fp:List Addr} {tn:Nat→Heap→Prop} {J:It} {cl:List (Str × Addr)} {RR:Value→Addr→Result→Shared→Prop} {E:Value→Shared→Prop}
    (B:CompOk X scope N' ix n tg elt ifs g tc te) (hc:X.calm=true) (I:Inv X pins σ H s) (T:Turn X.prog X.w X.K tg J fp it tn) (st:tn 0 s.heap) (hf:∀ b ∈ fp,FpOk X pins H b)
    (hcl:∀ x c,cl.lookup x=some c→X.env.cells.lookup x=some c) (hcf:∀ y ∈ scope.names,y.2 = .free→cl.lookup y.1=X.env.cells.lookup y.1)
    (body:∀ D,H D=none→zmu D J g tc te Q (zbQ σ ix n) (upd H D (.lst [])))
    (hRR:∀ D C H' s' m,Inv X pins σ H' s'→s'.heap.Ns C m→FpOk X pins H' C→Q (.ref D) H'→RR (.ref D) C (.ok .next) s') :
    wpAny (model X.prog X.w) X.A (newList []) (fun acc s₃=>wpAny (model X.prog X.w) X.A (newFunctionEnv scope X.env.globals cl [] X.env.qual none .none (some X.env)) (fun cenv s₄ =>
      codeAny (model X.prog X.w) X.A (.compStart (.ListComp elt [⟨tg,iter,ifs,0⟩] scope pos) 0 (.ref it) acc { cenv with scope:=relabel scope X.env }) (RR acc cenv.locals) s₄) E s₃) E s:=by
  refine wpAny_newObj_type (zg0 ?_)
  dsimp only
  generalize hH2:s.heap.push { cls:=.type "list",dict:=none,data:=.seq ([]:List Value).toArray }=H2
  have hC:H2.objs.size=s.heap.objs.size + 1:=by rw [← hH2,Heap.size_push]
  obtain ⟨cs,ecs⟩:∃ cs,cs=cellsFrom (H2.objs.size + 1) scope.names cl:=⟨_,rfl⟩
  rw [← ecs]
  obtain ⟨h₁,eh⟩:∃ h₁,h₁=pushCells (H2.push { cls:=.type "dict",data:=.dict #[] }) scope.names:=⟨_,rfl⟩
  rw [← eh]
  have kp:∀ b o,H2.get? b=some o→h₁.get? b=some o:=fun b o e=>by rw [eh]; exact pushCells_keeps _ _ b o (Heap.get?_push_of_some _ e)
  have hns₁:h₁.Ns H2.objs.size fun _=>none:=by rw [eh]; exact (Heap.Ns.new H2 (.type "dict")).keeps (pushCells_keeps _ _)
  have below:∀ b,b < s.heap.objs.size→b ≠ H2.objs.size:=fun b hb=>by rw [hC]; exact Nat.ne_of_lt (Nat.lt_succ_of_lt hb)
  have old:∀ b o,s.heap.get? b=some o→h₁.get? b=some o:=fun b o e=>kp b o (hH2 ▸ Heap.get?_push_of_some _ e)
  have hacc:h₁.get? s.heap.objs.size=some { cls:=.type "list",data:=.seq #[] 0 }:=kp _ _ (hH2 ▸ Heap.get?_push_size _ rfl)
  have clt:∀ x c,cl.lookup x=some c→c < s.heap.objs.size:=fun x c e=>by
    obtain ⟨v,o,ho,_⟩:=I.cell x c (hcl x c e)
    exact Heap.lt_size ho
  have own:∀ x c,(x,NameKind.cell) ∈ scope.names→cs.lookup x=some c→s.heap.objs.size + 1 < c:=fun x c h e=>by
    rw [ecs] at e
    have:=zck scope.names _ cl h e fun _ _=>.inr trivial
    omega
  have hcl2:∀ x c,cs.lookup x=some c→X.env.cells.lookup x=some c∨(s.heap.objs.size + 1 < c∧∃ v,h₁.IsCell c v):=fun x c e=>by
    by_cases hx:(x,NameKind.cell) ∈ scope.names
    · refine .inr ⟨own x c hx e,none,?_⟩
      have okc:=cellsFrom_ok scope.names (H2.push { cls:=.type "dict",data:=.dict #[] }) 0 [] ⟨fun _ _ hm=>(nomatch hm),List.Pairwise.nil⟩ (Nat.zero_le _)
      have e2:(cellsFrom (H2.objs.size + 1) scope.names []).lookup x=some c:=by
        have gen:∀ (names:List (Str × NameKind)) (n:Nat) (acc:List (Str × Addr)),(x,NameKind.cell) ∈ names→(cellsFrom n names acc).lookup x=(cellsFrom n names []).lookup x:=by
          have gen2:∀ (names:List (Str × NameKind)) (n:Nat) (acc acc':List (Str × Addr)),(x,NameKind.cell) ∈ names∨acc.lookup x=acc'.lookup x→(cellsFrom n names acc).lookup x=(cellsFrom n names acc').lookup x:=by
            intro names
            induction names with
            | nil=>intro n acc acc' h; exact h.elim (fun z=>by cases z) id
            | cons p r ih =>
              intro n acc acc' h
              obtain ⟨y,k⟩:=p
              unfold cellsFrom
              split
              · rename_i hk
                have hk':k = .cell:=by simpa using hk
                subst hk'
                refine ih _ _ _ ?_
                by_cases exy:x=y
                · subst exy; exact .inr (by simp only [List.lookup_cons,beq_self_eq_true])
                · rcases h with z | z
                  · rcases List.mem_cons.mp z with w | w
                    · cases w; exact absurd rfl exy
                    · exact .inl w
                  · exact .inr (by simp only [List.lookup_cons,show (x == y)=false by simpa using exy]; exact z)
              · rename_i hk
                refine ih _ _ _ ?_
                rcases h with z | z
                · rcases List.mem_cons.mp z with w | w
                  · cases w; exact absurd rfl hk
                  · exact .inl w
                · exact .inr z
          exact fun names n acc h=>gen2 names n acc [] (.inl h)
        rw [← gen scope.names _ cl hx,← ecs]; exact e
      rw [Heap.size_push] at okc
      rw [eh]
      exact (okc.empty x c (PySem.mem_of_lookup e2)).1
    · rw [ecs,zbF _ _ _ hx] at e
      exact .inl (hcl x c e)
  have hcf2:∀ y ∈ scope.names,y.2 = .free→cs.lookup y.1=X.env.cells.lookup y.1:=fun y hy hf=>by
    rw [ecs,zbF _ _ _ (B.nocell y hy hf)]
    exact hcf y hy hf
  have hinj:∀ x y c,cs.lookup x=some c→cs.lookup y=some c→x=y:=by
    rw [ecs]
    exact zcn scope.names _ cl (fun x c e=>Nat.lt_of_lt_of_le (clt x c e) (by rw [hC]; omega)) fun x y c e1 e2=>I.ok.inj x y c (hcl x c e1) (hcl y c e2)
  have hown:∀ x,scope.names.lookup x=some .cell→∃ c,cs.lookup x=some c:=fun x h=>by
    rw [ecs]
    exact Option.isSome_iff_exists.mp (PySem.W.cellsFrom_some scope.names _ cl (.inl h))
  have hnew:∀ x c,scope.names.lookup x=some .cell→cs.lookup x=some c→s.heap.objs.size + 1 < c:=fun x c h e=>own x c (PySem.mem_of_lookup h) e
  have cne:∀ b,b < s.heap.objs.size→(∀ x c,X.env.cells.lookup x=some c→c ≠ b)→∀ x c,cs.lookup x=some c→c ≠ b:=fun b hb hold x c e z=>by
    rcases hcl2 x c e with w | ⟨w,_⟩
    · exact hold x c w z
    · rw [z] at w; exact Nat.lt_irrefl _ (Nat.lt_trans (Nat.lt_trans (Nat.lt_succ_self _) w) hb)
  have hfo:∀ b ∈ fp,∃ o,s.heap.get? b=some o:=fun b hb=>let ⟨o,e,_⟩:=T.obj 0 _ st b hb; ⟨o,e⟩
  have st1:tn 0 h₁:=T.keep 0 _ _ st fun b _ o e=>old b o e
  have hD0:H s.heap.objs.size=none:=I.hok.fresh (Nat.le_refl _)
  obtain ⟨W,⟨m0,w0⟩,turn⟩:=body _ hD0
  have J0:Inv (X.comp scope cs H2.objs.size N' s H fp pins) [] (zbQ σ ix n) (upd H s.heap.objs.size (.lst [])) { s with heap:=h₁ }:=by
    rw [hC] at hns₁ ⊢
    exact zhU (tk:=s.toks) B I hf hfo hcl2 hcf2 hinj hown hnew old hacc hns₁
  have fpOk:∀ {H':Hp},(∀ b ∈ fp,H' b=none)→∀ b ∈ fp,FpOk (X.comp scope cs H2.objs.size N' s H fp pins) [] H' b:=fun hn b hb=>by
    obtain ⟨f0,f1,f2,f3,f4,f5⟩:=hf b hb
    obtain ⟨o,e⟩:=hfo b hb
    refine ⟨hn b hb,below b (Heap.lt_size e),fun z=>?_,.inl hb,cne b (Heap.lt_size e) f4,fun p hp=>f5 p ?_⟩
    · rcases List.mem_cons.mp (I.stkSub b z) with q | q
      · exact f1 q
      · exact f2 q
    · rw [List.append_nil] at hp
      exact hp
  have fp0:∀ b ∈ fp,upd H s.heap.objs.size (.lst []) b=none:=fun b hb=>by
    obtain ⟨o,e⟩:=hfo b hb
    rw [zaf (Nat.ne_of_lt (Heap.lt_size e))]
    exact (hf b hb).1
  have loop:∀ s₃:Shared,s₃ = { s with heap:=h₁ } →
      codeAny (model X.prog X.w) X.A (.compLoop (.ListComp elt [⟨tg,iter,ifs,0⟩] scope pos) 0 (.ref it) (.ref s.heap.objs.size) (compEnvC scope cs H2.objs.size X.env)) (RR (.ref s.heap.objs.size) H2.objs.size) s₃:=by
    rintro s₃ rfl
    refine zgs (fun k s'=>∃ i ys σ2 H3,Inv (X.comp scope cs H2.objs.size N' s H fp pins) [] σ2 H3 s'∧tn i s'.heap∧(∀ b ∈ fp,H3 b=none)∧W i k ys σ2 H3) ?_ m0 ⟨0,[],_,_,J0,st1,fp0,w0⟩
    rintro k s3 ⟨i,ys,σ3,H3,I3,st3,fr3,w3⟩
    obtain ⟨hD3,alt⟩:=turn i k ys σ3 H3 w3
    rcases alt with ⟨stop,q⟩ | ⟨go,N,hN,step⟩
    · refine thn (T.done (X.comp scope cs H2.objs.size N' s H fp pins) rfl rfl rfl hc i [] s3 σ3 H3 _ I3 (fpOk fr3) st3 stop) fun r s4 ⟨hr,I4⟩=>?_
      subst hr
      obtain ⟨m4,hn4,_⟩:=I4.loc
      refine hRR _ _ H3 s4 m4 (zjo I hf I4) hn4 ⟨I4.free,fun z=>?_,fun z=>?_,.inr (Nat.le_trans I.sz (by omega)),fun x c e z=>?_,fun p hp z=>?_⟩ q
      · have lt:=I.lt
        rw [← z,hC] at lt
        exact absurd lt (Nat.not_lt.mpr (Nat.le_succ _))
      · exact I.nofs (show s.heap.objs.size ≤ H2.objs.size by omega) z
      · obtain ⟨v,o,ho,_⟩:=I.cell x c e
        have lt:=Heap.lt_size ho
        rw [z,hC] at lt
        exact absurd lt (Nat.not_lt.mpr (Nat.le_succ _))
      · have lt:=Heap.lt_size (I.pin p hp).1
        rw [z,hC] at lt
        exact absurd lt (Nat.not_lt.mpr (Nat.le_succ _))
    · refine thn (T.item (X.comp scope cs H2.objs.size N' s H fp pins) rfl rfl rfl hc i [] s3 σ3 H3 _ I3 (fpOk fr3) st3 go) fun r s4 ⟨u,hr,h4⟩=>?_
      subst hr
      refine thn h4 fun _ s5 ⟨x,H5,I5,r5,y5,st5,fr5⟩=>?_
      have I5':=I5.pinned (fpOk fr5) (T.obj _ _ st5)
      have back:∀ {σ7:St} {H7:Hp} {s7:Shared} {ys':List V},Inv (X.comp scope cs H2.objs.size N' s H fp pins) ([] ++ ze5 fp s5.heap) σ7 H7 s7→N ys' σ7 H7 →
          ∃ m,m < k∧∃ i ys σ2 H3,Inv (X.comp scope cs H2.objs.size N' s H fp pins) [] σ2 H3 s7∧tn i s7.heap∧(∀ b ∈ fp,H3 b=none)∧W i m ys σ2 H3:=fun {σ7 H7 s7 ys'} I7 n7=>by
        obtain ⟨m',hm,w7⟩:=hN ys' σ7 H7 n7
        refine ⟨m',hm,i + 1,ys',σ7,H7,I7.unpinned,T.keep _ _ _ st5 fun b hb o e=>(I7.pin (b,o) (List.mem_append_right _ (List.mem_append_right _ (zca hb e)))).1,fun b hb=>?_,w7⟩
        obtain ⟨o,e,d⟩:=T.obj _ _ st5 b hb
        exact (I7.pin (b,o) (List.mem_append_right _ (List.mem_append_right _ (zca hb e)))).2.1
      refine thn (B.tgt cs H2.objs.size s H fp pins _ s5 σ3 H5 x u _ I5' r5 (step x H5 y5)) fun _ s6 ⟨σ6,H6,I6,q6⟩=>?_
      have fin:∀ (b:Bool) (s7:Shared),TP (X.comp scope cs H2.objs.size N' s H fp pins) ([] ++ ze5 fp s5.heap) σ6
          (fun b H4=>if b=true then te σ6 H4 fun y H5=>H5 s.heap.objs.size=some (.lst ys)∧ys.length < sizeLine∧N (ys ++ [y]) σ6 (upd H5 s.heap.objs.size (.lst (ys ++ [y]))) else N ys σ6 H4) b s7 →
          if b=true then wpAny (model X.prog X.w) X.A (eval elt (compEnvC scope cs H2.objs.size X.env)) (fun x s₄ =>
              wpAny (model X.prog X.w) X.A (call (.builtin "list.append") [.ref s.heap.objs.size,x]) (fun _ s₅=>∃ m,m < k∧∃ i ys σ2 H3,Inv (X.comp scope cs H2.objs.size N' s H fp pins) [] σ2 H3 s₅∧tn i s₅.heap∧(∀ b ∈ fp,H3 b=none)∧W i m ys σ2 H3) (fun _ _=>False) s₄) (fun _ _=>False) s7
            else ∃ m,m < k∧∃ i ys σ2 H3,Inv (X.comp scope cs H2.objs.size N' s H fp pins) [] σ2 H3 s7∧tn i s7.heap∧(∀ b ∈ fp,H3 b=none)∧W i m ys σ2 H3:=by
        rintro b s7 ⟨H7,I7,q7⟩
        cases b with
        | false =>
          rw [if_neg Bool.false_ne_true] at q7 ⊢
          exact back I7 q7
        | true =>
          rw [if_pos rfl] at q7 ⊢
          refine thn (B.elt cs H2.objs.size s H fp pins _ s7 σ6 H7 _ I7 q7) fun y s8 ⟨yv,H8,I8,r8,hD8,hz,n8⟩=>?_
          refine thn (zb9 _ s8 σ6 H8 (.ref s.heap.objs.size) [yv] (.ref s.heap.objs.size) [y] (fun _ H9=>N (ys ++ [yv]) σ6 H9) I8 rfl (.cons r8 .nil) ⟨_,ys,yv,rfl,rfl,hD8,hz,n8⟩) fun _ s9 ⟨_,H9,I9,_,n9⟩=>?_
          exact back I9 n9
      rcases B.test with ⟨e1,e2⟩ | ⟨c,t,e1,e2,ht⟩
      · subst e1; subst e2
        exact wpAny_tests_nil (fin true s6 ⟨H6,I6,q6⟩)
      · subst e1; subst e2
        exact wpAny_tests_one (thn (ht cs H2.objs.size s H fp pins _ s6 σ6 H6 _ I6 q6) fun b s7 z=>fin b s7 z)
  exact codeAny_compStart_list (loop _ rfl) (T.self X.A 0 _ _ _ st1 (loop _ rfl))
theorem zdG {wi:TI} (hc:X.calm=true) (hi:PI X tg iter wi) (B:CompOk X scope N' ix n tg elt ifs g tc te) (hs:∀ x,foldedSetIterable iter X.env x=pure x:=by intro _; rfl) :
    PE X (.ListComp elt [⟨tg,iter,ifs,0⟩] scope pos) (zha wi ix n g tc te):=by
  intro pins s σ H Q I h
  rw [eval_ListComp]
  obtain ⟨cl,hclos,hcl,hcf⟩:=zdu (scope:=scope) (env:=X.env) fun y hy hf=>I.ok.has _ (B.free y hy hf)
  refine wpAny_comprehension_free (use:=none) rfl hs hclos B.kind B.names (thn (hi pins s σ H _ I h) fun v s1 h1=>thn h1 fun itv s2 h2=>?_)
  obtain ⟨it,fp,tn,J,H2,rfl,I2,T,st2,f2,body⟩:=h2
  refine zhI (RR:=fun acc C=>compPost (model X.prog X.w) X.A X.xe none (EP X pins σ Q) acc C) B hc I2 T st2 f2 hcl hcf body fun D C H' s' m I' hn hC q=>⟨m,hn,fun h' hs'=>?_⟩
  obtain ⟨f0,f1,f2',f3,f4,f5⟩:=hC
  exact ⟨.ref D,H',I'.turned (t':=s'.toks) (fun b o hb e=>(hs'.2 b hb).trans e) f0 f1 f3 f4 f5,rfl,q⟩
theorem zfT {wi:TI} {i:Nat} {y:Str} {py spos:Pos} (hN:X.N.Nodup) (hiN:X.N[i]?=some y) (hy:Loc X.env.scope y) (hc:X.calm=true) (hi:PI X tg iter wi) (B:CompOk X scope N' ix n tg elt ifs g tc te)
    (hsw:swapsWith (.ListComp elt [⟨tg,iter,ifs,0⟩] scope pos) (some (.Name y py)) spos.line X.env=pure true) (hf:X.fn y=true∨X.env.scope.names.lookup y=some .local:=by first | exact .inl rfl | exact .inr rfl | assumption)
    (hs:∀ x,foldedSetIterable iter X.env x=pure x:=by intro _; rfl) :
    PS X (.Assign [.Name y py] (.ListComp elt [⟨tg,iter,ifs,0⟩] scope pos) spos) (tAsg (zha wi ix n g tc te) (zdE i)):=by
  intro pins s σ H D I h
  rw [exec_Assign_Name_used _ _ _ _ hsw]
  refine wpAny_bind (wpAny_standAt (wpAny_bind ?_))
  show wpAny _ X.A (do let _ ← comprehension (.ListComp elt [⟨tg,iter,ifs,0⟩] scope pos) scope X.env _ (newList []) false (eval iter X.env) (some (assign (.Name y py) X.env))) _ _ s
  obtain ⟨cl,hclos,hcl,hcf⟩:=zdu (scope:=scope) (env:=X.env) fun y hy hf=>I.ok.has _ (B.free y hy hf)
  refine wpAny_bind (wpAny_mono (wpAny_comprehension_free (use:=some (assign (.Name y py) X.env)) (Q:=fun _ s'=>SP X pins D .next s') rfl hs hclos B.kind B.names
    (thn (hi pins s σ H _ I h) fun v s1 h1=>thn h1 fun itv s2 h2=>?_)) (fun _ s' hq=>wpAny_pure (wpAny_pure hq)) fun _ _ e=>e)
  obtain ⟨it,fp,tn,J,H2,rfl,I2,T,st2,f2,body⟩:=h2
  refine zhI (Q:=fun x H1=>zdE i x σ H1 D.nx) (RR:=fun acc C=>compPost (model X.prog X.w) X.A X.xe (some (assign (.Name y py) X.env)) (fun _ s'=>SP X pins D .next s') acc C) B hc I2 T st2 f2 hcl hcf body fun D' C H' s' m I' hn hC q=>?_
  obtain ⟨f0,f1,f2',f3,f4,f5⟩:=hC
  have Ip := I'.pinned (fp := [C]) (fun b hb => by have e : b = C := by simpa using hb
                                                   subst e; exact ⟨f0,f1,f2',f3,f4,f5⟩) (fun b hb=>by
    have e:b=C:=by simpa using hb
    subst e
    obtain ⟨o,es,ep,ho,hd,_⟩:=hn
    exact ⟨o,ho,fun v z=>by rw [hd] at z; cases z⟩)
  refine wpAny_assign_Name (zfy Ip hN hiN hy (v:=.ref D') rfl (fun s'' I''=>?_) hf)
  obtain ⟨o,es,ep,ho,hd,hr⟩:=hn
  have pinC:=I''.pin (C,o) (List.mem_append_right _ (List.mem_append_right _ (zca (by simp) ho)))
  refine ⟨m,⟨o,es,ep,pinC.1,hd,hr⟩,fun h' hs'=>?_⟩
  exact ⟨_,H',(I''.unpinned).turned (t':=s''.toks) (fun b o hb e=>(hs'.2 b hb).trans e) pinC.2.1 f1 f3 f4 f5,q⟩
end
end L2
namespace L2
open PySem PySem.Spec PyProof.Rows
section
variable {X:Cx} {scope:Scope} {tg elt:Expr} {ifs:List Expr} {g:TG} {tc:Option TT} {te:TE}
theorem zcX (osc:Scope) (oN N':List Str) (ix:List Nat) (n:Nat) (hosc:X.env.scope=osc) (hoN:X.N=oN) (kind:scope.kind = .function) (nocell:(scope.names.all fun y=>y.2 != .free || scope.names.all fun z=>!(z.1 == y.1) || z.2 != .cell)=true) (names:∀ y ∈ scope.names,y.2 = .local→scope.names.lookup y.1=some .local)
    (free:(scope.names.all fun y=>y.2 != .free || (osc.names.lookup y.1 == some .cell || osc.names.lookup y.1 == some .free))=true) (len:ix.length + n=N'.length)
    (take:((List.range ix.length).all fun j=>match N'[j]?,oN[ix.getD j 0]? with | some x,some y=>x == y && scope.names.lookup x == some .free | _,_=>false)=true)
    (tgt:∀ (cl:List (Str × Addr)) (C:Addr) (s:Shared) (H:Hp) (fp:List Addr) (pins:List (Addr × Obj)),PG (X.comp scope cl C N' s H fp pins) tg g)
    (elt':∀ (cl:List (Str × Addr)) (C:Addr) (s:Shared) (H:Hp) (fp:List Addr) (pins:List (Addr × Obj)),PE (X.comp scope cl C N' s H fp pins) elt te)
    (test:(ifs = []∧tc=none)∨∃ c t,ifs = [c]∧tc=some t∧∀ (cl:List (Str × Addr)) (C:Addr) (s:Shared) (H:Hp) (fp:List Addr) (pins:List (Addr × Obj)),PT (X.comp scope cl C N' s H fp pins) c t) :
    CompOk X scope N' ix n tg elt ifs g tc te :=
  ⟨kind,fun y hy e hc=>by
    have z:=List.all_eq_true.mp nocell y hy
    rw [e] at z
    have z2:(scope.names.all fun w=>!(w.1 == y.1) || w.2 != .cell)=true:=by simpa using z
    have z3:=List.all_eq_true.mp z2 _ hc
    simp at z3,names,fun y hy e=>by
    have z:=List.all_eq_true.mp free y hy
    rw [e] at z
    have z':(osc.names.lookup y.1 == some .cell || osc.names.lookup y.1 == some .free)=true:=by simpa using z
    show X.env.scope.names.lookup y.1=_∨X.env.scope.names.lookup y.1=_
    rw [hosc]
    simpa using z',len,fun j i e=>by
    obtain ⟨hj,_⟩:=List.getElem?_eq_some_iff.mp e
    have e2:ix.getD j 0=i:=by
      rw [List.getD_eq_getElem?_getD,e]
      rfl
    have z:=List.all_eq_true.mp take j (List.mem_range.mpr hj)
    rw [e2] at z
    cases h1:N'[j]? with
    | none=>rw [h1] at z; cases z
    | some x =>
      cases h2:oN[i]? with
      | none=>rw [h1,h2] at z; cases z
      | some y =>
        rw [h1,h2] at z
        have z':x=y∧scope.names.lookup x=some .free:=by simpa using z
        obtain ⟨rfl,z2⟩:=z'
        exact ⟨x,rfl,by rw [hoN]; exact h2,z2⟩,tgt,elt',test⟩
end
structure Has (P:Program) (w:World) (K:PySem.W.Frag) (mg:Str→Option Value) (base:Heap) (CX:CXT) (k:Nat) (x:Str) (ps:List Str) (sp:Sp):Prop where
  ex:∃ (f:Addr) (fd:FuncData),FnOk P w K mg base CX k f fd ps sp∧mg x=some (.ref f)∧PySem.W.keepIn K (.ref f)=true∧Binds K fd ps []
section
variable {X:Cx} {CX:CXT} {k:Nat} {x:Str} {ps:List Str} {sp:Sp} {E:XK} {p pos:Pos} {e:Expr} {es:List Expr} {t:TA}
theorem za7 (G:Has X.prog X.w X.K X.mg X.base CX k x ps sp) (hr:Room k X.A) (hg:Gl X x) (hx:zdB CX X E)
    (ha:PA X (e :: es) t) (hdb:(x == ("__debug__" : Str))=false:=by decide) (he:starEach (e :: es) X.env=(false,eval e X.env) :: starEach es X.env:=by rfl) (hpl:(backTo pos (starEach es X.env)).any (·.1)=false:=by rfl) :
    PE X (.Call (.Name x p) (e :: es) [] pos) (zh9 sp [] E t):=by
  obtain ⟨f,fd,F,hm,hk,hb⟩:=G.ex
  exact zlw F hr hg hm hk hb .nil hx ha hdb he hpl
end
structure DefAt (K:PySem.W.Frag) (x:Str) (st:Stmt) (f:Addr) (fd:FuncData):Prop where
  ns:PySem.W.nsIn K mainGlobals x=some (some (.ref f))
  fn:Fun K x x st f fd
theorem defAt_mk {K:PySem.W.Frag} {x:Str} {st:Stmt} {f:Addr} {oc:Value} {od an:Option Addr} {osl:Array (Option Value)} {kV doc pm cdv ct:Value} (a:PySem.W.nsIn K mainGlobals x=some (some (.ref f)))
    (l:K.lookup f=some ⟨oc,od,.func (PySem.W.fnOf x x (zcI st) (zch st) (zaq st) .none kV doc pm an cdv ct),osl⟩) (c:PySem.W.codeIn K cdv x=true) (k:PySem.W.keepIn K (.ref f)=true):∃ f fd,DefAt K x st f fd :=
  ⟨f,_,a,zi6 l c k⟩
theorem DefAt.has {P:Program} {w:World} {K:PySem.W.Frag} {mg:Str→Option Value} {base h:Heap} {CX:CXT} {k:Nat} {x:Str} {st:Stmt} {f:Addr} {fd:FuncData} {ps:List Str} {sp:Sp} (D:DefAt K x st f fd) (X:K.In h) (G:h.Ns mainGlobals mg)
    (ok:FnOk P w K mg base CX k f fd ps sp) (b:Binds K fd ps []):Has P w K mg base CX k x ps sp:=⟨f,fd,ok,PySem.W.mg_of X G D.ns,D.fn.kp,b⟩
theorem zmV {H:Hp} {a b:Addr} {o u:HO} (hn:H b=none) (h:H a=some o):upd H b u a=some o:=(zaf (zan h hn)).trans h
theorem Same.upd {H:Hp} {b:Addr} {u:HO} (hn:H b=none):Same H (upd H b u):=fun _ _ h=>zmV hn h
end L2
namespace L2
open PySem PySem.Spec PyProof.Rows
section
variable {X:Cx} {pos:Pos}
end
end L2
namespace L2
open PySem PySem.Spec PyProof.Rows
theorem kit_self {K:PySem.W.Frag} {T:String}:PySem.W.kitOne K (.type T) (.type T)=some true:=by
  unfold PySem.W.kitOne
  rw [if_pos (by simp)]
theorem kit_no {K:PySem.W.Frag} {S T:String} (h1:((Value.type S) == (Value.type T))=false) (h2:PySem.W.kitMeta T=true) (h3:(PySem.fastBuiltinMro S).map (·.contains (.type T))=some false):PySem.W.kitOne K (.type S) (.type T)=some false:=by
  unfold PySem.W.kitOne
  rw [h1,if_neg Bool.false_ne_true]
  show (if PySem.W.kitMeta T=true then PySem.W.subIn K (.type S) (.type T) else none)=some false
  rw [if_pos h2]
  exact h3
theorem kit_int_bool {K:PySem.W.Frag}:PySem.W.kitOne K (.type "int") (.type "bool")=some false:=kit_no (by decide +kernel) (by decide +kernel) (by decide +kernel)
end L2
namespace L2
open PySem PySem.Spec PyProof.Rows
structure Tr (h:Heap) (e T:Addr) (cls:Value) (dct:Option Addr) (fl:Value):Prop where
  ex:∃ (oe:Obj) (vs:Array Value) (oT:Obj) (ts:Array Value),h.get? e=some oe∧oe.cls=cls∧oe.dict=dct∧oe.data = .fields vs∧vs[1]?=some (.ref T)∧h.get? T=some oT∧oT.data = .fields ts∧ts[3]?=some fl
  ne:T ≠ e
section
variable {M:Model} {A:Around} {E:Value→Shared→Prop} {s:Shared} {B:Heap} {env:Env} {outer l:List Env} {L e:Addr} {cls:Value} {dct:Option Addr} {Q:Unit→Shared→Prop}
end
end L2
namespace L2
open PySem PySem.Spec PyProof.Rows
section
variable {P:Program} {w:World} {K:PySem.W.Frag} {mg:Str→Option Value} {base:Heap} {N:List Str} {qual:Str} {scope:Scope} {f:Addr} {cd:Value} {A:Around} {outer:List Env} {s0:Shared} {H0:Hp} {E:XK}
end
section
variable {X:Cx} {x:Str} {np cpos pos:Pos} {e₀:Expr} {rest:List Expr} {C:Addr} {bmB bmN:List Value} {newId Bn B nid inN initId:String} {E:St→XK} {t:TA}
end
section
variable {X:Cx} {CX:CXT} {k:Nat} {x:Str} {ps:List Str} {sp:Sp} {E:St→XK} {p pos:Pos} {e:Expr} {es:List Expr} {t:TA}
end
def excO (C:Addr) (dct:Option Addr) (ea:Addr):HO:=.ext fun h=>∃ ob,h.get? ea=some ob∧ob.cls = .ref C∧ob.dict=dct∧∃ vs,ob.data = .fields vs
section
variable {P:Program} {w:World} {X:Cx} {x n:Str} {np hpos pos:Pos} {body:List Stmt} {b₀:Stmt} {suite:List Stmt} {D':Addr} {tb:(St→XK)→TS} {th:TS} {i:Nat}
end
end L2
namespace L2
open PySem PySem.Spec PyProof.Rows
section
variable {X:Cx}
end
section
variable {P:Program} {w:World} {K:PySem.W.Frag} {mg:Str→Option Value} {base:Heap} {N:List Str} {qual:Str} {scope:Scope} {f:Addr} {cd:Value} {A:Around} {outer:List Env} {s0:Shared} {H0:Hp} {E:XK}
end
end L2
namespace PM
open PySem L2
inductive D where
  | non | bl (b:Bool) | int (i:Int) | str (x:Str) | tup (l:List D) | lst (l:List D) | dct (ks:List Key) (l:List D) | scr (l:List Int) | exc (c:Nat) | fd (ks:List Key) (l:List D) | obj (c:Nat) (ks:List Str) (l:List D)
structure Kx where
  f:W.Frag
  ca:Nat→Addr
  an:Nat→Str
def XA (K:Kx) (F:Hp) (c:Nat) (dct:Option Addr):Prop:=if c < 16 then dct=none else ∃ dx,dct=some dx∧F dx=some (.xd [(K.an c,.int (((c / 16:Nat):Int) - 1))])
section
variable (K:Kx)
mutual
def Rep (F:Hp):D→V→Prop
  | .non,v=>v = .non
  | .bl b,v=>v = .bl b
  | .int i,v=>v = .int i
  | .str x,v=>v = .str x
  | .scr l,v=>∃ a,v = .ref a∧SqL K.f F a (l.map V.int)
  | .exc c,v=>∃ a dct,v = .ref a∧F a=some (excO (K.ca c) dct a)∧XA K F c dct
  | .tup l,v=>∃ a vs,v = .ref a∧F a=some (.tup vs)∧RepL F l vs
  | .fd ks l,v=>∃ a o kvs,v = .ref a∧F a=some (.frz o (.dK kvs))∧kvs.map (·.1)=ks∧RepL F l (kvs.map (·.2))
  | .obj c ks l,v=>∃ a dx fs,v = .ref a∧F a=some (.ins (K.ca c) dx fs)∧fs.map (·.1)=ks∧RepL F l (fs.map (·.2))
  | .lst l,v=>∃ a vs,v = .ref a∧Rd F a (.lst vs)∧RepL F l vs
  | .dct ks l,v=>∃ a kvs,v = .ref a∧F a=some (.dK kvs)∧kvs.map (·.1)=ks∧RepL F l (kvs.map (·.2))
def RepL (F:Hp):List D→List V→Prop
  | [],vs=>vs = []
  | d :: l,vs=>∃ v r,vs=v :: r∧Rep F d v∧RepL F l r
end
end
def ifC {α:Type} (p:Prop) (a b:α):α:=@ite α p (Classical.propDecidable p) a b
@[simp] theorem zaU {α:Type} {p:Prop} {a b:α} (h:p):ifC p a b=a:=if_pos h
theorem zme {α:Type} {p:Prop} {a b:α} (h:¬ p):ifC p a b=b:=if_neg h
structure Xc where
  c:Nat
inductive R (α:Type) where
  | no | ok (a:α) | ex (x:Xc)
namespace R
def bind {α β:Type}:R α→(α→R β)→R β
  | .no,_=>.no
  | .ok a,f=>f a
  | .ex x,_=>.ex x
@[simp] theorem bind_ok {α β:Type} (a:α) (f:α→R β):(R.ok a).bind f=f a:=rfl
@[simp] theorem znp {α β:Type} (f:α→R β):(R.no:R α).bind f = .no:=rfl
@[simp] theorem znF {α β:Type} (x:Xc) (f:α→R β):(R.ex x:R α).bind f = .ex x:=rfl
end R
inductive Tr where
  | d (x:D) | l (ts:List Tr) | t (ts:List Tr)
mutual
def trD:Tr→D
  | .d x=>x
  | .l ts=>.lst (trDL ts)
  | .t ts=>.tup (trDL ts)
def trDL:List Tr→List D
  | []=>[]
  | t :: ts=>trD t :: trDL ts
end
inductive Sl where
  | no | v (d:D) | o (d:D) | l (d:D) | p (T:Tr)
abbrev En:=List Sl
inductive O where
  | no | nx (δ:En) | rt (d:D) | ro (d:D) | bk (δ:En) | ct (δ:En) | ex (δ:En) (x:Xc)
structure Ext (F H F' H':Hp):Prop where
  ff:Same F F'
  hh:Same H H'
  fh:Same F' H'
  nw:∀ p o,F p=none→H p=some o→F' p=none
theorem Ext.refl {F H:Hp} (s:Same F H):Ext F H F H:=⟨.refl _,.refl _,s,fun _ _ h _=>h⟩
theorem Ext.trans {F H F1 H1 F2 H2:Hp} (a:Ext F H F1 H1) (b:Ext F1 H1 F2 H2):Ext F H F2 H2 :=
  ⟨a.ff.trans b.ff,a.hh.trans b.hh,b.fh,fun p o h1 h2=>b.nw p o (a.nw p o h1 h2) (a.hh p o h2)⟩
theorem Ext.new {F H:Hp} {p:Addr} {o:HO} (s:Same F H) (h:H p=none):Ext F H (upd F p o) (upd H p o):=by
  have hf:=s.free h
  refine ⟨Same.upd hf,Same.upd h,fun b u q=>?_,fun q u h1 h2=>?_⟩
  · by_cases e:b=p
    · subst e; rw [zah] at q ⊢; exact q
    · rw [zaf e] at q ⊢; exact s _ _ q
  · rw [zaf (zan h2 h)]; exact h1
theorem Ext.newO {F H:Hp} {p:Addr} {o:HO} (s:Same F H) (h:H p=none):Ext F H F (upd H p o):=by
  refine ⟨.refl _,Same.upd h,s.trans (Same.upd h),fun q u h1 h2=>h1⟩
theorem Same.rd {H H':Hp} {a:Addr} {u:HO} (e:Same H H') (h:Rd H a u):Rd H' a u:=h.elim (fun h=>.inl (e _ _ h)) fun ⟨o,h⟩=>.inr ⟨o,e _ _ h⟩
section
variable {K:Kx} {F F' H H':Hp}
theorem XA.mono {c:Nat} {dct:Option Addr} (h:XA K F c dct) (e:Same F F'):XA K F' c dct:=by
  unfold XA at h ⊢
  split
  · rename_i hc; rw [if_pos hc] at h; exact h
  · rename_i hc
    rw [if_neg hc] at h
    obtain ⟨dx,h1,h2⟩:=h
    exact ⟨dx,h1,e _ _ h2⟩
mutual
theorem Rep.mono (e:Same F F'):∀ (d:D) {v:V},Rep K F d v→Rep K F' d v
  | .non,v,h=>by simpa only [Rep] using h
  | .bl b,v,h=>by simpa only [Rep] using h
  | .int b,v,h=>by simpa only [Rep] using h
  | .str b,v,h=>by simpa only [Rep] using h
  | .exc c,v,h=>by
    simp only [Rep] at h ⊢
    obtain ⟨a,dct,h1,h2,h3⟩:=h
    exact ⟨a,dct,h1,e _ _ h2,h3.mono e⟩
  | .fd ks l,v,h=>by
    simp only [Rep] at h ⊢
    obtain ⟨a,o,vs,h1,h2,h0,h3⟩:=h
    exact ⟨a,o,vs,h1,e _ _ h2,h0,RepL.mono e l h3⟩
  | .obj c ks l,v,h=>by
    simp only [Rep] at h ⊢
    obtain ⟨a,o,vs,h1,h2,h0,h3⟩:=h
    exact ⟨a,o,vs,h1,e _ _ h2,h0,RepL.mono e l h3⟩
  | .scr l,v,h=>by
    simp only [Rep] at h ⊢
    obtain ⟨a,h1,h2⟩:=h
    exact ⟨a,h1,e.seq h2⟩
  | .tup l,v,h=>by
    simp only [Rep] at h ⊢
    obtain ⟨a,vs,h1,h2,h3⟩:=h
    exact ⟨a,vs,h1,e _ _ h2,RepL.mono e l h3⟩
  | .lst l,v,h=>by
    simp only [Rep] at h ⊢
    obtain ⟨a,vs,h1,h2,h3⟩:=h
    exact ⟨a,vs,h1,PM.Same.rd e h2,RepL.mono e l h3⟩
  | .dct ks l,v,h=>by
    simp only [Rep] at h ⊢
    obtain ⟨a,vs,h1,h2,h0,h3⟩:=h
    exact ⟨a,vs,h1,e _ _ h2,h0,RepL.mono e l h3⟩
theorem RepL.mono (e:Same F F'):∀ (l:List D) {vs:List V},RepL K F l vs→RepL K F' l vs
  | [],vs,h=>by simpa only [RepL] using h
  | d :: l,vs,h=>by
    simp only [RepL] at h ⊢
    obtain ⟨v,r,h1,h2,h3⟩:=h
    exact ⟨v,r,h1,Rep.mono e d h2,RepL.mono e l h3⟩
end
theorem RepL.length:∀ {l:List D} {vs:List V},RepL K F l vs→vs.length=l.length
  | [],vs,h=>by simp only [RepL] at h; subst h; rfl
  | d :: l,vs,h=>by
    simp only [RepL] at h
    obtain ⟨v,r,rfl,_,h3⟩:=h
    simp [RepL.length h3]
theorem RepL.get:∀ {l:List D} {vs:List V} {i:Nat} {d:D},RepL K F l vs→l[i]?=some d→∃ v,vs[i]?=some v∧Rep K F d v
  | [],vs,i,d,h,e=>by simp at e
  | x :: l,vs,0,d,h,e=>by
    simp only [RepL] at h
    obtain ⟨v,r,rfl,h2,h3⟩:=h
    simp at e; subst e
    exact ⟨v,rfl,h2⟩
  | x :: l,vs,i + 1,d,h,e=>by
    simp only [RepL] at h
    obtain ⟨v,r,rfl,h2,h3⟩:=h
    obtain ⟨u,h4,h5⟩:=RepL.get h3 (i:=i) (d:=d) (by simpa using e)
    exact ⟨u,by simpa using h4,h5⟩
theorem RepL.nil:RepL K F [] []:=by simp only [RepL]
theorem RepL.cons {d:D} {l:List D} {v:V} {vs:List V} (h1:Rep K F d v) (h2:RepL K F l vs):RepL K F (d :: l) (v :: vs):=by
  simp only [RepL]; exact ⟨v,vs,rfl,h1,h2⟩
theorem RepL.append:∀ {l:List D} {vs:List V} {l':List D} {vs':List V},RepL K F l vs→RepL K F l' vs'→RepL K F (l ++ l') (vs ++ vs')
  | [],vs,l',vs',h,h'=>by simp only [RepL] at h; subst h; exact h'
  | d :: l,vs,l',vs',h,h'=>by
    simp only [RepL] at h
    obtain ⟨v,r,rfl,h2,h3⟩:=h
    exact .cons h2 (RepL.append h3 h')
theorem RepL.drop:∀ {l:List D} {vs:List V} (n:Nat),RepL K F l vs→RepL K F (l.drop n) (vs.drop n)
  | l,vs,0,h=>h
  | [],vs,n + 1,h=>by simp only [RepL] at h; subst h; exact .nil
  | d :: l,vs,n + 1,h=>by
    simp only [RepL] at h
    obtain ⟨v,r,rfl,h2,h3⟩:=h
    exact RepL.drop n h3
theorem RepL.take:∀ {l:List D} {vs:List V} (n:Nat),RepL K F l vs→RepL K F (l.take n) (vs.take n)
  | l,vs,0,h=>by simpa using RepL.nil
  | [],vs,n + 1,h=>by simp only [RepL] at h; subst h; exact .nil
  | d :: l,vs,n + 1,h=>by
    simp only [RepL] at h
    obtain ⟨v,r,rfl,h2,h3⟩:=h
    exact .cons h2 (RepL.take n h3)
theorem RepL.ints {ns:List Int}:RepL K F (ns.map .int) (ns.map .int):=by
  induction ns with
  | nil=>exact .nil
  | cons a l ih=>exact .cons rfl ih
end
section
variable (K:Kx)
def Top (F H:Hp):D→V→Prop
  | .lst l,v=>∃ a vs,v = .ref a∧Rd H a (.lst vs)∧RepL K F l vs
  | .dct ks l,v=>∃ a kvs,v = .ref a∧H a=some (.dK kvs)∧kvs.map (·.1)=ks∧RepL K F l (kvs.map (·.2))
  | .obj c ks l,v=>∃ a dx fs,v = .ref a∧H a=some (.ins (K.ca c) dx fs)∧fs.map (·.1)=ks∧RepL K F l (fs.map (·.2))
  | d,v=>Rep K F d v
def Own (F H:Hp):D→Addr→Prop
  | .lst l,a=>∃ vs,H a=some (.lst vs)∧RepL K F l vs
  | .dct ks l,a=>∃ kvs,H a=some (.dK kvs)∧kvs.map (·.1)=ks∧RepL K F l (kvs.map (·.2))
  | .obj c ks l,a=>∃ dx fs,H a=some (.ins (K.ca c) dx fs)∧fs.map (·.1)=ks∧RepL K F l (fs.map (·.2))
  | _,_=>False
mutual
def TrOk (F H:Hp):Tr→V→List Addr→Prop
  | .d x,v,fp=>fp = []∧Rep K F x v
  | .l ts,v,fp=>∃ a vs fs,v = .ref a∧fp=a :: fs∧H a=some (.lst vs)∧TrOkL F H ts vs fs
  | .t ts,v,fp=>∃ a vs,v = .ref a∧F a=some (.tup vs)∧TrOkL F H ts vs fp
def TrOkL (F H:Hp):List Tr→List V→List Addr→Prop
  | [],vs,fp=>vs = []∧fp = []
  | t :: ts,vs,fp=>∃ v r f1 f2,vs=v :: r∧fp=f1 ++ f2∧TrOk F H t v f1∧TrOkL F H ts r f2
end
structure Tab (F H:Hp) (a:Addr) (bs:List Addr) (T:Tr):Prop where
  ok:TrOk K F H T (.ref a) (a :: bs)
  nd:(a :: bs).Nodup
def SlOk (H0 F H:Hp):Option Sl→Option (Option V)→Prop
  | some (.v d),s=>∃ u,s=some (some u)∧Rep K F d u
  | some (.o d),s=>∃ a,s=some (some (.ref a))∧H0 a=none∧F a=none∧Own K F H d a
  | some (.l d),s=>∃ a,s=some (some (.ref a))∧H0 a=none∧F a=none∧Own K F H d a
  | some (.p T),s=>∃ a bs,s=some (some (.ref a))∧Tab K F H a bs T∧∀ b ∈ a :: bs,H0 b=none∧F b=none
  | _,_=>True
end
def Sl.own:Option Sl→Bool
  | some (.o _)=>true
  | some (.l _)=>true
  | some (.p _)=>true
  | _=>false
structure EnvOk (K:Kx) (Λ:List (Nat × Addr × HO)) (F0 H0 F H:Hp) (σ:St) (δ:En):Prop where
  ext:Ext F0 H0 F H
  len:σ.length=δ.length
  slot:∀ i:Nat,SlOk K H0 F H δ[i]? σ[i]?
  dist:∀ (i j:Nat) (a:Addr),i ≠ j→Sl.own δ[i]?=true→Sl.own δ[j]?=true→σ[i]?=some (some (.ref a))→σ[j]?=some (some (.ref a))→False
  lent:∀ x ∈ Λ,(∃ d,δ[x.1]?=some (.l d))∧σ[x.1]?=some (some (.ref x.2.1))∧H x.2.1=some x.2.2
  tabs:∀ (i:Nat) (T:Tr),δ[i]?=some (.p T)→∃ a bs,σ[i]?=some (some (.ref a))∧Tab K F H a bs T∧(∀ b ∈ a :: bs,H0 b=none∧F b=none)∧(∀ (j:Nat) (b:Addr),j ≠ i→Sl.own δ[j]?=true→σ[j]?=some (some (.ref b))→b ∉ a :: bs)∧∀ (j:Nat) (T':Tr),δ[j]?=some (.p T')→j=i
section
variable {K:Kx} {Λ:List (Nat × Addr × HO)} {F0 H0 F H F' H' F1 H1:Hp} {σ:St} {δ:En}
theorem Own.mono (e1:Same F F') (e2:Same H H'):∀ {d:D} {a:Addr},Own K F H d a→Own K F' H' d a
  | .lst l,a,h=>let ⟨vs,h1,h2⟩:=h; ⟨vs,e2 _ _ h1,h2.mono e1⟩
  | .dct ks l,a,h=>let ⟨vs,h1,h0,h2⟩:=h; ⟨vs,e2 _ _ h1,h0,h2.mono e1⟩
  | .non,_,h=>h.elim
  | .bl _,_,h=>h.elim
  | .int _,_,h=>h.elim
  | .str _,_,h=>h.elim
  | .tup _,_,h=>h.elim
  | .scr _,_,h=>h.elim
  | .exc _,_,h=>h.elim
  | .fd _ _,_,h=>h.elim
  | .obj c ks l,a,h=>let ⟨dx,vs,h1,h0,h2⟩:=h; ⟨dx,vs,e2 _ _ h1,h0,h2.mono e1⟩
theorem Own.obj:∀ {d:D} {a:Addr},Own K F H d a→∃ o,H a=some o
  | .lst l,a,h=>let ⟨vs,h1,h2⟩:=h; ⟨_,h1⟩
  | .dct ks l,a,h=>let ⟨vs,h1,h2⟩:=h; ⟨_,h1⟩
  | .non,_,h=>h.elim
  | .bl _,_,h=>h.elim
  | .int _,_,h=>h.elim
  | .str _,_,h=>h.elim
  | .tup _,_,h=>h.elim
  | .scr _,_,h=>h.elim
  | .exc _,_,h=>h.elim
  | .fd _ _,_,h=>h.elim
  | .obj c ks l,a,h=>let ⟨dx,vs,h1,h2⟩:=h; ⟨_,h1⟩
theorem Own.at (e:H' a=H a):∀ {d:D},Own K F H d a→Own K F H' d a
  | .lst l,h=>let ⟨vs,h1,h2⟩:=h; ⟨vs,e.trans h1,h2⟩
  | .dct ks l,h=>let ⟨vs,h1,h0,h2⟩:=h; ⟨vs,e.trans h1,h0,h2⟩
  | .non,h=>h.elim
  | .bl _,h=>h.elim
  | .int _,h=>h.elim
  | .str _,h=>h.elim
  | .tup _,h=>h.elim
  | .scr _,h=>h.elim
  | .exc _,h=>h.elim
  | .fd _ _,h=>h.elim
  | .obj c ks l,h=>let ⟨dx,vs,h1,h0,h2⟩:=h; ⟨dx,vs,e.trans h1,h0,h2⟩
theorem Rep.top (s:Same F H):∀ {d:D} {v:V},Rep K F d v→Top K F H d v
  | .lst l,v,h=>by
    simp only [Rep] at h
    obtain ⟨a,vs,h1,h2,h3⟩:=h
    exact ⟨a,vs,h1,PM.Same.rd s h2,h3⟩
  | .dct ks l,v,h=>by
    simp only [Rep] at h
    obtain ⟨a,vs,h1,h2,h3⟩:=h
    exact ⟨a,vs,h1,s _ _ h2,h3⟩
  | .non,_,h=>h
  | .bl _,_,h=>h
  | .int _,_,h=>h
  | .str _,_,h=>h
  | .tup _,_,h=>h
  | .scr _,_,h=>h
  | .exc _,_,h=>h
  | .fd _ _,_,h=>h
  | .obj c ks l,v,h=>by
    simp only [Rep] at h
    obtain ⟨a,dx,vs,h1,h2,h3⟩:=h
    exact ⟨a,dx,vs,h1,s _ _ h2,h3⟩
theorem Own.top:∀ {d:D} {a:Addr},Own K F H d a→Top K F H d (.ref a)
  | .lst l,a,h=>let ⟨vs,h1,h2⟩:=h; ⟨a,vs,rfl,.inl h1,h2⟩
  | .dct ks l,a,h=>let ⟨vs,h1,h2⟩:=h; ⟨a,vs,rfl,h1,h2⟩
  | .non,_,h=>h.elim
  | .bl _,_,h=>h.elim
  | .int _,_,h=>h.elim
  | .str _,_,h=>h.elim
  | .tup _,_,h=>h.elim
  | .scr _,_,h=>h.elim
  | .exc _,_,h=>h.elim
  | .fd _ _,_,h=>h.elim
  | .obj c ks l,a,h=>let ⟨dx,vs,h1,h2⟩:=h; ⟨a,dx,vs,rfl,h1,h2⟩
theorem Top.mono (e1:Same F F') (e2:Same H H'):∀ {d:D} {v:V},Top K F H d v→Top K F' H' d v
  | .lst l,v,h=>let ⟨a,vs,h1,h2,h3⟩:=h; ⟨a,vs,h1,PM.Same.rd e2 h2,h3.mono e1⟩
  | .dct ks l,v,h=>let ⟨a,vs,h1,h2,h0,h3⟩:=h; ⟨a,vs,h1,e2 _ _ h2,h0,h3.mono e1⟩
  | .non,_,h=>h
  | .bl _,_,h=>h
  | .int _,_,h=>h
  | .str _,_,h=>h
  | .tup l,v,h=>Rep.mono e1 (.tup l) h
  | .scr l,v,h=>Rep.mono e1 (.scr l) h
  | .exc l,v,h=>Rep.mono e1 (.exc l) h
  | .fd ks l,v,h=>Rep.mono e1 (.fd ks l) h
  | .obj c ks l,v,h=>let ⟨a,dx,vs,h1,h2,h0,h3⟩:=h; ⟨a,dx,vs,h1,e2 _ _ h2,h0,h3.mono e1⟩
theorem Own.freeze {p:Addr} {d:D} (x:Ext F H F' H') (h0:F' p=none) (h1:H p=none) (o:Own K F' H' d p):∃ F'',Ext F H F'' H'∧Same F' F''∧Rep K F'' d (.ref p):=by
  obtain ⟨u,hu⟩:=o.obj
  have hs:Same F' (upd F' p u):=Same.upd h0
  refine ⟨upd F' p u,⟨x.ff.trans hs,x.hh,fun b w q=>?_,fun q w h2 h3=>?_⟩,hs,?_⟩
  · by_cases e:b=p
    · subst e; rw [zah] at q; cases q; exact hu
    · rw [zaf e] at q; exact x.fh _ _ q
  · rw [zaf (zan h3 h1)]; exact x.nw q w h2 h3
  · cases d with
    | lst l =>
      obtain ⟨vs,h2,h3⟩:=o
      rw [hu] at h2; cases h2
      simp only [Rep]
      exact ⟨p,vs,rfl,.inl zah,h3.mono hs⟩
    | dct ks l =>
      obtain ⟨vs,h2,h3,h4⟩:=o
      rw [hu] at h2; cases h2
      simp only [Rep]
      exact ⟨p,vs,rfl,zah,h3,h4.mono hs⟩
    | obj c ks l =>
      obtain ⟨dx,vs,h2,h3,h4⟩:=o
      rw [hu] at h2; cases h2
      simp only [Rep]
      exact ⟨p,dx,vs,rfl,zah,h3,h4.mono hs⟩
    | _=>exact o.elim
mutual
theorem TrOk.mono (e:Same F F') (e2:Same H H'):∀ (T:Tr) {v:V} {fp:List Addr},TrOk K F H T v fp→TrOk K F' H' T v fp
  | .d x,v,fp,h=>by
    simp only [TrOk] at h ⊢
    exact ⟨h.1,Rep.mono e x h.2⟩
  | .l ts,v,fp,h=>by
    simp only [TrOk] at h ⊢
    obtain ⟨a,vs,fs,h1,h2,h3,h4⟩:=h
    exact ⟨a,vs,fs,h1,h2,e2 _ _ h3,TrOkL.mono e e2 ts h4⟩
  | .t ts,v,fp,h=>by
    simp only [TrOk] at h ⊢
    obtain ⟨a,vs,h1,h3,h4⟩:=h
    exact ⟨a,vs,h1,e _ _ h3,TrOkL.mono e e2 ts h4⟩
theorem TrOkL.mono (e:Same F F') (e2:Same H H'):∀ (ts:List Tr) {vs:List V} {fp:List Addr},TrOkL K F H ts vs fp→TrOkL K F' H' ts vs fp
  | [],vs,fp,h=>by simpa only [TrOkL] using h
  | t :: ts,vs,fp,h=>by
    simp only [TrOkL] at h ⊢
    obtain ⟨v,r,f1,f2,h1,h2,h3,h4⟩:=h
    exact ⟨v,r,f1,f2,h1,h2,TrOk.mono e e2 t h3,TrOkL.mono e e2 ts h4⟩
end
mutual
theorem TrOk.obj:∀ (T:Tr) {v:V} {fp:List Addr},TrOk K F H T v fp→∀ b ∈ fp,∃ o,H b=some o
  | .d x,v,fp,h,b,hb=>by
    simp only [TrOk] at h
    rw [h.1] at hb; cases hb
  | .l ts,v,fp,h,b,hb=>by
    simp only [TrOk] at h
    obtain ⟨a,vs,fs,h1,h2,h3,h4⟩:=h
    rw [h2] at hb
    rcases List.mem_cons.mp hb with e | hb
    · subst e; exact ⟨_,h3⟩
    · exact TrOkL.obj ts h4 b hb
  | .t ts,v,fp,h,b,hb=>by
    simp only [TrOk] at h
    obtain ⟨a,vs,h1,h3,h4⟩:=h
    exact TrOkL.obj ts h4 b hb
theorem TrOkL.obj:∀ (ts:List Tr) {vs:List V} {fp:List Addr},TrOkL K F H ts vs fp→∀ b ∈ fp,∃ o,H b=some o
  | [],vs,fp,h,b,hb=>by
    simp only [TrOkL] at h
    rw [h.2] at hb; cases hb
  | t :: ts,vs,fp,h,b,hb=>by
    simp only [TrOkL] at h
    obtain ⟨v,r,f1,f2,h1,h2,h3,h4⟩:=h
    rw [h2] at hb
    rcases List.mem_append.mp hb with hb | hb
    · exact TrOk.obj t h3 b hb
    · exact TrOkL.obj ts h4 b hb
end
mutual
theorem TrOk.at':∀ (T:Tr) {v:V} {fp:List Addr},TrOk K F H T v fp→(∀ b ∈ fp,H' b=H b)→TrOk K F H' T v fp
  | .d x,v,fp,h,_=>by simpa only [TrOk] using h
  | .l ts,v,fp,h,e=>by
    simp only [TrOk] at h ⊢
    obtain ⟨a,vs,fs,h1,h2,h3,h4⟩:=h
    subst h2
    exact ⟨a,vs,fs,h1,rfl,(e a (by simp)).trans h3,TrOkL.at' ts h4 fun b hb=>e b (List.mem_cons_of_mem _ hb)⟩
  | .t ts,v,fp,h,e=>by
    simp only [TrOk] at h ⊢
    obtain ⟨a,vs,h1,h3,h4⟩:=h
    exact ⟨a,vs,h1,h3,TrOkL.at' ts h4 e⟩
theorem TrOkL.at':∀ (ts:List Tr) {vs:List V} {fp:List Addr},TrOkL K F H ts vs fp→(∀ b ∈ fp,H' b=H b)→TrOkL K F H' ts vs fp
  | [],vs,fp,h,_=>by simpa only [TrOkL] using h
  | t :: ts,vs,fp,h,e=>by
    simp only [TrOkL] at h ⊢
    obtain ⟨v,r,f1,f2,h1,h2,h3,h4⟩:=h
    subst h2
    exact ⟨v,r,f1,f2,h1,rfl,TrOk.at' t h3 fun b hb=>e b (List.mem_append_left _ hb),TrOkL.at' ts h4 fun b hb=>e b (List.mem_append_right _ hb)⟩
end
theorem Tab.mono {a:Addr} {bs:List Addr} {T:Tr} (e1:Same F F') (e:Same H H') (t:Tab K F H a bs T):Tab K F' H' a bs T:=⟨TrOk.mono e1 e T t.ok,t.nd⟩
theorem Tab.obj {a:Addr} {bs:List Addr} {T:Tr} (t:Tab K F H a bs T):∀ b ∈ a :: bs,∃ o,H b=some o:=TrOk.obj T t.ok
theorem Tab.at' {a:Addr} {bs:List Addr} {T:Tr} (t:Tab K F H a bs T) (e:∀ b ∈ a :: bs,H' b=H b):Tab K F H' a bs T:=⟨TrOk.at' T t.ok e,t.nd⟩
theorem SlOk.mono (e:Ext F H F' H'):∀ {x:Option Sl} {s:Option (Option V)},SlOk K H0 F H x s→SlOk K H0 F' H' x s
  | some (.v d),s,h=>let ⟨u,h1,h2⟩:=h; ⟨u,h1,Rep.mono e.ff d h2⟩
  | some (.o d),s,h=>let ⟨a,h1,h2,h3,h4⟩:=h; let ⟨o,ho⟩:=h4.obj; ⟨a,h1,h2,e.nw a o h3 ho,h4.mono e.ff e.hh⟩
  | some (.l d),s,h=>let ⟨a,h1,h2,h3,h4⟩:=h; let ⟨o,ho⟩:=h4.obj; ⟨a,h1,h2,e.nw a o h3 ho,h4.mono e.ff e.hh⟩
  | some (.p T),s,h=>let ⟨a,bs,h1,h2,h3⟩:=h; ⟨a,bs,h1,h2.mono e.ff e.hh,fun b hb=>let ⟨o,ho⟩:=h2.obj b hb; ⟨(h3 b hb).1,e.nw b o (h3 b hb).2 ho⟩⟩
  | some .no,_,_=>trivial
  | none,_,_=>trivial
theorem EnvOk.tab (I:EnvOk K Λ F0 H0 F H σ δ) {i:Nat} {T:Tr} (hx:δ[i]?=some (.p T)):∃ a bs,σ[i]?=some (some (.ref a))∧Tab K F H a bs T∧(∀ b ∈ a :: bs,H0 b=none∧F b=none)∧(∀ (j:Nat) (b:Addr),j ≠ i→Sl.own δ[j]?=true→σ[j]?=some (some (.ref b))→b ∉ a :: bs)∧∀ (j:Nat) (T':Tr),δ[j]?=some (.p T')→j=i:=I.tabs i T hx
theorem EnvOk.tabsOf {δ':En} {σ':St} (I:EnvOk K Λ F0 H0 F H σ δ) (h1:∀ (i:Nat) (T:Tr),δ'[i]?=some (.p T)→δ[i]?=some (.p T)∧σ'[i]?=σ[i]?)
    (h2:∀ (i:Nat) (a:Addr) (bs:List Addr) (T:Tr),δ[i]?=some (.p T)→σ[i]?=some (some (.ref a))→Tab K F H a bs T→(∀ b ∈ a :: bs,H0 b=none∧F b=none)→(∀ (j:Nat) (b:Addr),j ≠ i→Sl.own δ[j]?=true→σ[j]?=some (some (.ref b))→b ∉ a :: bs)→Tab K F' H' a bs T∧∀ b ∈ a :: bs,F' b=none)
    (h3:∀ (i j:Nat) (T:Tr) (a b:Addr) (bs:List Addr),δ[i]?=some (.p T)→σ[i]?=some (some (.ref a))→Tab K F H a bs T→j ≠ i→Sl.own δ'[j]?=true→σ'[j]?=some (some (.ref b))→(Sl.own δ[j]?=true∧σ[j]?=some (some (.ref b)))∨b ∉ a :: bs) :
    ∀ (i:Nat) (T:Tr),δ'[i]?=some (.p T)→∃ a bs,σ'[i]?=some (some (.ref a))∧Tab K F' H' a bs T∧(∀ b ∈ a :: bs,H0 b=none∧F' b=none)∧(∀ (j:Nat) (b:Addr),j ≠ i→Sl.own δ'[j]?=true→σ'[j]?=some (some (.ref b))→b ∉ a :: bs)∧∀ (j:Nat) (T':Tr),δ'[j]?=some (.p T')→j=i:=by
  intro i T g1
  obtain ⟨d1,d2⟩:=h1 i T g1
  obtain ⟨a,bs,t1,t2,t3,t4,t5⟩:=I.tab d1
  obtain ⟨u1,u2⟩:=h2 i a bs T d1 t1 t2 t3 t4
  refine ⟨a,bs,d2.trans t1,u1,fun b hb=>⟨(t3 b hb).1,u2 b hb⟩,fun j b hj ho hs hb=>?_,fun j T' hj=>t5 j T' (h1 j T' hj).1⟩
  rcases h3 i j T a b bs d1 t1 t2 hj ho hs with ⟨o1,o2⟩ | o
  · exact t4 j b hj o1 o2 hb
  · exact o hb
theorem zhH (e:Ext F H F' H') {a:Addr} {bs:List Addr} {T:Tr} (t:Tab K F H a bs T) (f:∀ b ∈ a :: bs,H0 b=none∧F b=none):Tab K F' H' a bs T∧∀ b ∈ a :: bs,F' b=none :=
  ⟨t.mono e.ff e.hh,fun b hb=>let ⟨o,ho⟩:=t.obj b hb; e.nw b o (f b hb).2 ho⟩
theorem EnvOk.grow (I:EnvOk K Λ F0 H0 F H σ δ) (e:Ext F H F' H'):EnvOk K Λ F0 H0 F' H' σ δ :=
  ⟨I.ext.trans e,I.len,fun i=>(I.slot i).mono e,I.dist,fun x hx=>let ⟨h1,h2,h3⟩:=I.lent x hx; ⟨h1,h2,e.hh _ _ h3⟩,I.tabsOf (fun i T h=>⟨h,rfl⟩) (fun i a bs T _ _ t f _=>zhH e t f) fun i j T a b bs _ _ _ _ ho hs=>.inl ⟨ho,hs⟩⟩
theorem EnvOk.same (I:EnvOk K Λ F0 H0 F H σ δ):Same F H:=I.ext.fh
theorem Ext.base (a:Ext F0 H0 F1 H1) (b:Ext F1 H0 F' H'):Ext F0 H0 F' H' :=
  ⟨a.ff.trans b.ff,b.hh,b.fh,fun p o h1 h2=>b.nw p o (a.nw p o h1 h2) h2⟩
theorem EnvOk.up (I:EnvOk K Λ F0 H0 F H σ δ):EnvOk K Λ F H0 F H σ δ :=
  ⟨⟨.refl _,I.ext.hh,I.ext.fh,fun p o h1 h2=>h1⟩,I.len,I.slot,I.dist,I.lent,I.tabs⟩
theorem EnvOk.down (a:Ext F0 H0 F1 H1) (I:EnvOk K Λ F1 H0 F H σ δ):EnvOk K Λ F0 H0 F H σ δ :=
  ⟨a.base I.ext,I.len,I.slot,I.dist,I.lent,I.tabs⟩
theorem EnvOk.put {i:Nat} {d:D} {v:V} (I:EnvOk K Λ F0 H0 F H σ δ) (hl:∃ x,δ[i]?=some x∧∀ d,x ≠ .l d) (r:Rep K F d v):EnvOk K Λ F0 H0 F H (σ.set i (some v)) (δ.set i (.v d)):=by
  obtain ⟨x,hx,hn⟩:=hl
  have hi:i < δ.length:=(List.getElem?_eq_some_iff.mp hx).1
  have hi':i < σ.length:=by rw [I.len]; exact hi
  refine ⟨I.ext,by simp [I.len],fun j=>?_,fun j k a hjk h1 h2 h3 h4=>?_,fun y hy=>?_,I.tabsOf (fun k ll h=>by
      by_cases e:i=k
      · subst e; rw [List.getElem?_set_self hi] at h; cases h
      · rw [List.getElem?_set_ne e] at h; exact ⟨h,List.getElem?_set_ne e⟩) (fun _ _ _ _ _ _ t f _=>⟨t,fun b hb=>(f b hb).2⟩) fun k j ll a b bs _ _ _ _ ho hs=>.inl (by
      by_cases e:i=j
      · subst e; rw [List.getElem?_set_self hi] at ho; cases ho
      · rw [List.getElem?_set_ne e] at ho hs; exact ⟨ho,hs⟩)⟩
  · by_cases e:i=j
    · subst e
      rw [List.getElem?_set_self hi,List.getElem?_set_self hi']
      exact ⟨v,rfl,r⟩
    · rw [List.getElem?_set_ne e,List.getElem?_set_ne e]
      exact I.slot j
  · have ne:∀ k:Nat,Sl.own (δ.set i (.v d))[k]?=true→i ≠ k:=by
      rintro k h rfl
      rw [List.getElem?_set_self hi] at h
      cases h
    have n1:=ne j h1
    have n2:=ne k h2
    rw [List.getElem?_set_ne n1] at h1 h3
    rw [List.getElem?_set_ne n2] at h2 h4
    exact I.dist j k a hjk h1 h2 h3 h4
  · obtain ⟨⟨d',h1⟩,h2,h3⟩:=I.lent y hy
    have n:i ≠ y.1:=by
      intro e
      rw [← e,hx] at h1
      exact hn d' (Option.some.inj h1)
    exact ⟨⟨d',by rw [List.getElem?_set_ne n]; exact h1⟩,by rw [List.getElem?_set_ne n]; exact h2,h3⟩
theorem EnvOk.putO {i:Nat} {d:D} {p:Addr} (I:EnvOk K Λ F0 H0 F H σ δ) (hl:∃ x,δ[i]?=some x∧∀ d,x ≠ .l d) (e:Ext F H F' H') (h0:F' p=none) (h1:H p=none) (o:Own K F' H' d p) :
    EnvOk K Λ F0 H0 F' H' (σ.set i (some (.ref p))) (δ.set i (.o d)):=by
  obtain ⟨x,hx,hn⟩:=hl
  have hi:i < δ.length:=(List.getElem?_eq_some_iff.mp hx).1
  have hi':i < σ.length:=by rw [I.len]; exact hi
  have fresh:∀ k:Nat,Sl.own δ[k]?=true→σ[k]? ≠ some (some (V.ref p)):=fun k hk e=>by
    have z:=I.slot k
    cases q:δ[k]? with
    | none=>rw [q] at hk; cases hk
    | some y =>
      rw [q] at hk z
      cases y with
      | no=>cases hk
      | v d=>cases hk
      | o d =>
        obtain ⟨a,z1,_,_,z4⟩:=z
        rw [e] at z1; cases z1
        obtain ⟨u,hu⟩:=z4.obj
        rw [h1] at hu; cases hu
      | l d =>
        obtain ⟨a,z1,_,_,z4⟩:=z
        rw [e] at z1; cases z1
        obtain ⟨u,hu⟩:=z4.obj
        rw [h1] at hu; cases hu
      | p ll =>
        obtain ⟨a,bs,z1,z2,_⟩:=z
        rw [e] at z1; cases z1
        obtain ⟨u,hu⟩:=z2.obj p (by simp)
        rw [h1] at hu; cases hu
  have J:=I.grow e
  refine ⟨J.ext,by simp [I.len],fun j=>?_,fun j k a hjk g1 g2 g3 g4=>?_,fun y hy=>?_,I.tabsOf (fun k ll h=>by
      by_cases e:i=k
      · subst e; rw [List.getElem?_set_self hi] at h; cases h
      · rw [List.getElem?_set_ne e] at h; exact ⟨h,List.getElem?_set_ne e⟩) (fun k a bs T _ _ t f _=>zhH e t f) fun k j ll a b bs _ _ t _ ho hs=>by
      by_cases e:i=j
      · subst e
        rw [List.getElem?_set_self hi'] at hs
        cases hs
        refine .inr fun hb=>?_
        obtain ⟨u,hu⟩:=t.obj p hb
        rw [h1] at hu; cases hu
      · rw [List.getElem?_set_ne e] at ho hs; exact .inl ⟨ho,hs⟩⟩
  · by_cases e:i=j
    · subst e
      rw [List.getElem?_set_self hi,List.getElem?_set_self hi']
      exact ⟨p,rfl,I.ext.hh.free h1,h0,o⟩
    · rw [List.getElem?_set_ne e,List.getElem?_set_ne e]
      exact J.slot j
  · by_cases e1:i=j
    · subst e1
      rw [List.getElem?_set_self hi'] at g3
      cases g3
      rw [List.getElem?_set_ne hjk] at g2 g4
      exact fresh k g2 g4
    · by_cases e2:i=k
      · subst e2
        rw [List.getElem?_set_self hi'] at g4
        cases g4
        rw [List.getElem?_set_ne e1] at g1 g3
        exact fresh j g1 g3
      · rw [List.getElem?_set_ne e1] at g1 g3
        rw [List.getElem?_set_ne e2] at g2 g4
        exact I.dist j k a hjk g1 g2 g3 g4
  · obtain ⟨⟨d',g1⟩,g2,g3⟩:=J.lent y hy
    have n:i ≠ y.1:=by
      intro e
      rw [← e,hx] at g1
      exact hn d' (Option.some.inj g1)
    exact ⟨⟨d',by rw [List.getElem?_set_ne n]; exact g1⟩,by rw [List.getElem?_set_ne n]; exact g2,g3⟩
theorem EnvOk.chg {i:Nat} {d d':D} {a:Addr} {u:HO} (I:EnvOk K Λ F0 H0 F H σ δ) (hx:δ[i]?=some (.o d)) (ha:σ[i]?=some (some (.ref a))) (o:Own K F (upd H a u) d' a) :
    EnvOk K Λ F0 H0 F (upd H a u) σ (δ.set i (.o d')):=by
  have hi:i < δ.length:=(List.getElem?_eq_some_iff.mp hx).1
  have z:=I.slot i
  rw [hx] at z
  obtain ⟨a',z1,z2,z3,z4⟩:=z
  rw [ha] at z1; cases z1
  have oth:∀ (k:Nat) (b:Addr),i ≠ k→Sl.own δ[k]?=true→σ[k]?=some (some (.ref b))→b ≠ a:=fun k b hk h1 h2 e=>by
    subst e
    exact I.dist i k b hk (by rw [hx]; rfl) h1 ha h2
  refine ⟨⟨I.ext.ff,fun b w q=>?_,fun b w q=>?_,I.ext.nw⟩,by simp [I.len],fun j=>?_,fun j k b hjk g1 g2 g3 g4=>?_,fun y hy=>?_,I.tabsOf (fun k ll h=>by
      by_cases e:i=k
      · subst e; rw [List.getElem?_set_self hi] at h; cases h
      · rw [List.getElem?_set_ne e] at h; exact ⟨h,rfl⟩) (fun k r bs T g1 g2 t f dj=>by
      have e:i ≠ k:=fun e=>by subst e; rw [hx] at g1; cases g1
      exact ⟨t.at' fun b hb=>zaf fun e'=>dj i a e (by rw [hx]; rfl) ha (e' ▸ hb),fun b hb=>(f b hb).2⟩) fun k j ll r b bs _ _ _ _ ho hs=>.inl (by
      by_cases e:i=j
      · subst e; exact ⟨by rw [hx]; rfl,hs⟩
      · rw [List.getElem?_set_ne e] at ho; exact ⟨ho,hs⟩)⟩
  · rw [zaf (zan q z2)]; exact I.ext.hh b w q
  · rw [zaf (zan q z3)]; exact I.ext.fh b w q
  · by_cases e:i=j
    · subst e
      rw [List.getElem?_set_self hi]
      exact ⟨a,ha,z2,z3,o⟩
    · rw [List.getElem?_set_ne e]
      have w:=I.slot j
      cases q:δ[j]? with
      | none=>trivial
      | some y =>
        rw [q] at w
        cases y with
        | no=>trivial
        | v d=>exact w
        | o d =>
          obtain ⟨b,w1,w2,w3,w4⟩:=w
          exact ⟨b,w1,w2,w3,w4.at (zaf (oth j b e (by rw [q]; rfl) w1))⟩
        | l d =>
          obtain ⟨b,w1,w2,w3,w4⟩:=w
          exact ⟨b,w1,w2,w3,w4.at (zaf (oth j b e (by rw [q]; rfl) w1))⟩
        | p ll =>
          obtain ⟨r,bs,t1,t2,t3,t4,t5⟩:=I.tab q
          exact ⟨r,bs,t1,t2.at' fun b hb=>zaf fun e'=>t4 i a e (by rw [hx]; rfl) ha (e' ▸ hb),t3⟩
  · have ow:∀ k:Nat,Sl.own (δ.set i (.o d'))[k]?=true→Sl.own δ[k]?=true:=by
      intro k h
      by_cases e:i=k
      · subst e; rw [hx]; rfl
      · rw [List.getElem?_set_ne e] at h; exact h
    exact I.dist j k b hjk (ow j g1) (ow k g2) g3 g4
  · obtain ⟨⟨d2,g1⟩,g2,g3⟩:=I.lent y hy
    have n:i ≠ y.1:=by
      intro e
      rw [← e,hx] at g1
      cases g1
    exact ⟨⟨d2,by rw [List.getElem?_set_ne n]; exact g1⟩,g2,by rw [zaf (oth y.1 y.2.1 n (by rw [g1]; rfl) g2)]; exact g3⟩
end
end PM
namespace PM
open PySem L2
abbrev XOT:=Xc→Hp→Hp→Value→Option Addr→Prop
def Aft {α:Type} (E:St→XK) (XO:XOT) (σ:St) (F H:Hp) (P:α→Hp→Hp→Prop):R α→Prop
  | .no=>False
  | .ok a=>∀ F' H',Ext F H F' H'→P a F' H'
  | .ex x=>∀ C dct F' H',Ext F H F' H'→XO x F' H' C dct→E σ C dct H'
section
variable {E:St→XK} {XO:XOT} {σ:St} {F H F1 H1:Hp} {α β:Type} {P P':α→Hp→Hp→Prop}
theorem Aft.mono (e:Ext F H F1 H1):∀ {r:R α},Aft E XO σ F H P r→Aft E XO σ F1 H1 P r
  | .no,h=>h
  | .ok _,h=>fun F' H' e'=>h F' H' (e.trans e')
  | .ex _,h=>fun C dct F' H' e' x=>h C dct F' H' (e.trans e') x
theorem Aft.imp (i:∀ a F1 H1,Ext F H F1 H1→P a F1 H1→P' a F1 H1):∀ {r:R α},Aft E XO σ F H P r→Aft E XO σ F H P' r
  | .no,h=>h
  | .ok _,h=>fun F' H' e'=>i _ F' H' e' (h F' H' e')
  | .ex _,h=>h
theorem Aft.bind {P:β→Hp→Hp→Prop} {f:α→R β}:∀ {r:R α},Aft E XO σ F H P (r.bind f)→Aft E XO σ F H (fun a F1 H1=>Aft E XO σ F1 H1 P (f a)) r
  | .no,h=>h
  | .ok _,h=>fun F' H' e'=>Aft.mono e' h
  | .ex _,h=>h
end
inductive Prd (T:D→V→Prop):List D→List V→Prop where
  | nil:Prd T [] []
  | cons {d:D} {v:V} {ds:List D} {vs:List V}:T d v→Prd T ds vs→Prd T (d :: ds) (v :: vs)
section
variable (K:Kx) (XO:XOT) (E:St→XK)
def SE (t:TE) (m:En→R D):Prop:=∀ Λ F0 H0 F H σ δ Q,EnvOk K Λ F0 H0 F H σ δ→Aft E XO σ F H (fun d F' H'=>∀ v,Rep K F' d v→Q v H') (m δ)→t σ H Q
def SEr (t:TE) (m:En→R D):Prop:=∀ Λ F0 H0 F H σ δ Q,EnvOk K Λ F0 H0 F H σ δ→Aft E XO σ F H (fun d F' H'=>∀ v,Top K F' H' d v→Q v H') (m δ)→t σ H Q
def SEo (t:TE) (m:En→R D):Prop:=∀ Λ F0 H0 F H σ δ Q,EnvOk K Λ F0 H0 F H σ δ→Aft E XO σ F H (fun d F' H'=>∀ p,F' p=none→H p=none→Own K F' H' d p→Q (.ref p) H') (m δ)→t σ H Q
def ST (t:TT) (m:En→R Bool):Prop:=∀ Λ F0 H0 F H σ δ Q,EnvOk K Λ F0 H0 F H σ δ→Aft E XO σ F H (fun b _ H'=>Q b H') (m δ)→t σ H Q
def SA (t:TA) (m:En→R (List D)):Prop:=∀ Λ F0 H0 F H σ δ Q,EnvOk K Λ F0 H0 F H σ δ→Aft E XO σ F H (fun ds F' H'=>∀ vs,RepL K F' ds vs→Q vs H') (m δ)→t σ H Q
def SAr (t:TA) (m:En→R (List D)):Prop:=∀ Λ F0 H0 F H σ δ Q,EnvOk K Λ F0 H0 F H σ δ→Aft E XO σ F H (fun ds F' H'=>∀ vs,Prd (Top K F' H') ds vs→Q vs H') (m δ)→t σ H Q
end
section
variable {K:Kx} {XO:XOT} {E:St→XK} {t ta tb te:TE} {m ma mb me:En→R D}
theorem SE.r (h:SE K XO E t m):SEr K XO E t m:=fun Λ F0 H0 F H σ δ Q I a=>h Λ F0 H0 F H σ δ Q I (a.imp fun d F1 H1 e p v r=>p v (r.top e.fh))
theorem SEo.e (h:SEo K XO E t m):SE K XO E t m:=fun Λ F0 H0 F H σ δ Q I a=>h Λ F0 H0 F H σ δ Q I (by
  cases q:m δ with
  | no=>rw [q] at a; exact a
  | ex x=>rw [q] at a; exact a
  | ok d =>
    rw [q] at a
    intro F1 H1 e p h0 h1 o
    obtain ⟨F2,e2,s2,r⟩:=o.freeze e h0 h1
    exact a F2 H1 e2 _ r)
def mVar (i:Nat) (δ:En):R D:=match δ[i]? with | some (.v d)=>.ok d | _=>.no
def mRd (i:Nat) (δ:En):R D:=match δ[i]? with | some (.v d)=>.ok d | some (.o d)=>.ok d | some (.l d)=>.ok d | _=>.no
theorem zam {i:Nat}:SE K XO E (tVar i) (mVar i):=by
  intro Λ F0 H0 F H σ δ Q I a
  unfold mVar at a
  have z:=I.slot i
  split at a
  · rename_i d q
    rw [q] at z
    obtain ⟨u,h1,h2⟩:=z
    exact ⟨u,h1,a F H (.refl I.same) u h2⟩
  · exact a.elim
theorem zac {i:Nat}:SEr K XO E (tVar i) (mRd i):=by
  intro Λ F0 H0 F H σ δ Q I a
  unfold mRd at a
  have z:=I.slot i
  split at a
  · rename_i d q
    rw [q] at z
    obtain ⟨u,h1,h2⟩:=z
    exact ⟨u,h1,a F H (.refl I.same) u (h2.top I.same)⟩
  · rename_i d q
    rw [q] at z
    obtain ⟨u,h1,_,_,h2⟩:=z
    exact ⟨_,h1,a F H (.refl I.same) _ h2.top⟩
  · rename_i d q
    rw [q] at z
    obtain ⟨u,h1,_,_,h2⟩:=z
    exact ⟨_,h1,a F H (.refl I.same) _ h2.top⟩
  · exact a.elim
def mC (d:D) (_:En):R D:=.ok d
theorem se_int {i:Int}:SE K XO E (tC (.int i)) (mC (.int i)):=fun Λ F0 H0 F H σ δ Q I a=>a F H (.refl I.same) _ (by simp only [Rep])
theorem zfK {i:Bool}:SE K XO E (tC (.bl i)) (mC (.bl i)):=fun Λ F0 H0 F H σ δ Q I a=>a F H (.refl I.same) _ (by simp only [Rep])
def R.of {α:Type}:Option α→R α
  | some a=>.ok a
  | none=>.no
@[simp] theorem R.of_some {α:Type} (a:α):R.of (some a) = .ok a:=rfl
@[simp] theorem R.of_none {α:Type}:R.of (none:Option α) = .no:=rfl
def m2 (f:D→D→Option D) (ma mb:En→R D) (δ:En):R D:=(ma δ).bind fun x=>(mb δ).bind fun y=>R.of (f x y)
def m1 (f:D→Option D) (ma:En→R D) (δ:En):R D:=(ma δ).bind fun x=>R.of (f x)
@[simp] theorem zc5 {f:D→D→Option D} {ma mb:En→R D} {δ:En}:m2 f ma mb δ=(ma δ).bind fun x=>(mb δ).bind fun y=>R.of (f x y):=rfl
@[simp] theorem znQ {f:D→Option D} {ma:En→R D} {δ:En}:m1 f ma δ=(ma δ).bind fun x=>R.of (f x):=rfl
variable (K) in
def SR (r:R2) (f:D→D→Option D):Prop:=∀ F H x y dx dy d Q,Same F H→Top K F H dx x→Top K F H dy y→f dx dy=some d→(∀ v F' H',Ext F H F' H'→Rep K F' d v→Q v H')→r x y H Q
variable (K) in
def SRo (r:R2) (f:D→D→Option D):Prop:=∀ F H x y dx dy d Q,Same F H→Top K F H dx x→Top K F H dy y→f dx dy=some d→(∀ p F' H',Ext F H F' H'→F' p=none→H p=none→Own K F' H' d p→Q (.ref p) H')→r x y H Q
theorem zaj {r:R2} {f:D→D→Option D} (hr:SR K r f) (ha:SEr K XO E ta ma) (hb:SEr K XO E tb mb):SE K XO E (tOp r ta tb) (m2 f ma mb):=by
  intro Λ F0 H0 F H σ δ Q I a
  refine ha Λ F0 H0 F H σ δ _ I (a.bind.imp fun dx F1 H1 e1 a1 x rx=>?_)
  refine hb Λ F0 H0 F1 H1 σ δ _ (I.grow e1) (a1.bind.imp fun dy F2 H2 e2 a2 y ry=>?_)
  cases q:f dx dy with
  | none=>rw [q] at a2; exact a2.elim
  | some d =>
    rw [q] at a2
    exact hr F2 H2 x y dx dy d Q e2.fh (rx.mono e2.ff e2.hh) ry q fun v F' H' e r=>a2 F' H' e v r
theorem zna {r:R2} {f:D→D→Option D} (hr:SRo K r f) (ha:SEr K XO E ta ma) (hb:SEr K XO E tb mb):SEo K XO E (tOp r ta tb) (m2 f ma mb):=by
  intro Λ F0 H0 F H σ δ Q I a
  refine ha Λ F0 H0 F H σ δ _ I (a.bind.imp fun dx F1 H1 e1 a1 x rx=>?_)
  refine hb Λ F0 H0 F1 H1 σ δ _ (I.grow e1) (a1.bind.imp fun dy F2 H2 e2 a2 y ry=>?_)
  cases q:f dx dy with
  | none=>rw [q] at a2; exact a2.elim
  | some d =>
    rw [q] at a2
    exact hr F2 H2 x y dx dy d Q e2.fh (rx.mono e2.ff e2.hh) ry q fun p F' H' e h0 h1 o=>a2 F' H' e p h0 (e1.hh.free (e2.hh.free h1)) o
def mNil (_:En):R (List D):=.ok []
def zab (ma:En→R D) (mr:En→R (List D)) (δ:En):R (List D):=(ma δ).bind fun x=>(mr δ).bind fun l=>.ok (x :: l)
theorem zav:SA K XO E tNil mNil:=fun Λ F0 H0 F H σ δ Q I a=>a F H (.refl I.same) _ .nil
theorem zad {tr:TA} {mr:En→R (List D)} (ha:SE K XO E ta ma) (hr:SA K XO E tr mr):SA K XO E (zbf ta tr) (zab ma mr):=by
  intro Λ F0 H0 F H σ δ Q I a
  refine ha Λ F0 H0 F H σ δ _ I (a.bind.imp fun dx F1 H1 e1 a1 x rx=>?_)
  refine hr Λ F0 H0 F1 H1 σ δ _ (I.grow e1) (a1.bind.imp fun dy F2 H2 e2 a2 y ry=>?_)
  exact a2 F2 H2 (.refl e2.fh) _ (.cons (Rep.mono e2.ff _ rx) ry)
theorem zaL:SAr K XO E tNil mNil:=fun Λ F0 H0 F H σ δ Q I a=>a F H (.refl I.same) _ .nil
theorem zaB {tr:TA} {mr:En→R (List D)} (ha:SEr K XO E ta ma) (hr:SAr K XO E tr mr):SAr K XO E (zbf ta tr) (zab ma mr):=by
  intro Λ F0 H0 F H σ δ Q I a
  refine ha Λ F0 H0 F H σ δ _ I (a.bind.imp fun dx F1 H1 e1 a1 x rx=>?_)
  refine hr Λ F0 H0 F1 H1 σ δ _ (I.grow e1) (a1.bind.imp fun dy F2 H2 e2 a2 y ry=>?_)
  exact a2 F2 H2 (.refl e2.fh) _ (.cons (rx.mono e2.ff e2.hh) ry)
def mTup (ml:En→R (List D)) (δ:En):R D:=(ml δ).bind fun l=>ifC (l.length ≤ sizeLine) (.ok (.tup l)) .no
def mLst (ml:En→R (List D)) (δ:En):R D:=(ml δ).bind fun l=>ifC (l.length ≤ sizeLine) (.ok (.lst l)) .no
theorem zfc {tl:TA} {ml:En→R (List D)} (h:SA K XO E tl ml):SE K XO E (tTup tl) (mTup ml):=by
  intro Λ F0 H0 F H σ δ Q I a
  refine h Λ F0 H0 F H σ δ _ I (a.bind.imp fun ds F1 H1 e1 a1 vs r=>?_)
  unfold ifC at a1
  split at a1
  · rename_i hl
    refine ⟨by rw [r.length]; exact hl,fun p hp=>a1 _ _ (.new e1.fh hp) _ ?_⟩
    simp only [Rep]
    exact ⟨p,vs,rfl,zah,r.mono (Same.upd (e1.fh.free hp))⟩
  · exact a1.elim
theorem zci {tl:TA} {ml:En→R (List D)} (h:SA K XO E tl ml):SEo K XO E (tLst tl) (mLst ml):=by
  intro Λ F0 H0 F H σ δ Q I a
  refine h Λ F0 H0 F H σ δ _ I (a.bind.imp fun ds F1 H1 e1 a1 vs r=>?_)
  unfold ifC at a1
  split at a1
  · rename_i hl
    refine ⟨by rw [r.length]; exact hl,fun p hp=>a1 _ _ (.newO e1.fh hp) _ (e1.fh.free hp) (e1.hh.free hp) ⟨vs,zah,r⟩⟩
  · exact a1.elim
theorem zj9:SEo K XO E zk4 (mC (.dct [] [])):=fun Λ F0 H0 F H σ δ Q I a p hp=>a F _ (.newO I.same hp) p (I.same.free hp) hp ⟨[],zah,rfl,.nil⟩
def asB:D→Option Bool
  | .bl b=>some b
  | _=>none
def zas (me:En→R D) (δ:En):R Bool:=(me δ).bind fun d=>R.of (asB d)
theorem za2 (h:SE K XO E te me):ST K XO E (zm0 te) (zas me):=by
  intro Λ F0 H0 F H σ δ Q I a
  refine h Λ F0 H0 F H σ δ _ I (a.bind.imp fun d F1 H1 e1 a1 v r=>?_)
  cases d with
  | bl b=>simp only [Rep] at r; exact ⟨b,r,a1 F1 H1 (.refl e1.fh)⟩
  | _=>exact a1.elim
theorem st_b (h:SE K XO E te me):ST K XO E (tB te) (zas me):=za2 h
variable {tA tB':TT} {nA nB:En→R Bool}
def mAnd (nA nB:En→R Bool) (δ:En):R Bool:=(nA δ).bind fun b=>if b=true then nB δ else .ok false
def mOr (nA nB:En→R Bool) (δ:En):R Bool:=(nA δ).bind fun b=>if b=true then .ok true else nB δ
def mNot (nA:En→R Bool) (δ:En):R Bool:=(nA δ).bind fun b=>.ok (!b)
theorem zmB (h:ST K XO E tA nA) (h':ST K XO E tB' nB):ST K XO E (tAnd tA tB') (mAnd nA nB):=by
  intro Λ F0 H0 F H σ δ Q I a
  refine h Λ F0 H0 F H σ δ _ I (a.bind.imp fun b F1 H1 e1 a1=>?_)
  cases b with
  | true=>exact h' Λ F0 H0 F1 H1 σ δ _ (I.grow e1) a1
  | false=>exact a1 F1 H1 (.refl e1.fh)
theorem zf4 (h:ST K XO E tA nA) (h':ST K XO E tB' nB):ST K XO E (tOr tA tB') (mOr nA nB):=by
  intro Λ F0 H0 F H σ δ Q I a
  refine h Λ F0 H0 F H σ δ _ I (a.bind.imp fun b F1 H1 e1 a1=>?_)
  cases b with
  | false=>exact h' Λ F0 H0 F1 H1 σ δ _ (I.grow e1) a1
  | true=>exact a1 F1 H1 (.refl e1.fh)
theorem zdT (h:ST K XO E tA nA):ST K XO E (tNot tA) (mNot nA):=by
  intro Λ F0 H0 F H σ δ Q I a
  exact h Λ F0 H0 F H σ δ _ I (a.bind.imp fun b F1 H1 e1 a1=>a1 F1 H1 (.refl e1.fh))
def zh8 (ma:En→R D) (δ:En):R D:=(ma δ).bind fun d=>(R.of (asB d)).bind fun b=>.ok (.bl (!b))
theorem zne (h:SE K XO E ta ma):SE K XO E (zmK ta) (zh8 ma):=by
  intro Λ F0 H0 F H σ δ Q I a
  refine h Λ F0 H0 F H σ δ _ I (a.bind.imp fun d F1 H1 e1 a1 v r=>?_)
  cases d with
  | bl b =>
    simp only [Rep] at r
    exact ⟨b,r,a1 F1 H1 (.refl e1.fh) _ (by simp only [Rep])⟩
  | _=>exact a1.elim
def spM (K:Kx) (XO:XOT) (f:List D→R D):Sp:=fun vs H Q E=>∃ F ds,Same F H∧RepL K F ds vs∧Aft (fun _=>E) XO [] F H (fun d F' H'=>∀ v,Rep K F' d v→Q v H') (f ds)
def R.nev {α:Type}:R α→R α
  | .ex _=>.no
  | r=>r
@[simp] theorem R.nev_ok {α:Type} (a:α):(R.ok a).nev = .ok a:=rfl
def zar (f:List D→R D) (ml:En→R (List D)) (δ:En):R D:=(ml δ).bind fun l=>(f l).nev
theorem Aft.any {α:Type} {E E':St→XK} {σ σ':St} {F H:Hp} {P:α→Hp→Hp→Prop} {r:R α} (h:Aft E XO σ F H P r.nev):Aft E' XO σ' F H P r:=by
  cases r with
  | no=>exact h
  | ok a=>exact h
  | ex x=>exact h.elim
theorem zbe {f:List D→R D} {tl:TA} {ml:En→R (List D)} {E':XK} (h:SA K XO E tl ml):SE K XO E (zh9 (spM K XO f) [] E' tl) (zar f ml):=by
  intro Λ F0 H0 F H σ δ Q I a
  refine h Λ F0 H0 F H σ δ _ I (a.bind.imp fun ds F1 H1 e1 a1 vs r=>⟨F1,ds,e1.fh,by rw [List.append_nil]; exact r,a1.any⟩)
variable (K) in
def SG (g:TG) (b:D→En→Option En):Prop:=∀ Λ F0 H0 F H σ δ d v δ' Q,EnvOk K Λ F0 H0 F H σ δ→Rep K F d v→b d δ=some δ'→(∀ σ',EnvOk K Λ F0 H0 F H σ' δ'→Q σ' H)→g v σ H Q
variable (K) in
def SGs (g:TGs) (b:List D→En→Option En):Prop:=∀ Λ F0 H0 F H σ δ d v δ' Q,EnvOk K Λ F0 H0 F H σ δ→RepL K F d v→b d δ=some δ'→(∀ σ',EnvOk K Λ F0 H0 F H σ' δ'→Q σ' H)→g v σ H Q
def zao (i:Nat) (d:D) (δ:En):Option En:=match δ[i]? with | none=>none | some (.l _)=>none | some _=>some (δ.set i (.v d))
def za9 (i:Nat) (d:D) (δ:En):Option En:=match δ[i]? with | some .no=>some (δ.set i (.v d)) | _=>none
def bNil (l:List D) (δ:En):Option En:=match l with | []=>some δ | _=>none
def zdC (b:D→En→Option En) (c:List D→En→Option En) (l:List D) (δ:En):Option En:=match l with | d :: r=>(b d δ).bind (c r) | []=>none
def bTup (n:Nat) (c:List D→En→Option En) (d:D) (δ:En):Option En:=match d with | .tup l=>if l.length=n then c l δ else none | _=>none
theorem zap {i:Nat}:SG K (zdE i) (zao i):=by
  intro Λ F0 H0 F H σ δ d v δ' Q I r e q
  unfold zao at e
  split at e
  · cases e
  · cases e
  · rename_i x h2 h1
    cases e
    exact q _ (I.put ⟨x,h1,fun d' z=>h2 d' (by rw [z])⟩ r)
theorem zbC {i:Nat}:SG K (zdE i) (za9 i):=by
  intro Λ F0 H0 F H σ δ d v δ' Q I r e q
  unfold za9 at e
  split at e
  · rename_i h1
    cases e
    exact q _ (I.put ⟨_,h1,fun d' z=>by cases z⟩ r)
  · cases e
theorem zi5:SGs K gNil bNil:=by
  intro Λ F0 H0 F H σ δ d v δ' Q I r e q
  cases d with
  | nil=>simp only [RepL] at r; cases e; exact ⟨r,q _ I⟩
  | cons x l=>cases e
theorem zed {g:TG} {h:TGs} {b:D→En→Option En} {c:List D→En→Option En} (hg:SG K g b) (hh:SGs K h c):SGs K (zmO g h) (zdC b c):=by
  intro Λ F0 H0 F H σ δ d v δ' Q I r e q
  cases d with
  | nil=>cases e
  | cons x l =>
    simp only [RepL] at r
    obtain ⟨u,w,rfl,r1,r2⟩:=r
    change (b x δ).bind (c l)=some δ' at e
    cases z:b x δ with
    | none=>rw [z] at e; cases e
    | some δ1 =>
      rw [z] at e
      exact ⟨u,w,rfl,hg Λ F0 H0 F H σ δ x u δ1 _ I r1 z fun σ1 I1=>hh Λ F0 H0 F H σ1 δ1 l w δ' Q I1 r2 e q⟩
theorem zld {n:Nat} {h:TGs} {c:List D→En→Option En} (hh:SGs K h c):SG K (gTup K.f n h) (bTup n c):=by
  intro Λ F0 H0 F H σ δ d v δ' Q I r e q
  cases d with
  | tup l =>
    simp only [Rep] at r
    obtain ⟨a,vs,rfl,h1,h2⟩:=r
    simp only [bTup] at e
    split at e
    · rename_i hn
      exact ⟨a,vs,rfl,.inl (.inl (I.same _ _ h1)),by rw [h2.length]; exact hn,hh Λ F0 H0 F H σ δ l vs δ' Q I h2 e q⟩
    · cases e
  | _=>cases e
def Weak (δ δ':En):Prop:=δ.length=δ'.length∧∀ i:Nat,δ[i]?=some .no∨δ[i]?=δ'[i]?
def BW (b:D→En→Option En):Prop:=∀ d δ δ',b d δ=some δ'→Weak δ δ'
theorem zcg {i:Nat}:BW (za9 i):=by
  intro d δ δ' e
  unfold za9 at e
  split at e
  · rename_i h1
    cases e
    refine ⟨by simp,fun j=>?_⟩
    by_cases h:i=j
    · subst h; exact .inl h1
    · exact .inr (by rw [List.getElem?_set_ne h])
  · cases e
variable (K) in
def IsIt (J:It) (P:Hp→Hp→Prop) (ds:List D):Prop:=∀ F2 H2,P F2 H2→∀ i:Nat,(∀ d,ds[i]?=some d→J.go i H2∧∀ x H',J.yld i H2 x H'→∃ F3,Ext F2 H2 F3 H'∧Rep K F3 d x)∧(ds[i]?=none→J.stop i H2)
variable (K XO E) in
def SI (wi:TI) (m:En→R (List D)):Prop:=∀ Λ F0 H0 F H σ δ R,EnvOk K Λ F0 H0 F H σ δ→Aft E XO σ F H (fun ds F1 H1=>∀ J,IsIt K J (fun F2 H2=>Same F1 F2∧Same F2 H2) ds→R J H1) (m δ)→wi σ H R
variable (K XO E) in
def SIc (wi:TI) (m:En→R (List D)):Prop:=∀ Λ F0 H0 F H σ δ R,EnvOk K Λ F0 H0 F H σ δ→Aft E XO σ F H (fun ds F1 H1=>∀ J,IsIt K J (fun F2 H2=>Ext F1 H1 F2 H2) ds→R J H1) (m δ)→wi σ H R
theorem SI.c {wi:TI} {m:En→R (List D)} (h:SI K XO E wi m):SIc K XO E wi m:=fun Λ F0 H0 F H σ δ R I a=>h Λ F0 H0 F H σ δ R I (a.imp fun ds F1 H1 e p J hJ=>p J fun F2 H2 x=>hJ F2 H2 ⟨x.ff,x.fh⟩)
def asL:D→Option (List D)
  | .lst l=>some l
  | .scr l=>some (l.map .int)
  | _=>none
def asT:D→Option (List D)
  | .tup l=>some l
  | _=>none
def mItL (ml:En→R D) (δ:En):R (List D):=(ml δ).bind fun d=>R.of (asL d)
def mItT (ml:En→R D) (δ:En):R (List D):=(ml δ).bind fun d=>R.of (asT d)
theorem zdq {a:Addr} {ds:List D} {vs:List V} {F1:Hp} {P:Hp→Hp→Prop} (r:RepL K F1 ds vs) (h:∀ F2 H2,P F2 H2→Same F1 F2∧Same F2 H2∧SqL K.f H2 a vs):IsIt K (Itl K.f a) P ds:=by
  intro F2 H2 p i
  obtain ⟨s1,s2,q⟩:=h F2 H2 p
  refine ⟨fun d hd=>?_,fun hn=>?_⟩
  · obtain ⟨v,hv,rv⟩:=r.get hd
    refine ⟨⟨vs,v,q,hv⟩,fun x H' y=>?_⟩
    obtain ⟨rfl,y⟩:=y
    have z:=y vs q
    rw [hv] at z; cases z
    exact ⟨F2,.refl s2,Rep.mono s1 _ rv⟩
  · exact ⟨vs,q,by rw [r.length]; exact List.getElem?_eq_none_iff.mp hn⟩
theorem zfx (h:SE K XO E te me):SI K XO E (zlk K.f te) (mItL me):=by
  intro Λ F0 H0 F H σ δ R I a
  refine h Λ F0 H0 F H σ δ _ I (a.bind.imp fun d F1 H1 e1 a1 v r=>?_)
  cases d with
  | lst l =>
    simp only [Rep] at r
    obtain ⟨a,vs,rfl,h1,h2⟩:=r
    exact ⟨a,rfl,⟨vs,.inl (PM.Same.rd e1.fh h1)⟩,a1 F1 H1 (.refl e1.fh) _ (zdq h2 fun F2 H2 x=>⟨x.1,x.2,.inl (PM.Same.rd x.2 (PM.Same.rd x.1 h1))⟩)⟩
  | scr l =>
    simp only [Rep] at r
    obtain ⟨a,rfl,h1⟩:=r
    exact ⟨a,rfl,⟨_,e1.fh.seq h1⟩,a1 F1 H1 (.refl e1.fh) _ (zdq .ints fun F2 H2 x=>⟨x.1,x.2,x.2.seq (x.1.seq h1)⟩)⟩
  | _=>exact a1.elim
theorem zee (h:SEr K XO E te me):SIc K XO E (zlk K.f te) (mItL me):=by
  intro Λ F0 H0 F H σ δ R I a
  refine h Λ F0 H0 F H σ δ _ I (a.bind.imp fun d F1 H1 e1 a1 v r=>?_)
  cases d with
  | lst l =>
    obtain ⟨a,vs,rfl,h1,h2⟩:=r
    exact ⟨a,rfl,⟨vs,.inl h1⟩,a1 F1 H1 (.refl e1.fh) _ (zdq h2 fun F2 H2 x=>⟨x.ff,x.fh,.inl (PM.Same.rd x.hh h1)⟩)⟩
  | scr l =>
    simp only [Top,Rep] at r
    obtain ⟨a,rfl,h1⟩:=r
    exact ⟨a,rfl,⟨_,e1.fh.seq h1⟩,a1 F1 H1 (.refl e1.fh) _ (zdq .ints fun F2 H2 x=>⟨x.ff,x.fh,x.fh.seq (x.ff.seq h1)⟩)⟩
  | _=>exact a1.elim
theorem zk5 (h:SE K XO E te me):SI K XO E (iTup K.f te) (mItT me):=by
  intro Λ F0 H0 F H σ δ R I a
  refine h Λ F0 H0 F H σ δ _ I (a.bind.imp fun d F1 H1 e1 a1 v r=>?_)
  cases d with
  | tup l =>
    simp only [Rep] at r
    obtain ⟨a,vs,rfl,h1,h2⟩:=r
    refine ⟨a,rfl,⟨vs,.inl (.inl (e1.fh _ _ h1))⟩,a1 F1 H1 (.refl e1.fh) _ fun F2 H2 x i=>?_⟩
    have q:SqT K.f H2 a vs:=.inl (.inl (x.2 _ _ (x.1 _ _ h1)))
    refine ⟨fun d hd=>?_,fun hn=>?_⟩
    · obtain ⟨v,hv,rv⟩:=h2.get hd
      refine ⟨⟨vs,v,q,hv⟩,fun x' H' y=>?_⟩
      obtain ⟨rfl,y⟩:=y
      have z:=y vs q
      rw [hv] at z; cases z
      exact ⟨F2,.refl x.2,Rep.mono x.1 _ rv⟩
    · exact ⟨vs,q,by rw [h2.length]; exact List.getElem?_eq_none_iff.mp hn⟩
  | _=>exact a1.elim
def zeg (lo:Int) (n:Nat):List D:=(List.range n).map fun (k:Nat)=>D.int (lo + (k:Int))
theorem zir {lo:Int} {n:Nat} {P:Hp→Hp→Prop} (h:∀ F2 H2,P F2 H2→Same F2 H2):IsIt K (Itr lo n) P (zeg lo n):=by
  intro F2 H2 p i
  unfold zeg
  rw [List.getElem?_map]
  have er:(List.range n)[i]?=if i < n then some i else none:=by
    by_cases hi:i < n
    · rw [if_pos hi,List.getElem?_range hi]
    · rw [if_neg hi,List.getElem?_eq_none_iff]; simpa using hi
  rw [er]
  refine ⟨fun d hd=>?_,fun hn=>?_⟩
  · by_cases hi:i < n
    · rw [if_pos hi] at hd
      cases hd
      refine ⟨hi,fun x H' y=>?_⟩
      obtain ⟨rfl,rfl⟩:=y
      exact ⟨F2,.refl (h F2 _ p),by simp only [Rep]⟩
    · rw [if_neg hi] at hd; cases hd
  · by_cases hi:i < n
    · rw [if_pos hi] at hn; cases hn
    · exact Nat.le_of_not_lt hi
def rng (l:List D):Option (List D):=match l with
  | [.int j]=>ifC (-(2 ^ 62) ≤ j∧j < 2 ^ 62) (some (zeg 0 j.toNat)) none
  | [.int i,.int j]=>ifC (-(2 ^ 62) ≤ i∧i < 2 ^ 62∧-(2 ^ 62) ≤ j∧j < 2 ^ 62) (some (zeg i (j - i).toNat)) none
  | _=>none
def mRng (ml:En→R (List D)) (δ:En):R (List D):=(ml δ).bind fun l=>R.of (rng l)
theorem RepL.one {F:Hp} {d:D} {vs:List V} (r:RepL K F [d] vs):∃ v,vs = [v]∧Rep K F d v:=by
  simp only [RepL] at r
  obtain ⟨v,r',rfl,h,rfl⟩:=r
  exact ⟨v,rfl,h⟩
theorem zaI {tl:TA} {ml:En→R (List D)} (hn:∀ δ l,ml δ = .ok l→l.length=1) (h:SA K XO E tl ml):SI K XO E (zmx tl) (mRng ml):=by
  intro Λ F0 H0 F H σ δ R I a
  unfold mRng at a
  cases hm:ml δ with
  | no=>rw [hm] at a; exact a.elim
  | ex x=>refine h Λ F0 H0 F H σ δ _ I ?_; rw [hm] at a ⊢; exact a
  | ok l =>
    refine h Λ F0 H0 F H σ δ _ I ?_
    rw [hm] at a ⊢
    intro F1 H1 e1 vs r
    have h1:=hn δ l hm
    match l,h1 with
    | [d],_ =>
      obtain ⟨v,rfl,rv⟩:=r.one
      have a1:=Aft.mono e1 a
      cases d with
      | int j =>
        simp only [Rep] at rv
        subst rv
        change Aft E XO σ F1 H1 _ (PM.R.of (ifC (-(2 ^ 62) ≤ j∧j < 2 ^ 62) _ _)) at a1
        by_cases hj : -(2 ^ 62) ≤ j∧j < 2 ^ 62
        · rw [zaU hj] at a1
          exact ⟨j,rfl,hj.1,hj.2,a1 F1 H1 (.refl e1.fh) _ (zir fun F2 H2 x=>x.2)⟩
        · rw [zme hj] at a1; exact a1.elim
      | _=>exact a1.elim
theorem len1 {ma:En→R D}:∀ δ l,zab ma mNil δ = .ok l→l.length=1:=by
  intro δ l h
  unfold zab mNil at h
  cases e:ma δ with
  | ok d=>rw [e] at h; cases h; rfl
  | no=>rw [e] at h; cases h
  | ex x=>rw [e] at h; cases h
end
end PM
namespace PM
open PySem L2
section
variable (K:Kx) (XO:XOT) (E:St→XK)
def AftS (Λ:List (Nat × Addr × HO)) (F0 H0:Hp) (Dn:Ends):O→Prop
  | .no=>False
  | .nx δ=>∀ σ F H,EnvOk K Λ F0 H0 F H σ δ→Dn.nx σ H
  | .bk δ=>∀ σ F H,EnvOk K Λ F0 H0 F H σ δ→Dn.bk σ H
  | .ct δ=>∀ σ F H,EnvOk K Λ F0 H0 F H σ δ→Dn.ct σ H
  | .rt d=>∀ v F H,Ext F0 H0 F H→Rep K F d v→Dn.rt v H
  | .ro d=>∀ p F H,Ext F0 H0 F H→F p=none→H0 p=none→Own K F H d p→Dn.rt (.ref p) H
  | .ex δ x=>∀ σ F H C dct,EnvOk K Λ F0 H0 F H σ δ→XO x F H C dct→E σ C dct H
def SS (t:TS) (m:En→O):Prop:=∀ Λ F0 H0 F H σ δ Dn,EnvOk K Λ F0 H0 F H σ δ→AftS K XO E Λ F0 H0 Dn (m δ)→t Dn σ H
end
def R.toO {α:Type} (r:R α) (δ:En) (f:α→O):O:=match r with | .no=>.no | .ok a=>f a | .ex x=>.ex δ x
@[simp] theorem R.toO_ok {α:Type} (a:α) (δ:En) (f:α→O):(R.ok a).toO δ f=f a:=rfl
@[simp] theorem R.toO_no {α:Type} (δ:En) (f:α→O):(R.no:R α).toO δ f = .no:=rfl
@[simp] theorem R.toO_ex {α:Type} (x:Xc) (δ:En) (f:α→O):(R.ex x:R α).toO δ f = .ex δ x:=rfl
section
variable {K:Kx} {XO:XOT} {E:St→XK} {ta tb te:TE} {ma mb me:En→R D} {t u:TS} {m n:En→O} {Λ:List (Nat × Addr × HO)} {F0 H0 F H F1 H1:Hp} {σ:St} {δ:En} {Dn:Ends}
theorem AftS.of {α:Type} {r:R α} {f:α→O} (I:EnvOk K Λ F0 H0 F H σ δ) (a:AftS K XO E Λ F0 H0 Dn (r.toO δ f)):Aft E XO σ F H (fun a _ _=>AftS K XO E Λ F0 H0 Dn (f a)) r:=by
  cases r with
  | no=>exact a
  | ok b=>exact fun _ _ _=>a
  | ex x=>exact fun C dct F' H' e h=>a σ F' H' C dct (I.grow e) h
theorem AftS.up (e:Ext F0 H0 F1 H1):∀ {o:O},AftS K XO E Λ F0 H0 Dn o→AftS K XO E Λ F1 H0 Dn o
  | .no,h=>h
  | .nx _,h=>fun σ F H I=>h σ F H (I.down e)
  | .bk _,h=>fun σ F H I=>h σ F H (I.down e)
  | .ct _,h=>fun σ F H I=>h σ F H (I.down e)
  | .rt _,h=>fun v F H x=>h v F H (e.base x)
  | .ro _,h=>fun p F H x=>h p F H (e.base x)
  | .ex _ _,h=>fun σ F H C d I=>h σ F H C d (I.down e)
def zbd (δ:En):O:=.nx δ
def mSeq (m n:En→O) (δ:En):O:=match m δ with | .nx δ'=>n δ' | r=>r
theorem zbb:SS K XO E zku zbd:=fun Λ F0 H0 F H σ δ Dn I a=>a σ F H I
theorem zau (h:SS K XO E t m) (h':SS K XO E u n):SS K XO E (tSeq t u) (mSeq m n):=by
  intro Λ F0 H0 F H σ δ Dn I a
  refine h Λ F0 H0 F H σ δ _ I ?_
  unfold mSeq at a
  cases q:m δ with
  | no=>rw [q] at a; exact a
  | nx δ'=>rw [q] at a; exact fun σ' F' H' I'=>h' Λ F0 H0 F' H' σ' δ' Dn I' a
  | rt d=>rw [q] at a; exact a
  | ro d=>rw [q] at a; exact a
  | bk δ'=>rw [q] at a; exact a
  | ct δ'=>rw [q] at a; exact a
  | ex δ' x=>rw [q] at a; exact a
theorem zfS:SS K XO E zhR (fun _=>.no):=fun Λ F0 H0 F H σ δ Dn I a=>a
def mRet (me:En→R D) (δ:En):O:=(me δ).toO δ .rt
theorem zbS (h:SE K XO E te me):SS K XO E (tRet te) (mRet me):=by
  intro Λ F0 H0 F H σ δ Dn I a
  exact h Λ F0 H0 F H σ δ _ I ((AftS.of I a).imp fun d F1 H1 e p v r=>p v F1 H1 (I.ext.trans e) r)
def zeV (me:En→R D) (δ:En):O:=(me δ).toO δ .ro
theorem zg4 (h:SEo K XO E te me):SS K XO E (tRet te) (zeV me):=by
  intro Λ F0 H0 F H σ δ Dn I a
  exact h Λ F0 H0 F H σ δ _ I ((AftS.of I a).imp fun d F1 H1 e p v h0 h1 o=>p v F1 H1 (I.ext.trans e) h0 (I.ext.hh.free h1) o)
def zhf (i:Nat) (δ:En):O:=match δ[i]? with | some (.o d)=>.ro d | _=>.no
theorem zfz {i:Nat}:SS K XO E (tRet (tVar i)) (zhf i):=by
  intro Λ F0 H0 F H σ δ Dn I a
  unfold zhf at a
  split at a
  · rename_i d q
    have z:=I.slot i
    rw [q] at z
    obtain ⟨p,z1,z2,z3,z4⟩:=z
    exact ⟨_,z1,a p F H I.ext z3 z2 z4⟩
  · exact a.elim
def mDo (me:En→R D) (δ:En):O:=(me δ).toO δ fun _=>.nx δ
theorem zlo (h:SE K XO E te me):SS K XO E (zka te) (mDo me):=by
  intro Λ F0 H0 F H σ δ Dn I a
  exact h Λ F0 H0 F H σ δ _ I ((AftS.of I a).imp fun d F1 H1 e p v r=>p σ F1 H1 (I.grow e))
def mIfS (n:En→R Bool) (m m':En→O) (δ:En):O:=(n δ).toO δ fun b=>if b=true then m δ else m' δ
theorem zcv {tc:TT} {nc:En→R Bool} (h:ST K XO E tc nc) (ha:SS K XO E t m) (hb:SS K XO E u n):SS K XO E (tIfS tc t u) (mIfS nc m n):=by
  intro Λ F0 H0 F H σ δ Dn I a
  refine h Λ F0 H0 F H σ δ _ I ((AftS.of I a).imp fun b F1 H1 e p=>?_)
  cases b with
  | true=>exact ha Λ F0 H0 F1 H1 σ δ Dn (I.grow e) p
  | false=>exact hb Λ F0 H0 F1 H1 σ δ Dn (I.grow e) p
def O.of:Option En→O
  | some δ=>.nx δ
  | none=>.no
@[simp] theorem O.of_some (δ:En):O.of (some δ) = .nx δ:=rfl
@[simp] theorem O.of_none:O.of none = .no:=rfl
def mAsg (me:En→R D) (b:D→En→Option En) (δ:En):O:=(me δ).toO δ fun d=>O.of (b d δ)
theorem za1 {g:TG} {b:D→En→Option En} (h:SE K XO E te me) (hg:SG K g b):SS K XO E (tAsg te g) (mAsg me b):=by
  intro Λ F0 H0 F H σ δ Dn I a
  refine h Λ F0 H0 F H σ δ _ I ((AftS.of I a).imp fun d F1 H1 e p v r=>?_)
  cases q:b d δ with
  | none=>rw [q] at p; exact p.elim
  | some δ'=>rw [q] at p; exact hg Λ F0 H0 F1 H1 σ δ d v δ' _ (I.grow e) r q fun σ' I'=>p σ' F1 H1 I'
def bNew (i:Nat) (d:D) (δ:En):Option En:=match δ[i]? with | none=>none | some (.l _)=>none | some _=>some (δ.set i (.o d))
theorem zeJ {i:Nat} (h:SEo K XO E te me):SS K XO E (tAsg te (zdE i)) (mAsg me (bNew i)):=by
  intro Λ F0 H0 F H σ δ Dn I a
  refine h Λ F0 H0 F H σ δ _ I ((AftS.of I a).imp fun d F1 H1 e p v h0 h1 o=>?_)
  unfold bNew at p
  split at p
  · exact p.elim
  · exact p.elim
  · rename_i x h3 h2
    exact p _ F1 H1 (I.putO ⟨x,h2,fun d' z=>h3 d' (by rw [z])⟩ e h0 h1 o)
def zdo (b:D→En→Option En) (m:En→O):List D→En→O
  | [],δ=>.nx δ
  | d :: l,δ=>match b d δ with
    | none=>.no
    | some δ1=>match m δ1 with
      | .nx δ2=>zdo b m l δ2
      | .ct δ2=>zdo b m l δ2
      | .bk δ2=>.nx δ2
      | r=>r
def mFor (mi:En→R (List D)) (b:D→En→Option En) (m:En→O) (δ:En):O:=(mi δ).toO δ fun l=>zdo b m l δ
theorem zlE {J:It} {P:Hp→Hp→Prop} {g:TG} {b:D→En→Option En} {ds:List D} (hJ:IsIt K J P ds) (hP:∀ σ δ F H,EnvOk K Λ F0 H0 F H σ δ→P F H) (hg:SG K g b) (hb:SS K XO E t m) (I:EnvOk K Λ F0 H0 F H σ δ)
    (a:AftS K XO E Λ F0 H0 Dn (zdo b m ds δ)):∃ W:Nat→Nat→St→Hp→Prop,(∃ k,W 0 k σ H)∧∀ i k σ H,W i k σ H →
      (J.stop i H∧Dn.nx σ H)∨(J.go i H∧∃ N:St→Hp→Prop,(∀ σ' H',N σ' H'→∃ k',k' < k∧W (i + 1) k' σ' H')∧∀ x H',J.yld i H x H'→g x σ H' fun σ2 H2=>t { Dn with nx:=N,ct:=N,bk:=Dn.nx } σ2 H2):=by
  let W:Nat→Nat→St→Hp→Prop:=fun i k σ H=>∃ F δ,EnvOk K Λ F0 H0 F H σ δ∧k=ds.length - i∧i ≤ ds.length∧AftS K XO E Λ F0 H0 Dn (zdo b m (ds.drop i) δ)
  refine ⟨W,⟨ds.length,F,δ,I,rfl,Nat.zero_le _,a⟩,?_⟩
  rintro i k σ H ⟨F,δ,I,rfl,hi,a⟩
  have hP':=hP σ δ F H I
  by_cases hlt:i < ds.length
  · have e:ds.drop i=ds[i] :: ds.drop (i + 1):=List.drop_eq_getElem_cons hlt
    obtain ⟨h1,h2⟩:=(hJ F H hP' i).1 ds[i] (by simp [hlt])
    refine .inr ⟨h1,W (i + 1) (ds.length - (i + 1)),fun σ' H' w=>⟨_,by omega,w⟩,fun x H' y=>?_⟩
    obtain ⟨F3,e3,r⟩:=h2 x H' y
    rw [e] at a
    unfold zdo at a
    cases q:b ds[i] δ with
    | none=>rw [q] at a; exact a.elim
    | some δ1 =>
      rw [q] at a
      refine hg Λ F0 H0 F3 H' σ δ _ x δ1 _ (I.grow e3) r q fun σ1 I1=>hb Λ F0 H0 F3 H' σ1 δ1 _ I1 ?_
      cases q2:m δ1 with
      | no=>simp only [q2] at a; exact a
      | nx δ2=>simp only [q2] at a; exact fun σ' F' H' I'=>⟨F',δ2,I',rfl,hlt,a⟩
      | ct δ2=>simp only [q2] at a; exact fun σ' F' H' I'=>⟨F',δ2,I',rfl,hlt,a⟩
      | bk δ2=>simp only [q2] at a; exact a
      | rt d=>simp only [q2] at a; exact a
      | ro d=>simp only [q2] at a; exact a
      | ex δ' x=>simp only [q2] at a; exact a
  · have e:i=ds.length:=by omega
    subst e
    rw [List.drop_length] at a
    exact .inl ⟨(hJ F H hP' _).2 (by simp),a σ F H I⟩
theorem zbk {wi:TI} {mi:En→R (List D)} {g:TG} {b:D→En→Option En} (hi:SI K XO E wi mi) (hg:SG K g b) (hb:SS K XO E t m):SS K XO E (tFor wi g t) (mFor mi b m):=by
  intro Λ F0 H0 F H σ δ Dn I a
  refine hi Λ F0 H0 F H σ δ _ I ((AftS.of I a).imp fun ds F1 H1 e p J hJ=>?_)
  have I1:=I.grow e
  exact zlE (F0:=F1) hJ (fun σ δ F H I=>⟨I.ext.ff,I.ext.fh⟩) hg hb I1.up (p.up I1.ext)
end
end PM
namespace PM
open PySem L2
def asK:D→Option Key
  | .int i=>some (.inl i)
  | .str x=>some (.inr x)
  | _=>none
def getK (ks:List Key) (l:List D) (k:Key):Option D:=match ks,l with
  | a :: r,d :: t=>if a=k then some d else getK r t k
  | _,_=>none
def putL (ks:List Key) (l:List D) (k:Key) (x:D):List D:=match ks,l with
  | a :: r,d :: t=>(if a=k then x else d) :: putL r t k x
  | _,t=>t
def putD (ks:List Key) (l:List D) (k:Key) (x:D):D:=if ks.any (fun a=>decide (a=k))=true then .dct ks (putL ks l k x) else .dct (ks ++ [k]) (l ++ [x])
section
variable {K:Kx} {F H:Hp}
theorem zg8 {d:D} {v:V} {k:Key} (h:asK d=some k) (r:Rep K F d v):v=kV k:=by
  cases d with
  | int i=>cases h; simp only [Rep] at r; exact r
  | str i=>cases h; simp only [Rep] at r; exact r
  | _=>cases h
theorem zi1 {k:Key}:∀ {kvs:List (Key × V)} {ks:List Key} {l:List D},kvs.map (·.1)=ks→RepL K F l (kvs.map (·.2)) →
    (∀ d,getK ks l k=some d→∃ v,valV kvs k=some v∧Rep K F d v)∧(getK ks l k=none→valV kvs k=none)
  | [],ks,l,h1,h2=>by
    subst h1
    refine ⟨fun d h=>?_,fun _=>rfl⟩
    simp [getK] at h
  | (a,v) :: kvs,ks,l,h1,h2=>by
    subst h1
    cases l with
    | nil=>simp [RepL] at h2
    | cons d t =>
      simp only [List.map_cons,RepL] at h2
      obtain ⟨v',r,e,h3,h4⟩:=h2
      cases e
      have ih:=zi1 (k:=k) (kvs:=kvs) rfl h4
      simp only [List.map_cons,getK]
      by_cases hk:a=k
      · rw [if_pos hk]
        refine ⟨fun d' e=>?_,fun e=>by cases e⟩
        cases e
        exact ⟨v,by simp [valV,hk],h3⟩
      · rw [if_neg hk]
        have e:valV ((a,v) :: kvs) k=valV kvs k:=by simp [valV,hk]
        rw [e]
        exact ih
theorem znC {kvs:List (Key × V)} {ks:List Key} (h:kvs.map (·.1)=ks):kvs.length=ks.length:=by rw [← h,List.length_map]
theorem zjb {k:Key} {x:D} {u:V} (hu:Rep K F x u):∀ {kvs:List (Key × V)} {ks:List Key} {l:List D},kvs.map (·.1)=ks→RepL K F l (kvs.map (·.2)) →
    RepL K F (putL ks l k x) ((kvs.map (fun kv=>if kv.1=k then (kv.1,u) else kv)).map (·.2))
  | [],ks,l,h1,h2=>by
    subst h1
    cases l with
    | nil=>exact .nil
    | cons d t=>simp [RepL] at h2
  | (a,v) :: kvs,ks,l,h1,h2=>by
    subst h1
    cases l with
    | nil=>simp [RepL] at h2
    | cons d t =>
      simp only [List.map_cons,RepL] at h2
      obtain ⟨v',r,e,h3,h4⟩:=h2
      cases e
      have ih:=zjb (k:=k) hu (kvs:=kvs) rfl h4
      simp only [List.map_cons,putL]
      refine .cons ?_ ih
      by_cases hk:a=k
      · rw [if_pos hk,if_pos hk]; exact hu
      · rw [if_neg hk,if_neg hk]; exact h3
theorem zm6 {k:Key} {x:D} {u:V} {a:Addr} (hu:Rep K F x u) {kvs:List (Key × V)} {ks:List Key} {l:List D} (h1:kvs.map (·.1)=ks) (h2:RepL K F l (kvs.map (·.2))):Own K F (upd H a (.dK (putK kvs k u))) (putD ks l k x) a:=by
  have e:ks.any (fun a=>decide (a=k))=kvs.any (fun kv=>decide (kv.1=k)):=by rw [← h1,List.any_map]; rfl
  unfold putD putK
  rw [e]
  split
  · refine ⟨_,zah,?_,zjb hu h1 h2⟩
    rw [← h1,List.map_map]
    refine List.map_congr_left fun kv _=>?_
    simp only [Function.comp]
    split <;> rfl
  · exact ⟨_,zah,by rw [List.map_append,h1]; rfl,by rw [List.map_append]; exact h2.append (.cons hu .nil)⟩
end
section
variable {K:Kx} {XO:XOT} {E:St→XK} {ta tb te ty td:TE} {ma mb me my md:En→R D} {t u:TS} {m n:En→O} {Λ:List (Nat × Addr × HO)} {F0 H0 F H F1 H1:Hp} {σ:St} {δ:En} {Dn:Ends}
theorem EnvOk.own {i:Nat} {d:D} (I:EnvOk K Λ F0 H0 F H σ δ) (hx:δ[i]?=some (.o d)):∃ a,σ[i]?=some (some (.ref a))∧Own K F H d a:=by
  have z:=I.slot i
  rw [hx] at z
  obtain ⟨a,z1,z2,z3,z4⟩:=z
  exact ⟨a,z1,z4⟩
def zbT (i:Nat) (me:En→R D) (δ:En):O:=match δ[i]? with
  | some (.o (.lst l))=>(me δ).toO δ fun d=>ifC (l.length < sizeLine) (.nx (δ.set i (.o (.lst (l ++ [d]))))) .no
  | _=>.no
theorem zdp {i:Nat} (h:SE K XO E te me):SS K XO E (zka (tBM K.f "list" zgS (tVar i) (zbf te tNil))) (zbT i me):=by
  intro Λ F0 H0 F H σ δ Dn I a
  unfold zbT at a
  split at a
  · rename_i l q
    obtain ⟨p,s1,vs,s2,s3⟩:=I.own q
    refine ⟨_,s1,.inl ⟨rfl,vs,.inl (.inl s2)⟩,?_⟩
    refine h Λ F0 H0 F H σ δ _ I ((AftS.of I a).imp fun d F1 H1 e c v r=>?_)
    unfold ifC at c
    split at c
    · rename_i hl
      refine ⟨p,vs,v,rfl,rfl,e.hh _ _ s2,by rw [s3.length]; exact hl,?_⟩
      exact c σ F1 _ ((I.grow e).chg q s1 ⟨_,zah,(s3.mono e.ff).append (.cons r .nil)⟩)
    · exact c.elim
  · exact a.elim
def zjz (i:Nat) (mk me:En→R D) (δ:En):O:=match δ[i]? with
  | some (.o (.dct ks l))=>(me δ).toO δ fun d=>(mk δ).toO δ fun k=>match asK k with
    | some k=>ifC (ks.length < sizeLine) (.nx (δ.set i (.o (putD ks l k d)))) .no
    | none=>.no
  | _=>.no
theorem zl9 {i:Nat} {tk:TE} {mk:En→R D} (hk:SE K XO E tk mk) (h:SE K XO E te me):SS K XO E (zlR (tVar i) tk te) (zjz i mk me):=by
  intro Λ F0 H0 F H σ δ Dn I a
  unfold zjz at a
  split at a
  · rename_i ks l q
    obtain ⟨p,s1,vs,s2,s0,s3⟩:=I.own q
    refine h Λ F0 H0 F H σ δ _ I ((AftS.of I a).imp fun d F1 H1 e c v r=>⟨_,s1,?_⟩)
    refine hk Λ F0 H0 F1 H1 σ δ _ (I.grow e) ((AftS.of (I.grow e) c).imp fun k F2 H2 e2 c2 v2 r2=>?_)
    cases z:asK k with
    | none=>rw [z] at c2; exact c2.elim
    | some k =>
      rw [z] at c2
      dsimp only at c2
      unfold ifC at c2
      split at c2
      · rename_i hl
        cases zg8 z r2
        refine ⟨p,_,rfl,DPut.k (e2.hh _ _ (e.hh _ _ s2)) (by rw [znC s0]; exact hl),?_⟩
        exact c2 σ F2 _ (((I.grow e).grow e2).chg q s1 (zm6 (Rep.mono e2.ff _ r) s0 ((s3.mono e.ff).mono e2.ff)))
      · exact c2.elim
  · exact a.elim
theorem zkg {ks:List Key} {l:List D} {x:V} {k:Key} (h:Top K F H (.dct ks l) x):∃ p o,x = .ref p∧DGet H p (kV k) o∧(∀ d,getK ks l k=some d→∃ v,o=some v∧Rep K F d v)∧(getK ks l k=none→o=none):=by
  obtain ⟨a,kvs,rfl,h1,h2,h3⟩:=h
  exact ⟨a,_,rfl,.k h1,zi1 h2 h3⟩
def i2 (f:Int→Int→D) (x y:D):Option D:=match x,y with | .int i,.int j=>some (f i j) | _,_=>none
def i2c (C:Int→Int→Prop) (f:Int→Int→D) (x y:D):Option D:=match x,y with | .int i,.int j=>ifC (C i j) (some (f i j)) none | _,_=>none
theorem zj0 {g:Int→Int→V} {f:Int→Int→D} (h:∀ i j F,Rep K F (f i j) (g i j)):SR K (rI0 g) (i2 f):=by
  intro F H x y dx dy d Q s hx hy e q
  cases dx with
  | int i =>
    cases dy with
    | int j =>
      cases e
      simp only [Top,Rep] at hx hy
      exact ⟨i,j,hx,hy,q _ F H (.refl s) (h i j F)⟩
    | _=>cases e
  | _=>cases e
theorem zhJ {C:Int→Int→Prop} {g:Int→Int→V} {f:Int→Int→D} (h:∀ i j F,Rep K F (f i j) (g i j)):SR K (rI C g) (i2c C f):=by
  intro F H x y dx dy d Q s hx hy e q
  cases dx with
  | int i =>
    cases dy with
    | int j =>
      simp only [Top,Rep] at hx hy
      simp only [i2c] at e
      unfold ifC at e
      split at e
      · rename_i hc
        cases e
        exact ⟨i,j,hx,hy,hc,q _ F H (.refl s) (h i j F)⟩
      · cases e
    | _=>cases e
  | _=>cases e
def oAdd:D→D→Option D:=i2 fun i j=>.int (i + j)
def oSub:D→D→Option D:=i2 fun i j=>.int (i - j)
def oMul:D→D→Option D:=i2c (fun i j=>Fit i∧Fit j) fun i j=>.int (i * j)
def oDiv:D→D→Option D:=i2c (fun _ j=>j ≠ 0∧Fit j) fun i j=>.int (i.fdiv j)
def oMod:D→D→Option D:=i2c (fun _ j=>0 < j) fun i j=>.int (i % j)
def oPow:D→D→Option D:=i2c CPow fun i j=>.int (i ^ j.toNat)
def oLt:D→D→Option D:=i2 fun i j=>.bl (decide (i < j))
def oGt:D→D→Option D:=i2 fun i j=>.bl (decide (j < i))
def oGe:D→D→Option D:=i2 fun i j=>.bl (decide (j ≤ i))
theorem za8:SR K (rI0 fun i j=>.int (i + j)) oAdd:=zj0 fun _ _ _=>by simp only [Rep]
theorem zf0:SR K (rI0 fun i j=>.int (i - j)) oSub:=zj0 fun _ _ _=>by simp only [Rep]
theorem zbV:SR K (rI (fun i j=>Fit i∧Fit j) fun i j=>.int (i * j)) oMul:=zhJ fun _ _ _=>by simp only [Rep]
theorem zdj:SR K (rI (fun _ j=>j ≠ 0∧Fit j) fun i j=>.int (i.fdiv j)) oDiv:=zhJ fun _ _ _=>by simp only [Rep]
theorem zb3:SR K (rI (fun _ j=>0 < j) fun i j=>.int (i % j)) oMod:=zhJ fun _ _ _=>by simp only [Rep]
theorem zjt:SR K (rI CPow fun i j=>.int (i ^ j.toNat)) oPow:=zhJ fun _ _ _=>by simp only [Rep]
theorem zmr:SR K (rI0 fun i j=>.bl (decide (i < j))) oLt:=zj0 fun _ _ _=>by simp only [Rep]
theorem zm1:SR K (rI0 fun i j=>.bl (decide (j < i))) oGt:=zj0 fun _ _ _=>by simp only [Rep]
theorem znH:SR K (rI0 fun i j=>.bl (decide (j ≤ i))) oGe:=zj0 fun _ _ _=>by simp only [Rep]
def fl:D→Option V
  | .non=>some .non
  | .bl b=>some (.bl b)
  | .int i=>some (.int i)
  | .str x=>some (.str x)
  | _=>none
theorem zhs {d:D} {v x:V} (h:fl d=some v) (r:Top K F H d x):x=v:=by
  cases d with
  | non=>cases h; simpa only [Top,Rep] using r
  | bl _=>cases h; simpa only [Top,Rep] using r
  | int _=>cases h; simpa only [Top,Rep] using r
  | str _=>cases h; simpa only [Top,Rep] using r
  | _=>cases h
def oEq (x y:D):Option D:=match fl x,fl y with | some a,some b=>if scal a b=true then some (.bl (decide (a=b))) else none | _,_=>none
def oNe (x y:D):Option D:=match fl x,fl y with | some a,some b=>if scal a b=true then some (.bl (!decide (a=b))) else none | _,_=>none
theorem zgk:SR K rEq oEq:=by
  intro F H x y dx dy d Q s hx hy e q
  unfold oEq at e
  split at e
  · rename_i a b h1 h2
    split at e
    · rename_i hs
      cases e
      cases zhs h1 hx; cases zhs h2 hy
      exact ⟨hs,q _ F H (.refl s) (by simp only [Rep])⟩
    · cases e
  · cases e
theorem zlv:SR K rNe oNe:=by
  intro F H x y dx dy d Q s hx hy e q
  unfold oNe at e
  split at e
  · rename_i a b h1 h2
    split at e
    · rename_i hs
      cases e
      cases zhs h1 hx; cases zhs h2 hy
      exact ⟨hs,q _ F H (.refl s) (by simp only [Rep])⟩
    · cases e
  · cases e
def oIxL (x y:D):Option D:=match x,y with | .lst l,.int i=>atI l i | .scr l,.int i=>(atI l i).map .int | _,_=>none
def oIxT (x y:D):Option D:=match x,y with | .tup l,.int i=>atI l i | _,_=>none
theorem zhb {l:List D} {vs:List V} {i:Int} {d:D} (r:RepL K F l vs) (h:atI l i=some d):∃ v,atI vs i=some v∧Rep K F d v:=by
  unfold atI at h ⊢
  rw [r.length]
  cases q:ixN l.length i with
  | none=>rw [q] at h; cases h
  | some j=>rw [q] at h; exact r.get h
theorem zaV:SR K (rIxL K.f) oIxL:=by
  intro F H x y dx dy d Q s hx hy e q
  cases dx with
  | lst l =>
    cases dy with
    | int i =>
      obtain ⟨a,vs,rfl,h1,h2⟩:=hx
      simp only [Top,Rep] at hy
      obtain ⟨v,g1,g2⟩:=zhb h2 e
      exact ⟨a,vs,i,v,rfl,hy,.inl h1,g1,q _ F H (.refl s) g2⟩
    | _=>cases e
  | scr l =>
    cases dy with
    | int i =>
      simp only [Top,Rep] at hx hy
      obtain ⟨a,rfl,h1⟩:=hx
      simp only [oIxL] at e
      cases z:atI l i with
      | none=>rw [z] at e; cases e
      | some n =>
        rw [z] at e; cases e
        obtain ⟨v,g1,g2⟩:=zhb (F:=F) (K:=K) (l:=l.map .int) (vs:=l.map V.int) (i:=i) (d:=.int n) .ints (by
          unfold atI at z ⊢
          rw [List.length_map]
          cases q:ixN l.length i with
          | none=>rw [q] at z; cases z
          | some j =>
            rw [q] at z
            change l[j]?=some n at z
            show (l.map D.int)[j]?=_
            rw [List.getElem?_map,z]; rfl)
        exact ⟨a,_,i,v,rfl,hy,s.seq h1,g1,q _ F H (.refl s) g2⟩
    | _=>cases e
  | _=>cases e
theorem zbJ:SR K (rIxT K.f) oIxT:=by
  intro F H x y dx dy d Q s hx hy e q
  cases dx with
  | tup l =>
    cases dy with
    | int i =>
      simp only [Top,Rep] at hx hy
      obtain ⟨a,vs,rfl,h1,h2⟩:=hx
      obtain ⟨v,g1,g2⟩:=zhb h2 e
      exact ⟨a,vs,i,v,rfl,hy,.inl (.inl (s _ _ h1)),g1,q _ F H (.refl s) g2⟩
    | _=>cases e
  | _=>cases e
end
end PM
namespace PM
open PySem L2
section
variable {K:Kx} {XO:XOT} {E:St→XK} {ta tb te ty td:TE} {ma mb me my md:En→R D} {t u:TS} {m n:En→O} {Λ:List (Nat × Addr × HO)} {F0 H0 F H F1 H1:Hp} {σ:St} {δ:En} {Dn:Ends}
abbrev EN:St→XK:=fun _ _ _ _=>False
def ziC:Sl→Sl
  | .o d=>.l d
  | .p _=>.no
  | s=>s
def zaF (δ:En) (ix:List Nat) (n:Nat):En:=ix.map (fun i=>ziC (δ[i]?.getD .no)) ++ List.replicate n .no
def zb2 (f:D→R (Option D)):List D→R (List D)
  | []=>.ok []
  | d :: l=>(f d).bind fun o=>(zb2 f l).bind fun r=>.ok (o.toList ++ r)
def zcU (b:D→En→Option En) (nc:Option (En→R Bool)) (me:En→R D) (δ:En) (d:D):R (Option D):=match b d δ with
  | none=>.no
  | some δ1=>(match nc with
    | none=>(me δ1).nev.bind fun x=>.ok (some x)
    | some c=>(c δ1).nev.bind fun k=>if k=true then (me δ1).nev.bind fun x=>.ok (some x) else .ok none)
def zeB (mi:En→R (List D)) (ix:List Nat) (n:Nat) (b:D→En→Option En) (nc:Option (En→R Bool)) (me:En→R D) (δ:En):R D :=
  (mi δ).bind fun ds=>ifC (ds.length ≤ sizeLine) ((zb2 (zcU b nc me (zaF δ ix n)) ds).nev.bind fun l=>.ok (.lst l)) .no
theorem zgr {ix:List Nat} {n:Nat} (I:EnvOk K Λ F0 H0 F H σ δ) (hix:ix.Nodup) :
    ∃ Λc,EnvOk K Λc F0 H0 F H (zbQ σ ix n) (zaF δ ix n)∧(∀ i:Nat,Sl.own (zaF δ ix n)[i]?=true→∃ x ∈ Λc,x.1=i)∧∀ x ∈ Λc,∃ o,H x.2.1=some o:=by
  have gd:∀ j:Nat,j < ix.length→(zaF δ ix n)[j]?=some (ziC (δ[ix.getD j 0]?.getD .no)):=fun j hj=>by
    unfold zaF
    rw [List.getElem?_append_left (by simpa using hj),List.getElem?_map,List.getElem?_eq_getElem hj]
    simp [List.getD_eq_getElem?_getD,List.getElem?_eq_getElem hj]
  have gs:∀ j:Nat,j < ix.length→(zbQ σ ix n)[j]?=some ((σ[ix.getD j 0]?).getD none):=fun j hj=>by
    unfold zbQ
    rw [List.getElem?_append_left (by simpa using hj),List.getElem?_map,List.getElem?_eq_getElem hj]
    simp [List.getD_eq_getElem?_getD,List.getElem?_eq_getElem hj]
  have gn:∀ j:Nat,¬ j < ix.length→(zaF δ ix n)[j]?=some .no∨(zaF δ ix n)[j]?=none:=fun j hj=>by
    unfold zaF
    rw [List.getElem?_append_right (by simpa using hj),List.getElem?_replicate]
    split
    · exact .inl rfl
    · exact .inr rfl
  have own:∀ j:Nat,Sl.own (zaF δ ix n)[j]?=true→j < ix.length∧∃ d a o,δ[ix.getD j 0]?=some d∧Sl.own (some d)=true∧(zaF δ ix n)[j]?=some (ziC d)∧(∃ e,ziC d = .l e)∧σ[ix.getD j 0]?=some (some (.ref a))∧(zbQ σ ix n)[j]?=some (some (.ref a))∧H a=some o∧H0 a=none∧F a=none:=fun j h=>by
    by_cases hj:j < ix.length
    · refine ⟨hj,?_⟩
      rw [gd j hj] at h
      have z:=I.slot (ix.getD j 0)
      cases q:δ[ix.getD j 0]? with
      | none=>rw [q] at h; cases h
      | some s =>
        rw [q] at h z
        cases s with
        | no=>cases h
        | v d=>cases h
        | o d =>
          obtain ⟨a,z1,z2,z3,z4⟩:=z
          obtain ⟨o,ho⟩:=z4.obj
          exact ⟨_,a,o,rfl,rfl,by rw [gd j hj,q]; rfl,⟨d,rfl⟩,z1,by rw [gs j hj,z1]; rfl,ho,z2,z3⟩
        | l d =>
          obtain ⟨a,z1,z2,z3,z4⟩:=z
          obtain ⟨o,ho⟩:=z4.obj
          exact ⟨_,a,o,rfl,rfl,by rw [gd j hj,q]; rfl,⟨d,rfl⟩,z1,by rw [gs j hj,z1]; rfl,ho,z2,z3⟩
        | p ll=>cases h
    · rcases gn j hj with z | z <;> (rw [z] at h; cases h)
  let Λc:List (Nat × Addr × HO):=(List.range ix.length).filterMap fun (j:Nat)=>match (zbQ σ ix n)[j]? with
    | some (some (V.ref a))=>if Sl.own (zaF δ ix n)[j]?=true then (H a).map fun o=>(j,a,o) else none
    | _=>none
  have mem:∀ x ∈ Λc,(zbQ σ ix n)[x.1]?=some (some (.ref x.2.1))∧Sl.own (zaF δ ix n)[x.1]?=true∧H x.2.1=some x.2.2:=fun x hx=>by
    obtain ⟨j,_,h⟩:=List.mem_filterMap.mp hx
    split at h
    · rename_i a q
      split at h
      · rename_i ow
        cases q2:H a with
        | none=>rw [q2] at h; cases h
        | some o=>rw [q2] at h; cases h; exact ⟨q,ow,q2⟩
      · cases h
    · cases h
  have zhp:∀ (j:Nat) (ll:Tr),(zaF δ ix n)[j]? ≠ some (.p ll):=fun j ll h=>by
    by_cases hj:j < ix.length
    · rw [gd j hj] at h
      cases q:δ[ix.getD j 0]? with
      | none=>rw [q] at h; cases h
      | some s=>rw [q] at h; cases s <;> cases h
    · rcases gn j hj with z | z <;> (rw [z] at h; cases h)
  refine ⟨Λc,⟨I.ext,?_,fun j=>?_,fun i j a hij h1 h2 h3 h4=>?_,fun x hx=>?_,fun j ll h=>absurd h (zhp j ll)⟩,fun j h=>?_,fun x hx=>⟨_,(mem x hx).2.2⟩⟩
  · unfold zbQ zaF
    simp
  · by_cases hj:j < ix.length
    · rw [gd j hj,gs j hj]
      have z:=I.slot (ix.getD j 0)
      cases q:δ[ix.getD j 0]? with
      | none=>trivial
      | some s =>
        rw [q] at z
        cases s with
        | no=>trivial
        | v d=>obtain ⟨u,z1,z2⟩:=z; exact ⟨u,by rw [z1]; rfl,z2⟩
        | o d=>obtain ⟨a,z1,z2⟩:=z; exact ⟨a,by rw [z1]; rfl,z2⟩
        | l d=>obtain ⟨a,z1,z2⟩:=z; exact ⟨a,by rw [z1]; rfl,z2⟩
        | p ll=>trivial
    · rcases gn j hj with z | z <;> (rw [z]; trivial)
  · obtain ⟨i1,d1,a1,o1,i2,i3,i4,i5,i6,i7,i8⟩:=own i h1
    obtain ⟨j1,d2,a2,o2,j2,j3,j4,j5,j6,j7,j8⟩:=own j h2
    rw [i7] at h3; cases h3
    rw [j7] at h4; cases h4
    refine I.dist (ix.getD i 0) (ix.getD j 0) a (fun e=>hij ?_) (by rw [i2]; exact i3) (by rw [j2]; exact j3) i6 j6
    rw [List.getD_eq_getElem?_getD,List.getD_eq_getElem?_getD,List.getElem?_eq_getElem i1,List.getElem?_eq_getElem j1] at e
    exact ((List.getElem?_inj i1 hix).mp (by rw [List.getElem?_eq_getElem i1,List.getElem?_eq_getElem j1]; exact congrArg some e))
  · obtain ⟨m1,m2,m3⟩:=mem x hx
    obtain ⟨_,d,_,_,_,_,h4,⟨e,h5⟩,_⟩:=own x.1 m2
    exact ⟨⟨e,by rw [h4,h5]⟩,m1,m3⟩
  · obtain ⟨i1,d1,a1,o1,i2,i3,i4,i5,i6,i7,i8,_⟩:=own j h
    refine ⟨(j,a1,o1),List.mem_filterMap.mpr ⟨j,List.mem_range.mpr i1,?_⟩,rfl⟩
    rw [i7]
    show (if Sl.own (zaF δ ix n)[j]?=true then (H a1).map fun o=>(j,a1,o) else none)=_
    rw [if_pos h,i8]
    rfl
theorem EnvOk.side {p:Addr} {w:HO} (I:EnvOk K Λ F0 H0 F H σ δ) (ho:∀ i:Nat,Sl.own δ[i]?=true→∃ x ∈ Λ,x.1=i) (hp:∀ x ∈ Λ,x.2.1 ≠ p) (h0:H0 p=none) (h1:F p=none):EnvOk K Λ F0 H0 F (upd H p w) σ δ:=by
  have ne:∀ (i:Nat) (a:Addr),Sl.own δ[i]?=true→σ[i]?=some (some (.ref a))→a ≠ p:=fun i a h h'=>by
    obtain ⟨x,hx,e⟩:=ho i h
    have z:=(I.lent x hx).2.1
    rw [e,h'] at z
    cases z
    exact hp x hx
  have zhp:∀ (j:Nat) (ll:Tr),δ[j]? ≠ some (.p ll):=fun j ll h=>by
    obtain ⟨x,hx,e⟩:=ho j (by rw [h]; rfl)
    obtain ⟨d,hd⟩:=(I.lent x hx).1
    rw [e,h] at hd; cases hd
  refine ⟨⟨I.ext.ff,fun b o q=>?_,fun b o q=>?_,I.ext.nw⟩,I.len,fun i=>?_,I.dist,fun x hx=>?_,fun j ll h=>absurd h (zhp j ll)⟩
  · rw [zaf (zan q h0)]; exact I.ext.hh b o q
  · rw [zaf (zan q h1)]; exact I.ext.fh b o q
  · have z:=I.slot i
    cases q:δ[i]? with
    | none=>trivial
    | some s =>
      rw [q] at z
      cases s with
      | no=>trivial
      | v d=>exact z
      | o d=>obtain ⟨a,z1,z2,z3,z4⟩:=z; exact ⟨a,z1,z2,z3,z4.at (zaf (ne i a (by rw [q]; rfl) z1))⟩
      | l d=>obtain ⟨a,z1,z2,z3,z4⟩:=z; exact ⟨a,z1,z2,z3,z4.at (zaf (ne i a (by rw [q]; rfl) z1))⟩
      | p ll=>exact absurd q (zhp i ll)
  · obtain ⟨z1,z2,z3⟩:=I.lent x hx
    exact ⟨z1,z2,by rw [zaf (hp x hx)]; exact z3⟩
theorem EnvOk.weakL {δ':En} (w:Weak δ δ') (hl:∀ x ∈ Λ,∃ d,δ[x.1]?=some (.l d)) (I:EnvOk K Λ F0 H0 F H σ δ'):EnvOk K Λ F0 H0 F H σ δ:=by
  refine ⟨I.ext,I.len.trans w.1.symm,fun i=>?_,fun i j a hij h1 h2 h3 h4=>?_,fun x hx=>⟨hl x hx,(I.lent x hx).2⟩,I.tabsOf (fun k ll h=>⟨(w.2 k).elim (fun z=>by rw [z] at h; cases h) fun z=>by rw [← z]; exact h,rfl⟩) (fun _ _ _ _ _ _ t f _=>⟨t,fun b hb=>(f b hb).2⟩) fun k j ll r b bs _ _ _ _ ho hs=>.inl ⟨(w.2 j).elim (fun z=>by rw [z] at ho; cases ho) fun z=>by rw [← z]; exact ho,hs⟩⟩
  · rcases w.2 i with z | z
    · rw [z]; trivial
    · rw [z]; exact I.slot i
  · have ow:∀ k:Nat,Sl.own δ[k]?=true→Sl.own δ'[k]?=true:=fun k h=>by
      rcases w.2 k with z | z
      · rw [z] at h; cases h
      · rw [← z]; exact h
    exact I.dist i j a hij (ow i h1) (ow j h2) h3 h4
theorem zgZ {f:D→R (Option D)} {d:D} {l r:List D} (h:(zb2 f (d :: l)).nev = .ok r):∃ o r',f d = .ok o∧(zb2 f l).nev = .ok r'∧r=o.toList ++ r':=by
  unfold zb2 at h
  cases q:f d with
  | no=>rw [q] at h; cases h
  | ex x=>rw [q] at h; cases h
  | ok o =>
    rw [q] at h
    cases q2:zb2 f l with
    | no=>rw [R.bind_ok,q2] at h; cases h
    | ex x=>rw [R.bind_ok,q2] at h; cases h
    | ok r'=>rw [R.bind_ok,q2] at h; cases h; exact ⟨o,r',rfl,rfl,rfl⟩
theorem nev_ok {α:Type} {r:R α} {a:α} (h:r.nev = .ok a):r = .ok a:=by
  cases r with
  | no=>cases h
  | ok b=>cases h; rfl
  | ex x=>cases h
theorem zb0 {wi:TI} {mi:En→R (List D)} {ix:List Nat} {n:Nat} {g:TG} {b:D→En→Option En} {tc:Option TT} {nc:Option (En→R Bool)}
    (hi:SIc K XO E wi mi) (hix:ix.Nodup) (hg:SG K g b) (hw:BW b) (hc:(tc=none∧nc=none)∨∃ c k,tc=some c∧nc=some k∧ST K XO EN c k) (he:SE K XO EN te me):SEo K XO E (zha wi ix n g tc te) (zeB mi ix n b nc me):=by
  intro Λ F0 H0 F H σ δ Q I a
  refine hi Λ F0 H0 F H σ δ _ I (a.bind.imp fun ds F1 H1 e1 a1 J hJ p hp=>?_)
  unfold ifC at a1
  split at a1
  case isFalse=>exact a1.elim
  rename_i hsz
  have I1:=I.grow e1
  obtain ⟨Λc,Ic,hown,hall⟩:=zgr (n:=n) I1 hix
  cases qg:(zb2 (zcU b nc me (zaF δ ix n)) ds).nev with
  | no=>rw [qg] at a1; exact a1.elim
  | ex x=>cases q2:zb2 (zcU b nc me (zaF δ ix n)) ds <;> (rw [q2] at qg; cases qg)
  | ok l =>
  rw [qg] at a1
  have hlent:∀ x ∈ Λc,∃ d,(zaF δ ix n)[x.1]?=some (.l d):=fun x hx=>(Ic.lent x hx).1
  have hpn:∀ x ∈ Λc,x.2.1 ≠ p:=fun x hx e=>by
    obtain ⟨o,ho⟩:=hall x hx
    rw [e,hp] at ho; cases ho
  have p0:H0 p=none:=I1.ext.hh.free hp
  have f1:F1 p=none:=e1.fh.free hp
  refine ⟨fun i k ys σ2 H2=>∃ F2 l1 l2,EnvOk K Λc F0 H0 F2 H2 σ2 (zaF δ ix n)∧Ext F1 H1 F2 H2∧H2 p=some (.lst ys)∧F2 p=none∧RepL K F2 l1 ys∧(zb2 (zcU b nc me (zaF δ ix n)) (ds.drop i)).nev = .ok l2∧l=l1 ++ l2∧k=ds.length - i∧i ≤ ds.length∧ys.length ≤ i,
    ⟨_,F1,[],l,?_,.newO e1.fh hp,zah,f1,.nil,qg,rfl,rfl,Nat.zero_le _,Nat.le_refl _⟩,?_⟩
  · exact Ic.grow (.newO e1.fh hp)
  rintro i k ys σ2 H2 ⟨F2,l1,l2,I2,x2,hD,hF,r,qd,rfl,rfl,hil,hys⟩
  refine ⟨hD,?_⟩
  by_cases hlt:i < ds.length
  · have e:ds.drop i=ds[i] :: ds.drop (i + 1):=List.drop_eq_getElem_cons hlt
    rw [e] at qd
    obtain ⟨o,l3,q1,q3,rfl⟩:=zgZ qd
    obtain ⟨h1,h2⟩:=(hJ F2 H2 x2 i).1 ds[i] (by simp [hlt])
    refine .inr ⟨h1,fun ys' σ' H'=>∃ F' l1',EnvOk K Λc F0 H0 F' H' σ' (zaF δ ix n)∧Ext F1 H1 F' H'∧H' p=some (.lst ys')∧F' p=none∧RepL K F' l1' ys'∧l1 ++ (o.toList ++ l3)=l1' ++ l3∧ys'.length ≤ i + 1,
      fun ys' σ' H' ⟨F',l1',w1,w2,w3,w4,w5,w6,w7⟩=>⟨_,by omega,F',l1',l3,w1,w2,w3,w4,w5,q3,w6,rfl,hlt,w7⟩,fun x H' y=>?_⟩
    obtain ⟨F3,e3,rx⟩:=h2 x H' y
    have hp2:∀ {F5 H5:Hp},Ext F2 H2 F5 H5→H5 p=some (.lst ys)∧F5 p=none:=fun z=>⟨z.hh _ _ hD,z.nw p _ hF hD⟩
    unfold zcU at q1
    cases qb:b ds[i] (zaF δ ix n) with
    | none=>rw [qb] at q1; cases q1
    | some δ1 =>
      rw [qb] at q1
      have hwk:=hw _ _ _ qb
      refine hg Λc F0 H0 F3 H' σ2 _ _ x δ1 _ (I2.grow e3) rx qb fun σ3 I3=>?_
      have fin:∀ F4 H4,Ext F3 H' F4 H4→(me δ1).nev.bind (fun x=>R.ok (some x)) = .ok o→te σ3 H4 fun y H5=>H5 p=some (.lst ys)∧ys.length < sizeLine ∧
          ∃ F' l1',EnvOk K Λc F0 H0 F' (upd H5 p (.lst (ys ++ [y]))) σ3 (zaF δ ix n)∧Ext F1 H1 F' (upd H5 p (.lst (ys ++ [y])))∧upd H5 p (.lst (ys ++ [y])) p=some (.lst (ys ++ [y]))∧F' p=none∧RepL K F' l1' (ys ++ [y])∧l1 ++ (o.toList ++ l3)=l1' ++ l3∧(ys ++ [y]).length ≤ i + 1:=by
        intro F4 H4 e4 qe
        cases qm:me δ1 with
        | no=>rw [qm] at qe; cases qe
        | ex x=>rw [qm] at qe; cases qe
        | ok d =>
          rw [qm] at qe
          cases qe
          refine he Λc F0 H0 F4 H4 σ3 δ1 _ (I3.grow e4) ?_
          rw [qm]
          intro F5 H5 e5 v rv
          have z:=e3.trans (e4.trans e5)
          obtain ⟨z1,z2⟩:=hp2 z
          refine ⟨z1,by omega,F5,l1 ++ [d],(((I3.grow e4).grow e5).weakL hwk hlent).side hown hpn p0 z2,?_,zah,z2,(r.mono z.ff).append (.cons rv .nil),by simp,by simpa using hys⟩
          have w:=x2.trans z
          exact ⟨w.ff,fun c o q=>by rw [zaf (zan q hp)]; exact w.hh c o q,fun c o q=>by rw [zaf (zan q z2)]; exact w.fh c o q,w.nw⟩
      rcases hc with ⟨rfl,rfl⟩ | ⟨c,kc,rfl,rfl,hcc⟩
      · have z:=fin F3 H' (.refl e3.fh) q1
        unfold zhC
        simp only [if_true]
        exact z
      · simp only at q1
        refine hcc Λc F0 H0 F3 H' σ3 δ1 _ I3 ?_
        cases qk:kc δ1 with
        | no=>rw [qk] at q1; cases q1
        | ex x=>rw [qk] at q1; cases q1
        | ok bb =>
          rw [qk] at q1
          intro F4 H4 e4
          cases bb with
          | true=>rw [if_pos rfl]; exact fin F4 H4 e4 q1
          | false =>
            rw [if_neg Bool.false_ne_true]
            have eo:o=none:=by
              rw [R.nev_ok,R.bind_ok,if_neg Bool.false_ne_true] at q1
              cases q1; rfl
            subst eo
            have z:=e3.trans e4
            obtain ⟨z1,z2⟩:=hp2 z
            exact ⟨F4,l1,(I3.grow e4).weakL hwk hlent,x2.trans z,z1,z2,r.mono z.ff,rfl,by omega⟩
  · have e:i=ds.length:=by omega
    subst e
    rw [List.drop_length] at qd
    cases qd
    refine .inl ⟨(hJ F2 H2 x2 _).2 (by simp),a1 F2 H2 x2 p hF (e1.hh.free hp) ⟨ys,hD,?_⟩⟩
    rw [List.append_nil]
    exact r
def zcB (n:Nat) (ds:List D):En:=ds.map .v ++ List.replicate n .no
def runF (np nv:Nat) (m:En→O) (ds:List D):R D:=if ds.length=np then (match m (zcB nv ds) with | .rt d=>.ok d | .nx _=>.ok .non | .ex _ x=>.ex x | _=>.no) else .no
theorem zhQ {np nv:Nat} {N:List Str} {ds:List D} {vs:List V} (s:Same F H) (r:RepL K F ds vs) (hn:N.length=np + nv) (hl:ds.length=np):EnvOk K [] F H F H (L2.start N vs) (zcB nv ds):=by
  have hv:=r.length
  unfold L2.start zcB
  have en:N.length - vs.length=nv:=by omega
  rw [en]
  refine ⟨.refl s,by simp [hv],fun i=>?_,fun i j a _ h1 _ _ _=>?_,fun x hx=>(by cases hx),fun i ll h1=>(by
    by_cases hi:i < ds.length
    · rw [List.getElem?_append_left (by simpa using hi),List.getElem?_map,List.getElem?_eq_getElem hi] at h1
      cases h1
    · rw [List.getElem?_append_right (by simpa using hi),List.getElem?_replicate] at h1
      split at h1 <;> cases h1)⟩
  · by_cases hi:i < ds.length
    · rw [List.getElem?_append_left (by simpa using hi),List.getElem?_append_left (by simp; omega),List.getElem?_map,List.getElem?_map,List.getElem?_eq_getElem hi]
      obtain ⟨v,h1,h2⟩:=r.get (List.getElem?_eq_getElem hi)
      rw [h1]
      exact ⟨v,rfl,h2⟩
    · rw [List.getElem?_append_right (by simpa using hi),List.getElem?_replicate]
      split <;> trivial
  · by_cases hi:i < ds.length
    · rw [List.getElem?_append_left (by simpa using hi),List.getElem?_map,List.getElem?_eq_getElem hi] at h1
      cases h1
    · rw [List.getElem?_append_right (by simpa using hi),List.getElem?_replicate] at h1
      split at h1 <;> cases h1
theorem zgW {np nv:Nat} {N:List Str} {vs:List V} {Q:VK} {E:XK} (h:SS K XO (fun _=>E) t m) (hn:N.length=np + nv) (sp:spM K XO (runF np nv m) vs H Q E):t { nx:=fun _ H'=>Q .non H',rt:=Q } (L2.start N vs) H:=by
  obtain ⟨F,ds,s,r,a⟩:=sp
  unfold runF at a
  split at a
  · rename_i hl
    refine h [] F H F H _ _ _ (zhQ s r hn hl) ?_
    cases q:m (zcB nv ds) with
    | no=>rw [q] at a; exact a
    | nx δ=>rw [q] at a; exact fun σ F' H' I=>a F' H' I.ext _ (by simp only [Rep])
    | rt d=>rw [q] at a; exact fun v F' H' e r=>a F' H' e v r
    | ro d=>rw [q] at a; exact a.elim
    | bk δ=>rw [q] at a; exact a.elim
    | ct δ=>rw [q] at a; exact a.elim
    | ex δ x=>rw [q] at a; exact fun σ F' H' C dct I w=>a C dct F' H' I.ext w
  · exact a.elim
def runO (np nv:Nat) (m:En→O) (ds:List D):R D:=if ds.length=np then (match m (zcB nv ds) with | .ro d=>.ok d | .ex _ x=>.ex x | _=>.no) else .no
def spO (K:Kx) (XO:XOT) (f:List D→R D):Sp:=fun vs H Q E=>∃ F ds,Same F H∧RepL K F ds vs∧Aft (fun _=>E) XO [] F H (fun d F' H'=>∀ p,F' p=none→H p=none→Own K F' H' d p→Q (.ref p) H') (f ds)
theorem zek {np nv:Nat} {N:List Str} {vs:List V} {Q:VK} {E:XK} (h:SS K XO (fun _=>E) t m) (hn:N.length=np + nv) (sp:spO K XO (runO np nv m) vs H Q E):t { nx:=fun _ H'=>Q .non H',rt:=Q } (L2.start N vs) H:=by
  obtain ⟨F,ds,s,r,a⟩:=sp
  unfold runO at a
  split at a
  · rename_i hl
    refine h [] F H F H _ _ _ (zhQ s r hn hl) ?_
    cases q:m (zcB nv ds) with
    | no=>rw [q] at a; exact a
    | nx δ=>rw [q] at a; exact a.elim
    | rt d=>rw [q] at a; exact a.elim
    | ro d=>rw [q] at a; exact fun p F' H' e h0 h1 o=>a F' H' e p h0 h1 o
    | bk δ=>rw [q] at a; exact a.elim
    | ct δ=>rw [q] at a; exact a.elim
    | ex δ x=>rw [q] at a; exact fun σ F' H' C dct I w=>a C dct F' H' I.ext w
  · exact a.elim
theorem zda {np nv:Nat} {vs:List V} {Q:VK} {E:XK} (sp:spO K XO (runO np nv m) vs H Q E):vs.length=np:=by
  obtain ⟨F,ds,s,r,a⟩:=sp
  unfold runO at a
  split at a
  · rename_i hl; rw [r.length]; exact hl
  · exact a.elim
theorem zdD {np nv:Nat} {vs:List V} {Q:VK} {E:XK} (sp:spM K XO (runF np nv m) vs H Q E):vs.length=np:=by
  obtain ⟨F,ds,s,r,a⟩:=sp
  unfold runF at a
  split at a
  · rename_i hl; rw [r.length]; exact hl
  · exact a.elim
theorem zml {f:List D→R D} {ns:List Int} {a:Addr} {Q:VK} {E:XK} (hf:f [.scr ns] = .ok (.bl true)) (h:SqL K.f H a (ns.map V.int)) (q:∀ H',Q (.bl true) H'):spM K XO f [.ref a] H Q E:=by
  refine ⟨fun b=>if b=a then H b else none,[.scr ns],fun b o e=>?_,.cons ?_ .nil,?_⟩
  · dsimp only at e
    split at e
    · exact e
    · cases e
  · simp only [Rep]
    refine ⟨a,rfl,?_⟩
    rcases h with (h | ⟨o,h⟩) | h
    · exact .inl (.inl (by dsimp only; rw [if_pos rfl]; exact h))
    · exact .inl (.inr ⟨o,by dsimp only; rw [if_pos rfl]; exact h⟩)
    · exact .inr h
  · rw [hf]
    intro F' H' _ v r
    simp only [Rep] at r
    subst r
    exact q H'
theorem zbq {f:List D→R D} {tl:TA} {ml:En→R (List D)} {E':XK} (h:SA K XO E tl ml):SEo K XO E (zh9 (spO K XO f) [] E' tl) (zar f ml):=by
  intro Λ F0 H0 F H σ δ Q I a
  refine h Λ F0 H0 F H σ δ _ I (a.bind.imp fun ds F1 H1 e1 a1 vs r=>⟨F1,ds,e1.fh,by rw [List.append_nil]; exact r,?_⟩)
  exact Aft.imp (fun d F2 H2 e2 p q h0 h1 o=>p q h0 (e1.hh.free h1) o) (Aft.any a1)
mutual
def zdc:D→Bool
  | .tup l=>zhu l
  | .lst _=>false
  | .dct _ _=>false
  | .scr _=>false
  | .exc _=>false
  | .fd _ _=>false
  | .obj _ _ _=>false
  | _=>true
def zhu:List D→Bool
  | []=>true
  | d :: l=>zdc d && zhu l
end
variable (K) in
def Bor (F H:Hp) (d:D) (v:V):Prop:=Rep K F d v∨(∃ a,v = .ref a∧Own K F H d a)∨∃ T fp,d=trD T∧TrOk K F H T v fp
variable (K XO E) in
def SAb (t:TA) (m:En→R (List D)):Prop:=∀ Λ F0 H0 F H σ δ Q,EnvOk K Λ F0 H0 F H σ δ→Aft E XO σ F H (fun ds F' H'=>∀ vs,Prd (Bor K F' H') ds vs→Q vs H') (m δ)→t σ H Q
theorem Bor.mono {F H F' H':Hp} (e:Ext F H F' H') {d:D} {v:V}:Bor K F H d v→Bor K F' H' d v
  | .inl h=>.inl (Rep.mono e.ff _ h)
  | .inr (.inl ⟨a,h1,h2⟩)=>.inr (.inl ⟨a,h1,h2.mono e.ff e.hh⟩)
  | .inr (.inr ⟨T,fp,h1,h2⟩)=>.inr (.inr ⟨T,fp,h1,TrOk.mono e.ff e.hh T h2⟩)
theorem zjR:SAb K XO E tNil mNil:=fun Λ F0 H0 F H σ δ Q I a=>a F H (.refl I.same) _ .nil
theorem zhv {tr:TA} {mr:En→R (List D)} (ha:SE K XO E ta ma) (hr:SAb K XO E tr mr):SAb K XO E (zbf ta tr) (zab ma mr):=by
  intro Λ F0 H0 F H σ δ Q I a
  refine ha Λ F0 H0 F H σ δ _ I (a.bind.imp fun dx F1 H1 e1 a1 x rx=>?_)
  refine hr Λ F0 H0 F1 H1 σ δ _ (I.grow e1) (a1.bind.imp fun dy F2 H2 e2 a2 y ry=>?_)
  exact a2 F2 H2 (.refl e2.fh) _ (.cons (.inl (Rep.mono e2.ff _ rx)) ry)
theorem ziM {i:Nat} {tr:TA} {mr:En→R (List D)} (hr:SAb K XO E tr mr):SAb K XO E (zbf (tVar i) tr) (zab (mRd i) mr):=by
  intro Λ F0 H0 F H σ δ Q I a
  have key:∀ d v,mRd i δ = .ok d→σ[i]?=some (some v)→Bor K F H d v→zbf (tVar i) tr σ H Q:=fun d v hm hs b=>by
    unfold zab at a
    rw [hm] at a
    refine ⟨v,hs,hr Λ F0 H0 F H σ δ _ I (Aft.imp (fun dy F2 H2 e2 a2 y ry=>?_) (Aft.bind a))⟩
    exact a2 F2 H2 (.refl e2.fh) _ (.cons (b.mono e2) ry)
  have z:=I.slot i
  unfold zab at a
  cases q:δ[i]? with
  | none =>
    have e:mRd i δ = .no:=by unfold mRd; rw [q]
    rw [e] at a; exact a.elim
  | some s =>
    rw [q] at z
    cases s with
    | no =>
      have e:mRd i δ = .no:=by unfold mRd; rw [q]
      rw [e] at a; exact a.elim
    | v d=>obtain ⟨u,z1,z2⟩:=z; exact key d u (by unfold mRd; rw [q]) z1 (.inl z2)
    | o d=>obtain ⟨u,z1,_,_,z2⟩:=z; exact key d _ (by unfold mRd; rw [q]) z1 (.inr (.inl ⟨u,rfl,z2⟩))
    | l d=>obtain ⟨u,z1,_,_,z2⟩:=z; exact key d _ (by unfold mRd; rw [q]) z1 (.inr (.inl ⟨u,rfl,z2⟩))
    | p ll =>
      have e:mRd i δ = .no:=by unfold mRd; rw [q]
      rw [e] at a; exact a.elim
def zbx (F H:Hp):Hp:=fun b=>match F b with
  | some o=>some o
  | none=>match H b with
    | some (.lst vs)=>some (.lst vs)
    | some (.dK kvs)=>some (.dK kvs)
    | some (.frz o u)=>some (.frz o u)
    | some (.ins C dx fs)=>some (.ins C dx fs)
    | _=>none
theorem zb7 {F H:Hp}:Same F (zbx F H):=fun b o h=>by unfold zbx; rw [h]
theorem zg9 {F H:Hp} (s:Same F H):Same (zbx F H) H:=fun b o h=>by
  unfold zbx at h
  cases q:F b with
  | some u=>rw [q] at h; cases h; exact s _ _ q
  | none =>
    simp only [q] at h
    cases q2:H b with
    | none=>rw [q2] at h; cases h
    | some u=>cases u <;> simp only [q2] at h <;> cases h <;> rfl
theorem zlu {a:Addr} {vs:List V} (s:Same F H) (h:H a=some (.lst vs)):zbx F H a=some (.lst vs):=by
  unfold zbx
  cases q:F a with
  | some u=>rw [s _ _ q] at h; exact h
  | none=>simp only [h]
mutual
theorem zfv (s:Same F H):∀ (T:Tr) {v:V} {fp:List Addr},TrOk K F H T v fp→Rep K (zbx F H) (trD T) v
  | .d x,v,fp,h=>by
    simp only [TrOk] at h
    simp only [trD]
    exact Rep.mono zb7 x h.2
  | .l ts,v,fp,h=>by
    simp only [TrOk] at h
    obtain ⟨a,vs,fs,rfl,h2,h3,h4⟩:=h
    simp only [trD,Rep]
    exact ⟨a,vs,rfl,.inl (zlu s h3),zeI s ts h4⟩
  | .t ts,v,fp,h=>by
    simp only [TrOk] at h
    obtain ⟨a,vs,rfl,h3,h4⟩:=h
    simp only [trD,Rep]
    exact ⟨a,vs,rfl,zb7 _ _ h3,zeI s ts h4⟩
theorem zeI (s:Same F H):∀ (ts:List Tr) {vs:List V} {fp:List Addr},TrOkL K F H ts vs fp→RepL K (zbx F H) (trDL ts) vs
  | [],vs,fp,h=>by
    simp only [TrOkL] at h
    rw [h.1]
    simp only [trDL]
    exact .nil
  | t :: ts,vs,fp,h=>by
    simp only [TrOkL] at h
    obtain ⟨v,r,f1,f2,rfl,h2,h3,h4⟩:=h
    simp only [trDL]
    exact .cons (zfv s t h3) (zeI s ts h4)
end
theorem zfG {F H:Hp} (s:Same F H):∀ {d:D} {v:V},Bor K F H d v→Rep K (zbx F H) d v:=by
  intro d v h
  rcases h with h | ⟨a,rfl,h⟩ | ⟨T,fp,rfl,h⟩
  · exact Rep.mono zb7 _ h
  · cases d with
    | lst l =>
      obtain ⟨vs,h1,h2⟩:=h
      simp only [Rep]
      refine ⟨a,vs,rfl,.inl ?_,h2.mono zb7⟩
      unfold zbx
      cases q:F a with
      | some u=>rw [s _ _ q] at h1; exact h1
      | none=>simp only [h1]
    | dct ks l =>
      obtain ⟨vs,h1,h0,h2⟩:=h
      simp only [Rep]
      refine ⟨a,vs,rfl,?_,h0,h2.mono zb7⟩
      unfold zbx
      cases q:F a with
      | some u=>rw [s _ _ q] at h1; exact h1
      | none=>simp only [h1]
    | obj c ks l =>
      obtain ⟨dx,vs,h1,h0,h2⟩:=h
      simp only [Rep]
      refine ⟨a,dx,vs,rfl,?_,h0,h2.mono zb7⟩
      unfold zbx
      cases q:F a with
      | some u=>rw [s _ _ q] at h1; exact h1
      | none=>simp only [h1]
    | _=>exact h.elim
  · exact zfv s T h
theorem zht {F H:Hp} (s:Same F H):∀ {ds:List D} {vs:List V},Prd (Bor K F H) ds vs→RepL K (zbx F H) ds vs
  | _,_,.nil=>.nil
  | _,_,.cons h t=>.cons (zfG s h) (zht s t)
open Classical in
def minH (F H F':Hp):Hp:=fun b=>if F b=none∧H b ≠ none then none else F' b
theorem zmU {F H F' H':Hp} (e:Ext (zbx F H) H F' H') {a:Addr} {o:HO} (h:F' a=some o) (h1:∀ vs,o ≠ .lst vs) (h2:∀ kvs,o ≠ .dK kvs) (h3:∀ q u,o ≠ .frz q u) (h4:∀ C dx fs,o ≠ .ins C dx fs):minH F H F' a=some o:=by
  unfold minH
  split
  · rename_i hc
    exfalso
    cases qh:H a with
    | none=>exact hc.2 qh
    | some u =>
      have np:zbx F H a=match H a with | some (.lst vs)=>some (.lst vs) | some (.dK kvs)=>some (.dK kvs) | some (.frz o u)=>some (.frz o u) | some (.ins C dx fs)=>some (.ins C dx fs) | _=>none:=by
        unfold zbx; rw [hc.1]
      cases u with
      | lst vs=>rw [qh] at np; have z:=e.ff a _ np; rw [h] at z; cases z; exact h1 vs rfl
      | dK vs=>rw [qh] at np; have z:=e.ff a _ np; rw [h] at z; cases z; exact h2 vs rfl
      | frz q w=>rw [qh] at np; have z:=e.ff a _ np; rw [h] at z; cases z; exact h3 q w rfl
      | ins C dx fs=>rw [qh] at np; have z:=e.ff a _ np; rw [h] at z; cases z; exact h4 C dx fs rfl
      | _=>rw [qh] at np; have z:=e.nw a _ np qh; rw [h] at z; cases z
  · exact h
mutual
theorem zho {F H F' H':Hp} (e:Ext (zbx F H) H F' H'):∀ (d:D) {v:V},zdc d=true→Rep K F' d v→Rep K (minH F H F') d v
  | .non,v,_,h=>by simp only [Rep] at h ⊢; exact h
  | .bl _,v,_,h=>by simp only [Rep] at h ⊢; exact h
  | .int _,v,_,h=>by simp only [Rep] at h ⊢; exact h
  | .str _,v,_,h=>by simp only [Rep] at h ⊢; exact h
  | .lst _,v,c,h=>by simp only [zdc] at c; cases c
  | .dct _ _,v,c,h=>by simp only [zdc] at c; cases c
  | .scr _,v,c,h=>by simp only [zdc] at c; cases c
  | .exc _,v,c,h=>by simp only [zdc] at c; cases c
  | .fd _ _,v,c,h=>by simp only [zdc] at c; cases c
  | .obj _ _ _,v,c,h=>by simp only [zdc] at c; cases c
  | .tup l,v,c,h=>by
    simp only [zdc] at c
    simp only [Rep] at h ⊢
    obtain ⟨a,vs,h1,h2,h3⟩:=h
    exact ⟨a,vs,h1,zmU e h2 (fun _ z=>by cases z) (fun _ z=>by cases z) (fun _ _ z=>by cases z) (fun _ _ _ z=>by cases z),zhO e l c h3⟩
theorem zhO {F H F' H':Hp} (e:Ext (zbx F H) H F' H'):∀ (l:List D) {vs:List V},zhu l=true→RepL K F' l vs→RepL K (minH F H F') l vs
  | [],vs,_,h=>by simp only [RepL] at h ⊢; exact h
  | d :: l,vs,c,h=>by
    simp only [zhu,Bool.and_eq_true] at c
    simp only [RepL] at h ⊢
    obtain ⟨v,r,h1,h2,h3⟩:=h
    exact ⟨v,r,h1,zho e d c.1 h2,zhO e l c.2 h3⟩
end
theorem zjO {F H F' H':Hp} (e:Ext (zbx F H) H F' H'):Ext F H (minH F H F') H':=by
  refine ⟨fun b o h=>?_,e.hh,fun b o h=>?_,fun p o h1 h2=>?_⟩
  · unfold minH
    rw [if_neg (fun hc=>by rw [h] at hc; cases hc.1)]
    exact e.ff b o (zb7 b o h)
  · unfold minH at h
    split at h
    · cases h
    · exact e.fh b o h
  · unfold minH
    rw [if_pos ⟨h1,by rw [h2]; intro z; cases z⟩]
def zdn (f:List D→R D) (ml:En→R (List D)) (δ:En):R D:=(ml δ).bind fun l=>(f l).nev.bind fun d=>if zdc d=true then .ok d else .no
theorem zhz {f:List D→R D} {tl:TA} {ml:En→R (List D)} {E':XK} (h:SAb K XO E tl ml):SE K XO E (zh9 (spM K XO f) [] E' tl) (zdn f ml):=by
  intro Λ F0 H0 F H σ δ Q I a
  refine h Λ F0 H0 F H σ δ _ I (a.bind.imp fun ds F1 H1 e1 a1 vs r=>⟨zbx F1 H1,ds,zg9 e1.fh,by rw [List.append_nil]; exact zht e1.fh r,?_⟩)
  cases q:f ds with
  | no=>rw [q] at a1; exact a1.elim
  | ex x=>rw [q] at a1; exact a1.elim
  | ok d =>
    rw [q] at a1
    intro F2 H2 e2 v rv
    simp only [R.nev_ok,R.bind_ok] at a1
    split at a1
    · rename_i hc
      exact a1 _ H2 (zjO e2) v (zho e2 d hc rv)
    · exact a1.elim
variable (K) in
def SC (r:List V→Hp→VK→Prop) (f:List D→Option D):Prop:=∀ F H vs ds d Q,Same F H→Prd (Top K F H) ds vs→f ds=some d→(∀ v F' H',Ext F H F' H'→Rep K F' d v→Q v H')→r vs H Q
variable (K) in
def SCo (r:List V→Hp→VK→Prop) (f:List D→Option D):Prop:=∀ F H vs ds d Q,Same F H→Prd (Top K F H) ds vs→f ds=some d→(∀ p F' H',Ext F H F' H'→F' p=none→H p=none→Own K F' H' d p→Q (.ref p) H')→r vs H Q
def mCB (f:List D→Option D) (ml:En→R (List D)) (δ:En):R D:=(ml δ).bind fun l=>R.of (f l)
theorem zcw {r:List V→Hp→VK→Prop} {f:List D→Option D} {tl:TA} {ml:En→R (List D)} (hr:SC K r f) (h:SAr K XO E tl ml):SE K XO E (tCB r tl) (mCB f ml):=by
  intro Λ F0 H0 F H σ δ Q I a
  refine h Λ F0 H0 F H σ δ _ I (a.bind.imp fun ds F1 H1 e1 a1 vs rv=>?_)
  cases q:f ds with
  | none=>rw [q] at a1; exact a1.elim
  | some d=>rw [q] at a1; exact hr F1 H1 vs ds d Q e1.fh rv q fun v F' H' e r=>a1 F' H' e v r
theorem zdP {r:List V→Hp→VK→Prop} {f:List D→Option D} {tl:TA} {ml:En→R (List D)} (hr:SCo K r f) (h:SAr K XO E tl ml):SEo K XO E (tCB r tl) (mCB f ml):=by
  intro Λ F0 H0 F H σ δ Q I a
  refine h Λ F0 H0 F H σ δ _ I (a.bind.imp fun ds F1 H1 e1 a1 vs rv=>?_)
  cases q:f ds with
  | none=>rw [q] at a1; exact a1.elim
  | some d=>rw [q] at a1; exact hr F1 H1 vs ds d Q e1.fh rv q fun p F' H' e h0 h1 o=>a1 F' H' e p h0 (e1.hh.free h1) o
def fLen:List D→Option D
  | [.lst l]=>some (.int l.length)
  | [.scr l]=>some (.int l.length)
  | [.tup l]=>some (.int l.length)
  | _=>none
theorem zbX:SC K (fun xs H Q=>∃ p ys,xs = [.ref p]∧(SqL K.f H p ys∨SqT K.f H p ys)∧Q (.int ys.length) H) fLen:=by
  intro F H vs ds d Q s r e q
  unfold fLen at e
  split at e
  · cases e
    cases r with
    | cons r r' =>
      cases r'
      obtain ⟨a,xs,rfl,h1,h2⟩:=r
      exact ⟨a,xs,rfl,.inl (.inl h1),q _ F H (.refl s) (by simp only [Rep]; rw [h2.length])⟩
  · cases e
    cases r with
    | cons r r' =>
      cases r'
      simp only [Top,Rep] at r
      obtain ⟨a,rfl,h1⟩:=r
      exact ⟨a,_,rfl,.inl (s.seq h1),q _ F H (.refl s) (by simp only [Rep]; rw [List.length_map])⟩
  · cases e
    cases r with
    | cons r r' =>
      cases r'
      simp only [Top,Rep] at r
      obtain ⟨a,xs,rfl,h1,h2⟩:=r
      exact ⟨a,xs,rfl,.inr (.inl (.inl (s _ _ h1))),q _ F H (.refl s) (by simp only [Rep]; rw [h2.length])⟩
  · cases e
def fAbs:List D→Option D
  | [.int i]=>some (.int (if i < 0 then -i else i))
  | _=>none
theorem zkX:SC K (fun xs H Q=>∃ i,xs = [.int i]∧Q (.int (if i < 0 then -i else i)) H) fAbs:=by
  intro F H vs ds d Q s r e q
  unfold fAbs at e
  split at e
  · rename_i i
    cases e
    cases r with
    | cons r r' =>
      cases r'
      simp only [Top,Rep] at r
      subst r
      exact ⟨i,rfl,q _ F H (.refl s) (by simp only [Rep])⟩
  · cases e
def zdm:List D→Option D
  | [.lst l]=>some (.lst l)
  | [.tup l]=>some (.lst l)
  | _=>none
theorem zfB:SCo K (fun xs H Q=>∃ p ys,xs = [.ref p]∧(SqL K.f H p ys∨SqT K.f H p ys)∧∀ l,H l=none→Q (.ref l) (upd H l (.lst ys))) zdm:=by
  intro F H vs ds d Q s r e q
  unfold zdm at e
  split at e
  · cases e
    cases r with
    | cons r r' =>
      cases r'
      obtain ⟨a,xs,rfl,h1,h2⟩:=r
      exact ⟨a,xs,rfl,.inl (.inl h1),fun p hp=>q _ F _ (.newO s hp) (s.free hp) hp ⟨xs,zah,h2⟩⟩
  · cases e
    cases r with
    | cons r r' =>
      cases r'
      simp only [Top,Rep] at r
      obtain ⟨a,xs,rfl,h1,h2⟩:=r
      exact ⟨a,xs,rfl,.inr (.inl (.inl (s _ _ h1))),fun p hp=>q _ F _ (.newO s hp) (s.free hp) hp ⟨xs,zah,h2⟩⟩
  · cases e
def asI:D→Option Int
  | .int i=>some i
  | _=>none
def mNoP (_:En):R (Option Int):=.ok none
def zfA (me:En→R D) (δ:En):R (Option Int):=(me δ).bind fun d=>(R.of (asI d)).bind fun i=>.ok (some i)
variable (K XO E) in
def SO (t:TO) (m:En→R (Option Int)):Prop:=∀ Λ F0 H0 F H σ δ Q,EnvOk K Λ F0 H0 F H σ δ→Aft E XO σ F H (fun o _ H'=>Q o H') (m δ)→t σ H Q
theorem znz:SO K XO E zhi mNoP:=fun Λ F0 H0 F H σ δ Q I a=>a F H (.refl I.same)
theorem zhh (h:SE K XO E te me):SO K XO E (ziK te) (zfA me):=by
  intro Λ F0 H0 F H σ δ Q I a
  refine h Λ F0 H0 F H σ δ _ I (a.bind.imp fun d F1 H1 e1 a1 v r=>?_)
  cases d with
  | int i=>simp only [Rep] at r; exact ⟨i,r,a1 F1 H1 (.refl e1.fh)⟩
  | _=>exact a1.elim
def cutD (xs:List D) (lo hi:Option Int):List D:=(xs.drop (HT.sIx xs.length 0 lo)).take (HT.sIx xs.length xs.length hi - HT.sIx xs.length 0 lo)
end
end PM
namespace PM
open PySem L2
def oCat (x y:D):Option D:=match x,y with | .lst l,.lst r=>ifC (l.length + r.length ≤ sizeLine) (some (.lst (l ++ r))) none | _,_=>none
def zaG:Nat→D→Bool
  | _,.non=>true
  | _,.int _=>true
  | n + 1,.tup l=>l.all (zaG n)
  | n + 1,.lst l=>l.all (zaG n)
  | _,_=>false
open Classical in
def oEqD (x y:D):Option D:=ifC (zaG 8 x=true∧zaG 8 y=true) (some (.bl (decide (x=y)))) none
open Classical in
def oNeD (x y:D):Option D:=ifC (zaG 8 x=true∧zaG 8 y=true) (some (.bl (!decide (x=y)))) none
def isiB:String→D→Bool
  | "int",.int _=>true
  | "int",.bl _=>true
  | "bool",.bl _=>true
  | "list",.lst _=>true
  | "tuple",.tup _=>true
  | "str",.str _=>true
  | _,_=>false
def okI:D→Bool
  | .scr _=>false
  | .exc _=>false
  | .fd _ _=>false
  | .obj _ _ _=>false
  | _=>true
def oIsi (c:String) (d:D):Option D:=match d with | .scr _=>none | .exc _=>none | .fd _ _=>none | .obj _ _ _=>none | d=>some (.bl (isiB c d))
def asIs:List D→Option (List Int)
  | []=>some []
  | .int i :: l=>(asIs l).map (i :: ·)
  | _=>none
theorem zeb (ns:List Int):asIs (ns.map .int)=some ns:=by
  induction ns with
  | nil=>rfl
  | cons a l ih=>simp [asIs,ih]
theorem zeQ {l:List D} {ns:List Int} (h:asIs l=some ns):l=ns.map .int:=by
  induction l generalizing ns with
  | nil=>cases h; rfl
  | cons d l ih =>
    cases d with
    | int i =>
      simp only [asIs] at h
      cases q:asIs l with
      | none=>rw [q] at h; cases h
      | some m=>rw [q] at h; cases h; rw [ih q]; rfl
    | _=>cases h
theorem zdL {β:Type} {f:D→R (Option D)} (enc:β→D) (g:β→Option D):∀ (l:List β),(∀ x ∈ l,f (enc x) = .ok (g x))→zb2 f (l.map enc) = .ok (l.filterMap g)
  | [],_=>rfl
  | x :: l,h=>by
    rw [List.map_cons]
    unfold zb2
    rw [h x List.mem_cons_self,R.bind_ok,zdL enc g l fun y hy=>h y (List.mem_cons_of_mem _ hy)]
    cases q:g x with
    | none=>rw [List.filterMap_cons_none q]; rfl
    | some d=>rw [List.filterMap_cons_some q]; rfl
theorem zlC {n:Nat} (h:n ≤ 100000):n ≤ sizeLine:=Nat.le_trans h (by decide)
theorem zjY {n:Nat} (h:n ≤ 100000):n < sizeLine:=Nat.lt_of_le_of_lt h (by decide)
end PM
namespace PM
open PySem L2
theorem fitN {i:Int} (n:Nat) (h:i.natAbs ≤ n) (h2:n < 2 ^ 8000:=by decide +kernel):Fit i:=Nat.lt_of_le_of_lt h h2
@[simp] theorem zk1 (i j:Int):oAdd (.int i) (.int j)=some (.int (i + j)):=rfl
@[simp] theorem znK (i j:Int):oSub (.int i) (.int j)=some (.int (i - j)):=rfl
theorem zco {i j:Int} (h:Fit i) (h':Fit j):oMul (.int i) (.int j)=some (.int (i * j)):=zaU (p:=Fit i∧Fit j) ⟨h,h'⟩
theorem zmX {i j:Int} (h:j ≠ 0) (h':Fit j):oDiv (.int i) (.int j)=some (.int (i.fdiv j)):=zaU (p:=j ≠ 0∧Fit j) ⟨h,h'⟩
theorem zc0 {i j:Int} (h:0 < j) (h':Fit j):oDiv (.int i) (.int j)=some (.int (i / j)):=by
  rw [zmX (by omega) h',Int.fdiv_eq_ediv_of_nonneg _ (by omega)]
theorem zbP {i j:Int} (h:0 < j):oMod (.int i) (.int j)=some (.int (i % j)):=zaU (p:=0 < j) h
theorem zjF {i j:Int} (h:CPow i j):oPow (.int i) (.int j)=some (.int (i ^ j.toNat)):=zaU (p:=CPow i j) h
@[simp] theorem znT (i j:Int):oLt (.int i) (.int j)=some (.bl (decide (i < j))):=rfl
@[simp] theorem znr (i j:Int):oGt (.int i) (.int j)=some (.bl (decide (j < i))):=rfl
@[simp] theorem znR (i j:Int):oGe (.int i) (.int j)=some (.bl (decide (j ≤ i))):=rfl
@[simp] theorem znO (i j:Int):oEq (.int i) (.int j)=some (.bl (decide (i=j))):=by simp [oEq,fl,scal]
@[simp] theorem znU (i j:Int):oNe (.int i) (.int j)=some (.bl (!decide (i=j))):=by simp [oNe,fl,scal]
@[simp] theorem znP (b:Bool):asB (.bl b)=some b:=rfl
@[simp] theorem znS (l:List D):asL (.lst l)=some l:=rfl
@[simp] theorem zm5 (l:List D):asT (.tup l)=some l:=rfl
@[simp] theorem zm8 (i:Int):asI (.int i)=some i:=rfl
@[simp] theorem znJ (l:List D):fLen [.lst l]=some (.int l.length):=rfl
@[simp] theorem znL (l:List D):fLen [.tup l]=some (.int l.length):=rfl
@[simp] theorem znI (l:List D):zdm [.lst l]=some (.lst l):=rfl
@[simp] theorem znE (a b:D):oIxT (.tup [a,b]) (.int 0)=some a:=rfl
@[simp] theorem zno (a b:D):oIxT (.tup [a,b]) (.int 1)=some b:=rfl
theorem atI_nat {α:Type} {l:List α} {k:Nat} {d:α} (h:l[k]?=some d):atI l (k:Int)=some d:=by
  have hk:=(List.getElem?_eq_some_iff.mp h).1
  unfold atI ixN
  rw [if_pos (by omega),if_pos (by omega)]
  exact h
theorem zmp {l:List D} {k:Nat} {d:D} (h:l[k]?=some d):oIxL (.lst l) (.int (k:Int))=some d:=atI_nat h
theorem zle {l:List D} {i:Int} {d:D} (h0:0 ≤ i) (h:l[i.toNat]?=some d):oIxL (.lst l) (.int i)=some d:=by
  have e:i=((i.toNat:Nat):Int):=by omega
  rw [e]
  exact zmp h
theorem rng1 {n:Int} (h0:0 ≤ n) (h:n ≤ 100000):rng [.int n]=some (zeg 0 n.toNat):=by
  show ifC _ _ _=_
  rw [zaU (by omega)]
theorem zlQ (n:Nat):zeg 0 n=(List.range n).map fun (k:Nat)=>D.int (k:Int):=by
  unfold zeg
  exact List.map_congr_left fun k _=>by simp
@[simp] theorem znN (a b:α):([a,b].length ≤ sizeLine)=True:=by simp [sizeLine]
end PM
namespace PM
open PySem L2
def sv:Option D→Sl
  | none=>.no
  | some d=>.v d
theorem zaK {i:Nat} {d:D} {δ:En} {o:Option D} (h:δ[i]?=some (sv o)):zao i d δ=some (δ.set i (.v d)):=by
  unfold zao
  rw [h]
  cases o <;> rfl
@[simp] theorem znl:sv none = .no:=rfl
@[simp] theorem znj (d:D):sv (some d) = .v d:=rfl
def iL (l:List Int):D:=.lst (l.map .int)
theorem zdk {α:Type} {f:D→R (Option D)} (enc:α→D) (p:α→Bool) (l:List α) (h:∀ x ∈ l,f (enc x) = .ok (if p x=true then some (enc x) else none)):zb2 f (l.map enc) = .ok ((l.filter p).map enc):=by
  rw [zdL enc (fun x=>if p x=true then some (enc x) else none) l h]
  congr 1
  induction l with
  | nil=>rfl
  | cons a l ih =>
    have ih':=ih fun x hx=>h x (List.mem_cons_of_mem _ hx)
    by_cases hp:p a=true
    · rw [List.filterMap_cons_some (b:=enc a) (by simp [hp]),ih',List.filter_cons_of_pos hp,List.map_cons]
    · rw [List.filterMap_cons_none (by simp [hp]),ih',List.filter_cons_of_neg hp]
theorem zbG {α:Type} {f:D→R (Option D)} (enc:α→D) (g:α→D) (l:List α) (h:∀ x ∈ l,f (enc x) = .ok (some (g x))):zb2 f (l.map enc) = .ok (l.map g):=by
  rw [zdL enc (fun x=>some (g x)) l h,List.filterMap_eq_map']
end PM
namespace PM
open PySem L2
theorem zbW {mi:En→R (List D)} {ix:List Nat} {n:Nat} {b:D→En→Option En} {nc:Option (En→R Bool)} {me:En→R D} {δ:En} {l r:List D} (h1:mi δ = .ok l) (hl:l.length ≤ 100000)
    (h2:zb2 (zcU b nc me (zaF δ ix n)) l = .ok r):zeB mi ix n b nc me δ = .ok (.lst r):=by
  unfold zeB
  rw [h1,R.bind_ok,zaU (zlC hl),h2]
  rfl
theorem zbi {mi:En→R (List D)} {b:D→En→Option En} {m:En→O} {δ:En} {l:List D} (h:mi δ = .ok l):mFor mi b m δ=zdo b m l δ:=by
  unfold mFor
  rw [h]
  rfl
theorem zey {np nv:Nat} {m:En→O} {ds:List D} {d:D} (h:m (zcB nv ds) = .rt d) (hl:ds.length=np:=by rfl):runF np nv m ds = .ok d:=by
  unfold runF
  rw [if_pos hl,h]
theorem zlj {np nv:Nat} {m:En→O} {ds:List D} {δ:En} (h:m (zcB nv ds) = .nx δ) (hl:ds.length=np:=by rfl):runF np nv m ds = .ok .non:=by
  unfold runF
  rw [if_pos hl,h]
theorem zcM {np nv:Nat} {m:En→O} {ds:List D} {d:D} (h:m (zcB nv ds) = .ro d) (hl:ds.length=np:=by rfl):runO np nv m ds = .ok d:=by
  unfold runO
  rw [if_pos hl,h]
theorem zak {m n:En→O} {δ δ':En} (h:m δ = .nx δ'):mSeq m n δ=n δ':=by unfold mSeq; rw [h]
theorem zaD {me:En→R D} {b:D→En→Option En} {δ δ':En} {d:D} (h:me δ = .ok d) (h2:b d δ=some δ'):mAsg me b δ = .nx δ':=by unfold mAsg; rw [h,R.toO_ok,h2]; rfl
theorem zff {n:En→R Bool} {m m':En→O} {δ:En} (h:n δ = .ok true):mIfS n m m' δ=m δ:=by unfold mIfS; rw [h]; rfl
theorem zbw {n:En→R Bool} {m m':En→O} {δ:En} (h:n δ = .ok false):mIfS n m m' δ=m' δ:=by unfold mIfS; rw [h]; rfl
theorem zaN {β:Type} {b:D→En→Option En} {m:En→O} (enc:β→D) (P:List β→En→Prop) (all:List β)
    (step:∀ pre x post δ,all=pre ++ x :: post→P pre δ→∃ δ1 δ2,b (enc x) δ=some δ1∧(m δ1 = .nx δ2∨m δ1 = .ct δ2)∧P (pre ++ [x]) δ2) (δ:En) (h:P [] δ):∃ δ2,zdo b m (all.map enc) δ = .nx δ2∧P all δ2:=by
  have key:∀ (post pre:List β) (δ:En),all=pre ++ post→P pre δ→∃ δ2,zdo b m (post.map enc) δ = .nx δ2∧P all δ2:=by
    intro post
    induction post with
    | nil=>intro pre δ e h; exact ⟨δ,rfl,by rw [e,List.append_nil]; exact h⟩
    | cons x post ih =>
      intro pre δ e h
      obtain ⟨δ1,δ2,h1,h2,h3⟩:=step pre x post δ e h
      obtain ⟨δ3,h4,h5⟩:=ih (pre ++ [x]) δ2 (by rw [e]; simp) h3
      refine ⟨δ3,?_,h5⟩
      rw [List.map_cons]
      unfold zdo
      rw [h1]
      rcases h2 with h2 | h2 <;> (simp only [h2]; exact h4)
  exact key all [] δ rfl h
end PM
namespace PM
open PySem L2
@[simp] theorem zjf (l:List Int):fLen [iL l]=some (.int l.length):=by simp [iL]
@[simp] theorem znM (l:List Int):asL (iL l)=some (l.map .int):=rfl
end PM
namespace PM
open PySem L2
theorem zi4 {x y:D} (hx:zaG 8 x=true) (hy:zaG 8 y=true) (h:x=y):oEqD x y=some (.bl true):=by
  unfold oEqD
  rw [zaU ⟨hx,hy⟩]
  simp [h]
theorem zl3 {x y:D} (hx:zaG 8 x=true) (hy:zaG 8 y=true) (h:x=y):oNeD x y=some (.bl false):=by
  unfold oNeD
  rw [zaU ⟨hx,hy⟩]
  simp [h]
end PM
namespace PM
open PySem L2 PyProof.Rows
section
variable {K:Kx} {ca:Nat→Addr} {an:Nat→Str} {XO:XOT} {E:L2.St→XK} {ta tb te:TE} {ma mb me:En→R D} {X:Cx}
def znb:R2:=fun x y H Q=>∃ l b xs zs,x = .ref l∧y = .ref b∧Rd H l (.lst xs)∧Rd H b (.lst zs)∧xs.length + zs.length ≤ sizeLine∧∀ p,H p=none→Q (.ref p) (upd H p (.lst (xs ++ zs)))
theorem zlY:OpR X (binaryOp .Add) znb:=by
  intro pins s σ H x y v u Q I rx ry h
  obtain ⟨l,b,xs,zs,rfl,rfl,hH,hB,hz,q⟩:=h
  cases rx
  cases ry
  obtain ⟨z,its,n,r,e⟩:=hH.ok I.hok
  obtain ⟨z2,its2,n2,r2,e2⟩:=hB.ok I.hok
  have hl:=r.length
  have hl2:=r2.length
  refine PySem.P.add_list e e2 ?_ (by rw [List.size_toArray,List.size_toArray]; omega)
  have ea:its.toArray ++ its2.toArray=(its ++ its2).toArray:=by simp
  rw [ea]
  exact ⟨.ref _,_,I.lnew (t':=s.toks) (r.append r2) (by rw [List.length_append]; omega),rfl,q _ I.fresh⟩
theorem zmv:SRo K znb oCat:=by
  intro F H x y dx dy d Q s hx hy e q
  cases dx with
  | lst l =>
    cases dy with
    | lst r =>
      simp only [oCat] at e
      unfold ifC at e
      split at e
      · rename_i hc
        cases e
        obtain ⟨a,vs,rfl,h1,h2⟩:=hx
        obtain ⟨b,ws,rfl,g1,g2⟩:=hy
        exact ⟨a,b,vs,ws,rfl,rfl,h1,g1,by rw [h2.length,g2.length]; exact hc,fun p hp=>q p F _ (.newO s hp) (s.free hp) hp ⟨_,zah,h2.append g2⟩⟩
      · cases e
    | _=>cases e
  | _=>cases e
theorem zcJ {F:Hp}:∀ {ns:List Int} {xs:List V},RepL K F (ns.map .int) xs→xs=ns.map V.int
  | [],xs,h=>by simpa only [List.map_nil,RepL] using h
  | n :: ns,xs,h=>by
    simp only [List.map_cons,RepL,Rep] at h
    obtain ⟨v,r,rfl,rfl,h3⟩:=h
    rw [zcJ h3]; rfl
theorem zl1 {K:W.Frag} {S T:String} (h2:PySem.W.kitMeta T=true) (h3:(PySem.fastBuiltinMro S).map (·.contains (.type T))=some true):PySem.W.kitOne K (.type S) (.type T)=some true:=by
  unfold PySem.W.kitOne
  split
  · rfl
  · show (if PySem.W.kitMeta T=true then PySem.W.subIn K (.type S) (.type T) else none)=some true
    rw [if_pos h2]
    exact h3
def zfr:D→String
  | .non=>"NoneType"
  | .bl _=>"bool"
  | .int _=>"int"
  | .str _=>"str"
  | .tup _=>"tuple"
  | .lst _=>"list"
  | .dct _ _=>"dict"
  | .scr _=>"list"
  | .exc _=>"object"
  | .fd _ _=>"object"
  | .obj _ _ _=>"object"
theorem zd3 {K:W.Frag}:PySem.W.kitOne K (.type "NoneType") (.type "int")=some false:=L2.kit_no (by decide +kernel) (by decide +kernel) (by decide +kernel)
theorem kit_int_bool {K:W.Frag}:PySem.W.kitOne K (.type "bool") (.type "int")=some true:=zl1 (by decide +kernel) (by decide +kernel)
theorem zhm {K:W.Frag}:PySem.W.kitOne K (.type "int") (.type "int")=some true:=L2.kit_self
theorem zgX {K:W.Frag}:PySem.W.kitOne K (.type "str") (.type "int")=some false:=L2.kit_no (by decide +kernel) (by decide +kernel) (by decide +kernel)
theorem zfN {K:W.Frag}:PySem.W.kitOne K (.type "tuple") (.type "int")=some false:=L2.kit_no (by decide +kernel) (by decide +kernel) (by decide +kernel)
theorem zgq {K:W.Frag}:PySem.W.kitOne K (.type "list") (.type "int")=some false:=L2.kit_no (by decide +kernel) (by decide +kernel) (by decide +kernel)
theorem zfZ {K:W.Frag}:PySem.W.kitOne K (.type "dict") (.type "int")=some false:=L2.kit_no (by decide +kernel) (by decide +kernel) (by decide +kernel)
theorem zdK {K:W.Frag}:PySem.W.kitOne K (.type "NoneType") (.type "bool")=some false:=L2.kit_no (by decide +kernel) (by decide +kernel) (by decide +kernel)
theorem zfV {K:W.Frag}:PySem.W.kitOne K (.type "bool") (.type "bool")=some true:=L2.kit_self
theorem zgF {K:W.Frag}:PySem.W.kitOne K (.type "int") (.type "bool")=some false:=L2.kit_no (by decide +kernel) (by decide +kernel) (by decide +kernel)
theorem zga {K:W.Frag}:PySem.W.kitOne K (.type "str") (.type "bool")=some false:=L2.kit_no (by decide +kernel) (by decide +kernel) (by decide +kernel)
theorem zeY {K:W.Frag}:PySem.W.kitOne K (.type "tuple") (.type "bool")=some false:=L2.kit_no (by decide +kernel) (by decide +kernel) (by decide +kernel)
theorem zfw {K:W.Frag}:PySem.W.kitOne K (.type "list") (.type "bool")=some false:=L2.kit_no (by decide +kernel) (by decide +kernel) (by decide +kernel)
theorem zfC {K:W.Frag}:PySem.W.kitOne K (.type "dict") (.type "bool")=some false:=L2.kit_no (by decide +kernel) (by decide +kernel) (by decide +kernel)
theorem zdJ {K:W.Frag}:PySem.W.kitOne K (.type "NoneType") (.type "list")=some false:=L2.kit_no (by decide +kernel) (by decide +kernel) (by decide +kernel)
theorem zfO {K:W.Frag}:PySem.W.kitOne K (.type "bool") (.type "list")=some false:=L2.kit_no (by decide +kernel) (by decide +kernel) (by decide +kernel)
theorem zgh {K:W.Frag}:PySem.W.kitOne K (.type "int") (.type "list")=some false:=L2.kit_no (by decide +kernel) (by decide +kernel) (by decide +kernel)
theorem zgx {K:W.Frag}:PySem.W.kitOne K (.type "str") (.type "list")=some false:=L2.kit_no (by decide +kernel) (by decide +kernel) (by decide +kernel)
theorem zeT {K:W.Frag}:PySem.W.kitOne K (.type "tuple") (.type "list")=some false:=L2.kit_no (by decide +kernel) (by decide +kernel) (by decide +kernel)
theorem zfM {K:W.Frag}:PySem.W.kitOne K (.type "list") (.type "list")=some true:=L2.kit_self
theorem zfP {K:W.Frag}:PySem.W.kitOne K (.type "dict") (.type "list")=some false:=L2.kit_no (by decide +kernel) (by decide +kernel) (by decide +kernel)
theorem zdx {K:W.Frag}:PySem.W.kitOne K (.type "NoneType") (.type "tuple")=some false:=L2.kit_no (by decide +kernel) (by decide +kernel) (by decide +kernel)
theorem zeW {K:W.Frag}:PySem.W.kitOne K (.type "bool") (.type "tuple")=some false:=L2.kit_no (by decide +kernel) (by decide +kernel) (by decide +kernel)
theorem zfH {K:W.Frag}:PySem.W.kitOne K (.type "int") (.type "tuple")=some false:=L2.kit_no (by decide +kernel) (by decide +kernel) (by decide +kernel)
theorem zfW {K:W.Frag}:PySem.W.kitOne K (.type "str") (.type "tuple")=some false:=L2.kit_no (by decide +kernel) (by decide +kernel) (by decide +kernel)
theorem zem {K:W.Frag}:PySem.W.kitOne K (.type "tuple") (.type "tuple")=some true:=L2.kit_self
theorem zeR {K:W.Frag}:PySem.W.kitOne K (.type "list") (.type "tuple")=some false:=L2.kit_no (by decide +kernel) (by decide +kernel) (by decide +kernel)
theorem zeU {K:W.Frag}:PySem.W.kitOne K (.type "dict") (.type "tuple")=some false:=L2.kit_no (by decide +kernel) (by decide +kernel) (by decide +kernel)
theorem zhE {K:W.Frag} (d:D) (h:okI d=true):PySem.W.kitOne K (.type (zfr d)) (.type "int")=some (isiB "int" d):=by
  cases d with
  | non=>exact zd3
  | bl b=>exact kit_int_bool
  | int b=>exact zhm
  | str b=>exact zgX
  | tup b=>exact zfN
  | lst b=>exact zgq
  | dct b b'=>exact zfZ
  | scr b=>cases h
  | exc b=>cases h
  | fd b b'=>cases h
  | obj b b' b''=>cases h
theorem zf6 {K:W.Frag} (d:D) (h:okI d=true):PySem.W.kitOne K (.type (zfr d)) (.type "bool")=some (isiB "bool" d):=by
  cases d with
  | non=>exact zdK
  | bl b=>exact zfV
  | int b=>exact zgF
  | str b=>exact zga
  | tup b=>exact zeY
  | lst b=>exact zfw
  | dct b b'=>exact zfC
  | scr b=>cases h
  | exc b=>cases h
  | fd b b'=>cases h
  | obj b b' b''=>cases h
theorem zge {K:W.Frag} (d:D) (h:okI d=true):PySem.W.kitOne K (.type (zfr d)) (.type "list")=some (isiB "list" d):=by
  cases d with
  | non=>exact zdJ
  | bl b=>exact zfO
  | int b=>exact zgh
  | str b=>exact zgx
  | tup b=>exact zeT
  | lst b=>exact zfM
  | dct b b'=>exact zfP
  | scr b=>cases h
  | exc b=>cases h
  | fd b b'=>cases h
  | obj b b' b''=>cases h
theorem zhV {K:W.Frag} (d:D) (h:okI d=true):PySem.W.kitOne K (.type (zfr d)) (.type "tuple")=some (isiB "tuple" d):=by
  cases d with
  | non=>exact zdx
  | bl b=>exact zeW
  | int b=>exact zfH
  | str b=>exact zfW
  | tup b=>exact zem
  | lst b=>exact zeR
  | dct b b'=>exact zeU
  | scr b=>cases h
  | exc b=>cases h
  | fd b b'=>cases h
  | obj b b' b''=>cases h
theorem zep {c:String} (hk:∀ d,okI d=true→PySem.W.kitOne K.f (.type (zfr d)) (.type c)=some (isiB c d)) (ha:SEr K XO E ta ma):SE K XO E (tCB (rIs K.f) (zbf ta (zbf (tC (.ty c)) tNil))) (m1 (oIsi c) ma):=by
  intro Λ F0 H0 F H σ δ Q I a
  refine ha Λ F0 H0 F H σ δ _ I (a.bind.imp fun d F1 H1 e1 a1 x rx=>?_)
  by_cases hs':okI d=true
  case neg =>
    cases d with
    | scr _=>exact a1.elim
    | exc _=>exact a1.elim
    | fd _ _=>exact a1.elim
    | obj _ _ _=>exact a1.elim
    | _=>exact absurd rfl hs'
  have a2:Aft E XO σ F1 H1 (fun d F' H'=>∀ v,Rep K F' d v→Q v H') (.ok (.bl (isiB c d))):=by
    cases d with
    | scr l=>cases hs'
    | exc l=>cases hs'
    | fd _ _=>cases hs'
    | obj _ _ _=>cases hs'
    | _=>exact a1
  have fin:=a2 F1 H1 (.refl e1.fh) (.bl (isiB c d)) (by simp only [Rep])
  suffices h:TyOf K.f H1 x (.type (zfr d)) from ⟨x,.ty c,.type c,_,_,rfl,rfl,h,hk d hs',fin⟩
  cases d with
  | non=>simp only [Top,Rep] at rx; subst rx; exact .non
  | bl b=>simp only [Top,Rep] at rx; subst rx; exact .bl _
  | int b=>simp only [Top,Rep] at rx; subst rx; exact .int _
  | str b=>simp only [Top,Rep] at rx; subst rx; exact .str _
  | tup l =>
    simp only [Top,Rep] at rx
    obtain ⟨p,vs,rfl,h1,h2⟩:=rx
    exact .tup (e1.fh _ _ h1)
  | lst l =>
    obtain ⟨p,vs,rfl,h1,h2⟩:=rx
    rcases h1 with h | ⟨o,h⟩
    · exact .lst h
    · exact .frz h
  | dct ks l=>obtain ⟨p,kvs,rfl,h1,h2⟩:=rx; exact .dK h1
  | scr l=>cases hs'
  | exc l=>cases hs'
  | fd _ _=>cases hs'
  | obj _ _ _=>cases hs'
def toPy:Nat→D→PyData
  | _,.non=>.none
  | _,.int i=>.int i
  | n + 1,.tup l=>.tuple (l.map (toPy n))
  | n + 1,.lst l=>.list (l.map (toPy n))
  | _,_=>.none
theorem zcS:∀ (n:Nat) (d:D),zaG n d=true→(toPy n d).canLay0=true∧(toPy n d).depth ≤ n:=by
  intro n
  induction n with
  | zero =>
    intro d h
    cases d with
    | non=>exact ⟨rfl,Nat.le_refl _⟩
    | int i=>exact ⟨rfl,Nat.le_refl _⟩
    | _=>cases h
  | succ n ih =>
    have all:∀ l:List D,l.all (zaG n)=true→PyData.canLayAll0 (l.map (toPy n))=true∧PyData.depthAll (l.map (toPy n)) ≤ n:=by
      intro l
      induction l with
      | nil=>intro _; exact ⟨rfl,Nat.zero_le _⟩
      | cons a l ih2 =>
        intro h
        rw [List.all_cons,Bool.and_eq_true] at h
        obtain ⟨h1,h2⟩:=ih a h.1
        obtain ⟨h3,h4⟩:=ih2 h.2
        refine ⟨?_,?_⟩
        · simp only [List.map_cons,PyData.canLayAll0,h1,h3,Bool.and_self]
        · simp only [List.map_cons,PyData.depthAll]; omega
    intro d h
    cases d with
    | non=>exact ⟨rfl,Nat.zero_le _⟩
    | int i=>exact ⟨rfl,Nat.zero_le _⟩
    | tup l=>obtain ⟨h1,h2⟩:=all l h; exact ⟨by simpa only [toPy,PyData.canLay0] using h1,by simp only [toPy,PyData.depth]; omega⟩
    | lst l=>obtain ⟨h1,h2⟩:=all l h; exact ⟨by simpa only [toPy,PyData.canLay0] using h1,by simp only [toPy,PyData.depth]; omega⟩
    | _=>cases h
open Classical in
theorem ziH:∀ (n:Nat) (d d':D),zaG n d=true→zaG n d'=true→PyData.eqv (toPy n d) (toPy n d')=decide (d=d'):=by
  intro n
  induction n with
  | zero =>
    intro d d' h h'
    cases d with
    | non=>cases d' <;> first | (simp [toPy,PyData.eqv]; done) | cases h'
    | int i =>
      cases d' with
      | int j=>simp only [toPy,PyData.eqv]; by_cases e:i=j <;> simp [e]
      | _=>first | (simp [toPy,PyData.eqv]; done) | cases h'
    | _=>cases h
  | succ n ih =>
    have all:∀ l l':List D,l.all (zaG n)=true→l'.all (zaG n)=true→PyData.eqvAll (l.map (toPy n)) (l'.map (toPy n))=decide (l=l'):=by
      intro l
      induction l with
      | nil=>intro l' _ _; cases l' <;> simp [PyData.eqvAll]
      | cons a l ih2 =>
        intro l' h h'
        cases l' with
        | nil=>simp [PyData.eqvAll]
        | cons b l' =>
          rw [List.all_cons,Bool.and_eq_true] at h h'
          simp only [List.map_cons,PyData.eqvAll,ih a b h.1 h'.1,ih2 l' h.2 h'.2]
          by_cases e1:a=b <;> by_cases e2:l=l' <;> simp [e1,e2]
    intro d d' h h'
    cases d with
    | non=>cases d' <;> first | (simp [toPy,PyData.eqv]; done) | cases h'
    | int i =>
      cases d' with
      | int j=>simp only [toPy,PyData.eqv]; by_cases e:i=j <;> simp [e]
      | _=>first | (simp [toPy,PyData.eqv]; done) | cases h'
    | tup l =>
      cases d' with
      | tup l'=>simp only [toPy,PyData.eqv,all l l' h h']; simp
      | _=>first | (simp [toPy,PyData.eqv]; done) | cases h'
    | lst l =>
      cases d' with
      | lst l'=>simp only [toPy,PyData.eqv,all l l' h h']; simp
      | _=>first | (simp [toPy,PyData.eqv]; done) | cases h'
    | _=>cases h
theorem zhP {pins:List (Addr × Obj)} {σ:L2.St} {H F:Hp} {s:Shared} (I:Inv X pins σ H s) (sm:Same F H):∀ (n:Nat) (d:D) (v:V) (u:Value),zaG n d=true→Rep ⟨X.K,ca,an⟩ F d v→RelV v u→∃ as,Reads s.heap u (toPy n d) as:=by
  intro n
  induction n with
  | zero =>
    intro d v u h r ru
    cases d with
    | non=>simp only [Rep] at r; subst r; cases ru; exact ⟨_,.none⟩
    | int i=>simp only [Rep] at r; subst r; obtain ⟨t,rfl⟩:=ru; exact ⟨_,.int i t⟩
    | _=>cases h
  | succ n ih =>
    have all:∀ (l:List D) (vs:List V) (us:List Value),l.all (zaG n)=true→RepL ⟨X.K,ca,an⟩ F l vs→Vals vs us→∃ as,ReadsAll s.heap us (l.map (toPy n)) as:=by
      intro l
      induction l with
      | nil=>intro vs us _ r ru; simp only [RepL] at r; subst r; cases ru; exact ⟨_,.nil⟩
      | cons a l ih2 =>
        intro vs us h r ru
        rw [List.all_cons,Bool.and_eq_true] at h
        simp only [RepL] at r
        obtain ⟨v,r',rfl,r1,r2⟩:=r
        cases ru with
        | cons ru ru' =>
          obtain ⟨as,h1⟩:=ih a v _ h.1 r1 ru
          obtain ⟨bs,h2⟩:=ih2 r' _ h.2 r2 ru'
          exact ⟨_,.cons h1 h2⟩
    intro d v u h r ru
    cases d with
    | non=>simp only [Rep] at r; subst r; cases ru; exact ⟨_,.none⟩
    | int i=>simp only [Rep] at r; subst r; obtain ⟨t,rfl⟩:=ru; exact ⟨_,.int i t⟩
    | tup l =>
      simp only [Rep] at r
      obtain ⟨a,vs,rfl,h1,h2⟩:=r
      cases ru
      obtain ⟨its,rv,⟨o,e,c,k,dd⟩,_⟩:=I.tuple (show SqT X.K H a vs from .inl (.inl (sm _ _ h1)))
      obtain ⟨as,h3⟩:=all l vs its h h2 rv
      exact ⟨_,.tuple e c dd (by simpa using h3)⟩
    | lst l =>
      simp only [Rep] at r
      obtain ⟨a,vs,rfl,h1,h2⟩:=r
      cases ru
      obtain ⟨its,rv,⟨o,k,e,c,_,dd⟩,_⟩:=I.list (show SqL X.K H a vs from .inl (PM.Same.rd sm h1))
      obtain ⟨as,h3⟩:=all l vs its h h2 rv
      exact ⟨_,.list e c dd (by simpa using h3)⟩
    | _=>cases h
theorem zdy {pins:List (Addr × Obj)} {σ:L2.St} {H F:Hp} {s:Shared} (I:Inv X pins σ H s) (sm:Same F H) {n:Nat} {d:D} {v:V} {u:Value} (h:zaG n d=true) (r:Top ⟨X.K,ca,an⟩ F H d v) (ru:RelV v u):∃ as,Reads s.heap u (toPy n d) as:=by
  have r':Rep ⟨X.K,ca,an⟩ (zbx F H) d v:=by
    cases d with
    | lst l =>
      obtain ⟨a,vs,rfl,h1,h2⟩:=r
      rcases h1 with h1 | ⟨o,h1⟩
      · exact zfG sm (.inr (.inl ⟨a,rfl,vs,h1,h2⟩))
      · simp only [Rep]
        refine ⟨a,vs,rfl,.inr ⟨o,?_⟩,h2.mono zb7⟩
        unfold zbx
        cases q:F a with
        | some u=>rw [sm _ _ q] at h1; exact h1
        | none=>simp only [h1]
    | dct ks l=>cases n <;> cases h
    | obj c ks l=>cases n <;> cases h
    | _=>exact Rep.mono zb7 _ r
  exact zhP I (zg9 sm) n d v u h r' ru
open Classical in
def rEqD (K:Kx) (neg:Bool):R2:=fun x y H Q=>∃ (F:Hp) (dx dy:D),Same F H∧Top K F H dx x∧Top K F H dy y∧zaG 8 dx=true∧zaG 8 dy=true∧Q (.bl (if neg=true then !decide (dx=dy) else decide (dx=dy))) H
theorem zk0 (hu:X.A.units + 64 < cLine):OpR X (compareOp .Eq) (rEqD ⟨X.K,ca,an⟩ false):=by
  intro pins s σ H x y v u Q I rx ry h
  obtain ⟨F,dx,dy,sm,tx,ty,px,py,q⟩:=h
  obtain ⟨as,ra⟩:=zdy I sm px tx rx
  obtain ⟨bs,rb⟩:=zdy I sm py ty ry
  obtain ⟨l1,l2⟩:=zcS 8 dx px
  obtain ⟨m1,m2⟩:=zcS 8 dy py
  refine SeqAt.compareEq_reads ra rb l1 m1 (by omega) ?_
  rw [ziH 8 dx dy px py]
  exact ⟨.bl _,H,I,rfl,q⟩
theorem zhM (hu:X.A.units + 64 < cLine):OpR X (compareOp .NotEq) (rEqD ⟨X.K,ca,an⟩ true):=by
  intro pins s σ H x y v u Q I rx ry h
  obtain ⟨F,dx,dy,sm,tx,ty,px,py,q⟩:=h
  obtain ⟨as,ra⟩:=zdy I sm px tx rx
  obtain ⟨bs,rb⟩:=zdy I sm py ty ry
  obtain ⟨l1,l2⟩:=zcS 8 dx px
  obtain ⟨m1,m2⟩:=zcS 8 dy py
  refine SeqAt.compareNe_reads ra rb l1 m1 (by omega) ?_
  rw [ziH 8 dx dy px py]
  exact ⟨.bl _,H,I,rfl,q⟩
theorem zk3:SR K (rEqD K false) oEqD:=by
  intro F H x y dx dy d Q s hx hy e q
  unfold oEqD ifC at e
  split at e
  · rename_i h
    cases e
    exact ⟨F,dx,dy,s,hx,hy,h.1,h.2,q _ F H (.refl s) (by simp only [Rep]; rfl)⟩
  · cases e
theorem zhT:SR K (rEqD K true) oNeD:=by
  intro F H x y dx dy d Q s hx hy e q
  unfold oNeD ifC at e
  split at e
  · rename_i h
    cases e
    exact ⟨F,dx,dy,s,hx,hy,h.1,h.2,q _ F H (.refl s) (by simp only [Rep]; rfl)⟩
  · cases e
end
end PM
namespace L2
open PySem PySem.Spec PyProof.Rows
def zkC (scope osc:Scope):Scope:={ scope with names:=scope.names.map fun (n,k)=>if (k == .free && osc.kind == .function && osc.names.lookup n == some .cell) then (n,.cell) else (n,k) }
section
variable {X:Cx}
end
end L2
namespace PM
open PySem L2
section
variable {K:Kx} {XO:XOT} {E:L2.St→XK}
end
end PM
namespace PM
open PySem L2
section
variable {K:Kx} {E:L2.St→XK} {ta:TE} {ma:En→R D} {t u:TS} {m n:En→O} {Λ:List (Nat × Addr × HO)} {F0 H0 F H:Hp} {σ:L2.St} {δ:En}
end
end PM
namespace L2
open PySem PySem.Spec PyProof.Rows
section
variable {P:Program} {w:World} {B:Around} {Z:Result→Shared→Prop} {J S:Addr} {fp wr:List Addr} {n:Nat} {Pv:Nat→Value→Prop} {Sn:Nat→Heap→Prop}
end
section
variable {P:Program} {w:World} {B:Around} {E:Value→Shared→Prop} {s:Shared} {Q:Value→Shared→Prop} {l:Addr} {xs:Array (Int × Tok)} {df:Value}
end
end L2
namespace L2
open PySem PySem.Spec PyProof.Rows
section
variable {X:Cx}
end
end L2
namespace PM
open PySem L2
section
variable {K:Kx} {XO:XOT} {E:L2.St→XK} {td te:TE} {md me:En→R D}
end
end PM
namespace L2
open PySem PySem.Spec PyProof.Rows
section
variable {X:Cx}
theorem znq {o:Expr} {m:Str} {apos:Pos} {e f:Expr} {cpos:Pos} (h1:attributeBase o m X.env (eval o X.env)=eval o X.env:=by rfl)
    (h2:((backTo cpos (starEach [e,f] X.env)).all (fun x=>!x.1) && (backToKw cpos (keywordEach [] X.env)).all (fun x=>x.1.isSome) && decide (([e,f]:List Expr).length + ([]:List Keyword).length + (if ([]:List Keyword).isEmpty then 0 else 1) < 30))=true:=by rfl)
    (h3:(apos.endLine == cpos.line)=true:=by rfl) (h4:backTo cpos (starEach [e,f] X.env) = [(false,eval e X.env),(false,eval f X.env)]:=by rfl):M2 X o m apos e f cpos:=⟨h1,h2,h3,h4⟩
end
end L2
namespace PM
open PySem L2
section
variable {K:Kx} {XO:XOT} {E:L2.St→XK} {td ty tx:TE} {md my mx:En→R D}
def zln:D→Option (List Key × List D)
  | .dct ks l=>some (ks,l)
  | _=>none
def zhk (md my mx:En→R D) (δ:En):R D:=(md δ).bind fun d=>(R.of (zln d)).bind fun p=>(my δ).bind fun k=>(mx δ).bind fun x=>R.of ((asK k).map fun k=>(getK p.1 p.2 k).getD x)
theorem zl4 (hd:SEr K XO E td md) (hy:SE K XO E ty my) (hx:SE K XO E tx mx):SE K XO E (zlb td ty tx) (zhk md my mx):=by
  intro Λ F0 H0 F H σ δ Q I a
  refine hd Λ F0 H0 F H σ δ _ I (a.bind.imp fun d F1 H1 e1 a1 x rx=>?_)
  cases d with
  | dct ks l =>
    have rx':=rx
    obtain ⟨p,kvs,rfl,h1,_⟩:=rx'
    refine ⟨p,rfl,.inl ⟨kvs,.inl h1⟩,?_⟩
    change Aft E XO σ F1 H1 _ ((my δ).bind fun k=>(mx δ).bind fun x=>R.of ((asK k).map fun k=>(getK ks l k).getD x)) at a1
    refine hy Λ F0 H0 F1 H1 σ δ _ (I.grow e1) (a1.bind.imp fun k F2 H2 e2 a2 y ry=>?_)
    refine hx Λ F0 H0 F2 H2 σ δ _ ((I.grow e1).grow e2) (a2.bind.imp fun xd F3 H3 e3 a3 z rz=>?_)
    cases q:asK k with
    | none=>rw [q] at a3; exact a3.elim
    | some key =>
      rw [q] at a3
      obtain ⟨p',o,ep,g,g1,g2⟩:=zkg (k:=key) ((rx.mono e2.ff e2.hh).mono e3.ff e3.hh)
      cases ep
      cases zg8 q ry
      refine ⟨o,g,a3 F3 H3 (.refl e3.fh) _ ?_⟩
      cases w:getK ks l key with
      | none=>rw [g2 w]; simpa only [w,Option.getD_none] using rz
      | some dd=>obtain ⟨v,rfl,r⟩:=g1 dd w; simpa only [w,Option.getD_some] using r
  | _=>exact a1.elim
end
end PM
namespace L2
open PySem PySem.Spec PyProof.Rows
section
variable {X:Cx}
def zmI (ta:TA):TE:=fun σ H Q=>ta σ H fun vs H1=>∃ j:Int,vs = [.int j]∧∀ r,H1 r=none→Q (.ref r) (upd H1 r (.rng 0 j))
theorem zlI {a:Expr} {ta:TA} {p pos:Pos} (hg:Gl X "range") (hm:X.mg "range"=none) (ha:PA X [a] ta) (hs:starEach [a] X.env = [(false,eval a X.env)]:=by rfl):PE X (.Call (.Name "range" p) [a] [] pos) (zmI ta):=by
  intro pins s σ H Q I h
  refine Call_ (zfm I hg hm boot_range (PyProof.Rows.callWith_type1 (thn (ha pos pins s σ H _ I h) fun us s1 ⟨vs,H1,I1,r1,q1⟩=>?_) hs rfl))
  obtain ⟨j,e,q⟩:=q1
  subst e
  obtain ⟨u,rfl,t,rfl⟩:=zfY r1
  refine call_range_1 ⟨.ref s1.heap.objs.size,_,?_,rfl,q _ (I1.hok.fresh (Nat.le_refl _))⟩
  exact I1.laid (fun b o e=>Heap.get?_push_of_some _ e) (Nat.le_refl _) ⟨_,_,_,Heap.get?_push_size _ rfl⟩
def zkV:List V→Hp→VK→Prop:=fun xs H Q=>∃ (r:Addr) (j:Int),xs = [.ref r]∧H r=some (.rng 0 j)∧(0 ≤ j∧j ≤ 100000)∧∀ l,H l=none→Q (.ref l) (upd H l (.lst ((List.range j.toNat).map fun k:Nat=>.int (k:Int))))
theorem zio (hc:X.calm=true):zd4 X (.type "list") zkV:=by
  intro pins s σ H xs us Q I r h
  obtain ⟨ra,j,rfl,hr,hj,q⟩:=h
  obtain ⟨u,rfl,rx⟩:=zfY r
  cases rx
  obtain ⟨t1,t2,t3,e⟩:=I.hok ra _ hr
  have sz:Builtin.Range.rangeSize 0 j 1=(j.toNat:Int):=by rw [rangeSize_one]; split <;> omega
  refine call_list_range (I.ok.hd hc) e (small_one (by decide) (by decide) (by omega) (by omega)) sz (by omega) fun h' tk acc c' kp hl items=>?_
  refine ⟨.ref s.heap.objs.size,_,?_,rfl,q _ (I.hok.fresh (Nat.le_refl _))⟩
  obtain ⟨i1,i2⟩:=items
  refine I.laid kp (Nat.le_refl _) ⟨(by rw [List.length_map,List.length_range]; exact Nat.le_trans (show j.toNat ≤ 100000 by omega) (show 100000 ≤ sizeLine by decide)),acc.toList,c',?_,by simpa using hl⟩
  have key:∀ (n:Nat) (l:List Value) (o:Nat),l.length=n→(∀ k v,l[k]?=some v→∃ t,v=Value.int ((o + k:Nat):Int) t)→Vals ((List.range' o n).map fun k:Nat=>V.int (k:Int)) l:=by
    intro n
    induction n with
    | zero=>intro l o h1 _; rw [List.length_eq_zero_iff.mp h1]; exact .nil
    | succ n ih =>
      intro l o h1 h2
      cases l with
      | nil=>simp at h1
      | cons v l =>
        obtain ⟨t,rfl⟩:=h2 0 v rfl
        refine .cons ⟨t,rfl⟩ (ih l (o + 1) (by simpa using h1) fun k v hk=>?_)
        obtain ⟨t',e'⟩:=h2 (k + 1) v (by simpa using hk)
        exact ⟨t',by rw [e']; congr 2; omega⟩
  have:=key j.toNat acc.toList 0 (by simpa using i1) fun k v hk=>by
    obtain ⟨t,e'⟩:=i2 k v (by simpa using hk)
    exact ⟨t,by rw [e']; congr 1; simp⟩
  rw [List.range_eq_range']
  exact this
end
end L2
namespace PM
open PySem L2
section
variable {K:Kx} {XO:XOT} {E:L2.St→XK}
def lstR (l:List D):Option D:=match l with
  | [.int j]=>ifC (0 ≤ j∧j ≤ 100000) (some (.lst ((List.range j.toNat).map fun k:Nat=>.int (k:Int)))) none
  | _=>none
def zkA (ml:En→R (List D)) (δ:En):R D:=(ml δ).bind fun l=>R.of (lstR l)
theorem zjH {l:List D} {d:D} (h:lstR l=some d):∃ j:Int,l = [.int j]∧(0 ≤ j∧j ≤ 100000)∧d = .lst ((List.range j.toNat).map fun k:Nat=>.int (k:Int)):=by
  unfold lstR at h
  split at h
  · rename_i j
    unfold ifC at h
    split at h
    · cases h; exact ⟨j,rfl,by assumption,rfl⟩
    · cases h
  · cases h
theorem zi3 {tl:TA} {ml:En→R (List D)} (h:SA K XO E tl ml):SEo K XO E (tCB zkV (zbf (zmI tl) tNil)) (zkA ml):=by
  intro Λ F0 H0 F H σ δ Q I a
  refine h Λ F0 H0 F H σ δ _ I (a.bind.imp fun ds F1 H1 e1 a1 vs r=>?_)
  cases q:lstR ds with
  | none=>rw [q] at a1; exact a1.elim
  | some d =>
    rw [q] at a1
    obtain ⟨j,rfl,hj,rfl⟩:=zjH q
    obtain ⟨v,rfl,rv⟩:=RepL.one r
    simp only [Rep] at rv
    subst rv
    refine ⟨j,rfl,fun ra hra=>⟨ra,j,rfl,zah,hj,fun l hl=>?_⟩⟩
    have x1:Ext F1 H1 F1 (upd H1 ra (.rng 0 j)):=.newO e1.fh hra
    have x2:=x1.trans (.newO (o:=.lst ((List.range j.toNat).map fun k:Nat=>V.int (k:Int))) x1.fh hl)
    have hl1:H1 l=none:=x1.hh.free hl
    refine a1 F1 _ x2 l (e1.fh.free hl1) (e1.hh.free hl1) ⟨_,zah,?_⟩
    have:=RepL.ints (K:=K) (F:=F1) (ns:=(List.range j.toNat).map fun k:Nat=>(k:Int))
    rw [List.map_map,List.map_map] at this
    exact this
end
end PM
namespace L2
open PySem PySem.Spec PyProof.Rows
section
variable {X:Cx}
end
end L2
namespace PM
open PySem L2
section
variable {K:Kx} {XO:XOT} {E:L2.St→XK}
end
end PM
namespace PM
end PM
namespace L2
open PySem PySem.Spec PyProof.Rows
section
variable {X:Cx}
end
end L2
namespace PM
open PySem L2
section
variable {K:Kx}
def ziB:List D→Option D
  | [.int i,.int j]=>some (.int (if j < i then j else i))
  | _=>none
theorem zlm:SC K (fun xs H Q=>∃ i j,xs = [.int i,.int j]∧Q (.int (if j < i then j else i)) H) ziB:=by
  intro F H vs ds d Q s r e q
  unfold ziB at e
  split at e
  · rename_i i j
    cases e
    cases r with
    | cons r r' =>
      cases r' with
      | cons r2 r3 =>
        cases r3
        simp only [Top,Rep] at r r2
        subst r r2
        exact ⟨i,j,rfl,q _ F H (.refl s) (by simp only [Rep])⟩
  · cases e
end
end PM
namespace L2
open PySem PySem.Spec PyProof.Rows
section
variable {X:Cx}
def zgQ:List V→Hp→VK→Prop:=fun xs H Q=>∃ (p:Addr) (ns:List Int),xs = [.ref p]∧Rd H p (.lst (ns.map V.int))∧ns.length < 64∧∀ a,H a=none→Q (.ref a) (upd H a (.lst ((ns.mergeSort (fun a b=>decide (a ≤ b))).map V.int)))
theorem zkB {ns:List Int} {its:List Value} (rv:Vals (ns.map V.int) its):IntsAre its ns:=by
  induction ns generalizing its with
  | nil=>cases rv; exact .nil
  | cons a l ih =>
    cases rv with
    | cons h t =>
      obtain ⟨tk,rfl⟩:=h
      exact .cons _ _ (ih t)
theorem zkf {ns:List Int} {its:List Value} (rv:IntsAre its ns):Vals (ns.map V.int) its:=by
  induction rv with
  | nil=>exact .nil
  | cons _ _ _ ih=>exact .cons ⟨_,rfl⟩ ih
theorem sort_eq {ns ms:List Int} (hp:ms.Perm ns) (hs:ms.Pairwise (· ≤ ·)):ms=ns.mergeSort fun a b=>decide (a ≤ b):=by
  have h1:(ns.mergeSort fun a b=>decide (a ≤ b)).Pairwise (· ≤ ·):=by
    have:=List.pairwise_mergeSort (le:=fun a b:Int=>decide (a ≤ b)) (fun a b c h1 h2=>by simp at *; omega) (fun a b=>by simp; omega) ns
    exact this.imp fun h=>by simpa using h
  have h2:ms.Perm (ns.mergeSort fun a b=>decide (a ≤ b)):=hp.trans (List.mergeSort_perm ..).symm
  exact List.Perm.eq_of_pairwise (fun a b _ _ h3 h4=>Int.le_antisymm h3 h4) hs h1 h2
theorem zcj:zd4 X (.builtin "sorted") zgQ:=by
  intro pins s σ H xs us Q I r h
  obtain ⟨p,ns,rfl,hq,hl,q⟩:=h
  obtain ⟨u,rfl,rx⟩:=zfY r
  cases rx
  obtain ⟨z,its,n,rv,e⟩:=hq.ok I.hok
  have len:=rv.length
  rw [List.length_map] at len
  refine sorted_ints ⟨_,e,rfl,n,rfl⟩ (zkB rv) (by omega) fun out ms a1 a2 a3=>?_
  obtain ⟨c,hc⟩:=sortedAll_at s.heap its out
  rw [sort_eq a2 a3] at a1
  refine ⟨.ref (s.heap.objs.size + 1),_,?_,rfl,q _ (I.hok.fresh (Nat.le_succ _))⟩
  refine I.laid (fun b o hb=>sortedAll_old hb) (Nat.le_succ _) ⟨?_,out.toList,c,zkf a1,by simpa using hc⟩
  rw [List.length_map,List.length_mergeSort]
  exact Nat.le_trans (Nat.le_of_lt hl) (by decide)
end
end L2
namespace PM
open PySem L2
section
variable {K:Kx}
def zbU:List D→Option D
  | [.lst l]=>(asIs l).bind fun ns=>ifC (ns.length < 64) (some (.lst ((ns.mergeSort fun a b=>decide (a ≤ b)).map .int))) none
  | _=>none
theorem zgC {ds:List D} {d:D} (h:zbU ds=some d):∃ ns:List Int,ds = [.lst (ns.map .int)]∧ns.length < 64∧d = .lst ((ns.mergeSort fun a b=>decide (a ≤ b)).map .int):=by
  unfold zbU at h
  split at h
  · rename_i l
    cases z:asIs l with
    | none=>rw [z] at h; cases h
    | some ns =>
      rw [z] at h
      simp only [Option.bind] at h
      unfold ifC at h
      split at h
      · rename_i hl
        cases h
        exact ⟨ns,by rw [zeQ z],hl,rfl⟩
      · cases h
  · cases h
theorem zji {F:Hp}:∀ ns:List Int,RepL K F (ns.map .int) (ns.map V.int)
  | []=>.nil
  | n :: ns=>.cons (by simp only [Rep]) (zji ns)
theorem zel:SCo K zgQ zbU:=by
  intro F H vs ds d Q s r e q
  obtain ⟨ns,rfl,hl,rfl⟩:=zgC e
  cases r with
  | cons r r' =>
    cases r'
    obtain ⟨a,xs,rfl,h1,h2⟩:=r
    have ex:=zcJ h2
    subst ex
    exact ⟨a,ns,rfl,h1,hl,fun p hp=>q p F _ (.newO s hp) (s.free hp) hp ⟨_,zah,zji _⟩⟩
end
end PM
namespace PM
open PySem L2
section
variable {K:Kx} {XO:XOT} {E:L2.St→XK} {te:TE} {me:En→R D}
theorem RepL.eraseIdx {F:Hp}:∀ {l:List D} {vs:List V} (k:Nat),RepL K F l vs→RepL K F (l.eraseIdx k) (vs.eraseIdx k)
  | [],vs,k,h=>by
    simp only [RepL] at h
    subst h
    simp only [List.eraseIdx_nil]
    exact .nil
  | d :: l,vs,k,h=>by
    simp only [RepL] at h
    obtain ⟨v,r,rfl,h1,h2⟩:=h
    cases k with
    | zero=>exact h2
    | succ k=>exact .cons h1 (RepL.eraseIdx k h2)
theorem znm {k n:Nat} (h:k < n):seqIndex? (k:Int) n=some k:=by
  unfold seqIndex?
  have e:¬ (k:Int) < 0:=by omega
  simp only [e,if_false]
  rw [if_pos (by simp; omega)]
  simp
def zeP (j i:Nat) (me:En→R D) (δ:En):O:=match δ[j]?,δ[i]? with
  | some (.o (.lst r)),some (.o (.lst l))=>if i=j then .no else (me δ).toO δ fun k=>match k with
    | .int (.ofNat k)=>(match l[k]? with | some d=>if k < 2 ^ 63∧r.length < 100000 then .nx ((δ.set i (.o (.lst (l.eraseIdx k)))).set j (.o (.lst (r ++ [d])))) else .no | none=>.no)
    | _=>.no
  | _,_=>.no
theorem zjy {j i:Nat} (h:SE K XO E te me):SS K XO E (zka (tBM K.f "list" zgS (tVar j) (zbf (tBM K.f "list" zk7 (tVar i) (zbf te tNil)) tNil))) (zeP j i me):=by
  intro Λ F0 H0 F H σ δ Dn I a
  unfold zeP at a
  split at a
  · rename_i r l q1 q2
    split at a
    · exact a.elim
    · rename_i hij
      obtain ⟨pr,t1,ws,t2,t3⟩:=I.own q1
      obtain ⟨p,s1,vs,s2,s3⟩:=I.own q2
      refine ⟨_,t1,.inl ⟨rfl,ws,.inl (.inl t2)⟩,?_⟩
      refine ⟨_,s1,.inl ⟨rfl,vs,.inl (.inl s2)⟩,?_⟩
      refine h Λ F0 H0 F H σ δ _ I ((AftS.of I a).imp fun d F1 H1 e c v rr=>?_)
      split at c
      · rename_i k
        simp only [Rep] at rr
        subst rr
        cases z:l[k]? with
        | none=>simp only [z] at c; exact c.elim
        | some y =>
          simp only [z] at c
          split at c
          · rename_i hk
            have hlt:k < l.length:=(List.getElem?_eq_some_iff.mp z).1
            obtain ⟨w,hw,rw'⟩:=(s3.mono e.ff).get z
            have I2:=(I.grow e).chg (u:=.lst (vs.eraseIdx k)) (d':=.lst (l.eraseIdx k)) q2 s1 ⟨_,zah,(s3.mono e.ff).eraseIdx k⟩
            have q1':(δ.set i (.o (.lst (l.eraseIdx k))))[j]?=some (.o (.lst r)):=by rw [List.getElem?_set_ne hij]; exact q1
            obtain ⟨pr2,u1,ws2,u2,u3⟩:=I2.own q1'
            have epr:pr2=pr:=by rw [t1] at u1; cases u1; rfl
            subst epr
            refine ⟨p,vs,(k:Int),k,w,rfl,rfl,e.hh _ _ s2,by omega,by omega,znm (by rw [s3.length]; exact hlt),hw,?_⟩
            refine ⟨pr2,ws2,w,rfl,rfl,u2,by rw [u3.length]; exact zjY (by omega),?_⟩
            exact c σ F1 _ (I2.chg q1' u1 ⟨_,zah,u3.append (.cons rw' .nil)⟩)
          · exact c.elim
      · exact c.elim
  · exact a.elim
end
end PM
namespace L2
open PySem PySem.Spec PyProof.Rows
section
variable {X:Cx}
end
end L2
namespace PM
open PySem L2
section
variable {K:Kx} {XO:XOT} {E:L2.St→XK} {tl te:TE} {ml me:En→R D}
end
end PM
namespace L2
open PySem PySem.Spec PyProof.Rows
open Sem (wp)
section
variable {P:Program} {w:World} {B:Around} {Er:Value→Shared→Prop} {hp:Heap} {gs:Array GenState} {dr:Drawn} {tk:Nat} {os:OsState}
variable {nm q:Str} {C N:Addr} {bs bm bmB:List Value} {hdct:Bool} {sn:List Str} {sub:List Value} {ab:Bool} {col:Option Bool} {dd:Option Addr} {k0 k1 k2 k3 k5:Option Value} {B0 Bn newId nid initId inN:String} {bmN:List Value}
end
end L2
namespace L2
open PySem PySem.Spec PyProof.Rows
section
variable {P:Program} {w:World} {B:Around} {Er:Value→Shared→Prop} {s:Shared}
end
end L2
namespace L2
open PySem PySem.Spec PyProof.Rows
section
variable {X:Cx}
end
end L2
namespace PM
open PySem L2
section
variable {K:Kx} {XO:XOT} {E:L2.St→XK}
end
end PM
namespace L2
open PySem PySem.Spec PyProof.Rows
section
variable {X:Cx}
end
end L2
namespace PM
open PySem L2
section
variable {K:Kx} {XO:XOT} {E:L2.St→XK}
end
end PM
namespace L2
open PySem PySem.Spec PyProof.Rows
section
variable {X:Cx}
end
end L2
namespace PM
open PySem L2
section
variable {K:Kx} {XO:XOT} {E:L2.St→XK} {tk te:TE} {mk me:En→R D}
end
end PM
namespace PM
open PySem L2
section
variable {K:Kx} {XO:XOT} {E:St→XK} {ta tb te:TE} {ma mb me:En→R D} {t u:TS} {m n:En→O} {Λ:List (Nat × Addr × HO)} {F0 H0 F H F' H' F1 H1:Hp} {σ:St} {δ:En} {Dn:Ends}
def tabD (ll:List (List Int)):D:=.lst (ll.map iL)
structure TabO (H:Hp) (a:Addr) (bs:List Addr) (ll:List (List Int)):Prop where
  top:H a=some (.lst (bs.map .ref))
  len:bs.length=ll.length
  row:∀ (i:Nat) (b:Addr) (l:List Int),bs[i]?=some b→ll[i]?=some l→H b=some (.lst (l.map .int))
  nd:(a :: bs).Nodup
theorem TabO.mono {a:Addr} {bs:List Addr} {ll:List (List Int)} (e:Same H H') (t:TabO H a bs ll):TabO H' a bs ll:=⟨e _ _ t.top,t.len,fun i b l h1 h2=>e _ _ (t.row i b l h1 h2),t.nd⟩
theorem TabO.obj {a:Addr} {bs:List Addr} {ll:List (List Int)} (t:TabO H a bs ll):∀ b ∈ a :: bs,∃ o,H b=some o:=fun b hb=>by
  rcases List.mem_cons.mp hb with rfl | hb
  · exact ⟨_,t.top⟩
  · obtain ⟨i,hi,e⟩:=List.getElem_of_mem hb
    have hl:i < ll.length:=by rw [← t.len]; exact hi
    exact ⟨_,t.row i b ll[i] (by rw [List.getElem?_eq_getElem hi,e]) (List.getElem?_eq_getElem hl)⟩
def rowT (l:List Int):Tr:=.l (l.map fun i=>.d (.int i))
def tabT (ll:List (List Int)):Tr:=.l (ll.map rowT)
theorem ints_iff:∀ {l:List Int} {vs:List V} {fp:List Addr},TrOkL K F H (l.map fun i=>.d (.int i)) vs fp ↔ vs=l.map .int∧fp = []
  | [],vs,fp=>by simp only [List.map_nil,TrOkL]
  | i :: l,vs,fp=>by
    simp only [List.map_cons,TrOkL,TrOk,Rep]
    constructor
    · rintro ⟨v,r,f1,f2,rfl,rfl,⟨rfl,rfl⟩,h⟩
      obtain ⟨rfl,rfl⟩:=ints_iff.mp h
      exact ⟨rfl,rfl⟩
    · rintro ⟨rfl,rfl⟩
      exact ⟨_,_,[],[],rfl,rfl,⟨rfl,rfl⟩,ints_iff.mpr ⟨rfl,rfl⟩⟩
theorem row_iff {l:List Int} {v:V} {fp:List Addr}:TrOk K F H (rowT l) v fp ↔ ∃ b,v = .ref b∧fp = [b]∧H b=some (.lst (l.map .int)):=by
  unfold rowT
  simp only [TrOk]
  constructor
  · rintro ⟨a,vs,fs,rfl,rfl,h1,h2⟩
    obtain ⟨rfl,rfl⟩:=ints_iff.mp h2
    exact ⟨a,rfl,rfl,h1⟩
  · rintro ⟨b,rfl,rfl,h⟩
    exact ⟨b,_,[],rfl,rfl,h,ints_iff.mpr ⟨rfl,rfl⟩⟩
theorem rows_iff:∀ {ll:List (List Int)} {vs:List V} {bs:List Addr},TrOkL K F H (ll.map rowT) vs bs ↔ vs=bs.map .ref∧bs.length=ll.length∧∀ (i:Nat) (b:Addr) (l:List Int),bs[i]?=some b→ll[i]?=some l→H b=some (.lst (l.map .int))
  | [],vs,bs=>by
    simp only [List.map_nil,TrOkL]
    constructor
    · rintro ⟨rfl,rfl⟩; exact ⟨rfl,rfl,fun i b l h=>by simp at h⟩
    · rintro ⟨rfl,h,_⟩
      cases bs with
      | nil=>exact ⟨rfl,rfl⟩
      | cons _ _=>simp at h
  | l :: ll,vs,bs=>by
    simp only [List.map_cons,TrOkL]
    constructor
    · rintro ⟨v,r,f1,f2,rfl,rfl,h1,h2⟩
      obtain ⟨b,rfl,rfl,h3⟩:=row_iff.mp h1
      obtain ⟨rfl,h4,h5⟩:=rows_iff.mp h2
      refine ⟨rfl,by simp [h4],fun i c r g1 g2=>?_⟩
      cases i with
      | zero=>simp at g1 g2; subst g1 g2; exact h3
      | succ i=>exact h5 i c r (by simpa using g1) (by simpa using g2)
    · rintro ⟨rfl,h,hr⟩
      cases bs with
      | nil=>simp at h
      | cons b bs=>exact ⟨_,_,[b],bs,rfl,rfl,row_iff.mpr ⟨b,rfl,rfl,hr 0 b l rfl rfl⟩,rows_iff.mpr ⟨rfl,by simpa using h,fun i c r g1 g2=>hr (i + 1) c r (by simpa using g1) (by simpa using g2)⟩⟩
theorem tab_iff {a:Addr} {bs:List Addr} {ll:List (List Int)}:Tab K F H a bs (tabT ll) ↔ TabO H a bs ll:=by
  constructor
  · intro t
    have:=t.ok
    unfold tabT at this
    simp only [TrOk] at this
    obtain ⟨a',vs,fs,h1,h2,h3,h4⟩:=this
    cases h1; cases h2
    obtain ⟨rfl,h5,h6⟩:=rows_iff.mp h4
    exact ⟨h3,h5,h6,t.nd⟩
  · intro t
    refine ⟨?_,t.nd⟩
    unfold tabT
    simp only [TrOk]
    exact ⟨a,_,bs,rfl,rfl,t.top,rows_iff.mpr ⟨rfl,t.len,t.row⟩⟩
def zkJ:Tr→Option Int
  | .d (.int i)=>some i
  | _=>none
def zdX {α:Type} (f:Tr→Option α):List Tr→Option (List α)
  | []=>some []
  | t :: ts=>(f t).bind fun x=>(zdX f ts).bind fun r=>some (x :: r)
def zlN:Tr→Option (List Int)
  | .l ts=>zdX zkJ ts
  | _=>none
def zkt:Tr→Option (List (List Int))
  | .l ts=>zdX zlN ts
  | _=>none
theorem zdd {α:Type} {f:Tr→Option α} {g:α→Tr} (h:∀ t x,f t=some x→t=g x):∀ {ts:List Tr} {l:List α},zdX f ts=some l→ts=l.map g
  | [],l,e=>by cases e; rfl
  | t :: ts,l,e=>by
    unfold zdX at e
    cases q:f t with
    | none=>rw [q] at e; cases e
    | some x =>
      rw [q] at e
      cases q2:zdX f ts with
      | none=>simp only [Option.bind] at e; rw [q2] at e; cases e
      | some r =>
        simp only [Option.bind] at e
        rw [q2] at e
        cases e
        rw [h t x q,zdd h q2]; rfl
theorem zdN {α:Type} {f:Tr→Option α} {g:α→Tr} (h:∀ x,f (g x)=some x):∀ (l:List α),zdX f (l.map g)=some l
  | []=>rfl
  | x :: l=>by
    show (f (g x)).bind _=_
    rw [h x]
    show (zdX f (l.map g)).bind _=_
    rw [zdN h l]; rfl
theorem zh2 {t:Tr} {i:Int} (h:zkJ t=some i):t = .d (.int i):=by
  unfold zkJ at h
  split at h
  · cases h; rfl
  · cases h
theorem ziG {t:Tr} {l:List Int} (h:zlN t=some l):t=rowT l:=by
  unfold zlN at h
  split at h
  · rw [zdd (fun _ _=>zh2) h]; rfl
  · cases h
theorem zik {t:Tr} {ll:List (List Int)} (h:zkt t=some ll):t=tabT ll:=by
  unfold zkt at h
  split at h
  · rw [zdd (fun _ _=>ziG) h]; rfl
  · cases h
@[simp] theorem ziq (ll:List (List Int)):zkt (tabT ll)=some ll:=zdN (fun l=>zdN (f:=zkJ) (fun _=>rfl) l) ll
theorem zfJ:∀ (ts:List Tr),trDL ts=ts.map trD
  | []=>by simp only [trDL,List.map_nil]
  | t :: ts=>by simp only [trDL,List.map_cons,zfJ ts]
@[simp] theorem zec (ll:List (List Int)):trD (tabT ll)=tabD ll:=by
  unfold tabT tabD
  simp only [trD,zfJ,List.map_map]
  congr 1
  apply List.map_congr_left
  intro l _
  show trD (rowT l)=iL l
  unfold rowT iL
  simp only [trD,zfJ,List.map_map]
  rfl
def zkj:Sl→Sl
  | .o d=>.v d
  | .l d=>.v d
  | .p T=>.v (trD T)
  | s=>s
def peek (δ:En):En:=δ.map zkj
theorem zlX (I:EnvOk K Λ F0 H0 F H σ δ):EnvOk K [] (zbx F H) H (zbx F H) H σ (peek δ):=by
  have pk:∀ i:Nat,(peek δ)[i]?=(δ[i]?).map zkj:=fun i=>by unfold peek; rw [List.getElem?_map]
  have no:∀ i:Nat,Sl.own (peek δ)[i]?=false:=fun i=>by
    rw [pk]
    cases q:δ[i]? with
    | none=>rfl
    | some s=>cases s <;> rfl
  refine ⟨.refl (zg9 I.same),by rw [I.len]; simp [peek],fun i=>?_,fun i j a _ h1=>(by rw [no i] at h1; cases h1),fun x hx=>(by cases hx),fun i T h=>?_⟩
  · have z:=I.slot i
    rw [pk]
    cases q:δ[i]? with
    | none=>trivial
    | some s =>
      rw [q] at z
      cases s with
      | no=>trivial
      | v d=>obtain ⟨u,z1,z2⟩:=z; exact ⟨u,z1,Rep.mono zb7 d z2⟩
      | o d=>obtain ⟨a,z1,_,_,z4⟩:=z; exact ⟨_,z1,zfG I.same (.inr (.inl ⟨a,rfl,z4⟩))⟩
      | l d=>obtain ⟨a,z1,_,_,z4⟩:=z; exact ⟨_,z1,zfG I.same (.inr (.inl ⟨a,rfl,z4⟩))⟩
      | p T=>obtain ⟨a,bs,z1,z2,_⟩:=z; exact ⟨_,z1,zfv I.same T z2.ok⟩
  · have:=no i
    rw [h] at this; cases this
def zc1 (m:En→R D) (δ:En):R D:=match m (peek δ) with | .ok d=>if zdc d=true then .ok d else .no | _=>.no
theorem zer (h:SE K XO E te me):SE K XO E te (zc1 me):=by
  intro Λ F0 H0 F H σ δ Q I a
  refine h [] (zbx F H) H (zbx F H) H σ (peek δ) Q (zlX I) ?_
  unfold zc1 at a
  cases q:me (peek δ) with
  | no=>rw [q] at a; exact a
  | ex x=>rw [q] at a; exact a.elim
  | ok d =>
    rw [q] at a
    dsimp only at a
    split at a
    · rename_i hc
      intro F2 H2 e2 v rv
      exact a _ H2 (zjO e2) v (zho e2 d hc rv)
    · exact a.elim
variable (K XO E) in
def SEp (t:TE) (m:En→R (List (List Int))):Prop:=∀ Λ F0 H0 F H σ δ Q,EnvOk K Λ F0 H0 F H σ δ→Aft E XO σ F H (fun ll F' H'=>∀ a bs,TabO H' a bs ll→(∀ b ∈ a :: bs,F' b=none∧H b=none)→Q (.ref a) H') (m δ)→t σ H Q
def asIl:D→Option (List Int)
  | .lst l=>asIs l
  | _=>none
theorem zjN {d:D} {l:List Int} (h:asIl d=some l):d=iL l:=by
  cases d with
  | lst x=>rw [zeQ h]; rfl
  | _=>cases h
def zgN (b:D→En→Option En) (me:En→R D) (δ:En) (d:D):R (List Int):=match b d δ with
  | none=>.no
  | some δ1=>(me δ1).nev.bind fun x=>R.of (asIl x)
def zbz (f:D→R (List Int)):List D→R (List (List Int))
  | []=>.ok []
  | d :: l=>(f d).bind fun o=>(zbz f l).bind fun r=>.ok (o :: r)
def zi7 (mi:En→R (List D)) (ix:List Nat) (n:Nat) (b:D→En→Option En) (me:En→R D) (δ:En):R (List (List Int)) :=
  (mi δ).bind fun ds=>ifC (ds.length ≤ sizeLine) (zbz (zgN b me (zaF δ ix n)) ds).nev .no
theorem zgt {f:D→R (List Int)} {d:D} {l:List D} {r:List (List Int)} (h:zbz f (d :: l) = .ok r):∃ o r',f d = .ok o∧zbz f l = .ok r'∧r=o :: r':=by
  unfold zbz at h
  cases q:f d with
  | no=>rw [q] at h; cases h
  | ex x=>rw [q] at h; cases h
  | ok o =>
    rw [q] at h
    cases q2:zbz f l with
    | no=>rw [R.bind_ok,q2] at h; cases h
    | ex x=>rw [R.bind_ok,q2] at h; cases h
    | ok r'=>rw [R.bind_ok,q2] at h; cases h; exact ⟨o,r',rfl,rfl,rfl⟩
theorem zkG {wi:TI} {mi:En→R (List D)} {ix:List Nat} {n:Nat} {g:TG} {b:D→En→Option En}
    (hi:SIc K XO E wi mi) (hix:ix.Nodup) (hg:SG K g b) (hw:BW b) (he:SEo K XO EN te me):SEp K XO E (zha wi ix n g none te) (zi7 mi ix n b me):=by
  intro Λ F0 H0 F H σ δ Q I a
  refine hi Λ F0 H0 F H σ δ _ I (a.bind.imp fun ds F1 H1 e1 a1 J hJ p hp=>?_)
  unfold ifC at a1
  split at a1
  case isFalse=>exact a1.elim
  rename_i hsz
  have I1:=I.grow e1
  obtain ⟨Λc,Ic,hown,hall⟩:=zgr (n:=n) I1 hix
  cases qg':(zbz (zgN b me (zaF δ ix n)) ds).nev with
  | no=>rw [qg'] at a1; exact a1.elim
  | ex x=>cases q2:zbz (zgN b me (zaF δ ix n)) ds <;> (rw [q2] at qg'; cases qg')
  | ok l =>
  rw [qg'] at a1
  have qg:=nev_ok qg'
  have hlent:∀ x ∈ Λc,∃ d,(zaF δ ix n)[x.1]?=some (.l d):=fun x hx=>(Ic.lent x hx).1
  have hpn:∀ x ∈ Λc,x.2.1 ≠ p:=fun x hx e=>by
    obtain ⟨o,ho⟩:=hall x hx
    rw [e,hp] at ho; cases ho
  have p0:H0 p=none:=I1.ext.hh.free hp
  have f1:F1 p=none:=e1.fh.free hp
  refine ⟨fun i k ys σ2 H2=>∃ F2 l1 l2 bs,EnvOk K Λc F0 H0 F2 H2 σ2 (zaF δ ix n)∧Ext F1 H1 F2 H2∧ys=bs.map .ref∧TabO H2 p bs l1∧(∀ c ∈ p :: bs,F2 c=none∧H1 c=none)∧zbz (zgN b me (zaF δ ix n)) (ds.drop i) = .ok l2∧l=l1 ++ l2∧k=ds.length - i∧i ≤ ds.length∧ys.length ≤ i,
    ⟨_,F1,[],l,[],?_,.newO e1.fh hp,rfl,⟨zah,rfl,fun i c r h=>by simp at h,by simp⟩,fun c hc=>?_,qg,rfl,rfl,Nat.zero_le _,Nat.le_refl _⟩,?_⟩
  · exact Ic.grow (.newO e1.fh hp)
  · rw [List.mem_singleton.mp hc]; exact ⟨f1,hp⟩
  rintro i k ys σ2 H2 ⟨F2,l1,l2,bs,I2,x2,rfl,tb,hfr,qd,rfl,rfl,hil,hys⟩
  refine ⟨tb.top,?_⟩
  by_cases hlt:i < ds.length
  · have e:ds.drop i=ds[i] :: ds.drop (i + 1):=List.drop_eq_getElem_cons hlt
    rw [e] at qd
    obtain ⟨row,l3,q1,q3,rfl⟩:=zgt qd
    obtain ⟨h1,h2⟩:=(hJ F2 H2 x2 i).1 ds[i] (by simp [hlt])
    refine .inr ⟨h1,fun ys' σ' H'=>∃ F' bs',EnvOk K Λc F0 H0 F' H' σ' (zaF δ ix n)∧Ext F1 H1 F' H'∧ys'=bs'.map .ref∧TabO H' p bs' (l1 ++ [row])∧(∀ c ∈ p :: bs',F' c=none∧H1 c=none)∧ys'.length ≤ i + 1,
      fun ys' σ' H' ⟨F',bs',w1,w2,w3,w4,w5,w6⟩=>⟨_,by omega,F',l1 ++ [row],l3,bs',w1,w2,w3,w4,w5,q3,by simp,rfl,hlt,w6⟩,fun x H' y=>?_⟩
    obtain ⟨F3,e3,rx⟩:=h2 x H' y
    unfold zgN at q1
    cases qb:b ds[i] (zaF δ ix n) with
    | none=>rw [qb] at q1; cases q1
    | some δ1 =>
      rw [qb] at q1
      dsimp only at q1
      have hwk:=hw _ _ _ qb
      refine hg Λc F0 H0 F3 H' σ2 _ _ x δ1 _ (I2.grow e3) rx qb fun σ3 I3=>?_
      unfold zhC
      simp only [if_true]
      cases qm:me δ1 with
      | no=>rw [qm] at q1; cases q1
      | ex x=>rw [qm] at q1; cases q1
      | ok d =>
        rw [qm] at q1
        simp only [R.nev_ok,R.bind_ok] at q1
        have ed:d=iL row:=by
          cases qa:asIl d with
          | none=>rw [qa] at q1; cases q1
          | some r=>rw [qa] at q1; cases q1; exact zjN qa
        subst ed
        refine he Λc F0 H0 F3 H' σ3 δ1 _ I3 ?_
        rw [qm]
        intro F5 H5 e5 c c0 c1 co
        have z:=e3.trans e5
        obtain ⟨vs,cv,cr⟩:=co
        have ex:=zcJ cr
        subst ex
        have tb5:=tb.mono z.hh
        have z2:F5 p=none:=z.nw p _ (hfr p (by simp)).1 tb.top
        have cH2:H2 c=none:=e3.hh.free c1
        have cne:∀ q ∈ p :: bs,q ≠ c:=fun q hq ee=>by
          obtain ⟨o,ho⟩:=tb.obj q hq
          rw [ee,cH2] at ho; cases ho
        refine ⟨tb5.top,?_,F5,bs ++ [c],((I3.grow e5).weakL hwk hlent).side hown hpn p0 z2,?_,by simp,⟨?_,by simp [tb.len],fun j q r g1 g2=>?_,?_⟩,fun q hq=>?_,by simpa using hys⟩
        · simp at hys ⊢; omega
        · have w:=x2.trans z
          exact ⟨w.ff,fun c o q=>by rw [zaf (zan q hp)]; exact w.hh c o q,fun c o q=>by rw [zaf (zan q z2)]; exact w.fh c o q,w.nw⟩
        · rw [zah]; simp
        · have qp:q ≠ p:=fun ee=>by
            have hm:=List.mem_of_getElem? g1
            rw [ee] at hm
            rcases List.mem_append.mp hm with w | w
            · exact (List.nodup_cons.mp tb.nd).1 w
            · exact cne p (by simp) (List.mem_singleton.mp w)
          rw [zaf qp]
          by_cases hj:j < bs.length
          · rw [List.getElem?_append_left hj] at g1
            rw [List.getElem?_append_left (by rw [← tb.len]; exact hj)] at g2
            exact tb5.row j q r g1 g2
          · rw [List.getElem?_append_right (by omega)] at g1
            rw [List.getElem?_append_right (by rw [← tb.len]; omega),← tb.len] at g2
            have j0:j - bs.length=0:=by
              have:=(List.getElem?_eq_some_iff.mp g1).1
              simp at this; omega
            rw [j0] at g1 g2
            simp at g1 g2
            subst g1 g2
            exact cv
        · have nd:=tb.nd
          rw [← List.cons_append,List.nodup_append]
          exact ⟨nd,by simp,fun q hq r hr ee=>cne q hq (by rw [ee]; exact List.mem_singleton.mp hr)⟩
        · rw [← List.cons_append] at hq
          rcases List.mem_append.mp hq with w | w
          · obtain ⟨o,ho⟩:=tb.obj q w
            exact ⟨z.nw q o (hfr q w).1 ho,(hfr q w).2⟩
          · rw [List.mem_singleton.mp w]
            exact ⟨c0,x2.hh.free cH2⟩
  · have e:i=ds.length:=by omega
    subst e
    rw [List.drop_length] at qd
    cases qd
    refine .inl ⟨(hJ F2 H2 x2 _).2 (by simp),a1 F2 H2 x2 p bs (by rw [List.append_nil]; exact tb) fun c hc=>⟨(hfr c hc).1,e1.hh.free (hfr c hc).2⟩⟩
def zhp (i:Nat) (δ:En):Bool:=(List.range δ.length).all fun j=>j == i || match δ[j]? with | some (.p _)=>false | _=>true
theorem zkk {i:Nat} (h:zhp i δ=true) (j:Nat) (T:Tr) (hj:δ[j]?=some (.p T)):j=i:=by
  have:=List.all_eq_true.mp h j (List.mem_range.mpr (List.getElem?_eq_some_iff.mp hj).1)
  rw [hj] at this
  simpa using this
theorem EnvOk.putP {i:Nat} {T:Tr} {a:Addr} {bs:List Addr} (I:EnvOk K Λ F0 H0 F H σ δ) (hl:∃ x,δ[i]?=some x∧∀ d,x ≠ .l d) (hn:∀ (j:Nat) (T':Tr),δ[j]?=some (.p T')→j=i) (e:Ext F H F' H') (t:Tab K F' H' a bs T) (h0:∀ b ∈ a :: bs,F' b=none∧H b=none) :
    EnvOk K Λ F0 H0 F' H' (σ.set i (some (.ref a))) (δ.set i (.p T)):=by
  obtain ⟨x,hx,hnl⟩:=hl
  have hi:i < δ.length:=(List.getElem?_eq_some_iff.mp hx).1
  have hi':i < σ.length:=by rw [I.len]; exact hi
  have fresh:∀ (k:Nat) (b:Addr),k ≠ i→Sl.own δ[k]?=true→σ[k]?=some (some (.ref b))→b ∉ a :: bs:=fun k b hki hk hs hb=>by
    have z:=I.slot k
    have hn':=(h0 b hb).2
    cases q:δ[k]? with
    | none=>rw [q] at hk; cases hk
    | some y =>
      rw [q] at hk z
      cases y with
      | no=>cases hk
      | v d=>cases hk
      | o d=>obtain ⟨c,z1,_,_,z4⟩:=z; rw [hs] at z1; cases z1; obtain ⟨u,hu⟩:=z4.obj; rw [hn'] at hu; cases hu
      | l d=>obtain ⟨c,z1,_,_,z4⟩:=z; rw [hs] at z1; cases z1; obtain ⟨u,hu⟩:=z4.obj; rw [hn'] at hu; cases hu
      | p l2=>exact hki (hn k l2 q)
  have J:=I.grow e
  have f3:∀ b ∈ a :: bs,H0 b=none∧F' b=none:=fun b hb=>⟨I.ext.hh.free (h0 b hb).2,(h0 b hb).1⟩
  refine ⟨J.ext,by simp [I.len],fun j=>?_,fun j k b hjk g1 g2 g3 g4=>?_,fun y hy=>?_,fun j l2 g1=>?_⟩
  · by_cases ee:i=j
    · subst ee
      rw [List.getElem?_set_self hi,List.getElem?_set_self hi']
      exact ⟨a,bs,rfl,t,f3⟩
    · rw [List.getElem?_set_ne ee,List.getElem?_set_ne ee]
      exact J.slot j
  · by_cases e1:i=j
    · subst e1
      rw [List.getElem?_set_self hi'] at g3; cases g3
      rw [List.getElem?_set_ne hjk] at g2 g4
      exact fresh k a (Ne.symm hjk) g2 g4 (by simp)
    · by_cases e2:i=k
      · subst e2
        rw [List.getElem?_set_self hi'] at g4; cases g4
        rw [List.getElem?_set_ne e1] at g1 g3
        exact fresh j a (Ne.symm e1) g1 g3 (by simp)
      · rw [List.getElem?_set_ne e1] at g1 g3
        rw [List.getElem?_set_ne e2] at g2 g4
        exact I.dist j k b hjk g1 g2 g3 g4
  · obtain ⟨⟨d',g1⟩,g2,g3⟩:=J.lent y hy
    have ne:i ≠ y.1:=by
      intro ee
      rw [← ee,hx] at g1
      exact hnl d' (Option.some.inj g1)
    exact ⟨⟨d',by rw [List.getElem?_set_ne ne]; exact g1⟩,by rw [List.getElem?_set_ne ne]; exact g2,g3⟩
  · have ji:j=i:=by
      by_cases ee:i=j
      · exact ee.symm
      · rw [List.getElem?_set_ne ee] at g1; exact hn j l2 g1
    subst ji
    rw [List.getElem?_set_self hi] at g1; cases g1
    refine ⟨a,bs,List.getElem?_set_self hi',t,f3,fun k b hk ho hs hb=>?_,fun k l3 hk=>?_⟩
    · rw [List.getElem?_set_ne (Ne.symm hk)] at ho hs
      exact fresh k b hk ho hs hb
    · by_cases ee:j=k
      · exact ee.symm
      · rw [List.getElem?_set_ne ee] at hk; exact hn k l3 hk
def zky (me:En→R (List (List Int))) (i:Nat) (δ:En):O:=(me δ).toO δ fun ll=>match δ[i]? with
  | none=>.no
  | some (.l _)=>.no
  | some _=>if zhp i δ=true then .nx (δ.set i (.p (tabT ll))) else .no
theorem zlD {i:Nat} {mp:En→R (List (List Int))} (h:SEp K XO E te mp):SS K XO E (tAsg te (zdE i)) (zky mp i):=by
  intro Λ F0 H0 F H σ δ Dn I a
  refine h Λ F0 H0 F H σ δ _ I ((AftS.of I a).imp fun ll F1 H1 e c p bs t h0=>?_)
  cases q:δ[i]? with
  | none=>simp only [q] at c; exact c.elim
  | some x =>
    simp only [q] at c
    cases x with
    | l d=>exact c.elim
    | no | v d | o d | p l2 =>
      dsimp only at c
      split at c
      · rename_i hn
        exact c _ F1 H1 (I.putP ⟨_,q,fun d z=>by cases z⟩ (zkk hn) e (tab_iff.mpr t) h0)
      · exact c.elim
structure TabAt (K:Kx) (H0 F H:Hp) (σ:St) (δ:En) (i:Nat) (a:Addr) (bs:List Addr) (T:Tr):Prop where
  is:δ[i]?=some (.p T)
  at':σ[i]?=some (some (.ref a))
  tab:Tab K F H a bs T
  free:∀ b ∈ a :: bs,H0 b=none∧F b=none
  dist:∀ (j:Nat) (b:Addr),j ≠ i→Sl.own δ[j]?=true→σ[j]?=some (some (.ref b))→b ∉ a :: bs
  one:∀ (j:Nat) (T':Tr),δ[j]?=some (.p T')→j=i
theorem EnvOk.tabAt (I:EnvOk K Λ F0 H0 F H σ δ) {i:Nat} {T:Tr} (hx:δ[i]?=some (.p T)):∃ a bs,TabAt K H0 F H σ δ i a bs T:=by
  obtain ⟨a,bs,s1,s2,s3,s4,s5⟩:=I.tab hx
  exact ⟨a,bs,hx,s1,s2,s3,s4,s5⟩
theorem TabAt.grow {i:Nat} {a:Addr} {bs:List Addr} {T:Tr} (t:TabAt K H0 F H σ δ i a bs T) (e:Ext F H F' H'):TabAt K H0 F' H' σ δ i a bs T :=
  ⟨t.is,t.at',t.tab.mono e.ff e.hh,fun b hb=>let ⟨o,ho⟩:=t.tab.obj b hb; ⟨(t.free b hb).1,e.nw b o (t.free b hb).2 ho⟩,t.dist,t.one⟩
theorem EnvOk.chgT {i:Nat} {T T':Tr} {a b:Addr} {bs bs':List Addr} {u:HO} (I:EnvOk K Λ F0 H0 F H σ δ) (t:TabAt K H0 F H σ δ i a bs T) (hb:b ∈ a :: bs) (t':Tab K F (upd H b u) a bs' T') (sub:∀ c ∈ bs',c ∈ bs) :
    EnvOk K Λ F0 H0 F (upd H b u) σ (δ.set i (.p T')):=by
  have hx:=t.is
  have hi:i < δ.length:=(List.getElem?_eq_some_iff.mp hx).1
  have fb:=t.free b hb
  have sub':∀ c ∈ a :: bs',c ∈ a :: bs:=fun c hc=>by
    rcases List.mem_cons.mp hc with rfl | hc
    · simp
    · exact List.mem_cons_of_mem _ (sub c hc)
  have oth:∀ (j:Nat) (c:Addr),i ≠ j→Sl.own δ[j]?=true→σ[j]?=some (some (.ref c))→c ≠ b:=fun j c hj ho hs ee=>t.dist j c (Ne.symm hj) ho hs (by rw [ee]; exact hb)
  have ow:∀ k2:Nat,Sl.own (δ.set i (.p T'))[k2]?=true→Sl.own δ[k2]?=true:=by
    intro k2 h
    by_cases ee:i=k2
    · subst ee; rw [hx]; rfl
    · rw [List.getElem?_set_ne ee] at h; exact h
  refine ⟨⟨I.ext.ff,fun c w q=>?_,fun c w q=>?_,I.ext.nw⟩,by simp [I.len],fun j=>?_,fun j k2 c hjk g1 g2 g3 g4=>?_,fun y hy=>?_,fun j l2 g1=>?_⟩
  · rw [zaf (zan q fb.1)]; exact I.ext.hh c w q
  · rw [zaf (zan q fb.2)]; exact I.ext.fh c w q
  · by_cases ee:i=j
    · subst ee
      rw [List.getElem?_set_self hi]
      exact ⟨a,bs',t.at',t',fun c hc=>t.free c (sub' c hc)⟩
    · rw [List.getElem?_set_ne ee]
      have w:=I.slot j
      cases q:δ[j]? with
      | none=>trivial
      | some y =>
        rw [q] at w
        cases y with
        | no=>trivial
        | v d=>exact w
        | o d=>obtain ⟨c,w1,w2,w3,w4⟩:=w; exact ⟨c,w1,w2,w3,w4.at (zaf (oth j c ee (by rw [q]; rfl) w1))⟩
        | l d=>obtain ⟨c,w1,w2,w3,w4⟩:=w; exact ⟨c,w1,w2,w3,w4.at (zaf (oth j c ee (by rw [q]; rfl) w1))⟩
        | p l2=>exact absurd (t.one j l2 q).symm ee
  · exact I.dist j k2 c hjk (ow j g1) (ow k2 g2) g3 g4
  · obtain ⟨⟨d2,g1⟩,g2,g3⟩:=I.lent y hy
    have ne:i ≠ y.1:=by
      intro ee
      rw [← ee,hx] at g1
      cases g1
    exact ⟨⟨d2,by rw [List.getElem?_set_ne ne]; exact g1⟩,g2,by rw [zaf (oth y.1 y.2.1 ne (by rw [g1]; rfl) g2)]; exact g3⟩
  · have ji:j=i:=by
      by_cases ee:i=j
      · exact ee.symm
      · rw [List.getElem?_set_ne ee] at g1; exact t.one j l2 g1
    subst ji
    rw [List.getElem?_set_self hi] at g1; cases g1
    refine ⟨a,bs',t.at',t',fun c hc=>t.free c (sub' c hc),fun k2 c hk ho hs hc=>?_,fun k2 l3 hk=>?_⟩
    · exact t.dist k2 c hk (ow k2 ho) hs (sub' c hc)
    · by_cases ee:j=k2
      · exact ee.symm
      · rw [List.getElem?_set_ne ee] at hk; exact t.one k2 l3 hk
theorem EnvOk.chgP {i k:Nat} {ll:List (List Int)} {row:List Int} {a b:Addr} {bs:List Addr} (I:EnvOk K Λ F0 H0 F H σ δ) (t:TabAt K H0 F H σ δ i a bs (tabT ll)) (hb:bs[k]?=some b) :
    EnvOk K Λ F0 H0 F (upd H b (.lst (row.map .int))) σ (δ.set i (.p (tabT (ll.set k row)))):=by
  have tb:=tab_iff.mp t.tab
  have bm:b ∈ bs:=List.mem_of_getElem? hb
  have kl:k < bs.length:=(List.getElem?_eq_some_iff.mp hb).1
  have nd:=List.nodup_cons.mp tb.nd
  refine I.chgT t (List.mem_cons_of_mem _ bm) (tab_iff.mpr ⟨?_,by simp [tb.len],fun j c r h1 h2=>?_,tb.nd⟩) fun c hc=>hc
  · rw [zaf (show a ≠ b from fun z=>nd.1 (z ▸ bm))]; exact tb.top
  · by_cases ej:k=j
    · subst ej
      rw [hb] at h1; cases h1
      rw [List.getElem?_set_self (by rw [← tb.len]; exact kl)] at h2; cases h2
      exact zah
    · rw [List.getElem?_set_ne ej] at h2
      rw [zaf (fun z=>ej ((List.getElem?_inj kl nd.2).mp (by rw [hb,h1,z])))]
      exact tb.row j c r h1 h2
def tabOf:Option Sl→Option (List (List Int))
  | some (.p T)=>zkt T
  | _=>none
theorem ze4 {x:Option Sl} {ll:List (List Int)} (h:tabOf x=some ll):x=some (.p (tabT ll)):=by
  unfold tabOf at h
  split at h
  · rw [zik h]
  · cases h
@[simp] theorem znG (ll:List (List Int)):tabOf (some (.p (tabT ll)))=some ll:=ziq ll
def zhn (i:Nat) (mk mj me:En→R D) (δ:En):O:=match tabOf δ[i]? with
  | some ll=>(me δ).toO δ fun v=>(mk δ).toO δ fun k=>match v,k with
    | .int v,.int k=>(match ixN ll.length k with
      | some k'=>(match ll[k']? with
        | some row=>(mj δ).toO δ fun j=>(match j with
          | .int j=>(match ixN row.length j with | some j'=>.nx (δ.set i (.p (tabT (ll.set k' (row.set j' v))))) | none=>.no)
          | _=>.no)
        | none=>.no)
      | none=>.no)
    | _,_=>.no
  | none=>.no
theorem zgR {i:Nat} {tk tj:TE} {mk mj:En→R D} (h1:SE K XO E tk mk) (h2:SE K XO E tj mj) (h:SE K XO E te me):SS K XO E (tAsg te (gSub (tOp (rIxL K.f) (tVar i) tk) tj zm7)) (zhn i mk mj me):=by
  intro Λ F0 H0 F H σ δ Dn I a
  unfold zhn at a
  split at a
  · rename_i ll q'
    have q:=ze4 q'
    obtain ⟨p,bs,ta⟩:=I.tabAt q
    have s1:=ta.at'
    have s2:=tab_iff.mp ta.tab
    refine h Λ F0 H0 F H σ δ _ I ((AftS.of I a).imp fun v F1 H1 e c x rx=>⟨_,s1,?_⟩)
    refine h1 Λ F0 H0 F1 H1 σ δ _ (I.grow e) ((AftS.of (I.grow e) c).imp fun k F2 H2 e2 c2 y ry=>?_)
    have I2:=(I.grow e).grow e2
    have tt:=(s2.mono e.hh).mono e2.hh
    split at c2
    · rename_i v k
      simp only [Rep] at ry rx
      subst ry rx
      cases z:ixN ll.length k with
      | none=>rw [z] at c2; exact c2.elim
      | some k' =>
        rw [z] at c2
        dsimp only at c2
        cases z2:ll[k']? with
        | none=>rw [z2] at c2; exact c2.elim
        | some row =>
          rw [z2] at c2
          dsimp only at c2
          have kl:k' < bs.length:=by rw [s2.len]; exact (List.getElem?_eq_some_iff.mp z2).1
          have gb:bs[k']?=some bs[k']:=List.getElem?_eq_getElem kl
          refine ⟨p,bs.map .ref,k,.ref bs[k'],rfl,rfl,.inl (.inl tt.top),?_,?_⟩
          · unfold atI
            rw [List.length_map,s2.len,z]
            show (bs.map V.ref)[k']?=_
            rw [List.getElem?_map,gb]; rfl
          · refine h2 Λ F0 H0 F2 H2 σ δ _ I2 ((AftS.of I2 c2).imp fun j F3 H3 e3 c3 u ru=>?_)
            have I3:=I2.grow e3
            have t3:=tt.mono e3.hh
            split at c3
            · rename_i j
              simp only [Rep] at ru
              subst ru
              cases z3:ixN row.length j with
              | none=>rw [z3] at c3; exact c3.elim
              | some j' =>
                rw [z3] at c3
                dsimp only at c3
                refine ⟨bs[k'],row.map .int,j,j',rfl,rfl,t3.row k' _ row gb z2,by rw [List.length_map]; exact z3,?_⟩
                rw [← List.map_set]
                exact c3 σ F3 _ (I3.chgP (((ta.grow e).grow e2).grow e3) gb)
            · exact c3.elim
    · exact c2.elim
  · exact a.elim
def zkH (i:Nat) (δ:En):O:=match δ[i]? with | some (.p T)=>.ro (trD T) | _=>.no
open Classical in
def zeX (F H:Hp) (bs:List Addr):Hp:=fun b=>if b ∈ bs then H b else F b
mutual
theorem zlr {F1:Hp} (s:Same F F1):∀ (T:Tr) {v:V} {fp:List Addr},TrOk K F H T v fp→(∀ b ∈ fp,F1 b=H b)→Rep K F1 (trD T) v
  | .d x,v,fp,h,_=>by
    simp only [TrOk] at h
    simp only [trD]
    exact Rep.mono s x h.2
  | .l ts,v,fp,h,e=>by
    simp only [TrOk] at h
    obtain ⟨a,vs,fs,rfl,h2,h3,h4⟩:=h
    subst h2
    simp only [trD,Rep]
    exact ⟨a,vs,rfl,.inl ((e a (by simp)).trans h3),zd6 s ts h4 fun b hb=>e b (List.mem_cons_of_mem _ hb)⟩
  | .t ts,v,fp,h,e=>by
    simp only [TrOk] at h
    obtain ⟨a,vs,rfl,h3,h4⟩:=h
    simp only [trD,Rep]
    exact ⟨a,vs,rfl,s _ _ h3,zd6 s ts h4 e⟩
theorem zd6 {F1:Hp} (s:Same F F1):∀ (ts:List Tr) {vs:List V} {fp:List Addr},TrOkL K F H ts vs fp→(∀ b ∈ fp,F1 b=H b)→RepL K F1 (trDL ts) vs
  | [],vs,fp,h,_=>by
    simp only [TrOkL] at h
    rw [h.1]
    simp only [trDL]
    exact .nil
  | t :: ts,vs,fp,h,e=>by
    simp only [TrOkL] at h
    obtain ⟨v,r,f1,f2,rfl,h2,h3,h4⟩:=h
    subst h2
    simp only [trDL]
    exact .cons (zlr s t h3 fun b hb=>e b (List.mem_append_left _ hb)) (zd6 s ts h4 fun b hb=>e b (List.mem_append_right _ hb))
end
theorem zjm {i:Nat}:SS K XO E (tRet (tVar i)) (zkH i):=by
  intro Λ F0 H0 F H σ δ Dn I a
  unfold zkH at a
  split at a
  · rename_i T q
    obtain ⟨p,bs,s1,s2,s3,_⟩:=I.tab q
    have nd:=List.nodup_cons.mp s2.nd
    have ff:Same F (zeX F H bs):=fun b o h=>by
      unfold zeX
      rw [if_neg fun z=>by rw [(s3 b (List.mem_cons_of_mem _ z)).2] at h; cases h]
      exact h
    have fh:Same (zeX F H bs) H:=fun b o h=>by
      unfold zeX at h
      split at h
      · exact h
      · exact I.same b o h
    have fp:zeX F H bs p=none:=by
      unfold zeX
      rw [if_neg nd.1]
      exact (s3 p (by simp)).2
    refine ⟨_,s1,a p (zeX F H bs) H ⟨I.ext.ff.trans ff,I.ext.hh,fh,fun b o h1 h2=>?_⟩ fp (s3 p (by simp)).1 ?_⟩
    · unfold zeX
      rw [if_neg fun z=>by rw [(s3 b (List.mem_cons_of_mem _ z)).1] at h2; cases h2]
      exact I.ext.nw b o h1 h2
    · have ok:=s2.ok
      have hb:∀ b ∈ bs,zeX F H bs b=H b:=fun b hb=>by unfold zeX; rw [if_pos hb]
      cases T with
      | d x=>simp only [TrOk] at ok; cases ok.1
      | t ts =>
        simp only [TrOk] at ok
        obtain ⟨a',vs,h1,h2,_⟩:=ok
        cases h1
        rw [(s3 p (by simp)).2] at h2; cases h2
      | l ts =>
        simp only [TrOk] at ok
        obtain ⟨a',vs,fs,h1,h2,h3,h4⟩:=ok
        cases h1; cases h2
        simp only [trD]
        exact ⟨vs,h3,zd6 ff ts h4 hb⟩
  · exact a.elim
open Classical in
def zdz (H:Hp) (bs:List Addr):Hp:=fun b=>if b ∈ bs then none else H b
theorem ziR {H:Hp} {bs:List Addr}:Same (zdz H bs) H:=fun b o h=>by
  unfold zdz at h
  split at h
  · cases h
  · exact h
def spT (K:Kx) (XO:XOT) (f:List (List Int)→R D):Sp:=fun vs H Q E=>∃ F ll a bs,vs = [.ref a]∧TabO H a bs ll∧Same F (zdz H (a :: bs))∧Aft (fun _=>E) XO [] F (zdz H (a :: bs)) (fun d F' H'=>∀ p,F' p=none→zdz H (a :: bs) p=none→Own K F' H' d p→Q (.ref p) H') (f ll)
def runT (nv:Nat) (m:En→O) (ll:List (List Int)):R D:=match m (.p (tabT ll) :: List.replicate nv .no) with | .ro d=>.ok d | .ex _ x=>.ex x | _=>.no
theorem zlM {f:List (List Int)→R D} {vs:List V} {Q:VK} {E:XK} (sp:spT K XO f vs H Q E):vs.length=1:=by
  obtain ⟨_,_,_,_,rfl,_⟩:=sp; rfl
theorem zmo {nv:Nat} {N:List Str} {vs:List V} {Q:VK} {E:XK} (h:SS K XO (fun _=>E) t m) (hn:N.length=1 + nv) (sp:spT K XO (runT nv m) vs H Q E):t { nx:=fun _ H'=>Q .non H',rt:=Q } (L2.start N vs) H:=by
  obtain ⟨F,ll,a,bs,rfl,tb,s,aft⟩:=sp
  have fN:∀ b ∈ a :: bs,zdz H (a :: bs) b=none∧F b=none:=fun b hb=>by
    have:zdz H (a :: bs) b=none:=by unfold zdz; rw [if_pos hb]
    exact ⟨this,s.free this⟩
  have I:EnvOk K [] F (zdz H (a :: bs)) F H (L2.start N [.ref a]) (.p (tabT ll) :: List.replicate nv .no):=by
    unfold L2.start
    have en:N.length - [V.ref a].length=nv:=by simp; omega
    rw [en]
    have no:∀ j:Nat,j ≠ 0→Sl.own (Sl.p (tabT ll) :: List.replicate nv Sl.no)[j]?=true→False:=fun j hj h=>by
      cases j with
      | zero=>exact hj rfl
      | succ j =>
        rw [List.getElem?_cons_succ,List.getElem?_replicate] at h
        split at h <;> cases h
    have noP:∀ (j:Nat) (l2:Tr),(Sl.p (tabT ll) :: List.replicate nv Sl.no)[j]?=some (.p l2)→j=0:=fun j l2 h=>by
      by_cases hj:j=0
      · exact hj
      · exact (no j hj (by rw [h]; rfl)).elim
    refine ⟨⟨.refl _,ziR,s.trans ziR,fun p o h1 _=>h1⟩,by simp,fun j=>?_,fun i j c hij h1 h2 _ _=>?_,fun x hx=>(by cases hx),fun j l2 g1=>?_⟩
    · cases j with
      | zero=>exact ⟨a,bs,rfl,tab_iff.mpr tb,fN⟩
      | succ j =>
        rw [List.getElem?_cons_succ,List.getElem?_replicate]
        split <;> trivial
    · by_cases hi:i=0
      · subst hi; exact no j (Ne.symm hij) h2
      · exact no i hi h1
    · have j0:=noP j l2 g1
      subst j0
      cases g1
      exact ⟨a,bs,rfl,tab_iff.mpr tb,fN,fun k b hk ho _ _=>no k hk ho,fun k l3 hk=>noP k l3 hk⟩
  unfold runT at aft
  refine h [] F (zdz H (a :: bs)) F H _ _ _ I ?_
  cases q:m (.p (tabT ll) :: List.replicate nv .no) with
  | ro d=>rw [q] at aft; exact fun p F2 H2 e h0 h1 o=>aft F2 H2 e p h0 h1 o
  | ex δ x=>rw [q] at aft; exact fun σ2 F2 H2 C dct I2 hx=>aft C dct F2 H2 I2.ext hx
  | no=>rw [q] at aft; exact aft.elim
  | nx δ=>rw [q] at aft; exact aft.elim
  | rt d=>rw [q] at aft; exact aft.elim
  | bk δ=>rw [q] at aft; exact aft.elim
  | ct δ=>rw [q] at aft; exact aft.elim
def zgy (f:List (List Int)→R D) (i:Nat) (δ:En):O:=match tabOf δ[i]? with
  | some ll=>(match f ll with | .ok d=>.ro d | _=>.no)
  | none=>.no
theorem zkO {i:Nat} {f:List (List Int)→R D} {E':XK}:SS K XO E (tRet (zh9 (spT K XO f) [] E' (zbf (tVar i) tNil))) (zgy f i):=by
  intro Λ F0 H0 F H σ δ Dn I a
  unfold zgy at a
  split at a
  · rename_i ll q'
    have q:=ze4 q'
    obtain ⟨p,bs,s1,s2',s3,_⟩:=I.tab q
    have s2:=tab_iff.mp s2'
    have sF:Same F (zdz H (p :: bs)):=fun b o h=>by
      unfold zdz
      rw [if_neg fun z=>by rw [(s3 b z).2] at h; cases h]
      exact I.same b o h
    refine ⟨_,s1,F,ll,p,bs,rfl,s2,sF,?_⟩
    cases q2:f ll with
    | no=>rw [q2] at a; exact a
    | ex x=>rw [q2] at a; exact a.elim
    | ok d =>
      rw [q2] at a
      intro F2 H2 e r r0 r1 ro
      have h0:∀ (b:Addr) (o:HO),H0 b=some o→zdz H (p :: bs) b=some o:=fun b o h=>by
        unfold zdz
        rw [if_neg fun z=>by rw [(s3 b z).1] at h; cases h]
        exact I.ext.hh b o h
      refine a r F2 H2 ⟨I.ext.ff.trans e.ff,fun b o h=>e.hh b o (h0 b o h),e.fh,fun b o g1 g2=>e.nw b o (I.ext.nw b o g1 g2) (h0 b o g2)⟩ r0 ?_ ro
      cases z:H0 r with
      | none=>rfl
      | some o=>rw [h0 r o z] at r1; cases r1
  · exact a.elim
end
end PM
namespace L2
open PySem PySem.Spec PyProof.Rows
section
variable {X:Cx} {x:Str} {np hpos pos:Pos} {body:List Stmt} {b₀:Stmt} {suite:List Stmt} {D':Addr} {tb:(St→XK)→TS} {th:TS}
end
end L2
namespace PM
open PySem L2
section
variable {K:Kx} {E:L2.St→XK}
end
end PM
namespace PM
end PM
namespace L2
open PySem PySem.Spec PyProof.Rows
section
variable {prog:Program} {w:World} {A:Around} {E:Value→Shared→Prop} {s:Shared}
theorem zgT {i j:Int} {t u:Tok} {Q:Value→Shared→Prop} (h:Q (.bool (decide (i < j))) s):wpAny (model prog w) A (richCompare .Lt (.int i t) (.int j u)) Q E s :=
  richCompare_gives (op:=.Lt) (typeIs_int s _ t) (typeIs_int s _ u) F.slot_int_lt F.entry_int_lt (F.args_int_lt_2 _ _) (gives_int_lt _ _ t u) (fun x=>nomatch x) h
end
def zmq (as:List Addr) (h0 h:Heap):Prop:=∀ b ∈ as,∀ o,h0.get? b=some o→h.get? b=some o
theorem zje {prog:Program} {w:World} {A:Around} {I:Addr} {fp wr:List Addr} {n:Nat} {P:Nat→Value→Prop} {St:Nat→Heap→Prop} (W:Walks prog w A I fp wr n P St) (as:List Addr) (h0:Heap) (hd:∀ b ∈ as,b ∉ wr) :
    Walks prog w A I (fp ++ as) wr n P (fun i h=>St i h∧zmq as h0 h) where
  sub:=fun b hb=>List.mem_append_left _ (W.sub b hb)
  frame:=fun i h h' st k=>⟨W.frame i h h' st.1 fun b hb=>k b (List.mem_append_left _ hb),fun b hb o e=>k b (List.mem_append_right _ hb) o (st.2 b hb o e)⟩
  item:=fun i s Q E hi st hQ=>W.item i s Q E hi st.1 fun v h' tk p st' k=>hQ v h' tk p ⟨st',fun b hb o e=>k b o (hd b hb) (st.2 b hb o e)⟩ k
  done:=fun s Q E st hQ=>W.done s Q E st.1 hQ
  self:=fun i s Q E st q=>W.self i s Q E st.1 q
def CmpS (prog:Program) (w:World) (A:Around) (P:Nat→Value→Prop) (St:Nat→Heap→Prop) (bt:Nat→Nat→Bool):Prop :=
  ∀ k i j vi vj (s:Shared) (Q:Value→Shared→Prop) (E:Value→Shared→Prop),St k s.heap→P i vi→P j vj→Q (.bool (bt i j)) s→wpAny (model prog w) A (richCompare .Lt vi vj) Q E s
section
variable {prog:Program} {w:World} {A:Around} {R:Result→Shared→Prop} {I S:Addr} {fp wr:List Addr} {n:Nat} {P:Nat→Value→Prop} {St:Nat→Heap→Prop} {bt:Nat→Nat→Bool}
def Cup (S:Addr) (items:Array Value) (h:Heap):Prop:=∃ c,h.get? S=some { cls:=.type "list",dict:=none,data:=.seq items c,slots:=#[] }
theorem zkv (W:Walks prog w A.in1 I fp wr n P St) (hcmp:CmpS prog w A.in1 P St bt) (hSf:S ∉ fp) (j:Nat) (s:Shared) (vb:Value) (hj:j + 1 ≤ n) (hst:St (j + 1) s.heap) (hPb:P (argBest bt j) vb) (hS:Cup S #[vb,vb] s.heap)
    (hR:∀ v h' tk,P (argBest bt (n - 1)) v→(∀ b o,b ∉ wr→b ≠ S→s.heap.get? b=some o→h'.get? b=some o)→R (.ok (.ret v)) { s with heap:=h',toks:=tk }) :
    codeAny (model prog w) A (.builtin "min.loop" ⟨[.ref I,.none,.ref S],[]⟩) R s:=by
  have hSw:S ∉ wr:=fun h=>hSf (W.sub _ h)
  have hname:(toString "min" ++ toString ".loop" : String) = "min.loop":=by decide
  obtain ⟨k,hk⟩:∃ k,n - (j + 1)=k:=⟨_,rfl⟩
  induction k generalizing j s vb with
  | zero =>
    have hin:j + 1=n:=by omega
    obtain ⟨c,hS⟩:=hS
    refine codeAny_builtin F.entry_min_loop ?_
    rw [Around.under_plainId F.plain_min_loop _]
    show wpAny _ A.in1 (seqItems? (.ref S) >>= _) _ _ s
    refine wpAny_bind (wpAny_seqItems hS rfl ?_)
    show wpAny _ A.in1 (tryCatch (pyNext (.ref I)) _ >>= _) _ _ s
    refine wpAny_bind (wpAny_tryCatch (W.done s _ _ (hin ▸ hst) fun h' tk hk'=>?_))
    have hS':=hk' S _ hSw hS
    show wpAny _ A.in1 (updateSeq S (fun _=>#[]) >>= _) _ _ _
    refine wpAny_bind ?_
    refine wpAny_updateSeq hS' rfl (wpAny_bind (wpAny_letGo (wpAny_pure ?_)))
    exact hR vb _ tk (by rw [← hin]; exact hPb) fun b o hbw hbS e=>(Heap.get?_update_other _ _ (Ne.symm hbS)).trans (hk' b o hbw e)
  | succ k ih =>
    have hlt:j + 1 < n:=by omega
    obtain ⟨c,hS⟩:=hS
    refine codeAny_builtin F.entry_min_loop ?_
    rw [Around.under_plainId F.plain_min_loop _]
    show wpAny _ A.in1 (seqItems? (.ref S) >>= _) _ _ s
    refine wpAny_bind (wpAny_seqItems hS rfl ?_)
    show wpAny _ A.in1 (tryCatch (pyNext (.ref I)) _ >>= _) _ _ s
    refine wpAny_bind (wpAny_tryCatch (W.item (j + 1) s _ _ hlt hst fun v h' tk hP hst' hk'=>?_))
    have hS':=hk' S _ hSw hS
    show wpAny _ A.in1 (tryCatch (holding [v,v] (richCompare .Lt v vb >>= _)) _ >>= _) _ _ _
    refine wpAny_bind (wpAny_tryCatch (wpAny_holding (wpAny_bind (hcmp (j + 1 + 1) (j + 1) (argBest bt j) v vb _ _ _ hst' hP hPb ?_))))
    refine wpAny_bind (wpAny_holding (wpAny_truthy_bool ?_))
    refine wpAny_bind (wpAny_letGo (wpAny_pure ?_))
    cases hb:bt (j + 1) (argBest bt j) with
    | true =>
      simp only [if_true]
      refine wpAny_bind ?_
      refine wpAny_updateSeq hS' rfl (wpAny_bind (wpAny_letGo ?_))
      rw [hname]
      refine wpAny_pure ⟨plainId_quiet F.plain_min_loop _,ih (j + 1) _ v hlt (W.frame _ _ _ hst' fun b hbf o e=>?_) (by simp only [argBest,hb,if_true]; exact hP) ⟨_,Heap.get?_update_self _ hS' rfl⟩ (fun v' h'' tk'' hP' hk''=>?_) (by omega)⟩
      · exact (Heap.get?_update_other _ _ (fun h:S=b=>hSf (by rw [h]; exact hbf))).trans e
      · exact hR v' h'' tk'' hP' fun b o hbw hbS e=>hk'' b o hbw hbS ((Heap.get?_update_other _ _ (Ne.symm hbS)).trans (hk' b o hbw e))
    | false =>
      simp only [Bool.false_eq_true,if_false]
      refine wpAny_bind (wpAny_letGo ?_)
      rw [hname]
      refine wpAny_pure ⟨plainId_quiet F.plain_min_loop _,ih (j + 1) _ vb hlt hst' (by simp only [argBest,hb,Bool.false_eq_true,if_false]; exact hPb) ⟨_,hS'⟩ (fun v' h'' tk'' hP' hk''=>?_) (by omega)⟩
      exact hR v' h'' tk'' hP' fun b o hbw hbS e=>hk'' b o hbw hbS (hk' b o hbw e)
theorem zjv (W:Walks prog w A.in1 I fp wr n P St) (hcmp:CmpS prog w A.in1 P St bt) (hSf:S ∉ fp) (hn:0 < n) {s:Shared} (hst:St 0 s.heap) (hS:Cup S #[] s.heap)
    (hR:∀ v h' tk,P (argBest bt (n - 1)) v→(∀ b o,b ∉ wr→b ≠ S→s.heap.get? b=some o→h'.get? b=some o)→R (.ok (.ret v)) { s with heap:=h',toks:=tk }) :
    codeAny (model prog w) A (.builtin "min.loop" ⟨[.ref I,.none,.ref S],[]⟩) R s:=by
  have hSw:S ∉ wr:=fun h=>hSf (W.sub _ h)
  have hname:(toString "min" ++ toString ".loop" : String) = "min.loop":=by decide
  obtain ⟨c,hS⟩:=hS
  refine codeAny_builtin F.entry_min_loop ?_
  rw [Around.under_plainId F.plain_min_loop _]
  show wpAny _ A.in1 (seqItems? (.ref S) >>= _) _ _ s
  refine wpAny_bind (wpAny_seqItems hS rfl ?_)
  show wpAny _ A.in1 (tryCatch (pyNext (.ref I)) _ >>= _) _ _ s
  refine wpAny_bind (wpAny_tryCatch (W.item 0 s _ _ hn hst fun v h' tk hP hst' hk'=>?_))
  have hS':=hk' S _ hSw hS
  show wpAny _ A.in1 (updateSeq S (fun _=>#[v,v]) >>= _) _ _ _
  refine wpAny_bind ?_
  refine wpAny_updateSeq hS' rfl ?_
  rw [hname]
  refine wpAny_pure ⟨plainId_quiet F.plain_min_loop _,zkv W hcmp hSf 0 _ v hn (W.frame _ _ _ hst' fun b hbf o e=>?_) hP ⟨_,Heap.get?_update_self _ hS' rfl⟩ fun v' h'' tk'' hP' hk''=>?_⟩
  · exact (Heap.get?_update_other _ _ (fun h:S=b=>hSf (by rw [h]; exact hbf))).trans e
  · exact hR v' h'' tk'' hP' fun b o hbw hbS e=>hk'' b o hbw hbS ((Heap.get?_update_other _ _ (Ne.symm hbS)).trans (hk' b o hbw e))
end
section
variable {prog:Program} {w:World} {A:Around} {E:Value→Shared→Prop} {s:Shared}
theorem ziL {x:Value} {Q:Value→Shared→Prop}
    (h:wpAny (model prog w) A.in1 (pyIter x) (fun it s₂=>∃ I fp wr n P St bt,it = .ref I∧Walks prog w A.in1 I fp wr n P St∧St 0 s₂.heap∧(∀ b ∈ fp,b < s₂.heap.objs.size)∧0 < n∧CmpS prog w A.in1 P St bt ∧
      ∀ v h' tk,P (argBest bt (n - 1)) v→(∀ b o,b ∉ wr→s₂.heap.get? b=some o→h'.get? b=some o)→Q v { s₂ with heap:=h',toks:=tk }) E s) :
    wpAny (model prog w) A (call (.builtin "min") [x]) Q E s:=by
  have hname:(toString "min" ++ toString ".loop" : String) = "min.loop":=by decide
  refine call_function_tree F.kind_min F.plain_min F.entry_min (F.args_min1 _) ?_
  show wpAny _ A.in1 (Builtin.Builtins.bindParams "min" ["key","default"] 0 ⟨[],[]⟩ >>= _) _ _ s
  refine wpAny_bind (wpAny_of_eq (show Builtin.Builtins.bindParams "min" ["key","default"] 0 ⟨[],[]⟩=pure [none,none] from rfl) ?_)
  refine wpAny_bind (wpAny_pure ?_)
  refine wpAny_bind (wpAny_mono h (fun it s₂ h₂=>?_) fun _ _ e=>e)
  obtain ⟨I,fp,wr,n,P,St,bt,rfl,W,hst,hfp,hn,hcmp,hQ⟩:=h₂
  refine wpAny_bind (wpAny_newObj_type ?_)
  rw [hname]
  refine wpAny_pure ⟨plainId_quiet F.plain_min_loop _,zjv W hcmp (fun hm=>Nat.lt_irrefl _ (hfp _ hm)) hn (W.frame _ _ _ hst fun b _ o e=>Heap.get?_push_of_some _ e) ⟨_,Heap.get?_push_size _ rfl⟩ fun v h' tk hP hk=>?_⟩
  exact hQ v h' tk hP fun b o hbw e=>hk b o hbw (Nat.ne_of_lt (Heap.lt_size e)) (Heap.get?_push_of_some _ e)
end
section
variable {X:Cx}
end
end L2
namespace PM
open PySem L2
section
variable {K:Kx}
end
end PM
namespace L2
open PySem PySem.Spec PyProof.Rows
section
variable {X:Cx}
end
end L2
namespace PM
open PySem L2
section
variable {K:Kx} {XO:XOT} {E:L2.St→XK}
end
end PM
namespace L2
open PySem PySem.Spec PyProof.Rows
section
variable {X:Cx} {a b c:Expr} {ta tb tc:TE} {pos:Pos}
end
end L2
namespace PM
open PySem L2
section
variable {K:Kx} {XO:XOT} {E:L2.St→XK} {ta tb tc:TE} {ma mb mc:En→R D}
end
end PM
namespace L2
open PySem PySem.Spec PyProof.Rows
section
variable {X:Cx} {e st:Expr} {te ts:TE} {p2 pos:Pos}
end
end L2
namespace PM
open PySem L2
section
variable {K:Kx} {XO:XOT} {E:L2.St→XK} {te ts:TE} {me ms:En→R D}
end
end PM
namespace L2
open PySem PySem.Spec PyProof.Rows
section
variable {prog:Program} {w:World} {A:Around} {E:Value→Shared→Prop} {s:Shared}
end
section
variable {prog:Program} {w:World} {A:Around} {E:Value→Shared→Prop} {s:Shared}
end
section
variable {X:Cx} {l:Expr} {tl:TE}
end
end L2
namespace PM
open PySem L2
section
variable {K:Kx} {XO:XOT} {E:L2.St→XK} {te:TE} {me:En→R D}
end
end PM
namespace L2
open PySem PySem.Spec PyProof.Rows Builtin Builtin.ObjectAttr
section
variable {prog:Program} {w:World} {A:Around} {E:Value→Shared→Prop} {s:Shared} {K:PySem.W.Frag} {x C:Addr} {ox:Obj} {od:Option Obj} {name:Str} {tk:Tok} {v:Value} {R:Result→Shared→Prop}
end
section
variable {X:Cx} {o e value:Expr} {f:Str} {pos pos' tpos:Pos} {ta tv:TE}
end
section
variable {M:Model} {A:Around} {E:Value→Shared→Prop} {s:Shared} {B:Heap} {env:Env} {outer l:List Env} {L e:Addr} {Q:Unit→Shared→Prop}
end
section
variable {P:Program} {w:World} {K:PySem.W.Frag} {mg:Str→Option Value} {base:Heap} {N:List Str} {qual:Str} {scope:Scope} {f:Addr} {cd:Value} {A:Around} {outer:List Env} {s0:Shared} {H0:Hp} {E:XK}
end
section
variable {M:Model} {A:Around} {E:Value→Shared→Prop} {env:Env}
variable {nm q:Str} {C N:Addr} {bs bm:List Value} {hdct:Bool} {sn:List Str} {sub:List Value} {ab:Bool} {col:Option Bool} {dd:Option Addr} {k0 k1 k2 k3 k5:Option Value} {newId:String}
end
section
variable {P:Program} {w:World} {K:PySem.W.Frag} {mg:Str→Option Value} {base:Heap} {N:List Str} {qual:Str} {scope:Scope} {f:Addr} {cd:Value} {A:Around} {outer:List Env} {s0:Shared} {H0:Hp} {E:XK}
end
section
variable {X:Cx} {CX:CXT} {k:Nat} {fa:Addr} {fd:FuncData} {ps:List Str} {sp:Sp} {x:Str} {np cpos pos:Pos} {e₀:Expr} {rest:List Expr} {C:Addr} {bmB bmN:List Value} {newId Bn B nid inN initId:String} {E:St→XK} {t:TA}
end
end L2
namespace PM
open PySem L2
section
variable {X:Cx} {fa:Addr} {ps:List Str} {sp:Sp} {x:Str} {np cpos pos:Pos} {e₀:Expr} {rest:List Expr} {C:Addr} {bmB bmN:List Value} {newId Bn B nid inN initId:String} {E:L2.St→XK} {t:TA}
end
section
variable {K:Kx} {XO:XOT} {E:L2.St→XK} {ta:TE} {ma:En→R D} {Λ:List (Nat × Addr × HO)} {F0 H0 F H:Hp} {σ:L2.St} {δ:En}
end
end PM
namespace L2
open PySem PyProof.Rows
section
variable {N:Nat} {p:Array Nat}
end
section
variable {ky:Nat→Int} {N:Nat} {cmp:Nat→Nat→(Bool→Shared→Prop)→Shared→Prop}
end
end L2
namespace L2
open PySem PySem.Spec PyProof.Rows
section
variable {prog:Program} {w:World} {A:Around} {E:Value→Shared→Prop} {s:Shared}
end
section
variable {X:Cx} {pins:List (Addr × Obj)} {σ:St} {H:Hp} {s:Shared} {h':Heap}
end
end L2
namespace PM
open PySem L2
section
variable {K:Kx} {XO:XOT} {E:L2.St→XK}
end
end PM
namespace L2
open PySem PySem.Spec PyProof.Rows
section
variable {P:Program} {w:World} {K:PySem.W.Frag} {mg mb:Str→Option Value} {CX:CXT} {k:Nat} {fa a tP:Addr} {fd:FuncData} {x:Str} {sp:Sp} {s₁:Shared} {vs:List Value} {ns:List Int}
end
end L2
namespace L2
open PySem PySem.Spec PyProof.Rows
section
variable {X:Cx}
end
end L2
namespace PM
open PySem L2
section
variable {K:Kx} {XO:XOT} {E:L2.St→XK}
end
end PM
namespace PM
open PySem L2
section
variable {K:Kx}
end
end PM
namespace L2
open PySem PySem.Spec PyProof.Rows
section
variable {prog:Program} {w:World} {A:Around} {E:Value→Shared→Prop} {s:Shared}
end
end L2
namespace L2
open PySem PySem.Spec PyProof.Rows
section
variable {prog:Program} {w:World} {A:Around} {E:Value→Shared→Prop} {s:Shared}
end
section
variable {X:Cx} {pins:List (Addr × Obj)} {σ:St} {A:Around} {R:Result→Shared→Prop}
end
end L2
namespace PM
open PySem L2
section
variable {K:Kx} {XO:XOT} {E:L2.St→XK}
end
end PM
namespace L2
open PySem PySem.Spec PyProof.Rows
theorem zmb {P:Program} {w:World} {k:Key} {u:Value} (h:(zba P w).is k u=true):RelV (kV k) u:=by
  rcases zaY h with ⟨i,t,rfl,rfl⟩ | ⟨x,t,rfl,rfl⟩
  · exact ⟨t,rfl⟩
  · exact ⟨t,rfl⟩
theorem KV.at:∀ {kvs:List (Key × V)} {vs:List (Key × Value)},KV kvs vs→∀ {i:Nat} {k:Key} {x:V},kvs[i]?=some (k,x)→∃ u,vs[i]?=some (k,u)∧RelV x u:=by
  intro kvs vs r
  unfold KV at r
  induction r with
  | nil=>intro i k x h; simp at h
  | @cons p q ps qs hq t ih =>
    intro i k x h
    cases i with
    | zero =>
      have e:p=(k,x):=by simpa using h
      subst e
      obtain ⟨q1,q2⟩:=q
      exact ⟨q2,by rw [show k=q1 from hq.1]; rfl,hq.2⟩
    | succ i=>exact ih (by simpa using h)
section
variable {X:Cx} {pins:List (Addr × Obj)} {σ:St} {H:Hp} {s:Shared} {a:Addr} {kvs:List (Key × V)}
theorem Inv.frz (I:Inv X pins σ H s) (ha:H a=some (.dK kvs)):∃ o,Inv X pins σ (upd H a (.frz o (.dK kvs))) s:=by
  have ob:=I.hok a _ ha
  obtain ⟨_,_,_,_,o,es,ep,ho,_⟩:=id ob
  exact ⟨o,I.write (t':=s.toks) (x:=a) (e:=a) (o:=.frz o (.dK kvs)) (h':=s.heap) (by rw [ha]; exact True.intro) (.inl rfl) (fun _ _ _ q=>q) ⟨o,ho⟩ ⟨ho,ob⟩⟩
theorem Inv.dat {o:Obj} {es0:Array DictEntry} {ep:Nat} (I:Inv X pins σ H s) (ha:H a=some (.frz o (.dK kvs))) (hd:o.data = .dict es0 ep):∃ vs,KV kvs vs∧s.heap.DictAt (zba X.prog X.w) a vs ep:=by
  obtain ⟨ho,_,_,vs,rv,o',es,ep',g1,g2,g3,g4⟩:=I.hok a _ ha
  rw [ho] at g1; cases g1
  rw [hd] at g3; cases g3
  exact ⟨vs,rv,o,es0,ho,g2,hd,g4⟩
end
def tFix (t:TE):TE:=fun σ H Q=>t σ H fun v H1=>∃ a kvs,v = .ref a∧H1 a=some (.dK kvs)∧∀ o,Q v (upd H1 a (.frz o (.dK kvs)))
theorem zmQ {X:Cx} {e:Expr} {t:TE} (h:PE X e t):PE X e (tFix t):=by
  intro pins s σ H Q I q
  refine thn (h pins s σ H _ I q) fun u s1 ⟨v,H1,I1,r1,a,kvs,ev,ha,q1⟩=>?_
  obtain ⟨o,I2⟩:=I1.frz ha
  exact ⟨v,_,I2,r1,q1 o⟩
def Itk (a:Addr) (o:Obj) (kvs:List (Key × V)):It :=
  ⟨fun i H=>H a=some (.frz o (.dK kvs))∧i < kvs.length,fun i H v H'=>H'=H∧∃ k x,v=kV k∧kvs[i]?=some (k,x),fun i H=>H a=some (.frz o (.dK kvs))∧kvs.length ≤ i⟩
theorem KV.len {kvs:List (Key × V)} {vs:List (Key × Value)} (r:KV kvs vs):vs.length=kvs.length:=by
  unfold KV at r
  induction r with
  | nil=>rfl
  | cons _ _ ih=>simp [ih]
theorem zjJ {P:Program} {w:World} {K:PySem.W.Frag} {tg:Expr} (a it:Addr) (o:Obj) (kvs:List (Key × V)) {es0:Array DictEntry} {ep:Nat} (hd:o.data = .dict es0 ep) :
    Turn P w K tg (Itk a o kvs) [it] it (fun i h=>h.IsKeyIter it a i kvs.length ep) where
  mem:=by simp
  obj:=fun i h st b hb=>by
    obtain ⟨q,h1,c,d⟩:=st
    rw [List.mem_singleton.mp hb]
    exact ⟨q,h1,fun v z=>by rw [d] at z; cases z⟩
  keep:=fun i h h' st k=>st.at fun q e=>k it (by simp) q e
  item:=by
    intro X hP hw hK hc i pins s σ H E I hf st hg
    subst hP hw hK
    obtain ⟨ha,hi⟩:=hg
    obtain ⟨vs,rv,dd⟩:=I.dat ha hd
    obtain ⟨⟨key,x⟩,hx⟩:∃ q,kvs[i]?=some q:=⟨_,List.getElem?_eq_getElem hi⟩
    obtain ⟨u,hu,ru⟩:=rv.at hx
    obtain ⟨f0,f1,f2,f3,f4,f5⟩:=hf it (by simp)
    have st0:=st
    rw [← rv.len] at st0
    refine wpAny_pyNext_dict_item st0 dd hu fun kk h' hk st' sb=>?_
    have I1:Inv X pins σ H { s with heap:=h' }:=I.turned (t':=s.toks) (fun b o hb e=>(sb.2 b hb).trans e) f0 f1 f3 f4 f5
    rw [rv.len] at st'
    obtain ⟨q,e,c,d⟩:=id st'
    exact ⟨kk,rfl,zkP (s:={ s with heap:=h' }) e c d (by decide) ⟨kV key,H,I1,zmb hk,⟨rfl,key,x,rfl,hx⟩,st',fun b hb=>(hf b hb).1⟩⟩
  done:=by
    intro X hP hw hK hc i pins s σ H E I hf st hg
    subst hP hw hK
    obtain ⟨ha,hi⟩:=hg
    obtain ⟨vs,rv,dd⟩:=I.dat ha hd
    obtain ⟨f0,f1,f2,f3,f4,f5⟩:=hf it (by simp)
    have st0:=st
    rw [← rv.len] at st0
    exact wpAny_pyNext_dict_end (I.ok.hd hc) st0 dd (List.getElem?_eq_none (by rw [rv.len]; exact hi)) fun h' eb=>⟨rfl,I.turned (t':=s.toks) (fun b o hb e=>eb b o hb e) f0 f1 f3 f4 f5⟩
  self:=fun _ _ _ _ _ st h=>wpAny_pyIter_keyiter st h
section
variable {X:Cx}
def zkn (td:TE):TI:=fun σ H R=>td σ H fun x H1=>∃ a o kvs,x = .ref a∧H1 a=some (.frz o (.dK kvs))∧R (Itk a o kvs) H1
theorem zlO {tg l:Expr} {td:TE} (hl:PE X l td):PI X tg l (zkn td):=by
  intro pins s σ H R I h
  refine thn (hl pins s σ H _ I h) fun v s1 ⟨x,H1,I1,r1,a,o,kvs,ex,ha,q⟩=>?_
  subst ex
  obtain rfl:v=Value.ref a:=r1
  obtain ⟨t1,t2,t3⟩:=zla I1 (.inl ⟨kvs,.inr ⟨o,ha⟩⟩)
  obtain ⟨ho,z,sm,vs,rv,dd⟩:=I1.hok a _ ha
  obtain ⟨ep,da⟩:=dd.dictAt
  obtain ⟨o',es0,g1,g2,g3,g4⟩:=id da
  rw [ho] at g1; cases g1
  refine wpAny_pyIter_dict t3 da ?_
  refine ⟨_,[s1.heap.objs.size],_,_,H1,rfl,I1.kept (t':=s1.toks) fun b u e=>Heap.get?_push_of_some _ e,zjJ a _ o kvs g3,⟨_,Heap.get?_push_size _ rfl,rfl,by rw [← rv.len]; rfl⟩,fun c hc=>?_,q⟩
  rw [List.mem_singleton.mp hc]
  exact I1.fpOk (Nat.le_refl _) (I1.hok.fresh (Nat.le_refl _))
end
end L2
namespace PM
open PySem L2
section
variable {K:Kx} {XO:XOT} {E:L2.St→XK}
def kD:Key→D
  | .inl i=>.int i
  | .inr x=>.str x
theorem zmF {F:Hp} (k:Key):Rep K F (kD k) (kV k):=by
  cases k with
  | inl i=>simp only [kD,Rep]; rfl
  | inr x=>simp only [kD,Rep]; rfl
def asFd:D→Option (List Key × List D)
  | .fd ks l=>some (ks,l)
  | _=>none
def zm2 (md:En→R D) (δ:En):R (List D):=(md δ).bind fun d=>(R.of (asFd d)).bind fun p=>.ok (p.1.map kD)
theorem zjM {a:Addr} {o:Obj} {kvs:List (Key × V)} {P:Hp→Hp→Prop} (h:∀ F2 H2,P F2 H2→Same F2 H2∧H2 a=some (.frz o (.dK kvs))):IsIt K (Itk a o kvs) P ((kvs.map (·.1)).map kD):=by
  intro F2 H2 p i
  obtain ⟨s2,q⟩:=h F2 H2 p
  rw [List.getElem?_map,List.getElem?_map]
  refine ⟨fun d hd=>?_,fun hn=>?_⟩
  · cases e:kvs[i]? with
    | none=>rw [e] at hd; cases hd
    | some y =>
      rw [e] at hd
      cases hd
      refine ⟨⟨q,(List.getElem?_eq_some_iff.mp e).1⟩,fun x' H' z=>?_⟩
      obtain ⟨rfl,k,x,rfl,z1⟩:=z
      rw [e] at z1
      cases z1
      exact ⟨F2,.refl s2,zmF _⟩
  · cases e:kvs[i]? with
    | none=>exact ⟨q,List.getElem?_eq_none_iff.mp e⟩
    | some y=>rw [e] at hn; cases hn
theorem zmi {td:TE} {md:En→R D} (h:SE K XO E td md):SI K XO E (zkn td) (zm2 md):=by
  intro Λ F0 H0 F H σ δ R I a
  refine h Λ F0 H0 F H σ δ _ I (a.bind.imp fun d F1 H1 e1 a1 v r=>?_)
  cases d with
  | fd ks l =>
    simp only [Rep] at r
    obtain ⟨a,o,kvs,rfl,h1,rfl,h2⟩:=r
    exact ⟨a,o,kvs,rfl,e1.fh _ _ h1,a1 F1 H1 (.refl e1.fh) _ (zjM fun F2 H2 x=>⟨x.2,x.2 _ _ (x.1 _ _ h1)⟩)⟩
  | _=>exact a1.elim
def fGet (d k:D):Option D:=match asK k,d with | some k,.fd ks l=>getK ks l k | _,_=>none
theorem zlt {td ty:TE} {md my:En→R D} (hd:SE K XO E td md) (hy:SE K XO E ty my):SE K XO E (zj7 td ty) (m2 fGet md my):=by
  intro Λ F0 H0 F H σ δ Q I a
  refine hd Λ F0 H0 F H σ δ _ I (a.bind.imp fun dd F1 H1 e1 a1 x rx=>?_)
  refine hy Λ F0 H0 F1 H1 σ δ _ (I.grow e1) (a1.bind.imp fun dk F2 H2 e2 a2 y ry=>?_)
  unfold fGet at a2
  cases z:asK dk with
  | none=>rw [z] at a2; exact a2.elim
  | some k =>
    rw [z] at a2
    cases dd with
    | fd ks l =>
      have rx':=Rep.mono e2.ff _ rx
      simp only [Rep] at rx'
      obtain ⟨p,o,kvs,rfl,h1,h2,h3⟩:=rx'
      obtain ⟨g1,g2⟩:=zi1 (k:=k) h2 h3
      cases zg8 z ry
      dsimp only at a2
      cases q:getK ks l k with
      | none=>rw [q] at a2; exact a2.elim
      | some d =>
        rw [q] at a2
        obtain ⟨v,hv,r⟩:=g1 d q
        exact ⟨p,v,rfl,.inl ⟨kvs,k,.inr ⟨o,e2.fh _ _ h1⟩,rfl,hv.symm⟩,a2 F2 H2 (.refl e2.fh) _ r⟩
    | _=>exact a2.elim
end
end PM
namespace L2
open PySem PySem.Spec PyProof.Rows
section
variable {P:Program} {w:World} {K:PySem.W.Frag} {mg:Str→Option Value} {base:Heap} {CX:CXT} {k:Nat} {x:Str} {ps:List Str} {sp:Sp} {d:V}
end
section
variable {X:Cx} {CX:CXT} {k:Nat} {x:Str} {ps:List Str} {sp:Sp} {E:XK} {p pos:Pos} {a b:Expr} {ta tb:TE} {d:V}
end
section
variable {P:Program} {w:World} {K:PySem.W.Frag} {mg:Str→Option Value} {base:Heap} {d:V}
end
end L2
namespace PM
open PySem L2
section
variable {K:Kx} {F H:Hp}
end
section
variable {K:Kx} {XO:XOT} {E:L2.St→XK} {ta te:TE} {ma me:En→R D}
end
section
variable {K:Kx} {XO:XOT} {E:L2.St→XK} {F0 H0 F H:Hp} {σ:L2.St} {δ:En}
end
end PM
namespace L2
open PySem PySem.Spec PyProof.Rows
section
variable {prog:Program} {w:World} {A:Around} {E:Value→Shared→Prop} {s:Shared}
end
end L2
namespace L2
open PySem PySem.Spec PyProof.Rows
section
variable {X:Cx}
def zj3 (K:PySem.W.Frag):R2:=fun x y H Q=>∃ a b xs ys,x = .ref a∧y = .ref b∧SqT K H a xs∧SqT K H b ys∧xs.length + ys.length ≤ sizeLine ∧
  (xs = []→Q (.ref b) H)∧(xs ≠ []→ys = []→Q (.ref a) H)∧(xs ≠ []→ys ≠ []→∀ p,H p=none→Q (.ref p) (upd H p (.tup (xs ++ ys))))
theorem zjl:OpR X (binaryOp .Add) (zj3 X.K):=by
  intro pins s σ H x y v u Q I rx ry h
  obtain ⟨a,b,xs,ys,rfl,rfl,ha,hb,hz,q0,q1,q2⟩:=h
  by_cases hx:xs = []
  · cases rx
    cases ry
    obtain ⟨its,r1,p1,_⟩:=I.tuple ha
    obtain ⟨its2,r2,p2,_⟩:=I.tuple hb
    have e0:its = []:=r1.nil_iff.mpr hx
    obtain ⟨⟨cls,dd,data,sl⟩,ho,hc,n,hd⟩:=id p1
    obtain ⟨⟨cls2,dd2,data2,sl2⟩,ho2,hc2,n2,hd2⟩:=id p2
    simp only at hc hd hc2 hd2
    subst hc hd hc2 hd2
    exact concat_meets ⟨_,ho,rfl⟩ ⟨_,ho2,rfl⟩ noFill_tuple_add seq_tuple_add PySem.F.slot_tuple_add PySem.F.entry_tuple_add (PySem.F.args_tuple_add_2 _ _)
      (tuple_addW0 a b its.toArray its2.toArray n n2 dd dd2 sl sl2 (by simp [e0])) ⟨ho,ho2,⟨.ref b,H,I,rfl,q0 hx⟩⟩
  · exact zlA pins s σ H _ _ v u Q I rx ry ⟨a,b,xs,ys,rfl,rfl,ha,hb,hx,hz,q1 hx,q2 hx⟩
end
end L2
namespace PM
open PySem L2
section
variable {K:Kx} {XO:XOT} {E:L2.St→XK}
def zid (x y:D):Option D:=match x,y with | .tup l,.tup r=>ifC (l.length + r.length ≤ sizeLine) (some (.tup (l ++ r))) none | _,_=>none
theorem ziW:SR K (zj3 K.f) zid:=by
  intro F H x y dx dy d Q s hx hy e q
  unfold zid at e
  split at e
  · rename_i l r
    unfold ifC at e
    split at e
    · rename_i hl
      cases e
      simp only [Top,Rep] at hx hy
      obtain ⟨a,vs,rfl,h1,h2⟩:=hx
      obtain ⟨b,ws,rfl,h3,h4⟩:=hy
      have lv:=h2.length
      have lw:=h4.length
      refine ⟨a,b,vs,ws,rfl,rfl,.of (s _ _ h1),.of (s _ _ h3),by omega,fun z=>?_,fun z1 z2=>?_,fun z1 z2 p hp=>?_⟩
      · have:l = []:=List.eq_nil_of_length_eq_zero (by rw [← lv,z]; rfl)
        subst this
        refine q _ F H (.refl s) ?_
        simp only [Rep]
        exact ⟨b,ws,rfl,h3,h4⟩
      · have:r = []:=List.eq_nil_of_length_eq_zero (by rw [← lw,z2]; rfl)
        subst this
        refine q _ F H (.refl s) ?_
        simp only [Rep]
        exact ⟨a,vs,rfl,h1,by rw [List.append_nil]; exact h2⟩
      · have x1:Ext F H (upd F p (.tup (vs ++ ws))) (upd H p (.tup (vs ++ ws))):=.new s hp
        refine q _ _ _ x1 ?_
        simp only [Rep]
        exact ⟨p,_,rfl,zah,(h2.mono x1.ff).append (h4.mono x1.ff)⟩
    · cases e
  · cases e
end
end PM
namespace L2
open PySem PySem.Spec PyProof.Rows
structure HasC (P:Program) (w:World) (K:PySem.W.Frag) (mg:Str→Option Value) (base:Heap) (CX:CXT) (k:Nat) (x:Str) (C:Addr) (ps:List Str) (sp:Sp):Prop where
  ex:∃ (f:Addr) (fd:FuncData),Mk K C f∧FnOk P w K mg base CX k f fd ps sp∧mg x=some (.ref C)∧Binds K fd ps []
structure HasM (P:Program) (w:World) (K:PySem.W.Frag) (mg:Str→Option Value) (base:Heap) (CX:CXT) (k:Nat) (m:Str) (C:Addr) (ps:List Str) (sp:Sp):Prop where
  ex:∃ (f:Addr) (fd:FuncData),Cls K C∧Meth K C m f∧FnOk P w K mg base CX k f fd ps sp∧Binds K fd ps []
section
variable {X:Cx} {CX:CXT} {k:Nat} {x m:Str} {C:Addr} {ps:List Str} {sp:Sp} {E:XK} {p pos apos:Pos} {e o:Expr} {es:List Expr} {t:TA} {ta:TE}
theorem zl5 (G:HasC X.prog X.w X.K X.mg X.base CX k x C ps sp) (hr:Room (k + 1) X.A) (hg:Gl X x) (hx:zdB CX X E) (ha:PA X (e :: es) t)
    (hdb:(x == ("__debug__" : Str))=false:=by decide) (he:starEach (e :: es) X.env=(false,eval e X.env) :: starEach es X.env:=by rfl) (hpl:(backTo pos (starEach es X.env)).any (·.1)=false:=by rfl) :
    PE X (.Call (.Name x p) (e :: es) [] pos) (zly C sp [] E t):=by
  obtain ⟨f,fd,M,F,hm,hb⟩:=G.ex
  exact zlW M F hr hg hm hb .nil hx ha hdb he hpl
theorem zgM {pl:Sem Bool} (G:HasM X.prog X.w X.K X.mg X.base CX k m C ps sp) (hr:Room k X.A) (hx:zdB CX X E) (ho:PE X o ta) (ha:PA X (e :: es) t)
    (hst:starEach (e :: es) X.env=(false,eval e X.env) :: starEach es X.env:=by rfl) (hpl:(backTo pos (starEach es X.env)).any (·.1)=false:=by rfl)
    (ht:eval (.Call (.Attribute o m apos) (e :: es) [] pos) X.env=(eval o X.env >>= fun ov=>standAt apos.atName >>= fun _=>holding [ov] (getMethod ov m pl) >>= fun q=>callWith pos q.1 q.2 (backTo pos (starEach (e :: es) X.env)) (backToKw pos (keywordEach [] X.env))):=by rfl) :
    PE X (.Call (.Attribute o m apos) (e :: es) [] pos) (zjc C m sp [] E ta t):=by
  obtain ⟨f,fd,c,hm,F,hb⟩:=G.ex
  exact zlB (pl:=pl) ho c hm F hr hb .nil hx ha hst hpl ht
end
end L2
namespace PM
open PySem L2
section
variable {K:Kx} {XO:XOT} {E:L2.St→XK} {F0 H0 F H:Hp} {σ:L2.St} {δ:En}
end
end PM
namespace PM
open PySem L2
section
variable {K:Kx} {XO:XOT} {E:L2.St→XK} {F0 H0 F H F1 H1 F' H':Hp}
end
end PM
namespace L2
open PySem PySem.Spec PyProof.Rows
structure MethAt (K:PySem.W.Frag) (C:Addr) (m qual:Str) (st:Stmt) (f:Addr) (fd:FuncData):Prop where
  at_:PySem.W.findIn K (.ref C) m=some (some (.ref f))
  isf:PySem.W.isFn K (.ref f)=true
  fn:Fun K m qual st f fd
theorem methAt_mk {K:PySem.W.Frag} {C:Addr} {m qual:Str} {st:Stmt} {f:Addr} {oc:Value} {od an:Option Addr} {osl:Array (Option Value)} {kV doc pm cdv ct:Value} (a:PySem.W.findIn K (.ref C) m=some (some (.ref f))) (i:PySem.W.isFn K (.ref f)=true)
    (l:K.lookup f=some ⟨oc,od,.func (PySem.W.fnOf m qual (zcI st) (zch st) (zaq st) .none kV doc pm an cdv ct),osl⟩) (c:PySem.W.codeIn K cdv qual=true) (k:PySem.W.keepIn K (.ref f)=true):∃ f fd,MethAt K C m qual st f fd :=
  ⟨f,_,a,i,zi6 l c k⟩
section
variable {P:Program} {w:World} {K:PySem.W.Frag} {mg:Str→Option Value} {base:Heap} {CX:CXT} {k:Nat} {x m qual:Str} {C:Addr} {st:Stmt} {f:Addr} {fd:FuncData} {ps:List Str} {sp:Sp}
theorem MethAt.hasM (D:MethAt K C m qual st f fd) (c:Cls K C) (ok:FnOk P w K mg base CX k f fd ps sp) (b:Binds K fd ps []):HasM P w K mg base CX k m C ps sp:=⟨f,fd,c,⟨D.at_,D.isf,D.fn.kp⟩,ok,b⟩
theorem MethAt.hasC (D:MethAt K C "__init__" qual st f fd) (mk:PySem.W.makesIn K C=true) (kp:PySem.W.keepIn K (.ref C)=true) (hm:mg x=some (.ref C)) (ok:FnOk P w K mg base CX k f fd ps sp) (b:Binds K fd ps []):HasC P w K mg base CX k x C ps sp:=⟨f,fd,⟨mk,D.at_,D.isf,kp⟩,ok,hm,b⟩
end
end L2
namespace L2
open PySem PySem.Spec PyProof.Rows
section
variable {X:Cx} {CX:CXT} {k:Nat} {x:Str} {C:Addr} {ps:List Str} {sp:Sp} {E:St→XK} {p pos:Pos} {e:Expr} {es:List Expr} {t:TA}
end
end L2
namespace PM
open PySem L2
section
variable {K:Kx} {XO:XOT} {E:L2.St→XK} {F0 H0 F H F1 H1 F' H':Hp}
end
end PM
namespace L2
open PySem PySem.Spec PyProof.Rows
section
variable {prog:Program} {w:World} {A:Around} {E:Value→Shared→Prop} {s:Shared}
end
section
variable {X:Cx}
end
end L2
namespace PM
open PySem L2
section
variable {K:Kx} {XO:XOT} {E:L2.St→XK}
end
end PM
namespace L2
open PySem PySem.Spec PyProof.Rows
section
variable {prog:Program} {w:World} {A:Around} {E:Value→Shared→Prop} {s:Shared}
end
section
variable {X:Cx}
end
end L2
namespace PM
open PySem L2
section
variable {K:Kx} {XO:XOT} {E:L2.St→XK}
end
end PM
namespace L2
open PySem PySem.Spec PyProof.Rows
end L2
namespace L2
open PySem PySem.Spec PyProof.Rows
section
variable {prog:Program} {w:World} {K:Type} [DecidableEq K] {knd:KeyKind prog w K} {A:Around} {E:Value→Shared→Prop} {s:Shared}
end
section
variable {prog:Program} {w:World} {K:Type} [DecidableEq K] {knd:KeyKind prog w K} {A:Around} {E:Value→Shared→Prop} {s:Shared}
end
section
variable {prog:Program} {w:World} {K:Type} [DecidableEq K] {knd:KeyKind prog w K} {A:Around} {E:Value→Shared→Prop} {s:Shared}
end
end L2
namespace L2
open PySem PySem.Spec PyProof.Rows
section
variable {X:Cx}
end
end L2
namespace PM
open PySem L2
section
variable {K:Kx} {XO:XOT} {E:L2.St→XK}
end
end PM
namespace PM
open PySem L2
section
variable {K:Kx} {XO:XOT} {E:St→XK} {ta tb te:TE} {ma mb me:En→R D} {t u:TS} {m n:En→O} {Λ:List (Nat × Addr × HO)} {F0 H0 F H F' H' F1 H1:Hp} {σ:St} {δ:En} {Dn:Ends}
end
end PM
namespace PM
open PySem L2
section
variable {K:Kx} {XO:XOT} {E:St→XK} {ta tb te:TE} {ma mb me:En→R D} {t u:TS} {m n:En→O} {Λ:List (Nat × Addr × HO)} {F0 H0 F H F' H' F1 H1:Hp} {σ:St} {δ:En} {Dn:Ends}
end
end PM
namespace PM
open PySem L2
section
variable {K:Kx} {XO:XOT} {E:St→XK} {ta tb te to:TE} {ma mb me mo:En→R D} {t u:TS} {m n:En→O} {Λ:List (Nat × Addr × HO)} {F0 H0 F H F' H' F1 H1:Hp} {σ:St} {δ:En} {Dn:Ends}
end
end PM
namespace PM
open PySem L2
section
variable {K:Kx} {XO:XOT} {E:St→XK} {te ti tj:TE} {me mi mj:En→R D} {Λ:List (Nat × Addr × HO)} {F0 H0 F H:Hp} {σ:St} {δ:En} {Dn:Ends}
end
end PM
namespace L2
open PySem PySem.Spec PyProof.Rows
section
variable {X:Cx}
end
end L2
namespace PM
open PySem L2
section
variable {K:Kx}
end
end PM
namespace L2
open PySem PySem.Spec PyProof.Rows
def zk2 (tk tv:TE):TE:=fun σ H Q=>∀ p,H p=none→ziO [(tk,tv)] σ (upd H p (.dT [])) fun ps H2=>H2 p=some (.dT [])∧∃ (ks:List Key) (b:Addr) (y:V),ps = [(.ref b,y)]∧H2 b=some (.tup (ks.map kV))∧Q (.ref p) (upd H2 p (.dT [(ks,y)]))
theorem zkF {X:Cx} {pos:Pos} {k v:Expr} {tk tv:TE} (hu:X.A.units < cLine) (hk:PE X k tk) (hv:PE X v tv):PE X (.Dict [some k] [v] pos) (zk2 tk tv):=by
  intro pins s σ H Q I q
  have hn:=I.hok.fresh (Nat.le_refl s.heap.objs.size)
  have I1:=I.laid (a:=s.heap.objs.size) (o:=.dT []) (h':=s.heap.push { cls:=.type "dict",data:=.dict #[] }) (t':=s.toks) (fun _ _ q=>Heap.get?_push_of_some _ q) (Nat.le_refl _) (zj4 s.heap I.big)
  refine wpAny_Dict_any rfl rfl (by simp) (by show 1 ≤ 15; decide) (thn ((zkI hk hv zlZ) pins _ σ _ _ I1 (q _ hn)) fun ws s2 ⟨ps,H2,I2,rel,e,ks,b,y,ep,eb,q2⟩=>?_)
  subst ep
  cases rel with
  | @cons pa pb as bs h t =>
    cases t
    obtain ⟨u,r⟩:=pb
    obtain ⟨h1,h2⟩:=h
    cases (show u=Value.ref b from h1)
    obtain ⟨z,hd,xs,rel,dd⟩:=zmC I2.hok e
    cases rel
    unfold storeAll
    rw [List.forIn_cons]
    refine wpAny_bind (wpAny_bind (wpAny_dictSet_heap (knd:=tupleKind (zba X.prog X.w)) (hsz:=Nat.zero_le _) hu (zfa I2.hok eb) dd fun h' dd' hs=>wpAny_pure ?_))
    show wpAny _ _ (forIn [] _ _) _ _ _
    rw [List.forIn_nil]
    refine wpAny_pure ⟨.ref s.heap.objs.size,_,?_,rfl,q2⟩
    obtain ⟨q,es,ep,hq,g2,g3,g4,_,g5⟩:=dd'
    refine zgL I2 (by rw [e]; exact True.intro) hs ⟨q,hq⟩ ⟨by show 1 ≤ sizeLine; decide,hd,_,KT.keeps (H:=H2) (.cons ⟨rfl,eb,h2⟩ .nil) fun c ys ec=>?_,q,es,ep,hq,g2,g3,g4,g5⟩
    rw [zaf (zmA ec e (fun z=>nomatch z))]
    exact ec
end L2
namespace PM
def lexB (eq lt:Nat→Bool):Nat→Nat→Bool
  | 0,0=>false
  | 0,_ + 1=>true
  | _ + 1,0=>false
  | n + 1,m + 1=>if eq 0=true then lexB (fun j=>eq (j + 1)) (fun j=>lt (j + 1)) n m else lt 0
end PM
namespace L2
open PySem PySem.Spec PyProof.Rows
def LtAt (A:Around) (s:Shared) (u v:Value) (b:Bool):Prop :=
  ∀ (prog:Program) (w:World) (E:Value→Shared→Prop) (Q:Value→Shared→Prop),Q (.bool b) s→wpAny (model prog w) A (richCompare .Lt u v) Q E s
section
variable {prog:Program} {w:World} {A:Around} {E:Value→Shared→Prop} {s:Shared}
theorem zhK {i j:Int} {t u:Tok}:LtAt A s (.int i t) (.int j u) (decide (i < j)):=fun _ _ _ _ h=>zgT h
theorem zbZ {a:Addr} {xs:Array Value} (x:IsTup s.heap a xs):s.TypeIs (.ref a) "tuple":=by
  obtain ⟨o,e,c,_⟩:=x
  exact ⟨o,e,c⟩
theorem zgE {xs ys:List Value} {a b:Addr} {eq lt:Nat→Bool} {P:Fin→Shared→Prop} (hx:IsTup s.heap a xs.toArray) (hy:IsTup s.heap b ys.toArray) (he:∀ j u v,xs[j]?=some u→ys[j]?=some v→SeqAt.EqAt A s u v (eq j))
    (hl:∀ j u v,xs[j]?=some u→ys[j]?=some v→eq j=false→LtAt A s u v (lt j)) (h:P (.done (.ret (.bool (PM.lexB eq lt xs.length ys.length)))) s):wpAny (model prog w) A (Builtin.«tuple.__lt__» ⟨[.ref a,.ref b],[]⟩) P E s:=by
  have hTb:=zbZ hy
  obtain ⟨oa,hoa,_,na,hda⟩:=hx
  obtain ⟨ob,hob,_,nb,hdb⟩:=hy
  show wpAny _ _ (isInstance (.ref b) (.type "tuple") >>= _) _ _ s
  refine wpAny_bind (wpAny_isInstance hTb isSubtype_tuple_tuple ?_)
  simp only [Bool.not_true,Bool.false_eq_true,if_false]
  refine wpAny_bind (wpAny_tupleItemsOf hoa hda ?_)
  refine wpAny_bind (wpAny_tupleItemsOf hob hdb ?_)
  refine wpAny_bind ?_
  refine wpAny_forIn_list _
    (fun rest r s'=>r.1=none∧s'=s∧∃ (xs' ys':List Value) (eq' lt':Nat→Bool),rest=List.zip xs' ys'∧(∀ j u v,xs'[j]?=some u→ys'[j]?=some v→SeqAt.EqAt A s u v (eq' j))∧(∀ j u v,xs'[j]?=some u→ys'[j]?=some v→eq' j=false→LtAt A s u v (lt' j)) ∧
      PM.lexB eq' lt' xs'.length ys'.length=PM.lexB eq lt xs.length ys.length∧(decide (xs'.length < ys'.length))=decide (xs.length < ys.length))
    _ ?_ ?_ _ _ ⟨rfl,rfl,xs,ys,eq,lt,rfl,he,hl,rfl,rfl⟩
  · rintro ⟨u,v⟩ rest r s' ⟨hr,rfl,xs',ys',eq',lt',hz,he',hl',hdec,hlen⟩
    cases xs' with
    | nil=>simp at hz
    | cons x xs'' =>
      cases ys' with
      | nil=>simp at hz
      | cons y ys'' =>
        simp only [List.zip_cons_cons,List.cons.injEq,Prod.mk.injEq] at hz
        obtain ⟨⟨rfl,rfl⟩,rfl⟩:=hz
        refine wpAny_bind (he' 0 u v rfl rfl _ _ _ _ ?_)
        cases hk:eq' 0 with
        | true =>
          simp only [Bool.not_true,Bool.false_eq_true,if_false]
          refine wpAny_pure ⟨rfl,rfl,xs'',ys'',fun j=>eq' (j + 1),fun j=>lt' (j + 1),rfl,fun j u v h1 h2=>he' (j + 1) u v h1 h2,fun j u v h1 h2=>hl' (j + 1) u v h1 h2,?_,by simpa using hlen⟩
          rw [← hdec]
          simp [PM.lexB,hk]
        | false =>
          simp only [Bool.not_false,if_true]
          have hf:PM.lexB eq lt xs.length ys.length=lt' 0:=by rw [← hdec]; simp [PM.lexB,hk]
          rw [hf] at h
          refine wpAny_bind (wpAny_rule ?_)
          refine wpAny_bind (hl' 0 u v rfl rfl hk _ _ _ _ ?_)
          exact wpAny_bind (wpAny_pure (wpAny_pure (wpAny_pure h)))
  · rintro ⟨r1,r2⟩ s' ⟨hr,rfl,xs',ys',eq',lt',hz,he',hl',hdec,hlen⟩
    simp only at hr
    subst hr
    refine wpAny_pure ?_
    have hfin:decide (xs.length < ys.length)=PM.lexB eq lt xs.length ys.length:=by
      rw [← hdec,← hlen]
      cases xs' with
      | nil=>cases ys' with
        | nil=>simp [PM.lexB]
        | cons _ _=>simp [PM.lexB]
      | cons _ _=>cases ys' with
        | nil=>simp [PM.lexB]
        | cons _ _=>simp at hz
    show P (.done (.ret (.bool (decide (xs.toArray.size < ys.toArray.size))))) s'
    rw [List.size_toArray,List.size_toArray,hfin]; exact h
theorem zin {xs ys:List Value} {a b:Addr} {eq lt:Nat→Bool} (hu:A.units < cLine) (hx:IsTup s.heap a xs.toArray) (hy:IsTup s.heap b ys.toArray) (he:∀ j u v,xs[j]?=some u→ys[j]?=some v→SeqAt.EqAt A.in1 s u v (eq j))
    (hl:∀ j u v,xs[j]?=some u→ys[j]?=some v→eq j=false→LtAt A.in1 s u v (lt j)):LtAt A s (.ref a) (.ref b) (PM.lexB eq lt xs.length ys.length):=fun prog w E Q h =>
  wpAny_richCompare_same_room (op:=.Lt) (zbZ hx) (zbZ hy) F.slot_tuple_lt (wpAny_call_entry F.slot_tuple_lt (zbZ hx) F.entry_tuple_lt (zgE hx hy he hl ⟨_,rfl,(fun e=>nomatch e),h⟩) (F.args_tuple_lt_2 _ _)) hu
end
end L2
namespace L2
open PySem PySem.Spec PyProof.Rows
def ltP:Nat→PyData→PyData→Bool
  | 0,.int i,.int j=>decide (i < j)
  | n + 1,.int i,.int j=>decide (i < j)
  | n + 1,.tuple l,.tuple r=>PM.lexB (fun j=>PyData.eqv (l.getD j .none) (r.getD j .none)) (fun j=>ltP n (l.getD j .none) (r.getD j .none)) l.length r.length
  | _,_,_=>false
def cmpP:Nat→PyData→PyData→Bool
  | 0,.int _,.int _=>true
  | n + 1,.int _,.int _=>true
  | n + 1,.tuple l,.tuple r=>(List.range (min l.length r.length)).all fun j=>cmpP n (l.getD j .none) (r.getD j .none)
  | _,_,_=>false
theorem zb8:∀ {ds:List PyData} {j:Nat} {d:PyData},PyData.canLayAll0 ds=true→ds[j]?=some d→d.canLay0=true
  | [],j,d,_,h=>by simp at h
  | x :: ds,0,d,h,e=>by
    simp at e; subst e
    simp only [PyData.canLayAll0,Bool.and_eq_true] at h
    exact h.1
  | x :: ds,j + 1,d,h,e=>by
    simp only [PyData.canLayAll0,Bool.and_eq_true] at h
    exact zb8 h.2 (by simpa using e)
theorem zcL:∀ {ds:List PyData} {j:Nat} {d:PyData},ds[j]?=some d→d.depth ≤ PyData.depthAll ds
  | [],j,d,h=>by simp at h
  | x :: ds,0,d,e=>by
    simp at e; subst e
    simp only [PyData.depthAll]; omega
  | x :: ds,j + 1,d,e=>by
    have:=zcL (ds:=ds) (j:=j) (d:=d) (by simpa using e)
    simp only [PyData.depthAll]; omega
theorem zcK {h:Heap}:∀ {vs:List Value} {ds:List PyData} {as:List Addr},ReadsAll h vs ds as→vs.length=ds.length∧∀ (j:Nat) (v:Value) (d:PyData),vs[j]?=some v→ds[j]?=some d→∃ bs,Reads h v d bs
  | _,_,_,.nil=>⟨rfl,fun j v d h _=>by simp at h⟩
  | _,_,_,.cons r t=>by
    obtain ⟨h1,h2⟩:=zcK t
    refine ⟨by simp [h1],fun j v d e1 e2=>?_⟩
    cases j with
    | zero=>simp at e1 e2; subst e1 e2; exact ⟨_,r⟩
    | succ j=>exact h2 j v d (by simpa using e1) (by simpa using e2)
theorem zig:∀ (n:Nat) (da db:PyData) (A:Around) (s:Shared) (a b:Value) (as bs:List Addr),Reads s.heap a da as→Reads s.heap b db bs→cmpP n da db=true→da.canLay0=true→db.canLay0=true→da.depth ≤ 8→db.depth ≤ 8→A.units + 16 + n < cLine →
    LtAt A s a b (ltP n da db):=by
  intro n
  induction n with
  | zero =>
    intro da db A s a b as bs ra rb c _ _ _ _ _
    cases ra with
    | int i t=>cases rb with
      | int j u=>exact zhK
      | _=>cases c
    | _=>cases c
  | succ n ih =>
    intro da db A s a b as bs ra rb c la lb ha hb hu
    cases ra with
    | int i t=>cases rb with
      | int j u=>exact zhK
      | _=>cases c
    | tuple a1 a2 a3 a4=>cases rb with
      | tuple b1 b2 b3 b4 =>
        rename_i a0 o0 vs0 n0 xs b0 o1 vs1 n1 ys
        obtain ⟨l1,g1⟩:=zcK a4
        obtain ⟨l2,g2⟩:=zcK b4
        have c':((List.range (min xs.length ys.length)).all fun j=>cmpP n (xs.getD j .none) (ys.getD j .none))=true:=c
        simp only [PyData.canLay0] at la lb
        simp only [PyData.depth] at ha hb
        have i1:A.in1.units=A.units + 1:=Around.in1_units ..
        have get:∀ (j:Nat) (u v:Value),vs0.toList[j]?=some u→vs1.toList[j]?=some v→∃ x y cs ds,xs[j]?=some x∧ys[j]?=some y∧Reads s.heap u x cs∧Reads s.heap v y ds∧cmpP n x y=true:=fun j u v e1 e2=>by
          have j1:=(List.getElem?_eq_some_iff.mp e1).1
          have j2:=(List.getElem?_eq_some_iff.mp e2).1
          rw [l1] at j1
          rw [l2] at j2
          have x1:xs[j]?=some xs[j]:=List.getElem?_eq_getElem j1
          have x2:ys[j]?=some ys[j]:=List.getElem?_eq_getElem j2
          obtain ⟨cs,r1⟩:=g1 j u _ e1 x1
          obtain ⟨ds,r2⟩:=g2 j v _ e2 x2
          have cj:=List.all_eq_true.mp c' j (List.mem_range.mpr (by omega))
          rw [List.getD_eq_getElem?_getD,List.getD_eq_getElem?_getD,x1,x2] at cj
          exact ⟨_,_,cs,ds,x1,x2,r1,r2,cj⟩
        have key:=zin (s:=s) (A:=A) (xs:=vs0.toList) (ys:=vs1.toList) (a:=a0) (b:=b0) (eq:=fun j=>PyData.eqv (xs.getD j .none) (ys.getD j .none)) (lt:=fun j=>ltP n (xs.getD j .none) (ys.getD j .none)) (by omega) ⟨_,a1,a2,_,by simpa using a3⟩ ⟨_,b1,b2,_,by simpa using b3⟩
          (fun j u v e1 e2=>by
            obtain ⟨x,y,cs,ds,x1,x2,r1,r2,cj⟩:=get j u v e1 e2
            have:=SeqAt.eqAt_reads x y A.in1 s u v cs ds r1 r2 (zb8 la x1) (zb8 lb x2) (by have:=zcL x1; have:=zcL x2; omega)
            simpa only [List.getD_eq_getElem?_getD,x1,x2,Option.getD_some] using this)
          (fun j u v e1 e2 _=>by
            obtain ⟨x,y,cs,ds,x1,x2,r1,r2,cj⟩:=get j u v e1 e2
            have:=ih x y A.in1 s u v cs ds r1 r2 cj (zb8 la x1) (zb8 lb x2) (by have:=zcL x1; omega) (by have:=zcL x2; omega) (by omega)
            simpa only [List.getD_eq_getElem?_getD,x1,x2,Option.getD_some] using this)
        rw [l1,l2] at key
        exact key
      | _=>cases c
    | _=>cases c
end L2
namespace PM
open PySem L2
def ltD (x y:D):Bool:=ltP 8 (toPy 8 x) (toPy 8 y)
def minD:List D→D→D
  | [],m=>m
  | t :: l,m=>minD l (if ltD t m=true then t else m)
theorem zgc:∀ (l:List D) (m x:D),minD (l ++ [x]) m=if ltD x (minD l m)=true then x else minD l m
  | [],_,_=>rfl
  | t :: l,m,x=>by
    show minD (l ++ [x]) _=_
    rw [zgc l]
    rfl
def cmpD (l:List D):Bool:=l.all fun x=>zaG 8 x && l.all fun y=>cmpP 8 (toPy 8 x) (toPy 8 y)
theorem zdW (t:D) (ts:List D):∀ k,k ≤ ts.length→(t :: ts).getD (argBest (fun i j=>ltD ((t :: ts).getD i .non) ((t :: ts).getD j .non)) k) .non=minD (ts.take k) t
  | 0,_=>rfl
  | k + 1,h=>by
    have ih:=zdW t ts k (by omega)
    have ex:ts.take (k + 1)=ts.take k ++ [(t :: ts).getD (k + 1) .non]:=by
      rw [List.take_succ,List.getD_cons_succ,List.getD_eq_getElem?_getD,List.getElem?_eq_getElem (by omega)]
      rfl
    rw [ex,zgc,← ih]
    show (t :: ts).getD (if ltD ((t :: ts).getD (k + 1) .non) ((t :: ts).getD (argBest (fun i j=>ltD ((t :: ts).getD i .non) ((t :: ts).getD j .non)) k) .non)=true then k + 1 else argBest (fun i j=>ltD ((t :: ts).getD i .non) ((t :: ts).getD j .non)) k) .non=_
    split <;> rfl
end PM
namespace L2
open PySem PySem.Spec PyProof.Rows PM
section
variable {X:Cx} {ca:Nat→Addr} {an:Nat→Str}
def zmY (K:Kx):List V→Hp→VK→Prop:=fun xs H Q=>∃ (p:Addr) (F:Hp) (vs:List V) (d:D) (l:List D),xs = [.ref p]∧Rd H p (.lst vs)∧Same F H∧RepL K F (d :: l) vs∧cmpD (d :: l)=true ∧
  ∀ (i:Nat) (v:V),vs[i]?=some v→(d :: l).getD i .non=minD l d→Q v H
theorem zjX (hu:X.A.units + 64 < cLine) (hc:X.calm=true):zd4 X (.builtin "min") (zmY ⟨X.K,ca,an⟩):=by
  intro pins s σ H xs us Q I r h
  obtain ⟨p,F,vs,t,ts,rfl,hq,sm,hr,hcm,q⟩:=h
  obtain ⟨u,rfl,rx⟩:=zfY r
  cases rx
  obtain ⟨z,its,n,rv,e⟩:=hq.ok I.hok
  have hl:=hr.length
  have hl2:=rv.length
  have get:∀ (i:Nat) (w:Value),its[i]?=some w→∃ d,(t :: ts)[i]?=some d∧zaG 8 d=true∧∃ as,Reads s.heap w (toPy 8 d) as:=fun i w hw=>by
    have hi:=(List.getElem?_eq_some_iff.mp hw).1
    have hd:(t :: ts)[i]?=some (t :: ts)[i]:=List.getElem?_eq_getElem (by omega)
    obtain ⟨v,hv,rp⟩:=hr.get hd
    obtain ⟨u',hu',ru⟩:=rv.get hv
    rw [hw] at hu'
    cases hu'
    have pl:=List.all_eq_true.mp hcm _ (List.getElem_mem (by omega:i < (t :: ts).length))
    simp only [Bool.and_eq_true] at pl
    exact ⟨_,hd,pl.1,zhP I sm 8 _ v w pl.1 rp ru⟩
  have isl:s.heap.IsList p its.toArray:=⟨_,e,rfl,n,rfl⟩
  have plt:p < s.heap.objs.size:=Heap.lt_size e
  refine ziL (wpAny_pyIter_list isl ?_)
  refine ⟨s.heap.objs.size,[s.heap.objs.size,p] ++ List.range s.heap.objs.size,[s.heap.objs.size],its.toArray.size,_,_,(fun i j=>ltD ((t :: ts).getD i .non) ((t :: ts).getD j .non)),rfl,zje (Walks.list (A:=X.A.in1) (I.ok.hd hc) s.heap.objs.size p (Nat.ne_of_lt plt) its.toArray) (List.range s.heap.objs.size) s.heap ?_,⟨⟨⟨_,Heap.get?_push_size _ rfl,rfl,rfl⟩,isl.push _⟩,fun b _ o eo=>Heap.get?_push_of_some _ eo⟩,?_,?_,?_,?_⟩
  · intro b hb hm
    rw [List.mem_singleton.mp hm] at hb
    exact absurd (List.mem_range.mp hb) (Nat.lt_irrefl _)
  · intro b hb
    show b < (s.heap.push _).objs.size
    rw [Heap.size_push]
    rcases List.mem_append.mp hb with hb | hb
    · rcases List.mem_cons.mp hb with rfl | hb
      · exact Nat.lt_succ_self _
      · rw [List.mem_singleton.mp hb]; exact Nat.lt_succ_of_lt plt
    · exact Nat.lt_succ_of_lt (List.mem_range.mp hb)
  · rw [List.size_toArray,← hl2,hl]; exact Nat.succ_pos _
  · intro k i j vi vj s' Q' E' st hi hj hQ
    have hi':its[i]?=some vi:=by simpa using hi
    have hj':its[j]?=some vj:=by simpa using hj
    obtain ⟨di,e1,p1,as,r1⟩:=get i vi hi'
    obtain ⟨dj,e2,p2,bs,r2⟩:=get j vj hj'
    have kp:∀ b o,s.heap.get? b=some o→s'.heap.get? b=some o:=fun b o eo=>st.2 b (List.mem_range.mpr (Heap.lt_size eo)) o eo
    obtain ⟨l1,m1⟩:=zcS 8 di p1
    obtain ⟨l2,m2⟩:=zcS 8 dj p2
    have cm:cmpP 8 (toPy 8 di) (toPy 8 dj)=true:=by
      have:=List.all_eq_true.mp hcm di (List.mem_of_getElem? e1)
      simp only [Bool.and_eq_true] at this
      exact List.all_eq_true.mp this.2 dj (List.mem_of_getElem? e2)
    have:=zig 8 (toPy 8 di) (toPy 8 dj) X.A.in1 s' vi vj as bs (Reads.keeps kp r1) (Reads.keeps kp r2) cm l1 l2 m1 m2 (by rw [Around.in1_units]; omega)
    refine this _ _ _ _ ?_
    have g1:(t :: ts).getD i .non=di:=by rw [List.getD_eq_getElem?_getD,e1]; rfl
    have g2:(t :: ts).getD j .non=dj:=by rw [List.getD_eq_getElem?_getD,e2]; rfl
    simp only [g1,g2] at hQ
    exact hQ
  · intro v h' tk hP hk
    have hP':its.toArray[argBest (fun i j=>ltD ((t :: ts).getD i .non) ((t :: ts).getD j .non)) (its.toArray.size - 1)]?=some v:=hP
    rw [List.getElem?_toArray,List.size_toArray,← hl2,hl,List.length_cons,Nat.add_sub_cancel] at hP'
    have key:=zdW t ts ts.length (Nat.le_refl _)
    rw [List.take_length] at key
    obtain ⟨di,e1,_⟩:=get _ v hP'
    obtain ⟨x,hx,_⟩:=hr.get e1
    obtain ⟨u',hu',ru⟩:=rv.get hx
    rw [hP'] at hu'
    cases hu'
    refine ⟨x,H,I.kept (t':=tk) (fun b o eo=>hk b o (fun hm=>?_) (Heap.get?_push_of_some _ eo)),ru,q _ x hx key⟩
    rw [List.mem_singleton.mp hm] at eo
    exact absurd (Heap.lt_size eo) (Nat.lt_irrefl _)
end
end L2
namespace PM
open PySem L2
abbrev BP:=Int × List (Int × Int)
def zbr (p:Int × Int):D:=.tup [.int p.1,.int p.2]
def encB (b:BP):D:=.tup [.int b.1,.tup (b.2.map zbr)]
def minB:List BP→BP→BP
  | [],m=>m
  | t :: l,m=>minB l (if ltD (encB t) (encB m)=true then t else m)
theorem zkT:∀ (l:List BP) (m:BP),minD (l.map encB) (encB m)=encB (minB l m)
  | [],_=>rfl
  | t :: l,m=>by
    show minD (l.map encB) (if ltD (encB t) (encB m)=true then encB t else encB m)=encB (minB l (if ltD (encB t) (encB m)=true then t else m))
    rw [← zkT l]
    congr 1
    split <;> rfl
def cutO (rest:List Int) (k:Nat):List Int:=(rest.drop 1).take (k - 1) ++ rest.drop (k + 1)
def bwW (d:Int→Int→Int) (f:List Int→BP) (rest:List Int) (k:Nat):BP:=(d (rest.getD 0 0) (rest.getD k 0) + (f (cutO rest k)).1,(rest.getD 0 0,rest.getD k 0) :: (f (cutO rest k)).2)
def zhl:List BP→BP
  | []=>(0,[])
  | b :: l=>minB l b
def bpF (d:Int→Int→Int):Nat→List Int→BP
  | 0,_=>(0,[])
  | m + 1,rest=>zhl ((List.range (rest.length - 1)).map fun j=>bwW d (bpF d m) rest (j + 1))
def cn:Nat→Nat
  | 0=>0
  | m + 1=>1 + (2 * m + 1) * cn m
def ziS (L:D) (d:Int→Int→Int) (rest:List Int):Prop:=∀ i ∈ rest,∀ j ∈ rest,∃ row,oIxL L (.int i)=some row∧oIxL row (.int j)=some (.int (d i j))
theorem zhN {rest:List Int} {k:Nat}:∀ i ∈ cutO rest k,i ∈ rest:=fun i h=>by
  rcases List.mem_append.mp h with z | z
  · exact List.mem_of_mem_drop (List.mem_of_mem_take z)
  · exact List.mem_of_mem_drop z
theorem zhD {rest:List Int} {k:Nat} (h1:1 ≤ k) (h2:k < rest.length):(cutO rest k).length + 2=rest.length:=by
  simp only [cutO,List.length_append,List.length_take,List.length_drop]; omega
structure KPs (K:Kx) (c:Nat) (d:Int→Int→Int) (L:D) (F H:Hp) (x kp dx:Addr) (lv:V) (kvs:List (List Key × V)):Prop where
  fh:Same F H
  hx:H x=some (.ins (K.ca c) dx [("lengths",lv),("known",.ref kp)])
  hk:H kp=some (.dT kvs)
  fx:F x=none
  fk:F kp=none
  rl:Rep K F L lv
  good:∀ e ∈ kvs,∃ ks:List Int,e.1=ks.map Sum.inl∧Rep K F (encB (bpF d (ks.length / 2) ks)) e.2
  emp:∃ v,valV kvs []=some v
structure Stp (kp:Addr) (F H F' H':Hp):Prop where
  ff:Same F F'
  hh:∀ b o,b ≠ kp→H b=some o→H' b=some o
  nw:∀ b o,F b=none→H b=some o→F' b=none
section
variable {K:Kx} {c:Nat} {d:Int→Int→Int} {L:D} {F H F' H' F'' H'':Hp} {x kp dx:Addr} {lv:V} {kvs:List (List Key × V)}
theorem Stp.of (e:Ext F H F' H'):Stp kp F H F' H':=⟨e.ff,fun b o _ h=>e.hh b o h,e.nw⟩
theorem Stp.trans (a:Stp kp F H F' H') (b:Stp kp F' H' F'' H'') (hk:F'' kp=none):Stp kp F H F'' H'' :=
  ⟨a.ff.trans b.ff,fun c o n h=>b.hh c o n (a.hh c o n h),fun c o h1 h2=>by
    by_cases e:c=kp
    · rw [e]; exact hk
    · exact b.nw c o (a.nw c o h1 h2) (a.hh c o e h2)⟩
theorem KPs.ext (k:KPs K c d L F H x kp dx lv kvs) (e:Ext F H F' H'):KPs K c d L F' H' x kp dx lv kvs :=
  ⟨e.fh,e.hh _ _ k.hx,e.hh _ _ k.hk,e.nw _ _ k.fx k.hx,e.nw _ _ k.fk k.hk,Rep.mono e.ff _ k.rl,fun p hp=>let ⟨ks,h1,h2⟩:=k.good p hp; ⟨ks,h1,Rep.mono e.ff _ h2⟩,k.emp⟩
theorem ziY {σ:L2.St} {δ:En} (s:Same F H) (hl:σ.length=δ.length) (hs:∀ (i:Nat) (t:Sl),δ[i]?=some t→t = .no∨∃ dd u,t = .v dd∧σ[i]?=some (some u)∧Rep K F dd u):EnvOk K [] F H F H σ δ:=by
  have no:∀ i:Nat,Sl.own δ[i]?=false:=fun i=>by
    cases q:δ[i]? with
    | none=>rfl
    | some t=>rcases hs i t q with rfl | ⟨dd,u,rfl,_⟩ <;> rfl
  refine ⟨.refl s,hl,fun i=>?_,fun i j a _ h1 _ _ _=>(by rw [no i] at h1; cases h1),fun y hy=>(by cases hy),fun i T h1=>(by have:=no i; rw [h1] at this; cases this)⟩
  cases q:δ[i]? with
  | none=>trivial
  | some t =>
    rcases hs i t q with rfl | ⟨dd,u,rfl,e1,e2⟩
    · trivial
    · exact ⟨u,e1,e2⟩
end
variable (K:Kx) (c:Nat) (d:Int→Int→Int) (L:D) in
def spKB (m:Nat):Sp:=fun vs H Q _=>∃ (x kp dx r:Addr) (lv:V) (F:Hp) (kvs:List (List Key × V)) (rest:List Int),vs = [.ref x,.ref r]∧KPs K c d L F H x kp dx lv kvs∧Rep K F (.tup (rest.map .int)) (.ref r)∧rest.length=2 * m∧ziS L d rest∧kvs.length + cn m ≤ 100000 ∧
  ∀ (v:V) (F' H':Hp) (kvs':List (List Key × V)),Stp kp F H F' H'→KPs K c d L F' H' x kp dx lv kvs'→kvs'.length ≤ kvs.length + cn m→Rep K F' (encB (bpF d m rest)) v→Q v H'
variable (K:Kx) (c:Nat) (d:Int→Int→Int) (L:D) in
def spKW (m:Nat):Sp:=fun vs H Q _=>∃ (x kp dx r:Addr) (lv:V) (F:Hp) (kvs:List (List Key × V)) (rest:List Int) (k:Nat),vs = [.ref x,.ref r,.int k]∧KPs K c d L F H x kp dx lv kvs∧Rep K F (.tup (rest.map .int)) (.ref r)∧rest.length=2 * (m + 1)∧ziS L d rest∧1 ≤ k∧k < rest.length∧kvs.length + cn m ≤ 100000 ∧
  ∀ (v:V) (F' H':Hp) (kvs':List (List Key × V)),Stp kp F H F' H'→KPs K c d L F' H' x kp dx lv kvs'→kvs'.length ≤ kvs.length + cn m→Rep K F' (encB (bwW d (bpF d m) rest k)) v→Q v H'
section
variable {K:Kx} {XO:XOT} {E:L2.St→XK}
def mSlT (me:En→R D) (ml mh:En→R (Option Int)) (δ:En):R D:=(me δ).bind fun d=>(ml δ).bind fun lo=>(mh δ).bind fun hi=>(R.of (asT d)).bind fun l=>ifC (HT.sIx l.length 0 lo=0∧HT.sIx l.length l.length hi=l.length) .no (.ok (.tup (cutD l lo hi)))
theorem zf3 {te:TE} {me:En→R D} {tl th:TO} {ml mh:En→R (Option Int)} (h:SEr K XO E te me) (hl:SO K XO E tl ml) (hh:SO K XO E th mh):SE K XO E (tSl (rSlT K.f) te tl th) (mSlT me ml mh):=by
  intro Λ F0 H0 F H σ δ Q I a
  refine h Λ F0 H0 F H σ δ _ I (a.bind.imp fun d F1 H1 e1 a1 v r=>?_)
  refine hl Λ F0 H0 F1 H1 σ δ _ (I.grow e1) (a1.bind.imp fun lo F2 H2 e2 a2=>?_)
  refine hh Λ F0 H0 F2 H2 σ δ _ ((I.grow e1).grow e2) (a2.bind.imp fun hi F3 H3 e3 a3=>?_)
  cases d with
  | tup l =>
    have r':Rep K F1 (.tup l) v:=r
    simp only [Rep] at r'
    obtain ⟨p,vs,rfl,h1,h2⟩:=r'
    change Aft E XO σ F3 H3 _ (ifC _ _ _) at a3
    unfold ifC at a3
    split at a3
    · exact a3.elim
    · rename_i hn
      have ln:=h2.length
      refine ⟨p,vs,rfl,.inl (.inl (e3.hh _ _ (e2.hh _ _ (e1.fh _ _ h1)))),by rw [ln]; exact hn,fun q hq=>?_⟩
      refine a3 _ _ (.new e3.fh hq) (.ref q) ?_
      simp only [Rep]
      refine ⟨q,_,rfl,zah,?_⟩
      have h3:=(h2.mono (e2.ff.trans e3.ff)).mono (show Same F3 (upd F3 q (.tup (cutV vs lo hi))) from Same.upd (e3.fh.free hq))
      generalize upd F3 q (.tup (cutV vs lo hi))=G at h3 ⊢
      unfold cutV cutD
      rw [ln]
      exact (h3.drop _).take _
  | _=>exact a3.elim
end
end PM
namespace PM
open PySem L2
section
variable {K:Kx} {c m:Nat} {d:Int→Int→Int} {L:D} {E:XK}
def tsBW (K:Kx) (c:Nat) (sp:Sp) (E:XK):TS :=
  tSeq (tAsg (zjc (K.ca c) "best" sp [] E (tVar 0) (zbf (tOp (zj3 K.f) (tSl (rSlT K.f) (tVar 1) (ziK (tC (.int 1))) (ziK (tVar 2))) (tSl (rSlT K.f) (tVar 1) (ziK (tOp (rI0 fun i j=>.int (i + j)) (tVar 2) (tC (.int 1)))) zhi)) tNil)) (zdE 3))
  (tSeq (tAsg (tTup (zbf (tOp (rIxT K.f) (tVar 1) (tC (.int 0))) (zbf (tOp (rIxT K.f) (tVar 1) (tVar 2)) tNil))) (zdE 4))
  (tRet (tTup (zbf (tOp (rI0 fun i j=>.int (i + j)) (tOp (rIxL K.f) (tOp (rIxL K.f) (tFld K.f (tVar 0) "lengths") (tOp (rIxT K.f) (tVar 4) (tC (.int 0)))) (tOp (rIxT K.f) (tVar 4) (tC (.int 1)))) (tOp (rIxT K.f) (tVar 3) (tC (.int 0))))
    (zbf (tOp (zj3 K.f) (tTup (zbf (tVar 4) tNil)) (tOp (rIxT K.f) (tVar 3) (tC (.int 1)))) tNil)))))
abbrev XOn:XOT:=fun _ _ _ _ _=>False
abbrev En0:L2.St→XK:=fun _ _ _ _=>False
theorem ziT (n z k:Nat) (h:k ≤ n):HT.sIx n z (some (k:Int))=k:=by
  show (if (k:Int) < 0 then ((k:Int) + (n:Int)).toNat else min (k:Int).toNat n)=k
  rw [if_neg (by omega)]; omega
theorem zkx {rest:List Int} {k:Nat} (h1:1 ≤ k) (h2:k < rest.length) (h3:rest.length ≤ 1000) {s0 s3 s4:Sl} :
    m2 zid (mSlT (mRd 1) (zfA (mC (.int 1))) (zfA (mVar 2))) (mSlT (mRd 1) (zfA (m2 oAdd (mRd 2) (mC (.int 1)))) mNoP) [s0,.v (.tup (rest.map .int)),.v (.int k),s3,s4] = .ok (.tup ((cutO rest k).map .int)):=by
  have a1:mSlT (mRd 1) (zfA (mC (.int 1))) (zfA (mVar 2)) [s0,.v (.tup (rest.map .int)),.v (.int k),s3,s4] = .ok (.tup (((rest.drop 1).take (k - 1)).map .int)):=by
    have e1:=ziT (rest.map D.int).length 0 1 (by rw [List.length_map]; omega)
    have e2:=ziT (rest.map D.int).length (rest.map D.int).length k (by rw [List.length_map]; omega)
    have e1':HT.sIx (rest.map D.int).length 0 (some 1)=1:=e1
    simp only [mSlT,mRd,zfA,mC,mVar,List.getElem?_cons_succ,List.getElem?_cons_zero,R.bind_ok,zm8,zm5,R.of_some]
    rw [e1',e2,ifC,if_neg (by omega)]
    unfold cutD
    rw [e1',e2,List.map_take,List.map_drop]
  have a2:mSlT (mRd 1) (zfA (m2 oAdd (mRd 2) (mC (.int 1)))) mNoP [s0,.v (.tup (rest.map .int)),.v (.int k),s3,s4] = .ok (.tup ((rest.drop (k + 1)).map .int)):=by
    have e1:=ziT (rest.map D.int).length 0 (k + 1) (by rw [List.length_map]; omega)
    have e1':HT.sIx (rest.map D.int).length 0 (some ((k:Int) + 1))=k + 1:=e1
    have e2:HT.sIx (rest.map D.int).length (rest.map D.int).length none=(rest.map D.int).length:=rfl
    simp only [mSlT,mRd,zfA,mC,mNoP,zc5,List.getElem?_cons_succ,List.getElem?_cons_zero,R.bind_ok,zk1,zm8,zm5,R.of_some]
    rw [e1',ifC,if_neg (by omega)]
    unfold cutD
    rw [e1',e2,List.map_drop,List.take_of_length_le (by simp)]
  simp only [zc5,a1,a2,R.bind_ok]
  have e:zid (.tup (((rest.drop 1).take (k - 1)).map .int)) (.tup ((rest.drop (k + 1)).map .int))=some (.tup ((cutO rest k).map .int)):=by
    show ifC _ _ _=_
    rw [zaU (by simp only [List.length_map,List.length_take,List.length_drop,sizeLine_eq]; omega),cutO,List.map_append]
  rw [e,R.of_some]
theorem zfD:∀ (l:List BP) (m:BP),minB l m ∈ m :: l
  | [],m=>by simp [minB]
  | t :: l,m=>by
    unfold minB
    have:=zfD l (if ltD (encB t) (encB m)=true then t else m)
    split at this <;> simp only [List.mem_cons] at this ⊢ <;> grind
theorem zgV (d:Int→Int→Int):∀ (m:Nat) (rest:List Int),(bpF d m rest).2.length ≤ m
  | 0,_=>by simp [bpF]
  | m + 1,rest=>by
    have key:∀ b ∈ (List.range (rest.length - 1)).map fun j=>bwW d (bpF d m) rest (j + 1),b.2.length ≤ m + 1:=fun b hb=>by
      obtain ⟨j,_,rfl⟩:=List.mem_map.mp hb
      simp only [bwW,List.length_cons]
      have:=zgV d m (cutO rest (j + 1))
      omega
    unfold bpF
    cases q:(List.range (rest.length - 1)).map fun j=>bwW d (bpF d m) rest (j + 1) with
    | nil=>simp [zhl]
    | cons b l =>
      rw [q] at key
      exact key _ (zfD l b)
theorem znt (hC:Cls K.f (K.ca c)) (hL:NoAttr K.f (K.ca c) "lengths") {vs:List V} {H:Hp} {Q:VK} {E E':XK} (hm:m ≤ 6) (h:spKW K c d L m vs H Q E):tsBW K c (spKB K c d L m) E' { nx:=fun _ H'=>Q .non H',rt:=Q } (L2.start ["self","rest","k","others","pair"] vs) H:=by
  obtain ⟨x,kp,dx,r,lv,F,kvs,rest,k,rfl,hK,hr,hl,ht,k1,k2,hn,fin⟩:=h
  have st:L2.start ["self","rest","k","others","pair"] [V.ref x,.ref r,.int k] = [some (.ref x),some (.ref r),some (.int k),none,none]:=rfl
  rw [st]
  refine ⟨.ref x,rfl,x,dx,_,rfl,hK.hx,rfl,?_⟩
  have I1:EnvOk K [] F H F H [some (.ref x),some (.ref r),some (.int k),none,none] [.no,.v (.tup (rest.map .int)),.v (.int k),.no,.no]:=ziY hK.fh rfl fun i t q=>by
    match i,q with
    | 0,q=>cases q; exact .inl rfl
    | 1,q=>cases q; exact .inr ⟨_,_,rfl,rfl,hr⟩
    | 2,q=>cases q; exact .inr ⟨_,_,rfl,rfl,by simp only [Rep]⟩
    | 3,q=>cases q; exact .inl rfl
    | 4,q=>cases q; exact .inl rfl
    | n + 5,q=>cases q
  refine zaj (XO:=XOn) (E:=En0) (ziW (K:=K)) (zf3 zac (zhh se_int) (zhh zam)).r (zf3 zac (zhh (zaj za8 zac se_int.r)) znz).r [] F H F H _ _ _ I1 ?_
  rw [zkx k1 k2 (by omega)]
  intro F1 H1 e1 v1 r1
  have r1':=r1
  simp only [Rep] at r1'
  obtain ⟨r0,ws,rfl,_,_⟩:=r1'
  have cl:=zhD k1 k2
  refine ⟨x,kp,dx,r0,lv,F1,kvs,cutO rest k,rfl,hK.ext e1,r1,by omega,fun i hi j hj=>ht i (zhN i hi) j (zhN j hj),hn,fun v2 F2 H2 kvs2 s2 K2 hl2 rv2=>?_⟩
  have g0:rest[0]?=some (rest.getD 0 0):=by rw [List.getD_eq_getElem?_getD,List.getElem?_eq_getElem (by omega)]; rfl
  have gk:rest[k]?=some (rest.getD k 0):=by rw [List.getD_eq_getElem?_getD,List.getElem?_eq_getElem k2]; rfl
  obtain ⟨p0,hp0⟩:∃ p0,p0=rest.getD 0 0:=⟨_,rfl⟩
  obtain ⟨pk,hpk⟩:∃ pk,pk=rest.getD k 0:=⟨_,rfl⟩
  rw [← hp0] at g0
  rw [← hpk] at gk
  obtain ⟨ob,hob⟩:∃ ob,ob=bpF d m (cutO rest k):=⟨_,rfl⟩
  rw [← hob] at rv2
  have ff2:=e1.ff.trans s2.ff
  have I2:EnvOk K [] F2 H2 F2 H2 [some (.ref x),some (.ref r),some (.int k),some v2,none] [.no,.v (.tup (rest.map .int)),.v (.int k),.v (encB ob),.no]:=ziY K2.fh rfl fun i t q=>by
    match i,q with
    | 0,q=>cases q; exact .inl rfl
    | 1,q=>cases q; exact .inr ⟨_,_,rfl,rfl,Rep.mono ff2 _ hr⟩
    | 2,q=>cases q; exact .inr ⟨_,_,rfl,rfl,by simp only [Rep]⟩
    | 3,q=>cases q; exact .inr ⟨_,_,rfl,rfl,rv2⟩
    | 4,q=>cases q; exact .inl rfl
    | n + 5,q=>cases q
  dsimp only [zdE,tSeq,tAsg,List.set_cons_succ,List.set_cons_zero]
  refine zfc (XO:=XOn) (E:=En0) (zad (zaj zbJ zac se_int.r) (zad (zaj zbJ zac zac) zav)) [] F2 H2 F2 H2 _ _ _ I2 ?_
  have pe:mTup (zab (m2 oIxT (mRd 1) (mC (.int 0))) (zab (m2 oIxT (mRd 1) (mRd 2)) mNil)) [.no,.v (.tup (rest.map .int)),.v (.int k),.v (encB ob),.no] = .ok (zbr (p0,pk)):=by
    have i0:oIxT (.tup (rest.map .int)) (.int 0)=some (.int p0):=atI_nat (k:=0) (by rw [List.getElem?_map,g0]; rfl)
    have i1:oIxT (.tup (rest.map .int)) (.int k)=some (.int pk):=atI_nat (by rw [List.getElem?_map,gk]; rfl)
    simp [mTup,zab,mNil,mRd,mC,i0,i1,sizeLine,zbr]
  rw [pe]
  intro F3 H3 e3 v4 r4
  have K3:=K2.ext e3
  have I3:EnvOk K [] F3 H3 F3 H3 [some (.ref x),some (.ref r),some (.int k),some v2,some v4] [.no,.v (.tup (rest.map .int)),.v (.int k),.v (encB ob),.v (zbr (p0,pk))]:=ziY K3.fh rfl fun i t q=>by
    match i,q with
    | 0,q=>cases q; exact .inl rfl
    | 1,q=>cases q; exact .inr ⟨_,_,rfl,rfl,Rep.mono (ff2.trans e3.ff) _ hr⟩
    | 2,q=>cases q; exact .inr ⟨_,_,rfl,rfl,by simp only [Rep]⟩
    | 3,q=>cases q; exact .inr ⟨_,_,rfl,rfl,Rep.mono e3.ff _ rv2⟩
    | 4,q=>cases q; exact .inr ⟨_,_,rfl,rfl,r4⟩
    | n + 5,q=>cases q
  obtain ⟨row,rw1,rw2⟩:=ht p0 (List.mem_of_getElem? g0) pk (List.mem_of_getElem? gk)
  refine ⟨.ref x,rfl,x,_,dx,_,lv,rfl,K3.hx,hC,hL,rfl,?_⟩
  refine zaj (XO:=XOn) (E:=En0) zbJ zac se_int.r [] F3 H3 F3 H3 _ _ _ I3 ?_
  have v40:m2 oIxT (mRd 4) (mC (.int 0)) [.no,.v (.tup (rest.map .int)),.v (.int k),.v (encB ob),.v (zbr (p0,pk))] = .ok (.int p0):=rfl
  have v41:m2 oIxT (mRd 4) (mC (.int 1)) [.no,.v (.tup (rest.map .int)),.v (.int k),.v (encB ob),.v (zbr (p0,pk))] = .ok (.int pk):=rfl
  have v30:m2 oIxT (mRd 3) (mC (.int 0)) [.no,.v (.tup (rest.map .int)),.v (.int k),.v (encB ob),.v (zbr (p0,pk))] = .ok (.int ob.1):=rfl
  rw [v40]
  intro F4 H4 e4 u4 w4
  refine zaV F4 H4 lv u4 L (.int p0) row _ e4.fh ((Rep.mono e4.ff _ K3.rl).top e4.fh) (w4.top e4.fh) rw1 fun u5 F5 H5 e5 w5=>?_
  refine zaj (XO:=XOn) (E:=En0) zbJ zac se_int.r [] F3 H3 F5 H5 _ _ _ (I3.grow (e4.trans e5)) ?_
  rw [v41]
  intro F6 H6 e6 u6 w6
  refine zaV F6 H6 u5 u6 row (.int pk) (.int (d p0 pk)) _ e6.fh ((Rep.mono e6.ff _ w5).top e6.fh) (w6.top e6.fh) rw2 fun u7 F7 H7 e7 w7=>?_
  refine zaj (XO:=XOn) (E:=En0) zbJ zac se_int.r [] F3 H3 F7 H7 _ _ _ (I3.grow (((e4.trans e5).trans e6).trans e7)) ?_
  rw [v30]
  intro F8 H8 e8 u8 w8
  simp only [Rep] at w7 w8
  subst w7 w8
  refine ⟨d p0 pk,ob.1,rfl,rfl,?_⟩
  have e38:=(((e4.trans e5).trans e6).trans e7).trans e8
  refine zaj (XO:=XOn) (E:=En0) (ziW (K:=K)) (zfc (zad zam zav)).r (zaj zbJ zac se_int.r).r [] F3 H3 F8 H8 _ _ _ (I3.grow e38) ?_
  have ol:ob.2.length ≤ m:=by rw [hob]; exact zgV ..
  have vc:m2 zid (mTup (zab (mVar 4) mNil)) (m2 oIxT (mRd 3) (mC (.int 1))) [.no,.v (.tup (rest.map .int)),.v (.int k),.v (encB ob),.v (zbr (p0,pk))] = .ok (.tup (((p0,pk) :: ob.2).map zbr)):=by
    have t4:mTup (zab (mVar 4) mNil) [.no,.v (.tup (rest.map .int)),.v (.int k),.v (encB ob),.v (zbr (p0,pk))] = .ok (.tup [zbr (p0,pk)]):=by simp [mTup,zab,mNil,mVar,sizeLine]
    have t3:m2 oIxT (mRd 3) (mC (.int 1)) [.no,.v (.tup (rest.map .int)),.v (.int k),.v (encB ob),.v (zbr (p0,pk))] = .ok (.tup (ob.2.map zbr)):=rfl
    have e:zid (.tup [zbr (p0,pk)]) (.tup (ob.2.map zbr))=some (.tup (((p0,pk) :: ob.2).map zbr)):=by
      show ifC _ _ _=_
      rw [zaU (by simp only [List.length_map,List.length_cons,List.length_nil,sizeLine_eq]; omega)]; rfl
    show R.bind (mTup (zab (mVar 4) mNil) _) _=_
    rw [t4,R.bind_ok]
    show R.bind (m2 oIxT (mRd 3) (mC (.int 1)) _) _=_
    rw [t3,R.bind_ok,e,R.of_some]
  rw [vc]
  intro F9 H9 e9 u9 w9
  refine ⟨by show 2 ≤ sizeLine; decide,fun p hp=>?_⟩
  have e39:=e38.trans e9
  have x9:Ext F9 H9 (upd F9 p (.tup [.int (d p0 pk + ob.1),u9])) (upd H9 p (.tup [.int (d p0 pk + ob.1),u9])):=.new e9.fh hp
  have K9:=(K3.ext e39).ext x9
  refine fin (.ref p) _ _ kvs2 ((((Stp.of e1).trans s2 K2.fk).trans (Stp.of (e3.trans e39)) (K3.ext e39).fk).trans (Stp.of x9) K9.fk) K9 hl2 ?_
  have eb:bwW d (bpF d m) rest k=(d p0 pk + ob.1,(p0,pk) :: ob.2):=by unfold bwW; rw [← hp0,← hpk,← hob]
  rw [eb]
  unfold encB
  simp only [Rep]
  refine ⟨p,_,rfl,zah,.cons (by simp only [Rep]) (.cons (Rep.mono x9.ff _ w9) .nil)⟩
end
end PM
namespace PM
open PySem L2
section
variable {K:Kx} {c m:Nat} {d:Int→Int→Int} {L:D}
def tsB0 (K:Kx):TS:=tSeq (tIfS (tB (zgI (tVar 1) (tFld K.f (tVar 0) "known"))) zhR zku) (tRet (zj7 (tFld K.f (tVar 0) "known") (tVar 1)))
def teC (K:Kx) (c:Nat) (sp:Sp) (E:XK):TE:=zha (zmG (zbf (tC (.int 1)) (zbf (tCB (fun xs H Q=>∃ p ys,xs = [.ref p]∧(SqL K.f H p ys∨SqT K.f H p ys)∧Q (.int ys.length) H) (zbf (tVar 1) tNil)) tNil))) [0,1] 1 (zdE 2) none (zjc (K.ca c) "best_with" sp [] E (tVar 0) (zbf (tVar 1) (zbf (tVar 2) tNil)))
def tsB (K:Kx) (c:Nat) (sp:Sp) (E:XK):TS:=tSeq (tIfS (tB (zgI (tVar 1) (tFld K.f (tVar 0) "known"))) (zlR (tFld K.f (tVar 0) "known") (tVar 1) (tCB (zmY K) (zbf (teC K c sp E) tNil))) zku) (tRet (zj7 (tFld K.f (tVar 0) "known") (tVar 1)))
theorem zkp {kvs:List (List Key × V)} {k:List Key} {v:V} (h:valV kvs k=some v):∃ e ∈ kvs,e.1=k∧e.2=v:=by
  unfold valV at h
  obtain ⟨e,h1,h2⟩:=Option.map_eq_some_iff.mp h
  have h3:=List.find?_some h1
  exact ⟨e,List.mem_of_find?_eq_some h1,by simpa using h3,h2⟩
theorem zkK {kvs:List (List Key × V)} {k:List Key} {v:V} {e:List Key × V} (h:e ∈ putK kvs k v):e ∈ kvs∨e=(k,v):=by
  unfold putK at h
  split at h
  · obtain ⟨a,h1,rfl⟩:=List.mem_map.mp h
    split
    · rename_i z; exact .inr (by rw [z])
    · exact .inl h1
  · rcases List.mem_append.mp h with z | z
    · exact .inl z
    · exact .inr (List.mem_singleton.mp z)
theorem zl0 {a b:List Int} (h:a.map (Sum.inl:Int→Key)=b.map Sum.inl):a=b:=by
  induction a generalizing b with
  | nil=>cases b with
    | nil=>rfl
    | cons _ _=>cases h
  | cons x a ih=>cases b with
    | nil=>cases h
    | cons y b =>
      simp only [List.map_cons,List.cons.injEq] at h
      obtain ⟨h1,h2⟩:=h
      cases h1
      rw [ih h2]
theorem zjW {F H:Hp} {rest:List Int} {r:Addr} (s:Same F H) (h:Rep K F (.tup (rest.map .int)) (.ref r)):H r=some (.tup ((rest.map (Sum.inl:Int→Key)).map kV)):=by
  simp only [Rep] at h
  obtain ⟨a,vs,e,h1,h2⟩:=h
  cases e
  rw [zcJ h2] at h1
  rw [s _ _ h1,List.map_map]; rfl
theorem zfh {F H:Hp} {x kp dx:Addr} {lv v:V} {kvs:List (List Key × V)} {rest:List Int} (k:KPs K c d L F H x kp dx lv kvs) (hl:rest.length=2 * m) (h:valV kvs (rest.map Sum.inl)=some v):Rep K F (encB (bpF d m rest)) v:=by
  obtain ⟨e,h1,h2,h3⟩:=zkp h
  obtain ⟨ks,h4,h5⟩:=k.good e h1
  have:ks=rest:=zl0 (h4.symm.trans h2)
  subst this
  rw [show ks.length / 2=m by omega,h3] at h5
  exact h5
theorem KPs.side {F H:Hp} {x kp dx:Addr} {lv:V} {kvs:List (List Key × V)} (k:KPs K c d L F H x kp dx lv kvs) {p:Addr} {o:HO} (hf:F p=none) (nx:p ≠ x) (nk:p ≠ kp):KPs K c d L F (upd H p o) x kp dx lv kvs :=
  ⟨fun b u q=>by rw [zaf (zan q hf)]; exact k.fh _ _ q,by rw [zaf (Ne.symm nx)]; exact k.hx,by rw [zaf (Ne.symm nk)]; exact k.hk,k.fx,k.fk,k.rl,k.good,k.emp⟩
theorem znD (hC:Cls K.f (K.ca c)) (hN:NoAttr K.f (K.ca c) "known") {vs:List V} {H:Hp} {Q:VK} {E:XK} (h:spKB K c d L 0 vs H Q E):tsB0 K { nx:=fun _ H'=>Q .non H',rt:=Q } (L2.start ["self","rest"] vs) H:=by
  obtain ⟨x,kp,dx,r,lv,F,kvs,rest,rfl,hK,hr,hl,ht,hn,fin⟩:=h
  have e0:rest = []:=List.length_eq_zero_iff.mp (by omega)
  subst e0
  obtain ⟨v,hv⟩:=hK.emp
  have hk:=zjW hK.fh hr
  have g:=DGet.t (k:=[]) hK.hk hk
  rw [hv] at g
  refine ⟨.ref r,rfl,.ref x,rfl,x,_,dx,_,.ref kp,rfl,hK.hx,hC,hN,rfl,kp,_,rfl,g,false,rfl,?_⟩
  show (if false=true then _ else _)
  rw [if_neg Bool.false_ne_true]
  refine ⟨.ref x,rfl,x,_,dx,_,.ref kp,rfl,hK.hx,hC,hN,rfl,.ref r,rfl,kp,v,rfl,g,?_⟩
  exact fin v F H kvs ⟨.refl _,fun _ _ _ h=>h,fun _ _ h _=>h⟩ hK (by omega) (zfh (m:=0) hK (rest:=[]) rfl hv)
theorem znu (a b:BP):cmpP 8 (toPy 8 (encB a)) (toPy 8 (encB b))=true:=by
  have pr:∀ p q:Int × Int,cmpP 6 (toPy 6 (zbr p)) (toPy 6 (zbr q))=true:=fun p q=>rfl
  have e:∀ a:BP,toPy 8 (encB a) = .tuple [.int a.1,.tuple ((a.2.map zbr).map (toPy 6))]:=fun a=>rfl
  rw [e,e]
  show ((List.range 2).all _)=true
  rw [List.all_eq_true]
  intro j hj
  have hj':=List.mem_range.mp hj
  match j,hj' with
  | 0,_=>rfl
  | 1,_ =>
    show ((List.range (min ((a.2.map zbr).map (toPy 6)).length ((b.2.map zbr).map (toPy 6)).length)).all _)=true
    rw [List.all_eq_true]
    intro i hi
    have hi':=List.mem_range.mp hi
    simp only [List.length_map] at hi'
    have g:∀ (l:List (Int × Int)),i < l.length→((l.map zbr).map (toPy 6)).getD i .none=toPy 6 (zbr (l.getD i (0,0))):=fun l h=>by
      rw [List.getD_eq_getElem?_getD,List.getElem?_map,List.getElem?_map,List.getD_eq_getElem?_getD,List.getElem?_eq_getElem h]; rfl
    rw [g a.2 (by omega),g b.2 (by omega)]
    exact pr _ _
theorem zlU (b:BP):zaG 8 (encB b)=true:=by
  show ([D.int b.1,.tup (b.2.map zbr)]).all (zaG 7)=true
  simp only [List.all_cons,List.all_nil,Bool.and_true]
  show (true && (b.2.map zbr).all (zaG 6))=true
  rw [Bool.true_and,List.all_map,List.all_eq_true]
  intro x _; rfl
theorem zmS (l:List BP):cmpD (l.map encB)=true:=by
  unfold cmpD
  rw [List.all_eq_true]
  intro x hx
  obtain ⟨a,_,rfl⟩:=List.mem_map.mp hx
  rw [Bool.and_eq_true]
  refine ⟨zlU a,?_⟩
  rw [List.all_eq_true]
  intro y hy
  obtain ⟨b,_,rfl⟩:=List.mem_map.mp hy
  exact znu a b
theorem b_ok (hC:Cls K.f (K.ca c)) (hN:NoAttr K.f (K.ca c) "known") {vs:List V} {H:Hp} {Q:VK} {E E':XK} (hm:m ≤ 6) (h:spKB K c d L (m + 1) vs H Q E):tsB K c (spKW K c d L m) E' { nx:=fun _ H'=>Q .non H',rt:=Q } (L2.start ["self","rest"] vs) H:=by
  obtain ⟨x,kp,dx,r,lv,F,kvs,rest,rfl,hK,hr,hl,ht,hn,fin⟩:=h
  have hk:=zjW hK.fh hr
  have g:=DGet.t (k:=rest.map Sum.inl) hK.hk hk
  refine ⟨.ref r,rfl,.ref x,rfl,x,_,dx,_,.ref kp,rfl,hK.hx,hC,hN,rfl,kp,_,rfl,g,_,rfl,?_⟩
  cases q:valV kvs (rest.map Sum.inl) with
  | some v =>
    rw [q] at g
    show (if false=true then _ else _)
    rw [if_neg Bool.false_ne_true]
    refine ⟨.ref x,rfl,x,_,dx,_,.ref kp,rfl,hK.hx,hC,hN,rfl,.ref r,rfl,kp,v,rfl,g,?_⟩
    exact fin v F H kvs ⟨.refl _,fun _ _ _ h=>h,fun _ _ h _=>h⟩ hK (by omega) (zfh hK hl q)
  | none =>
    show (if true=true then _ else _)
    rw [if_pos rfl]
    obtain ⟨n,hnn⟩:∃ n,n=2 * m + 1:=⟨_,rfl⟩
    have hr':=hr
    simp only [Rep] at hr'
    obtain ⟨r0,ws,er,hr1,hr2⟩:=hr'
    cases er
    have wl:=hr2.length
    rw [List.length_map] at wl
    have cn1:cn (m + 1)=1 + n * cn m:=by rw [hnn]; rfl
    refine ⟨.ref r,rfl,r,ws,rfl,.inr (.inl (.inl (hK.fh _ _ hr1))),1,_,rfl,⟨by decide,by decide,by rw [wl]; omega,by rw [wl]; omega⟩,fun D hD=>?_⟩
    have nn:((ws.length:Int) - 1).toNat=n:=by rw [wl]; omega
    rw [nn]
    have Dx:D ≠ x:=fun e=>by rw [e,hK.hx] at hD; cases hD
    have Dk:D ≠ kp:=fun e=>by rw [e,hK.hk] at hD; cases hD
    refine ⟨fun i mm ys σ2 H2=>∃ (o:Option V) (F2:Hp) (kvs2:List (List Key × V)),σ2 = [some (.ref x),some (.ref r),o]∧H2 D=some (.lst ys)∧F2 D=none∧KPs K c d L F2 H2 x kp dx lv kvs2∧Stp kp F H F2 H2∧RepL K F2 ((List.range i).map fun j=>encB (bwW d (bpF d m) rest (j + 1))) ys∧kvs2.length ≤ kvs.length + i * cn m∧i ≤ n∧mm=n - i,
      ⟨n,none,F,kvs,rfl,zah,hK.fh.free hD,hK.side (hK.fh.free hD) Dx Dk,⟨.refl _,fun b u _ q=>by rw [zaf (zan q hD)]; exact q,fun _ _ h _=>h⟩,.nil,by omega,by omega,rfl⟩,?_⟩
    rintro i mm ys σ2 H2 ⟨o,F2,kvs2,rfl,hD2,fD2,K2,S2,R2,l2,i2,rfl⟩
    refine ⟨hD2,?_⟩
    rcases Nat.lt_or_ge i n with hi | hi
    · refine .inr ⟨hi,fun ys' σ' H'=>∃ (o:Option V) (F2:Hp) (kvs2:List (List Key × V)),σ' = [some (.ref x),some (.ref r),o]∧H' D=some (.lst ys')∧F2 D=none∧KPs K c d L F2 H' x kp dx lv kvs2∧Stp kp F H F2 H'∧RepL K F2 ((List.range (i + 1)).map fun j=>encB (bwW d (bpF d m) rest (j + 1))) ys'∧kvs2.length ≤ kvs.length + (i + 1) * cn m,
        fun ys' σ' H' ⟨o',F',kvs',w1,w2,w3,w4,w5,w6,w7⟩=>⟨n - (i + 1),by omega,o',F',kvs',w1,w2,w3,w4,w5,w6,w7,hi,rfl⟩,?_⟩
      rintro y H' ⟨rfl,rfl⟩
      dsimp only [zdE,zhC,List.set_cons_succ,List.set_cons_zero]
      rw [if_pos rfl]
      have rr:Rep K F2 (.tup (rest.map .int)) (.ref r):=Rep.mono S2.ff _ hr
      have mul:(i + 1) * cn m=i * cn m + cn m:=by rw [Nat.add_mul,Nat.one_mul]
      have mle:i * cn m + cn m ≤ n * cn m:=by rw [← mul]; exact Nat.mul_le_mul_right _ (by omega)
      refine ⟨.ref x,rfl,x,dx,_,rfl,K2.hx,rfl,.ref r,rfl,.int (1 + i),rfl,x,kp,dx,r,lv,F2,kvs2,rest,i + 1,?_,K2,rr,hl,ht,by omega,by omega,by omega,fun v F3 H3 kvs3 s3 K3 l3 r3=>?_⟩
      · show [V.ref x,.ref r,.int (1 + (i:Int))]=_
        rw [show (1:Int) + (i:Int)=((i + 1:Nat):Int) by omega]
      · have hD3:=s3.hh D _ Dk hD2
        have fD3:=s3.nw D _ fD2 hD2
        have yl:=R2.length
        rw [List.length_map,List.length_range] at yl
        refine ⟨hD3,by rw [yl,sizeLine_eq]; omega,some (.int (1 + i)),F3,kvs3,rfl,zah,fD3,K3.side fD3 Dx Dk,?_,?_,by omega⟩
        · have:=S2.trans s3 K3.fk
          exact ⟨this.ff,fun b u n q=>by rw [zaf (zan q hD)]; exact this.hh b u n q,this.nw⟩
        · rw [List.range_succ,List.map_append]
          exact (R2.mono s3.ff).append (.cons r3 .nil)
    · refine .inl ⟨hi,?_⟩
      have ei:i=n:=by omega
      subst ei
      obtain ⟨ms,ems⟩:∃ ms,ms=(List.range i).map fun j=>bwW d (bpF d m) rest (j + 1):=⟨_,rfl⟩
      have em:(List.range i).map (fun j=>encB (bwW d (bpF d m) rest (j + 1)))=ms.map encB:=by rw [ems,List.map_map]; rfl
      rw [em] at R2
      have lm:ms.length=i:=by rw [ems,List.length_map,List.length_range]
      cases ms with
      | nil=>simp at lm; omega
      | cons b l =>
        refine ⟨D,F2,ys,encB b,l.map encB,rfl,.inl hD2,K2.fh,R2,zmS (b :: l),fun j v hv hj=>?_⟩
        rw [zkT] at hj
        have eb:bpF d (m + 1) rest=minB l b:=by
          show zhl ((List.range (rest.length - 1)).map fun j=>bwW d (bpF d m) rest (j + 1))=_
          rw [show rest.length - 1=i by omega,← ems]; rfl
        have rv:Rep K F2 (encB (bpF d (m + 1) rest)) v:=by
          rw [eb,← hj]
          have jl:=(List.getElem?_eq_some_iff.mp hv).1
          rw [R2.length] at jl
          have gd:((b :: l).map encB)[j]?=some (((b :: l).map encB).getD j .non):=by rw [List.getD_eq_getElem?_getD,List.getElem?_eq_getElem jl]; rfl
          obtain ⟨v',h1,h2⟩:=R2.get gd
          rw [hv] at h1
          cases h1
          exact h2
        have rr:Rep K F2 (.tup (rest.map .int)) (.ref r):=Rep.mono S2.ff _ hr
        have hk2:=zjW K2.fh rr
        refine ⟨.ref x,rfl,x,_,dx,_,.ref kp,rfl,K2.hx,hC,hN,rfl,.ref r,rfl,kp,_,rfl,DPut.t K2.hk hk2 (by rw [sizeLine_eq]; omega),?_⟩
        have xk:x ≠ kp:=fun e=>by have h1:=K2.hx; rw [e,K2.hk] at h1; cases h1
        have rk:r ≠ kp:=fun e=>by rw [e,K2.hk] at hk2; cases hk2
        have rne:rest.map (Sum.inl:Int→Key) ≠ []:=fun e=>by have:=congrArg List.length e; simp at this; rw [this] at hl; simp at hl
        have K4:KPs K c d L F2 (upd H2 kp (.dT (putK kvs2 (rest.map Sum.inl) v))) x kp dx lv (putK kvs2 (rest.map Sum.inl) v) :=
          ⟨fun b u q=>by rw [zaf (zan q K2.fk)]; exact K2.fh _ _ q,by rw [zaf xk]; exact K2.hx,zah,K2.fx,K2.fk,K2.rl,fun e he=>by
            rcases zkK he with z | z
            · exact K2.good e z
            · rw [z]
              refine ⟨rest,rfl,?_⟩
              rw [show rest.length / 2=m + 1 by omega]
              exact rv,by
            obtain ⟨w,hw⟩:=K2.emp
            exact ⟨w,by rw [zhw,if_neg (fun e=>rne e.symm)]; exact hw⟩⟩
        have gd:=DGet.t (k:=rest.map Sum.inl) K4.hk (by rw [zaf rk]; exact hk2)
        rw [zhw,if_pos rfl] at gd
        refine ⟨.ref x,rfl,x,_,dx,_,.ref kp,rfl,K4.hx,hC,hN,rfl,.ref r,rfl,kp,v,rfl,gd,?_⟩
        refine fin v F2 _ _ ⟨S2.ff,fun b u n q=>by rw [zaf n]; exact S2.hh b u n q,S2.nw⟩ K4 ?_ rv
        have:=zc7 kvs2 (rest.map Sum.inl) v
        omega
end
end PM
namespace L2
open PySem PySem.Spec PyProof.Rows
section
variable {P:Program} {w:World} {K:PySem.W.Frag} {mg:Str→Option Value} {base:Heap} {CX:CXT} {k:Nat} {m:Str} {C:Addr} {ps:List Str} {sp sp':Sp}
theorem HasM.imp (G:HasM P w K mg base CX k m C ps sp) (h:∀ vs H Q E,sp' vs H Q E→sp vs H Q E):HasM P w K mg base CX k m C ps sp':=by
  obtain ⟨f,fd,a,b,F,B⟩:=G.ex
  exact ⟨f,fd,a,b,F.imp h,B⟩
end
end L2
namespace PM
open PySem L2
section
variable {K:Kx} {c m:Nat} {d:Int→Int→Int} {L:D}
def tsI (K:Kx):TS:=tSeq (sFld K.f (tVar 0) (tVar 1) "lengths") (sFld K.f (tVar 0) (zk2 (tTup tNil) (tTup (zbf (tC (.int 0)) (zbf (tTup tNil) tNil)))) "known")
variable (K:Kx) (c:Nat) (d:Int→Int→Int) (L:D) in
def spKI:Sp:=fun vs H Q _=>∃ (x dx:Addr) (F Hb:Hp) (lv:V),vs = [.ref x,lv]∧H=upd (upd Hb dx (.own x)) x (.ins (K.ca c) dx [])∧Hb x=none∧Hb dx=none∧dx ≠ x∧Same F Hb∧Rep K F L lv ∧
  ∀ (F' H':Hp) (kp:Addr) (kvs:List (List Key × V)),Ext F Hb F' H'→KPs K c d L F' H' x kp dx lv kvs→kvs.length ≤ 1→Hb kp=none→Q .non H'
theorem i_ok (hC:Cls K.f (K.ca c)) (hL:NoAttr K.f (K.ca c) "lengths") (hN:NoAttr K.f (K.ca c) "known") {vs:List V} {H:Hp} {Q:VK} {E:XK} (h:spKI K c d L vs H Q E):tsI K { nx:=fun _ H'=>Q .non H',rt:=Q } (L2.start ["self","lengths"] vs) H:=by
  obtain ⟨x,dx,F,Hb,lv,rfl,rfl,hx,hdx,ne,s,rl,fin⟩:=h
  refine ⟨lv,rfl,.ref x,rfl,x,_,dx,[],rfl,zah,hC,hL,by decide,fun kp hkp=>?_⟩
  have e1:upd (upd (upd Hb dx (.own x)) x (.ins (K.ca c) dx [])) x (.ins (K.ca c) dx (putF "lengths" lv []))=upd (upd Hb dx (.own x)) x (.ins (K.ca c) dx [("lengths",lv)]):=by rw [zlG]; rfl
  rw [e1] at hkp ⊢
  have kx:kp ≠ x:=fun e=>by rw [e,zah] at hkp; cases hkp
  rw [zaf kx] at hkp
  have kd:kp ≠ dx:=fun e=>by rw [e,zah] at hkp; cases hkp
  rw [zaf kd] at hkp
  have E1:Ext F Hb F (upd (upd (upd Hb dx (.own x)) x (.ins (K.ca c) dx [("lengths",lv)])) kp (.dT [])):=by
    have a1:Ext F Hb F (upd Hb dx (.own x)):=.newO s hdx
    have a2:=a1.trans (.newO (o:=.ins (K.ca c) dx [("lengths",lv)]) a1.fh (by rw [zaf (Ne.symm ne)]; exact hx))
    exact a2.trans (.newO (o:=.dT []) a2.fh (by rw [zaf kx,zaf kd]; exact hkp))
  refine ⟨by decide,fun p hp=>?_⟩
  have E2:Ext F Hb (upd F p (.tup [])) (upd _ p (.tup [])):=E1.trans (.new E1.fh hp)
  refine ⟨by decide,fun q hq=>⟨by show 2 ≤ sizeLine; decide,fun w hw=>?_⟩⟩
  have E3:=E2.trans (.new (o:=.tup []) E2.fh hq)
  have E4:=E3.trans (.new (o:=.tup [.int 0,.ref q]) E3.fh hw)
  have pq:p ≠ q:=fun e=>by rw [← e,zah] at hq; cases hq
  have pw:p ≠ w:=fun e=>by rw [← e,zaf pq,zah] at hw; cases hw
  have qw:q ≠ w:=fun e=>by rw [← e,zah] at hw; cases hw
  have kpp:kp ≠ p:=fun e=>by rw [← e,zah] at hp; cases hp
  have kq:kp ≠ q:=fun e=>by rw [← e,zaf kpp,zah] at hq; cases hq
  have kw:kp ≠ w:=fun e=>by rw [← e,zaf kq,zaf kpp,zah] at hw; cases hw
  have xp:x ≠ p:=fun e=>by rw [← e,zaf (Ne.symm kx),zah] at hp; cases hp
  have xq:x ≠ q:=fun e=>by rw [← e,zaf xp,zaf (Ne.symm kx),zah] at hq; cases hq
  have xw:x ≠ w:=fun e=>by rw [← e,zaf xq,zaf xp,zaf (Ne.symm kx),zah] at hw; cases hw
  refine ⟨by rw [zaf kw,zaf kq,zaf kpp,zah],[],p,.ref w,rfl,by rw [zaf pw,zaf pq,zah]; rfl,.ref x,rfl,x,K.ca c,dx,[("lengths",lv)],rfl,?_,hC,hN,by show 1 < 1000; decide,?_⟩
  · rw [zaf (Ne.symm kx),zaf xw,zaf xq,zaf xp,zaf (Ne.symm kx),zah]
  · have fx:F x=none:=s.free hx
    have fk:F kp=none:=s.free hkp
    have f4x:upd (upd (upd F p (.tup [])) q (.tup [])) w (.tup [.int 0,.ref q]) x=none:=by rw [zaf xw,zaf xq,zaf xp]; exact fx
    have f4k:upd (upd (upd F p (.tup [])) q (.tup [])) w (.tup [.int 0,.ref q]) kp=none:=by rw [zaf kw,zaf kq,zaf kpp]; exact fk
    refine fin (upd (upd (upd F p (.tup [])) q (.tup [])) w (.tup [.int 0,.ref q])) _ kp [([],.ref w)] ?_ ⟨?_,?_,?_,f4x,f4k,Rep.mono E4.ff _ rl,?_,⟨.ref w,rfl⟩⟩ (Nat.le_refl 1) hkp
    · refine ⟨E4.ff,fun b o z=>?_,fun b o z=>?_,E4.nw⟩
      · rw [zaf (zan z hx),zaf (zan z hkp)]; exact E4.hh b o z
      · rw [zaf (zan z f4x),zaf (zan z f4k)]; exact E4.fh b o z
    · intro b o z
      rw [zaf (zan z f4x),zaf (zan z f4k)]; exact E4.fh b o z
    · rw [zah]; rfl
    · rw [zaf kx,zah]
    · intro e he
      rw [List.mem_singleton.mp he]
      refine ⟨[],rfl,?_⟩
      show Rep K _ (.tup [.int 0,.tup []]) (.ref w)
      simp only [Rep]
      exact ⟨w,_,rfl,zah,.cons (by simp only [Rep]) (.cons (by simp only [Rep]; exact ⟨q,[],rfl,by rw [zaf qw,zah],.nil⟩) .nil)⟩
variable (K:Kx) (c:Nat) in
def spIu (_:Unit):Sp:=fun vs H Q E=>∃ (d:Int→Int→Int) (L:D),spKI K c d L vs H Q E
variable (K:Kx) (c:Nat) in
def spBm (m:Nat):Sp:=fun vs H Q E=>∃ (d:Int→Int→Int) (L:D),spKB K c d L m vs H Q E
variable (K:Kx) (c:Nat) in
def spWm (m:Nat):Sp:=fun vs H Q E=>∃ (d:Int→Int→Int) (L:D),spKW K c d L m vs H Q E
variable (K:Kx) (c:Nat) in
def spBu (_:Unit):Sp:=fun vs H Q E=>∃ m,m ≤ 6∧spBm K c m vs H Q E
def zli (K:Kx) (c:Nat) (E1 E2:XK):TE :=
  tCB (fun xs H Q=>∃ p ys,xs = [.ref p]∧(SqL K.f H p ys∨SqT K.f H p ys)∧∀ l,H l=none→Q (.ref l) (upd H l (.lst ys)))
    (zbf (tOp (rIxT K.f) (zjc (K.ca c) "best" (spBu K c ()) [] E2 (zly (K.ca c) (spIu K c ()) [] E1 (zbf (tVar 0) tNil))
      (zbf (tCB (fun xs H Q=>∃ p ys,xs = [.ref p]∧((SqL K.f H p ys∧∀ l,H l=none→Q (.ref l) (upd H l (.tup ys)))∨(SqT K.f H p ys∧Q (.ref p) H))) (zbf (tCB zgQ (zbf (tVar 1) tNil)) tNil)) tNil)) (tC (.int 1))) tNil)
def srt (ns:List Int):List Int:=ns.mergeSort fun a b=>decide (a ≤ b)
def dOf (L:D) (i j:Int):Int:=match (oIxL L (.int i)).bind fun r=>oIxL r (.int j) with | some (.int x)=>x | _=>0
def zdg (L:D) (ns:List Int):List (Int × Int):=(bpF (dOf L) (ns.length / 2) (srt ns)).2
def zgg (δ:En):R D:=match δ[(0:Nat)]?,δ[(1:Nat)]? with
  | some (.v L),some (.v (.lst l))=>(match asIs l with | some ns=>ifC (ns.length % 2=0∧ns.length ≤ 12∧ziS L (dOf L) ns) (.ok (.lst ((zdg L ns).map zbr))) .no | none=>.no)
  | _,_=>.no
theorem zny:∀ m,m ≤ 6→cn m ≤ 20000
  | 0,_=>by decide
  | 1,_=>by decide
  | 2,_=>by decide
  | 3,_=>by decide
  | 4,_=>by decide
  | 5,_=>by decide
  | 6,_=>by decide
  | n + 7,h=>by omega
theorem zjU {XO:XOT} {E:L2.St→XK} {E1 E2:XK}:SEo K XO E (zli K c E1 E2) zgg:=by
  intro Λ F0 H0 F H σ δ Q I a
  unfold zgg at a
  split at a
  case h_2=>exact a.elim
  rename_i L l q0 q1
  split at a
  case h_2=>exact a.elim
  rename_i ns qn
  rw [zeQ qn] at q1
  unfold ifC at a
  split at a
  case isFalse=>exact a.elim
  rename_i hc
  obtain ⟨h2,h12,ht⟩:=hc
  have s0:=I.slot 0
  rw [q0] at s0
  obtain ⟨u0,e0,r0⟩:=s0
  have s1:=I.slot 1
  rw [q1] at s1
  obtain ⟨u1,e1,r1⟩:=s1
  simp only [Rep] at r1
  obtain ⟨p1,vs,rfl,hp1,hv1⟩:=r1
  rw [zcJ hv1] at hp1
  refine ⟨u0,e0,fun x dx hx hdx ne=>⟨dOf L,L,x,dx,F,H,u0,rfl,rfl,hx,hdx,ne,I.ext.fh,r0,fun F1 H1 kp kvs x1 K1 kl hkp=>⟨rfl,x,dx,_,rfl,K1.hx,rfl,?_⟩⟩⟩
  have hp2:Rd H1 p1 (.lst (ns.map V.int)):=Same.rd (x1.ff.trans x1.fh) (by first | exact hp1 | exact .inl hp1)
  refine ⟨.ref p1,e1,p1,ns,rfl,hp2,by omega,fun w hw=>⟨w,(srt ns).map V.int,rfl,.inl ⟨.inl (.inl zah),fun t htt=>?_⟩⟩⟩
  have y1:Ext F1 H1 F1 (upd H1 w (.lst ((srt ns).map V.int))):=.newO x1.fh hw
  have y2:=y1.trans (.new (o:=.tup ((srt ns).map V.int)) y1.fh htt)
  have rt:Rep K (upd F1 t (.tup ((srt ns).map V.int))) (.tup ((srt ns).map .int)) (.ref t):=by
    simp only [Rep]
    exact ⟨t,_,rfl,zah,RepL.ints⟩
  have sl:(srt ns).length=ns.length:=List.length_mergeSort ..
  have m6:ns.length / 2 ≤ 6:=by omega
  have cl:=zny _ m6
  refine ⟨ns.length / 2,m6,dOf L,L,x,kp,dx,t,u0,_,kvs,srt ns,rfl,K1.ext y2,rt,by omega,fun i hi j hj=>ht i (List.mem_mergeSort.mp hi) j (List.mem_mergeSort.mp hj),by omega,fun v F3 H3 kvs3 s3 K3 l3 r3=>?_⟩
  have x3:Ext F H F3 H3:=by
    have z:=x1.trans y2
    refine ⟨z.ff.trans s3.ff,fun b o hb=>s3.hh b o (fun e=>by rw [e,hkp] at hb; cases hb) (z.hh b o hb),K3.fh,fun b o h1 h2=>s3.nw b o (z.nw b o h1 h2) (z.hh b o h2)⟩
  refine zbJ F3 H3 v (.int 1) (encB (bpF (dOf L) (ns.length / 2) (srt ns))) (.int 1) (.tup ((zdg L ns).map zbr)) _ K3.fh (r3.top K3.fh) (show Rep K F3 (.int 1) (.int 1) by simp only [Rep]) rfl fun v4 F4 H4 e4 r4=>?_
  simp only [Rep] at r4
  obtain ⟨q,ws,rfl,hq,hws⟩:=r4
  refine ⟨q,ws,rfl,.inr (.inl (.inl (e4.fh _ _ hq))),fun lq hlq=>?_⟩
  have x4:=x3.trans e4
  exact a F4 _ (x4.trans (.newO (o:=.lst ws) e4.fh hlq)) lq (e4.fh.free hlq) (x4.hh.free hlq) ⟨ws,zah,hws⟩
end
end PM
namespace L2
open PySem PySem.Spec PyProof.Rows
section
variable {prog:Program} {w:World} {K:Type} [DecidableEq K] {knd:KeyKind prog w K} {A:Around} {E:Value→Shared→Prop} {s:Shared}
end
section
variable {X:Cx}
end
end L2
namespace PM
open PySem L2
section
variable {K:Kx} {XO:XOT} {E:L2.St→XK}
end
end PM
namespace PM
open PySem L2
section
variable {K:Kx} {XO:XOT} {E:L2.St→XK} {Λ:List (Nat × Addr × HO)} {F0 H0 F H:Hp} {σ:L2.St} {δ:En}
theorem EnvOk.frzD {i:Nat} {ks:List Key} {l:List D} {a:Addr} {kvs:List (Key × V)} {o:Obj} (I:EnvOk K Λ F0 H0 F H σ δ) (hx:δ[i]?=some (.o (.dct ks l))) (ha:σ[i]?=some (some (.ref a))) (hk:H a=some (.dK kvs)) :
    EnvOk K Λ F0 H0 (upd F a (.frz o (.dK kvs))) (upd H a (.frz o (.dK kvs))) σ (δ.set i (.v (.fd ks l))):=by
  have hi:i < δ.length:=(List.getElem?_eq_some_iff.mp hx).1
  have z:=I.slot i
  rw [hx] at z
  obtain ⟨a',z1,z2,z3,z4⟩:=z
  rw [ha] at z1; cases z1
  obtain ⟨u,eu⟩:∃ u,u=HO.frz o (.dK kvs):=⟨_,rfl⟩
  rw [← eu]
  have ht:∀ b,b ≠ a→upd H a u b=H b:=fun b e=>zaf e
  have hs:Same F (upd F a u):=Same.upd z3
  have sl:∀ j:Nat,i ≠ j→Sl.own δ[j]?=true→σ[j]? ≠ some (some (V.ref a)):=fun j hj h e=>I.dist i j a hj (by rw [hx]; rfl) h ha e
  refine ⟨⟨I.ext.ff.trans hs,fun b w q=>(by rw [ht b (zan q z2)]; exact I.ext.hh b w q),fun b w q=>?_,fun p o h1 h2=>?_⟩,by simp [I.len],fun j=>?_,fun j k b hjk g1 g2 g3 g4=>?_,fun y hy=>?_,I.tabsOf (fun k ll h=>by
      by_cases e:i=k
      · subst e; rw [List.getElem?_set_self hi] at h; cases h
      · rw [List.getElem?_set_ne e] at h; exact ⟨h,rfl⟩) (fun k r bs T g1 g2 t f dj=>by
      have e:i ≠ k:=fun e=>by subst e; rw [hx] at g1; cases g1
      exact ⟨(t.mono hs (.refl _)).at' fun b hb=>ht b fun e'=>dj i a e (by rw [hx]; rfl) ha (e' ▸ hb),fun b hb=>by rw [zaf (show b ≠ a from fun e'=>dj i a e (by rw [hx]; rfl) ha (e' ▸ hb))]; exact (f b hb).2⟩) fun k j ll r b bs _ _ _ _ ho hs=>.inl (by
      by_cases e:i=j
      · subst e; rw [List.getElem?_set_self hi] at ho; cases ho
      · rw [List.getElem?_set_ne e] at ho; exact ⟨ho,hs⟩)⟩
  · by_cases e:b=a
    · subst e; rw [zah] at q ⊢; exact q
    · rw [zaf e] at q; rw [ht b e]; exact I.ext.fh _ _ q
  · rw [zaf (zan h2 z2)]; exact I.ext.nw p o h1 h2
  · by_cases e:i=j
    · subst e
      rw [List.getElem?_set_self hi]
      refine ⟨.ref a,ha,?_⟩
      obtain ⟨kvs',h2,h3,h4⟩:=z4
      rw [hk] at h2; cases h2
      simp only [Rep]
      exact ⟨a,o,kvs,rfl,by rw [zah,eu],h3,h4.mono hs⟩
    · rw [List.getElem?_set_ne e]
      have w:=I.slot j
      cases q:δ[j]? with
      | none=>trivial
      | some y =>
        rw [q] at w
        cases y with
        | no=>trivial
        | v d=>obtain ⟨v,w1,w2⟩:=w; exact ⟨v,w1,Rep.mono hs d w2⟩
        | o d =>
          obtain ⟨b,w1,w2,w3,w4⟩:=w
          exact ⟨b,w1,w2,by rw [zaf (show b ≠ a from fun e'=>sl j e (by rw [q]; rfl) (by rw [w1,e']))]; exact w3,(w4.mono hs (.refl _)).at (ht b fun e'=>sl j e (by rw [q]; rfl) (by rw [w1,e']))⟩
        | p ll =>
          obtain ⟨r,bs,t1,t2,t3,t4,t5⟩:=I.tab q
          exact ⟨r,bs,t1,(t2.mono hs (.refl _)).at' fun b hb=>ht b fun e'=>t4 i a e (by rw [hx]; rfl) ha (e' ▸ hb),fun b hb=>⟨(t3 b hb).1,by rw [zaf (show b ≠ a from fun e'=>t4 i a e (by rw [hx]; rfl) ha (e' ▸ hb))]; exact (t3 b hb).2⟩⟩
        | l d =>
          obtain ⟨b,w1,w2,w3,w4⟩:=w
          exact ⟨b,w1,w2,by rw [zaf (show b ≠ a from fun e'=>sl j e (by rw [q]; rfl) (by rw [w1,e']))]; exact w3,(w4.mono hs (.refl _)).at (ht b fun e'=>sl j e (by rw [q]; rfl) (by rw [w1,e']))⟩
  · have ow:∀ k:Nat,Sl.own (δ.set i (.v (.fd ks l)))[k]?=true→Sl.own δ[k]?=true:=by
      intro k h
      by_cases e:i=k
      · subst e; rw [List.getElem?_set_self hi] at h; cases h
      · rw [List.getElem?_set_ne e] at h; exact h
    exact I.dist j k b hjk (ow j g1) (ow k g2) g3 g4
  · obtain ⟨⟨d2,g1⟩,g2,g3⟩:=I.lent y hy
    have n:i ≠ y.1:=by
      intro e
      rw [← e,hx] at g1
      cases g1
    exact ⟨⟨d2,by rw [List.getElem?_set_ne n]; exact g1⟩,g2,by rw [ht _ (fun e'=>sl y.1 n (by rw [g1]; rfl) (by rw [g2,e']))]; exact g3⟩
def zmc (i:Nat) (m:En→O) (δ:En):O:=match δ[i]? with | some (.o (.dct ks l))=>m (δ.set i (.v (.fd ks l))) | _=>.no
theorem zi0 {i:Nat} {r:List V→Hp→VK→Prop} {ix:List Nat} {n:Nat} {g:TG} {tc:Option TT} {te:TE} {m:En→O} (h:SS K XO E (tRet (tCB r (zbf (zha (zkn (tVar i)) ix n g tc te) tNil))) m) :
    SS K XO E (tRet (tCB r (zbf (zha (zkn (tFix (tVar i))) ix n g tc te) tNil))) (zmc i m):=by
  intro Λ F0 H0 F H σ δ Dn I a
  unfold zmc at a
  split at a
  · rename_i ks l q
    obtain ⟨p,s1,kvs,s2,s3,s4⟩:=I.own q
    refine ⟨.ref p,s1,p,kvs,rfl,s2,fun o=>?_⟩
    obtain ⟨v,hv,k⟩:=h Λ F0 H0 _ _ σ _ Dn (I.frzD (o:=o) q s1 s2) a
    rw [s1] at hv
    cases hv
    exact k
  · exact a.elim
end
end PM
namespace PM
open PySem L2
section
variable {K:Kx} {XO:XOT} {E:L2.St→XK} {Λ:List (Nat × Addr × HO)} {F0 H0 F H:Hp} {σ:L2.St} {δ:En} {t:TS} {m:En→O}
end
end PM
namespace L2
open PySem PySem.Spec PyProof.Rows
section
variable {X:Cx}
end
end L2
namespace PM
open PySem L2
section
variable {X:Cx} {K:Kx} {XO:XOT} {E:L2.St→XK} {te:TE} {me:En→R D} {ca:Nat→Addr} {an:Nat→Str}
end
end PM
namespace L2
open PySem PySem.Spec PyProof.Rows
section
variable {X:Cx}
section
variable {prog:Program} {w:World} {A:Around} {E:Value→Shared→Prop} {s:Shared} {a:Addr} {xs:Array (Int × Tok)}
end
end
end L2
namespace PM
open PySem L2
section
variable {K:Kx}
end
end PM
namespace L2
open PySem PySem.Spec PyProof.Rows
section
variable {prog:Program} {w:World} {A:Around} {E:Value→Shared→Prop} {s:Shared}
def TF (h:Heap) (v:Value) (n:Int):Prop:=∃ (a:Addr) (t:Tok) (r:List Value),v = .ref a∧h.IsTuple a (Value.int n t :: r).toArray
inductive TFs (h:Heap):List Value→List Int→Prop
  | nil:TFs h [] []
  | cons {v:Value} {n:Int} {vs:List Value} {ns:List Int}:TF h v n→TFs h vs ns→TFs h (v :: vs) (n :: ns)
theorem TFs.len {h:Heap} {vs:List Value} {ns:List Int} (x:TFs h vs ns):vs.length=ns.length:=by
  induction x with
  | nil=>rfl
  | cons _ _ ih=>simp [ih]
theorem TFs.get {h:Heap} {vs:List Value} {ns:List Int} (x:TFs h vs ns):∀ {i:Nat} {v:Value},vs[i]?=some v→TF h v (ns.getD i 0):=by
  induction x with
  | nil=>intro i v e; simp at e
  | cons t _ ih =>
    intro i v e
    cases i with
    | zero=>simp at e; subst e; exact t
    | succ i=>exact ih (by simpa using e)
theorem TFs.keep {h h':Heap} {vs:List Value} {ns:List Int} (k:∀ a xs,h.IsTuple a xs→h'.IsTuple a xs) (x:TFs h vs ns):TFs h' vs ns:=by
  induction x with
  | nil=>exact .nil
  | cons t _ ih =>
    obtain ⟨a,tk,r,rfl,ht⟩:=t
    exact .cons ⟨a,tk,r,rfl,k _ _ ht⟩ ih
theorem zkM {v:Value} {n:Int} {Q:Option Value→Shared→Prop} (x:TF s.heap v n) (h:∀ t,Q (some (.int n t)) s):wpAny (model prog w) A (firstOfTuple' v) Q E s:=by
  obtain ⟨a,t,r,rfl,ht⟩:=x
  have e:firstOfTuple' (.ref a)=(do
      if (← typeOf (.ref a)) != .type "tuple" then return none
      return (← Builtin.List.listItems (.ref a))[0]?):=rfl
  rw [e]
  refine wpAny_bind (wpAny_typeOf ht.typeIs ?_)
  rw [show (Value.type "tuple" != Value.type "tuple")=false from rfl]
  simp only [Bool.false_eq_true,if_false]
  obtain ⟨o,ho,_,k,hd⟩:=ht
  exact wpAny_bind (listItems_at ho hd (wpAny_pure (h t)))
theorem zjE {vs:List Value} {ns:List Int} (x:TFs s.heap vs ns):∀ {Q:List (Option Value)→Shared→Prop},(∀ fs:List Value,IntsAre fs ns→Q (fs.map some) s)→wpAny (model prog w) A (vs.mapM firstOfTuple') Q E s:=by
  induction x with
  | nil=>intro Q h; rw [List.mapM_nil]; exact wpAny_pure (h [] .nil)
  | cons t _ ih =>
    intro Q h
    rw [List.mapM_cons]
    refine wpAny_bind (zkM t fun tk=>?_)
    exact wpAny_bind (ih fun fs hf=>wpAny_pure (h (_ :: fs) (.cons _ _ hf)))
theorem zlS {v:Value} {vs:List Value} {ns:List Int} {Q:SortKind→Shared→Prop} (x:TFs s.heap (v :: vs) ns) (h:Q (tuples' true) s):wpAny (model prog w) A (keyKind' (v :: vs).toArray) Q E s:=by
  rw [keyKind'_eq,List.mapM_toArray,map_eq_pure_bind]
  refine wpAny_bind (wpAny_bind (zjE x fun fs hf=>wpAny_pure ?_))
  rw [if_pos (by simp)]
  refine wpAny_bind (wpAny_rule ?_)
  have e:((fs.map some).toArray.filterMap id)=fs.toArray:=by simp
  rw [e,oneTypeOnly'_eq,List.mapM_toArray,mapM_typeOf_ints hf]
  simp only [map_pure,pure_bind]
  have ne:fs ≠ []:=fun z=>by
    subst z
    cases hf
    cases x
  obtain ⟨f,fr,rfl⟩:∃ f fr,fs=f :: fr:=by
    cases fs with
    | nil=>exact absurd rfl ne
    | cons f fr=>exact ⟨f,fr,rfl⟩
  have hall:((List.map (fun _=>Value.type "int") (f :: fr)).toArray.all fun x=>x == Value.type "int")=true:=by
    rw [List.all_toArray,List.all_map,List.all_eq_true]
    exact fun _ _=>rfl
  rw [show (List.map (fun _=>Value.type "int") (f :: fr)).toArray[0]?=some (Value.type "int") by simp]
  simp only [hall,if_true,pure_bind]
  exact wpAny_pure h
theorem znk {x y:Value} {a b:Int} {Q:Bool→Shared→Prop} (hx:TF s.heap x a) (hy:TF s.heap y b) (ne:a ≠ b) (h:Q (decide (a < b)) s):wpAny (model prog w) A (keyLt' (tuples' true) x y) Q E s:=by
  obtain ⟨p,t,r,rfl,hp⟩:=hx
  obtain ⟨q,u,r',rfl,hq⟩:=hy
  obtain ⟨o,ho,_,k,hd⟩:=hp
  obtain ⟨o',ho',_,k',hd'⟩:=hq
  have e:keyLt' (tuples' true) (.ref p) (.ref q)=(do
      let xs ← Builtin.List.listItems (.ref p); let ys ← Builtin.List.listItems (.ref q)
      for ((p,q),i) in (xs.toList.zip ys.toList).zipIdx do
        if !(← eqBool p q) then return ← oneLt' (true && i == 0) p q
      return xs.size < ys.size):=rfl
  rw [e]
  refine wpAny_bind (listItems_at ho hd ?_)
  refine wpAny_bind (listItems_at ho' hd' ?_)
  simp only [List.zip_cons_cons,List.zipIdx_cons,List.forIn_cons]
  refine wpAny_bind (wpAny_bind (wpAny_bind (wpAny_eqBool_int ?_)))
  rw [show (a == b)=false from beq_eq_false_iff_ne.mpr ne]
  simp only [Bool.not_false,if_true,Bool.true_and,beq_self_eq_true]
  refine wpAny_bind (oneLt_int ?_)
  exact wpAny_pure (wpAny_pure (wpAny_pure h))
structure Ris (h:Heap) (vs:List Value) (ns:List Int):Prop where
  tfs:TFs h vs ns
  up:∀ i,i + 1 < ns.length→ns.getD i 0 < ns.getD (i + 1) 0
def stT (vs:List Value) (p:Array (Nat × Nat × Nat)):SortSt:=SortSt.mk' (tuples' true) (vs.toArray.zip vs.toArray) p 7 none
theorem zlf {vs:List Value} {i:Nat} {v:Value} (h:vs[i]?=some v):(vs.toArray.zip vs.toArray)[i]?=some (v,v):=by
  simp [List.getElem?_zip_eq_some,h]
theorem zmM {vs:List Value} {ns:List Int} {p:Array (Nat × Nat × Nat)} {i:Nat} {Q:Option Bool→SortSt→Prop} (hr:Ris s.heap vs ns) (h0:0 < i) (hi:i < vs.length) (h:Q (some false) (stT vs p)):wpS (model prog w) A E s (ltAt' i (i - 1)) Q (stT vs p):=by
  have e1:vs[i]?=some vs[i]:=List.getElem?_eq_getElem hi
  have e2:vs[i - 1]?=some vs[i - 1]:=List.getElem?_eq_getElem (by omega)
  have ln:=hr.tfs.len
  have up:=hr.up (i - 1) (by omega)
  rw [show i - 1 + 1=i by omega] at up
  rw [ltAt'_eq]
  refine wpS_bind (wpS_get ?_)
  show wpS _ _ _ _ (do let x ← elem' (vs.toArray.zip vs.toArray) i; let y ← elem' (vs.toArray.zip vs.toArray) (i - 1); lt' x y) Q (stT vs p)
  rw [elem'_eq,elem'_eq,zlf e1,zlf e2]
  refine wpS_bind (wpS_pure (wpS_bind (wpS_pure ?_)))
  rw [lt'_eq]
  refine wpS_bind (wpS_get ?_)
  show wpS _ _ _ _ (do let r ← (keyLt' (tuples' true) vs[i] vs[i - 1]).attempt; _) Q (stT vs p)
  refine wpS_bind (wpS_lift (wpAny_attempt (znk (hr.tfs.get e1) (hr.tfs.get e2) (by omega) ⟨rfl,?_⟩)))
  rw [decide_eq_false (by omega)]
  exact wpS_pure h
theorem zl6 {vs:List Value} {ns:List Int} {p:Array (Nat × Nat × Nat)} {Q:AscSt→SortSt→Prop} (hr:Ris s.heap vs ns) (h1:1 ≤ vs.length) (h:Q (none,vs.length) (stT vs p)):wpS (model prog w) A E s (ascLoop 1 vs.length) Q (stT vs p):=by
  unfold ascLoop
  refine wpS_forRange (I:=fun x c st'=>st'=stT vs p∧c=(none,x)) ?step ?fin ⟨rfl,rfl⟩
  case fin =>
    rintro c st' ⟨rfl,rfl⟩
    rw [show max 1 vs.length=vs.length by omega]; exact h
  case step =>
    rintro x c st' hx hn ⟨rfl,rfl⟩
    refine wpS_bind (zmM hr (by omega) hn ?_)
    exact wpS_pure ⟨rfl,rfl⟩
theorem zkE {vs:List Value} {ns:List Int} {Q:Unit→SortSt→Prop} (hr:Ris s.heap vs ns) (h2:2 ≤ vs.length) (h64:vs.length < 64) (h:Q () (stT vs #[(0,vs.length,0)])):wpS (model prog w) A E s sortRuns' Q (stT vs #[]):=by
  rw [sortRuns'_eq]
  refine wpS_bind (wpS_get ?_)
  have sz:(arrOf (stT vs #[])).size=vs.length:=by show (vs.toArray.zip vs.toArray).size=_; simp
  have mr:minRun' vs.length vs.length 0=vs.length:=by
    obtain ⟨f,hf⟩:∃ f,vs.length=f + 1:=⟨vs.length - 1,by omega⟩
    have z:minRun' (f + 1) vs.length 0=vs.length:=by rw [minRun'_succ,if_pos h64,Nat.add_zero]
    rwa [← hf] at z
  simp only [sz,mr]
  refine wpS_bind (wpS_mono (wpS_forRange (I:=fun x c st'=>(x=0∧c=(none,0)∧st'=stT vs #[])∨(1 ≤ x∧c=(none,vs.length)∧st'=stT vs #[(0,vs.length,0)])) (Q:=fun c st'=>c=(none,vs.length)∧st'=stT vs #[(0,vs.length,0)]) ?step ?fin (.inl ⟨rfl,rfl,rfl⟩)) ?post)
  case fin =>
    rintro c st' (⟨hx,_,_⟩ | ⟨_,hc,hD⟩)
    · omega
    · exact ⟨hc,hD⟩
  case step =>
    rintro x c st' _ hx (⟨rfl,rfl,rfl⟩ | ⟨hx1,rfl,rfl⟩)
    · dsimp only
      rw [if_neg (by omega)]
      simp only [Nat.sub_zero,Nat.min_self,Nat.zero_add]
      rw [countRun0_eq]
      refine wpS_bind (wpS_bind (zl6 hr (by omega) ?_))
      dsimp only
      rw [if_pos (beq_self_eq_true _)]
      refine wpS_pure ?_
      dsimp only
      rw [if_neg (Nat.lt_irrefl _)]
      refine wpS_bind (wpS_get ?_)
      rw [show (pendingOf (stT vs #[])).back?=none from rfl]
      dsimp only
      exact wpS_bind (wpS_modify (wpS_pure (.inr ⟨by omega,rfl,rfl⟩)))
    · dsimp only
      rw [if_pos (Nat.le_refl _)]
      exact wpS_pure ⟨rfl,rfl⟩
  case post =>
    rintro c st' ⟨rfl,rfl⟩
    dsimp only
    refine wpS_bind (wpS_mono (wpS_forRange (I:=fun _ c st''=>st''=stT vs #[(0,vs.length,0)]∧c=(none,())) (Q:=fun c st''=>st''=stT vs #[(0,vs.length,0)]∧c=(none,())) ?_ (fun _ _ hh=>hh) ⟨rfl,rfl⟩) ?_)
    · rintro x c st'' _ _ ⟨rfl,rfl⟩
      refine wpS_bind (wpS_get ?_)
      rw [if_pos (show (pendingOf (stT vs #[(0,vs.length,0)])).size ≤ 1 from Nat.le_refl 1)]
      exact wpS_pure ⟨rfl,rfl⟩
    · rintro c st'' ⟨rfl,rfl⟩
      exact wpS_pure h
theorem zjT (vs:List Value):((vs.toArray.zip vs.toArray).map (·.2))=vs.toArray:=by
  rw [← Array.toList_inj]
  simp [List.map_snd_zip]
theorem zkm {a:Addr} {vs:List Value} {ns:List Int} {n:Nat} {P:Fin→Shared→Prop} (ho:s.heap.get? a=some (seqObj "list" vs.toArray n)) (hr:Ris s.heap vs ns) (h64:vs.length < 64)
    (fin:P (.done (.ret .none)) { s with heap:=sortedHeap s.heap a vs vs.toArray }):wpAny (model prog w) A (Builtin.«list.sort» ⟨[.ref a],[]⟩) P E s:=by
  rw [list_sort_plain]
  have ha:a < s.heap.objs.size:=Heap.lt_size ho
  refine wpAny_bind (listItems_at ho rfl (wpAny_bind (listUpdate_at ho rfl ?_)))
  obtain ⟨e1,ho1⟩:∃ e1,(s.heap.update a (Obj.mapSeq fun _=>#[])).get? a=some (seqObj "list" #[] e1):=⟨_,get?_update_seq ho (fun _=>#[])⟩
  refine wpAny_bind (seqEpoch_at ho1 rfl (wpAny_bind (wpAny_newTuple (wpAny_bind (wpAny_newList (wpAny_holding ?_))))))
  obtain ⟨h6,eh⟩:∃ h6,h6=((s.heap.update a (Obj.mapSeq fun _=>#[])).push (seqObj "tuple" vs.toArray 0)).push (seqObj "list" #[] 0):=⟨_,rfl⟩
  have ho6:h6.get? a=some (seqObj "list" #[] e1):=by rw [eh]; exact Heap.get?_push_of_some _ (Heap.get?_push_of_some _ ho1)
  have kp:∀ b xs,s.heap.IsTuple b xs→h6.IsTuple b xs:=fun b xs hb=>by
    obtain ⟨o,hb1,hc,r⟩:=hb
    refine ⟨o,?_,hc,r⟩
    have ne:b ≠ a:=fun z=>by
      rw [z,ho] at hb1
      cases hb1
      injection hc with hc
      exact absurd hc (by decide)
    rw [eh]
    exact Heap.get?_push_of_some _ (Heap.get?_push_of_some _ (by rw [Heap.get?_update_ne _ _ _ _ ne]; exact hb1))
  show wpAny (model prog w) A _ P E { s with heap:=((s.heap.update a (Obj.mapSeq fun _=>#[])).push (seqObj "tuple" vs.toArray 0)).push (seqObj "list" #[] 0) }
  unfold sortedHeap at fin
  rw [← eh] at fin ⊢
  dsimp only
  have sz:(vs.toArray.zip vs.toArray).size=vs.length:=by simp
  by_cases h2:vs.toArray.size < 2
  · rw [if_pos h2,if_pos h2]
    refine wpAny_bind (wpAny_pure ?_)
    rw [StateT.run_pure]
    refine wpAny_bind (wpAny_pure (wpAny_bind (seqEpoch_at ho6 rfl (wpAny_bind (listUpdate_at ho6 rfl ?_ (hsz2:=?_))))))
    · simp only [bne_self_eq_false,Bool.false_eq_true,if_false]
      refine wpAny_pure ?_
      show P _ { s with heap:=h6.update a (Obj.mapSeq fun _=>((vs.toArray.zip vs.toArray).map (·.2))) }
      rw [zjT]; exact fin
    · show ((vs.toArray.zip vs.toArray).map (·.2)).size ≤ _
      rw [Array.size_map,sz,sizeLine_eq]; omega
  · rw [if_neg h2,if_neg h2]
    have h2':2 ≤ vs.length:=by simp at h2; omega
    have hr6:Ris h6 vs ns:=⟨hr.tfs.keep kp,hr.up⟩
    obtain ⟨v,vr,ev⟩:∃ v vr,vs=v :: vr:=by
      cases vs with
      | nil=>simp at h2'
      | cons v vr=>exact ⟨v,vr,rfl⟩
    refine wpAny_bind ?_
    have kk:=zlS (prog:=prog) (w:=w) (A:=A) (E:=E) (s:={ s with heap:=h6 }) (v:=v) (vs:=vr) (ns:=ns) (Q:=fun k s'=>k=tuples' true∧s' = { s with heap:=h6 }) (by rw [← ev]; exact hr6.tfs) ⟨rfl,rfl⟩
    rw [← ev] at kk
    refine wpAny_mono kk ?_ fun _ _ e=>e
    rintro k s' ⟨rfl,rfl⟩
    refine wpAny_bind (wpAny_mono (zkE (s:={ s with heap:=h6 }) (Q:=fun _ st'=>st'=stT vs #[(0,vs.length,0)]) hr6 h2' h64 rfl) ?_ fun _ _ e=>e)
    rintro ⟨⟨⟩,st'⟩ s' ⟨rfl,hst⟩
    have hst:st'=stT vs #[(0,vs.length,0)]:=hst
    subst hst
    dsimp only
    refine wpAny_bind (seqEpoch_at ho6 rfl (wpAny_bind (listUpdate_at ho6 rfl ?_ (hsz2:=?_))))
    · rw [show failedOf (stT vs #[(0,vs.length,0)])=none from rfl]
      simp only [bne_self_eq_false,Bool.false_eq_true,if_false]
      refine wpAny_pure ?_
      show P _ { s with heap:=h6.update a (Obj.mapSeq fun _=>((vs.toArray.zip vs.toArray).map (·.2))) }
      rw [zjT]; exact fin
    · show ((vs.toArray.zip vs.toArray).map (·.2)).size ≤ _
      rw [Array.size_map,sz,sizeLine_eq]; omega
theorem zh3 {l:Addr} {vs:List Value} {ns:List Int} {Q:Value→Shared→Prop} (hl:s.heap.IsList l vs.toArray) (hr:Ris s.heap vs ns) (h64:vs.length < 64) (h:Q (.ref (s.heap.objs.size + 1)) { s with heap:=sortedAll s.heap vs vs.toArray }):wpAny (model prog w) A (call (.builtin "sorted") [.ref l]) Q E s:=by
  refine Calls.call_function_entry kind_sorted plain_sorted entry_sorted (args_sorted1 _) ?_
  unfold Builtin.«sorted»
  refine wpAny_bind (m:=checkCount "sorted" 1 1 _) (wpAny_pure (wpAny_bind (collect_list hl (wpAny_bind (wpAny_newList ?_)))))
  obtain ⟨h1,e1⟩:∃ h1,h1=(s.heap.push (seqObj "list" #[] 0)).update s.heap.objs.size (Obj.mapSeq (· ++ vs.toArray)):=⟨_,rfl⟩
  have hsz:h1.objs.size=s.heap.objs.size + 1:=by rw [e1,Heap.size_update,size_push']
  have hoL:(h1.push (seqObj "list" vs.toArray 0)).get? (s.heap.objs.size + 1)=some (seqObj "list" vs.toArray 0):=by
    rw [← hsz]; exact Heap.get?_push_size _ rfl
  have kp:∀ b xs,s.heap.IsTuple b xs→(h1.push (seqObj "list" vs.toArray 0)).IsTuple b xs:=fun b xs hb=>by
    obtain ⟨o,hb1,r⟩:=hb
    refine ⟨o,Heap.get?_push_of_some _ ?_,r⟩
    rw [e1,Heap.get?_update_ne _ _ _ _ (Nat.ne_of_lt (Heap.lt_size hb1))]
    exact Heap.get?_push_of_some _ hb1
  unfold sortedAll at h
  rw [← e1] at h
  show wpAny _ _ _ _ _ { s with heap:=((s.heap.push (seqObj "list" #[] 0)).update s.heap.objs.size (Obj.mapSeq (· ++ vs.toArray))).push (seqObj "list" vs.toArray 0) }
  rw [← e1,hsz]
  refine wpAny_bind (wpAny_holding (wpAny_call_entry slot_list_sort ⟨_,hoL,rfl⟩ entry_list_sort (zkm (s:={ s with heap:=h1.push (seqObj "list" vs.toArray 0) }) hoL ⟨hr.tfs.keep kp,hr.up⟩ h64 ⟨_,rfl,?_⟩) (args_list_sort _)))
  exact wpAny_pure ⟨_,rfl,h⟩
end
end L2
namespace PM
open PySem L2
def zgd:List D→Option (List Int)
  | []=>some []
  | .tup (.int i :: _) :: l=>(zgd l).map (i :: ·)
  | _=>none
def risI:List Int→Bool
  | a :: b :: l=>decide (a < b) && risI (b :: l)
  | _=>true
theorem zjK:∀ {ns:List Int},risI ns=true→∀ i,i + 1 < ns.length→ns.getD i 0 < ns.getD (i + 1) 0
  | [],_,i,h=>by simp at h
  | [_],_,i,h=>by simp at h
  | a :: b :: l,r,i,h=>by
    unfold risI at r
    rw [Bool.and_eq_true] at r
    cases i with
    | zero=>simpa using r.1
    | succ i=>exact zjK r.2 i (by simpa using h)
end PM
namespace L2
open PySem PySem.Spec PyProof.Rows PM
section
variable {X:Cx} {ca:Nat→Addr} {an:Nat→Str}
def zhF (K:Kx):List V→Hp→VK→Prop:=fun xs H Q=>∃ (p:Addr) (F:Hp) (vs:List V) (l:List D) (ns:List Int),xs = [.ref p]∧Rd H p (.lst vs)∧Same F H∧RepL K F l vs∧zgd l=some ns∧risI ns=true∧l.length < 64∧∀ a,H a=none→Q (.ref a) (upd H a (.lst vs))
theorem zkZ {pins:List (Addr × Obj)} {σ:St} {H F:Hp} {s:Shared} (I:Inv X pins σ H s) (sm:Same F H):∀ {l:List D} {vs:List V} {us:List Value} {ns:List Int},RepL ⟨X.K,ca,an⟩ F l vs→Vals vs us→zgd l=some ns→TFs s.heap us ns
  | [],vs,us,ns,r,ru,e=>by
    simp only [RepL] at r; subst r; cases ru; cases e; exact .nil
  | d :: l,vs,us,ns,r,ru,e=>by
    unfold zgd at e
    split at e
    · rename_i z; cases z
    · rename_i i r0 l0 z
      cases z
      cases z2:zgd l with
      | none=>rw [z2] at e; cases e
      | some ms =>
        rw [z2] at e; cases e
        simp only [RepL] at r
        obtain ⟨v,r',rfl,r1,r2⟩:=r
        cases ru with
        | cons ru ru' =>
          refine .cons ?_ (zkZ I sm r2 ru' z2)
          simp only [Rep] at r1
          obtain ⟨a,ws,rfl,h1,h2⟩:=r1
          cases ru
          obtain ⟨its,rv,pl,_⟩:=I.tuple (show SqT X.K H a ws from .inl (.inl (sm _ _ h1)))
          simp only [RepL] at h2
          obtain ⟨x,xs,rfl,q1,q2⟩:=h2
          simp only [Rep] at q1
          subst q1
          cases rv with
          | cons rv rv' =>
            obtain ⟨t,rfl⟩:=rv
            exact ⟨a,t,_,rfl,pl⟩
    · cases e
theorem zgz:zd4 X (.builtin "sorted") (zhF ⟨X.K,ca,an⟩):=by
  intro pins s σ H xs us Q I r h
  obtain ⟨p,F,vs,l,ns,rfl,hq,sm,rl,hf,hr,h64,q⟩:=h
  obtain ⟨u,rfl,rx⟩:=zfY r
  cases rx
  obtain ⟨z,its,n,rv,e⟩:=hq.ok I.hok
  have len:=rv.length
  have len2:=rl.length
  refine zh3 ⟨_,e,rfl,n,rfl⟩ ⟨zkZ I sm rl rv hf,zjK hr⟩ (by omega) ?_
  obtain ⟨c,hc⟩:=sortedAll_at s.heap its its.toArray
  refine ⟨.ref (s.heap.objs.size + 1),_,?_,rfl,q _ (I.hok.fresh (Nat.le_succ _))⟩
  exact I.laid (fun b o hb=>sortedAll_old hb) (Nat.le_succ _) ⟨z,its,c,rv,hc⟩
end
end L2
namespace PM
open PySem L2
section
variable {K:Kx}
def zcl:List D→Option D
  | [.lst l]=>match zgd l with | some ns=>if risI ns=true∧l.length < 64 then some (.lst l) else none | none=>none
  | _=>none
theorem zih:SCo K (zhF K) zcl:=by
  intro F H vs ds d Q s r e q
  unfold zcl at e
  split at e
  · rename_i l
    split at e
    · rename_i ns z
      split at e
      · rename_i hc
        cases e
        cases r with
        | cons r r' =>
          cases r'
          obtain ⟨a,xs,rfl,h1,h2⟩:=r
          exact ⟨a,F,xs,l,ns,rfl,h1,s,h2,z,hc.1,hc.2,fun p hp=>q p F _ (.newO s hp) (s.free hp) hp ⟨_,zah,h2⟩⟩
      · cases e
    · cases e
  · cases e
end
end PM
namespace My
open PySem L2 PM
def zks:Nat→Bool
  | 2=>true
  | _=>false
def zim:Nat→Bool
  | 2=>true
  | _=>false
def zj1:Nat→Option Bool
  | 2=>some true
  | _=>none
def zbA:En→O:=(mSeq (mIfS (zas (m2 oLt (mRd 1) (mCB fLen (zab (mRd 0) mNil))))
  (mRet (m2 oIxL (mRd 0) (mRd 1)))
  zbd)
  (mRet (mC (.int 0))))
def zaA:List D→R D:=runF 2 0 zbA
def zdY:En→O:=(mSeq (mAsg (m2 oMod (zar zaA (zab (mVar 0) (zab (mVar 1) mNil))) (m2 oPow (mC (.int 10)) (mC (.int 20)))) (zao 3))
  (mSeq (mAsg (m2 oMod (m2 oAdd (m2 oMul (mRd 3) (mC (.int 48271))) (m2 oMul (m2 oMul (m2 oAdd (mRd 1) (mC (.int 1))) (m2 oAdd (mRd 1) (mC (.int 7)))) (mC (.int 69621)))) (mC (.int 2147483647))) (zao 4))
  (mSeq (mAsg (m2 oMod (m2 oAdd (m2 oAdd (m2 oMul (mRd 3) (mC (.int 16807))) (m2 oMul (m2 oMul (mRd 1) (mRd 1)) (mC (.int 40692)))) (mC (.int 7))) (mC (.int 2147483629))) (zao 5))
  (mRet (m2 oMod (m2 oAdd (m2 oMul (mRd 4) (mC (.int 2147483629))) (mRd 5)) (m2 oAdd (mRd 2) (mC (.int 1))))))))
def zat:List D→R D:=runF 3 3 zdY
def zc3:En→R D:=zeB (mRng (zab (mVar 1) mNil)) [0,2] 1 (za9 2) none (mTup (zab (zar zat (zab (mVar 0) (zab (m2 oAdd (mC (.int 1)) (m2 oMul (mC (.int 2)) (mRd 2))) (zab (mVar 1) mNil)))) (zab (zar zat (zab (mVar 0) (zab (m2 oAdd (mC (.int 2)) (m2 oMul (mC (.int 2)) (mRd 2))) (zab (mVar 1) mNil)))) mNil)))
def zeu:En→R D:=zeB (mItL (mRd 3)) [5,6] 1 (za9 2) none (m2 oAdd (mCB fAbs (zab (m2 oSub (mRd 0) (m2 oIxT (mRd 2) (mC (.int 0)))) mNil)) (mCB fAbs (zab (m2 oSub (mRd 1) (m2 oIxT (mRd 2) (mC (.int 1)))) mNil)))
def zcD:En→O:=(zbT 4 zeu)
def zeq:En→O:=mFor (mItL (mVar 3)) (bTup 2 (zdC (zao 5) (zdC (zao 6) bNil))) zcD
def zfj:En→O:=(mSeq (mAsg zc3 (zao 3))
  (mSeq (mAsg (mLst mNil) (bNew 4))
  (mSeq zeq
  (zhf 4))))
def zbs:List D→R D:=runO 3 4 zfj
def zcp:En→O:=(mSeq (mAsg (zc1 (m2 oAdd (m2 oIxL (m2 oIxL (mRd 0) (mRd 2)) (mRd 1)) (m2 oIxL (m2 oIxL (mRd 0) (mRd 1)) (mRd 3)))) (zao 4))
  (zhn 0 (mVar 2) (mVar 3) (zc1 (mCB ziB (zab (m2 oIxL (m2 oIxL (mRd 0) (mRd 2)) (mRd 3)) (zab (mRd 4) mNil))))))
def zcA:En→O:=mFor (mRng (zab (zc1 (mCB fLen (zab (mRd 0) mNil))) mNil)) (zao 3) zcp
def zcr:En→O:=zcA
def zcN:En→O:=mFor (mRng (zab (zc1 (mCB fLen (zab (mRd 0) mNil))) mNil)) (zao 2) zcr
def zcs:En→O:=zcN
def zcG:En→O:=mFor (mRng (zab (zc1 (mCB fLen (zab (mRd 0) mNil))) mNil)) (zao 1) zcs
def zbu:En→O:=(mSeq zcG
  (zkH 0))
def zaX:List (List Int)→R D:=runT 4 zbu
def zb5:En→R D:=zeB (mRng (zab (mVar 0) mNil)) [] 1 (za9 0) none (mC (.int 0))
def zbv:En→R (List (List Int)):=zi7 (mRng (zab (mVar 3) mNil)) [3] 1 (za9 1) zb5
def zcC:En→O:=(mSeq (mAsg (zar zat (zab (mVar 0) (zab (m2 oAdd (m2 oAdd (mC (.int 1)) (m2 oDiv (m2 oMul (mRd 7) (m2 oSub (mRd 7) (mC (.int 1)))) (mC (.int 2)))) (mRd 8)) (zab (mVar 5) mNil)))) (zao 9))
  (mSeq (mIfS (zas (m2 oEq (mRd 4) (mC (.int 1))))
  (mAsg (m2 oAdd (mRd 9) (mRd 5)) (zao 9))
  zbd)
  (mSeq (zhn 6 (mVar 7) (mVar 8) (mVar 9))
  (zhn 6 (mVar 8) (mVar 7) (mVar 9)))))
def zcZ:En→O:=mFor (mRng (zab (mVar 7) mNil)) (zao 8) zcC
def zcx:En→O:=zcZ
def zcW:En→O:=mFor (mRng (zab (mVar 3) mNil)) (zao 7) zcx
def zdw:En→O:=(mSeq (mAsg (zar zaA (zab (mVar 0) (zab (mC (.int 0)) mNil))) (zao 2))
  (mSeq (mAsg (m2 oAdd (mC (.int 1)) (m2 oMod (mRd 2) (mC (.int 7)))) (zao 3))
  (mSeq (mIfS (zas (m2 oEq (m2 oMod (m2 oDiv (mRd 2) (mC (.int 7))) (mC (.int 8))) (mC (.int 3))))
  (mAsg (m2 oAdd (mC (.int 8)) (m2 oMod (m2 oDiv (mRd 2) (mC (.int 56))) (mC (.int 4)))) (zao 3))
  zbd)
  (mSeq (mAsg (m2 oMod (m2 oDiv (mRd 2) (mC (.int 112))) (mC (.int 3))) (zao 4))
  (mSeq (mAsg (m2 oIxL (mLst (zab (mC (.int 6)) (zab (mC (.int 60)) (zab (mVar 1) mNil)))) (m2 oMod (m2 oDiv (mRd 2) (mC (.int 336))) (mC (.int 3)))) (zao 5))
  (mSeq (mIfS (zas (m2 oEq (mRd 4) (mC (.int 0))))
  (zeV (zar zbs (zab (mVar 0) (zab (mVar 3) (zab (mVar 5) mNil)))))
  zbd)
  (mSeq (zky zbv 6)
  (mSeq zcW
  (mSeq (mIfS (zas (m2 oEq (mRd 4) (mC (.int 2))))
  (zgy zaX 6)
  zbd)
  (zkH 6))))))))))
def za6:List D→R D:=runO 2 8 zdw
def zcH:En→O:=(zeP 3 2 (zar zat (zab (mVar 0) (zab (m2 oAdd (mC (.int 38)) (mRd 4)) (zab (m2 oSub (mCB fLen (zab (mRd 2) mNil)) (mC (.int 1))) mNil)))))
def zeF:En→O:=mFor (mRng (zab (m2 oMul (mC (.int 2)) (zar zat (zab (mVar 0) (zab (mC (.int 37)) (zab (m2 oDiv (mRd 1) (mC (.int 2))) mNil))))) mNil)) (zao 4) zcH
def ze8:En→O:=(mSeq (mAsg (zkA (zab (mVar 1) mNil)) (bNew 2))
  (mSeq (mAsg (mLst mNil) (bNew 3))
  (mSeq zeF
  (zhf 3))))
def zbI:List D→R D:=runO 2 3 ze8
def zdi:En→O:=(mSeq (mAsg (m2 oDiv (zar zat (zab (mVar 0) (zab (m2 oAdd (mC (.int 48)) (m2 oMod (mRd 3) (mC (.int 9)))) (zab (m2 oPow (mC (.int 10)) (mC (.int 12))) mNil)))) (m2 oAdd (mC (.int 1)) (mRd 3))) (zao 4))
  (mSeq (mAsg (m2 oMod (mRd 4) (mRd 1)) (zao 5))
  (zbT 2 (mTup (zab (mVar 5) (zab (m2 oMod (m2 oAdd (m2 oAdd (mRd 5) (mC (.int 1))) (m2 oMod (m2 oDiv (mRd 4) (mC (.int 16))) (m2 oSub (mRd 1) (mC (.int 1))))) (mRd 1)) mNil))))))
def zcz:En→O:=mFor (mRng (zab (zar zat (zab (mVar 0) (zab (mC (.int 47)) (zab (mC (.int 12)) mNil)))) mNil)) (zao 3) zdi
def zet:En→O:=(mSeq (mAsg (mLst mNil) (bNew 2))
  (mSeq (mIfS (zas (m2 oGt (mRd 1) (mC (.int 1))))
  zcz
  zbd)
  (zhf 2)))
def zbt:List D→R D:=runO 2 4 zet
def zdh:En→O:=(mIfS (zas (m2 oNe (m2 oIxL (m2 oIxL (mRd 0) (mRd 2)) (mRd 2)) (mC (.int 0))))
  (fun _=>.no)
  zbd)
def zfe:En→O:=mFor (mRng (zab (mVar 1) mNil)) (zao 2) zdh
def zde:En→O:=(mIfS (zas (m2 oNe (m2 oIxL (m2 oIxL (mRd 0) (mRd 2)) (mRd 3)) (m2 oIxL (m2 oIxL (mRd 0) (mRd 3)) (mRd 2))))
  (fun _=>.no)
  zbd)
def zix:En→O:=mFor (mRng (zab (mVar 2) mNil)) (zao 3) zde
def zeA:En→O:=zix
def zfg:En→O:=mFor (mRng (zab (mVar 1) mNil)) (zao 2) zeA
def zdf:En→O:=(mIfS (zas (m2 oLt (m2 oAdd (m2 oIxL (m2 oIxL (mRd 0) (mRd 2)) (mRd 3)) (m2 oIxL (m2 oIxL (mRd 0) (mRd 3)) (mRd 4))) (m2 oIxL (m2 oIxL (mRd 0) (mRd 2)) (mRd 4))))
  (fun _=>.no)
  zbd)
def zhZ:En→O:=mFor (mRng (zab (mVar 1) mNil)) (zao 4) zdf
def zeN:En→O:=zhZ
def zit:En→O:=mFor (mRng (zab (mVar 1) mNil)) (zao 3) zeN
def zeL:En→O:=zit
def zfd:En→O:=mFor (mRng (zab (mVar 1) mNil)) (zao 2) zeL
def zgf:En→O:=(mSeq (mAsg (mCB fLen (zab (mRd 0) mNil)) (zao 1))
  (mSeq zfe
  (mSeq zfg
  zfd)))
def zce:List D→R D:=runF 1 4 zgf
def zcE:En→O:=(mSeq (mDo (zar zce (zab (mVar 0) mNil)))
  (zeV zgg))
def zax:List D→R D:=runO 2 0 zcE
def zdV:En→O:=(zjz 1 (mVar 3) (zh8 (zhk (mRd 1) (mVar 3) (mC (.bl false)))))
def zes:En→O:=mFor (mItT (mVar 2)) (zao 3) zdV
def zcF:En→O:=zes
def zeO:En→O:=mFor (mItL (mVar 0)) (zao 2) zcF
def zdb:En→R D:=zeB (zm2 (mVar 1)) [1] 1 (za9 1) (some (zas (m2 fGet (mVar 0) (mVar 1)))) (mVar 1)
def zfs:En→O:=(mSeq (mAsg (mC (.dct [] [])) (bNew 1))
  (mSeq zeO
  (zmc 1 (zeV (mCB zbU (zab zdb mNil))))))
def zbH:List D→R D:=runO 1 3 zfs
def zdH:En→R D:=zeB (mItL (mRd 0)) [3] 1 (za9 1) (some (mOr (zas (m2 oEq (mRd 0) (m2 oIxT (mRd 1) (mC (.int 0))))) (zas (m2 oEq (mRd 0) (m2 oIxT (mRd 1) (mC (.int 1))))))) (mVar 1)
def zeD:En→O:=(mSeq (mAsg zdH (zao 4))
  (mIfS (zas (m2 oEq (m2 oMod (mCB fLen (zab (mRd 4) mNil)) (mC (.int 2))) (mC (.int 1))))
  (zbT 2 (mVar 3))
  zbd))
def ze7:En→O:=mFor (mRng (zab (mVar 1) mNil)) (zao 3) zeD
def zgA:En→O:=(mSeq (mAsg (mLst mNil) (bNew 2))
  (mSeq ze7
  (zhf 2)))
def zbR:List D→R D:=runO 2 3 zgA
def zcV:En→R D:=zeB (mItL (mRd 0)) [] 1 (za9 0) (some (mAnd (zas (m1 (oIsi "int") (mRd 0))) (mNot (zas (m1 (oIsi "bool") (mRd 0)))))) (mVar 0)
def zdt:En→O:=(mSeq (mIfS (mOr (mNot (zas (m1 (oIsi "list") (mRd 0)))) (zas (m2 oNeD (mRd 0) (mRd 1))))
  (mRet (mC (.bl false)))
  zbd)
  (mRet (m2 oEq (mCB fLen (zab zcV mNil)) (mCB fLen (zab (mRd 1) mNil)))))
def za5:List D→R D:=runF 2 0 zdt
def zcf:En→O:=(mIfS (mOr (mNot (zas (m1 (oIsi "int") (mRd 4)))) (zas (m1 (oIsi "bool") (mRd 4))))
  (mRet (mC (.bl false)))
  zbd)
def zdU:En→O:=mFor (mItT (mVar 3)) (zao 4) zcf
def zds:En→O:=(mSeq (mIfS (mOr (mNot (zas (m1 (oIsi "tuple") (mRd 3)))) (zas (m2 oNe (mCB fLen (zab (mRd 3) mNil)) (mC (.int 2)))))
  (mRet (mC (.bl false)))
  zbd)
  (mSeq zdU
  (mSeq (mIfS (zas (m2 oGe (m2 oIxT (mRd 3) (mC (.int 0))) (m2 oIxT (mRd 3) (mC (.int 1)))))
  (mRet (mC (.bl false)))
  zbd)
  (mAsg (m2 oCat (mRd 2) (mLst (zab (m2 oIxT (mRd 3) (mC (.int 0))) (zab (m2 oIxT (mRd 3) (mC (.int 1))) mNil)))) (zao 2)))))
def zdR:En→O:=mFor (mItL (mVar 0)) (zao 3) zds
def zex:En→O:=(mSeq (mIfS (mOr (mNot (zas (m1 (oIsi "list") (mRd 0)))) (zas (m2 oNeD (mRd 0) (mCB zcl (zab (mRd 0) mNil)))))
  (mRet (mC (.bl false)))
  zbd)
  (mSeq (mAsg (mLst mNil) (zao 2))
  (mSeq zdR
  (mRet (m2 oEqD (mCB zbU (zab (mRd 2) mNil)) (mCB zbU (zab (mRd 1) mNil)))))))
def zaQ:List D→R D:=runF 2 3 zex
def zej:En→O:=(mAsg (m2 oAdd (mRd 2) (m2 oIxL (m2 oIxL (mRd 0) (mRd 3)) (mRd 4))) (zao 2))
def zfp:En→O:=mFor (mItL (mVar 1)) (bTup 2 (zdC (zao 3) (zdC (zao 4) bNil))) zej
def zf9:En→O:=(mSeq (mAsg (mC (.int 0)) (zao 2))
  (mSeq zfp
  (mRet (mVar 2))))
def zbh:List D→R D:=runF 2 3 zf9
def zkS:En→R D:=zeB (mRng (zab (m2 oDiv (mCB fLen (zab (mRd 2) mNil)) (mC (.int 2))) mNil)) [2] 1 (za9 1) none (mTup (zab (m2 oIxL (mRd 0) (m2 oMul (mC (.int 2)) (mRd 1))) (zab (m2 oIxL (mRd 0) (m2 oAdd (m2 oMul (mC (.int 2)) (mRd 1)) (mC (.int 1)))) mNil)))
def zi9:En→R D:=zeB (mItL (mRd 1)) [] 1 (za9 0) none (mCB zdm (zab (mRd 0) mNil))
def zmE:En→O:=(mSeq (mAsg (zar za6 (zab (mVar 0) (zab (m2 oMul (mC (.int 5)) (m2 oPow (mC (.int 10)) (mC (.int 17)))) mNil))) (zao 1))
  (mSeq (mAsg (zar zbI (zab (mVar 0) (zab (mCB fLen (zab (mRd 1) mNil)) mNil))) (zao 2))
  (mSeq (mAsg zkS (zao 3))
  (mSeq (mAsg (zar zbt (zab (mVar 0) (zab (mCB fLen (zab (mRd 1) mNil)) mNil))) (zao 4))
  (mSeq (mAsg (mLst (zab zi9 (zab (mCB zdm (zab (mRd 2) mNil)) (zab (mCB zdm (zab (mRd 4) mNil)) mNil)))) (zao 5))
  (mSeq (mAsg (zar zax (zab (m2 oIxL (mRd 5) (mC (.int 0))) (zab (m2 oIxL (mRd 5) (mC (.int 1))) mNil))) (bNew 6))
  (mSeq (mAsg (zar zbH (zab (m2 oIxL (mRd 5) (mC (.int 2))) mNil)) (zao 7))
  (mSeq (mIfS (mOr (mNot (zas (zar za5 (zab (mVar 7) (zab (zar zbR (zab (mVar 4) (zab (mCB fLen (zab (mRd 1) mNil)) mNil))) mNil))))) (zas (m2 oNeD (mRd 5) (mLst (zab (mVar 1) (zab (mVar 2) (zab (mVar 4) mNil)))))))
  (mRet (mC (.bl false)))
  zbd)
  (mSeq (mIfS (mOr (mNot (zas (zdn zaQ (zab (mRd 6) (zab (mVar 2) mNil))))) (zas (m2 oGt (zdn zbh (zab (mVar 1) (zab (mRd 6) mNil))) (zar zbh (zab (mVar 1) (zab (mVar 3) mNil))))))
  (mRet (mC (.bl false)))
  zbd)
  (mSeq (mAsg (mCB zdm (zab (mRd 6) mNil)) (zao 8))
  (mSeq (mIfS (mOr (mNot (zas (zar zaQ (zab (zar zax (zab (mVar 1) (zab (mVar 7) mNil))) (zab (mVar 7) mNil))))) (zas (m2 oNeD (mRd 6) (mRd 8))))
  (mRet (mC (.bl false)))
  zbd)
  (mSeq (zbT 6 (mTup (zab (mC (.int 0)) (zab (mC (.int 0)) mNil))))
  (mRet (m2 oEqD (zar zax (zab (mVar 1) (zab (mVar 2) mNil))) (mRd 8)))))))))))))))
def zm3:List D→R D:=runF 1 8 zmE
end My
namespace My
open PySem L2 PM
def upt (n:Nat):List Int:=(List.range n).map fun (k:Nat)=>(k:Int)
theorem mem_upt {n:Nat} {t:Int}:t ∈ upt n ↔ 0 ≤ t∧t < (n:Int):=by
  unfold upt
  rw [List.mem_map]
  constructor
  · rintro ⟨a,h,rfl⟩
    have:=List.mem_range.mp h
    omega
  · rintro ⟨h0,h1⟩
    exact ⟨t.toNat,List.mem_range.mpr (by omega),by omega⟩
theorem zaH {n:Nat}:(upt n).length=n:=by simp [upt]
theorem zf7 (n:Nat):(upt n).Nodup:=List.Pairwise.map _ (fun a b h e=>h (Int.ofNat.inj e)) List.nodup_range
theorem rngT {n:Nat} (h:n ≤ 1000):rng [.int (n:Int)]=some ((upt n).map .int):=by
  rw [rng1 (by omega) (by omega),Int.toNat_natCast,zlQ,upt,List.map_map]; rfl
theorem ziv {i:Nat} {me:En→R D} {δ:En} {L:List Int} {y:Int} (h:δ[i]?=some (.o (iL L))) (hy:me δ = .ok (.int y)) (hl:L.length ≤ 100000):zbT i me δ = .nx (δ.set i (.o (iL (L ++ [y])))):=by
  unfold zbT
  rw [h]
  simp only [iL,hy,R.toO_ok]
  rw [zaU (by rw [List.length_map]; exact Nat.lt_of_le_of_lt hl (by decide))]
  simp
end My
namespace My
open PySem L2 PM
theorem p20:oPow (.int 10) (.int 20)=some (.int 100000000000000000000):=zjF ⟨by decide,by decide,by decide⟩
theorem zfk (ns:List Int) (k:Nat):zaA [.scr ns,.int k] = .ok (.int (ns.getD k 0)):=by
  by_cases h:k < ns.length
  · have e:oIxL (.scr ns) (.int (k:Int))=some (.int (ns.getD k 0)):=by
      show (atI ns (k:Int)).map D.int=_
      rw [atI_nat (d:=ns.getD k 0) (by simp [h,List.getD_eq_getElem?_getD])]; rfl
    simp [zaA,runF,zcB,zbA,mSeq,mIfS,zas,mRet,mRd,mC,mCB,zab,mNil,fLen,h,e]
  · have e:ns.getD k 0=0:=by simp [List.getD_eq_getElem?_getD,List.getElem?_eq_none_iff.mpr (Nat.le_of_not_lt h)]
    rw [e]
    simp [zaA,runF,zcB,zbA,mSeq,mIfS,zas,mRet,mRd,mC,mCB,zab,mNil,fLen,h,zbd]
theorem zjB (ns:List Int) {k:Int} (h:0 ≤ k):zaA [.scr ns,.int k] = .ok (.int (ns.getD k.toNat 0)):=by
  have:=zfk ns k.toNat
  rwa [show ((k.toNat:Nat):Int)=k by omega] at this
theorem zc8 {i:Nat} {me:En→R D} {δ:En} {l:List D} {d:D} (h:δ[i]?=some (.o (.lst l))) (hy:me δ = .ok d) (hl:l.length ≤ 100000):zbT i me δ = .nx (δ.set i (.o (.lst (l ++ [d])))):=by
  unfold zbT
  rw [h]
  simp only [hy,R.toO_ok]
  rw [zaU (Nat.lt_of_le_of_lt hl (by decide))]
theorem zeH (a:Int) {b:Int} (h:0 < b):0 ≤ a % b:=Int.emod_nonneg _ (by omega)
theorem zeG (a:Int) {b:Int} (h:0 < b):a % b < b:=Int.emod_lt_of_pos _ h
end My
namespace My
open PySem L2 PM
theorem zcd (ns:List Int) {k top:Int} (h0:0 ≤ k) (h1:k ≤ 1000) (t0:0 ≤ top):∃ x:Int,(0 ≤ x∧x ≤ top)∧zat [.scr ns,.int k,.int top] = .ok (.int x):=by
  obtain ⟨c,ec⟩:∃ c,c=ns.getD k.toNat 0 % 100000000000000000000:=⟨_,rfl⟩
  have c0:0 ≤ c:=by rw [ec]; exact zeH _ (by decide)
  have c1:c < 100000000000000000000:=by rw [ec]; exact zeG _ (by decide)
  have k2:k * k ≤ 1000 * 1000:=Int.mul_le_mul h1 h1 h0 (by decide)
  have k3:0 ≤ k * k:=Int.mul_nonneg h0 h0
  have k4:(k + 1) * (k + 7) ≤ 1001 * 1007:=Int.mul_le_mul (by omega) (by omega) (by omega) (by decide)
  have k5:0 ≤ (k + 1) * (k + 7):=Int.mul_nonneg (by omega) (by omega)
  have f1:Fit c:=fitN (10 ^ 20) (by omega)
  have f2:Fit 48271:=fitN 100000 (by decide)
  have f3:Fit (k + 1):=fitN 2000 (by omega)
  have f4:Fit (k + 7):=fitN 2000 (by omega)
  have f5:Fit ((k + 1) * (k + 7)):=fitN (10 ^ 20) (by omega)
  have f6:Fit 69621:=fitN 100000 (by decide)
  have f7:Fit 16807:=fitN 100000 (by decide)
  have f8:Fit k:=fitN 2000 (by omega)
  have f9:Fit (k * k):=fitN (10 ^ 20) (by omega)
  have f10:Fit 40692:=fitN 100000 (by decide)
  obtain ⟨a,ea⟩:∃ a,a=(c * 48271 + (k + 1) * (k + 7) * 69621) % 2147483647:=⟨_,rfl⟩
  obtain ⟨b,eb⟩:∃ b,b=(c * 16807 + k * k * 40692 + 7) % 2147483629:=⟨_,rfl⟩
  have a0:0 ≤ a:=by rw [ea]; exact zeH _ (by decide)
  have a1:a < 2147483647:=by rw [ea]; exact zeG _ (by decide)
  have f11:Fit a:=fitN (10 ^ 10) (by omega)
  have f12:Fit 2147483629:=fitN (10 ^ 10) (by decide)
  have tp:(0:Int) < top + 1:=by omega
  refine ⟨(a * 2147483629 + b) % (top + 1),⟨zeH _ tp,by have:=zeG (a * 2147483629 + b) tp; omega⟩,zey ?_⟩
  show mSeq _ _ [.v (.scr ns),.v (.int k),.v (.int top),.no,.no,.no]=_
  have q1:mAsg (m2 oMod (zar zaA (zab (mVar 0) (zab (mVar 1) mNil))) (m2 oPow (mC (.int 10)) (mC (.int 20)))) (zao 3) [.v (.scr ns),.v (.int k),.v (.int top),.no,.no,.no] = .nx [.v (.scr ns),.v (.int k),.v (.int top),.v (.int c),.no,.no]:=by
    refine zaD (d:=.int c) ?_ rfl
    simp only [zc5,zar,zab,mNil,mVar,mC,List.getElem?_cons_succ,List.getElem?_cons_zero,R.bind_ok,zjB ns h0,R.nev_ok,p20,R.of_some,zbP (show (0:Int) < 100000000000000000000 by decide),ec]
  have q2:mAsg (m2 oMod (m2 oAdd (m2 oMul (mRd 3) (mC (.int 48271))) (m2 oMul (m2 oMul (m2 oAdd (mRd 1) (mC (.int 1))) (m2 oAdd (mRd 1) (mC (.int 7)))) (mC (.int 69621)))) (mC (.int 2147483647))) (zao 4) [.v (.scr ns),.v (.int k),.v (.int top),.v (.int c),.no,.no] = .nx [.v (.scr ns),.v (.int k),.v (.int top),.v (.int c),.v (.int a),.no]:=by
    refine zaD (d:=.int a) ?_ rfl
    simp [mRd,mC,zco f1 f2,zco f3 f4,zco f5 f6,zbP,ea]
  have q3:mAsg (m2 oMod (m2 oAdd (m2 oAdd (m2 oMul (mRd 3) (mC (.int 16807))) (m2 oMul (m2 oMul (mRd 1) (mRd 1)) (mC (.int 40692)))) (mC (.int 7))) (mC (.int 2147483629))) (zao 5) [.v (.scr ns),.v (.int k),.v (.int top),.v (.int c),.v (.int a),.no] = .nx [.v (.scr ns),.v (.int k),.v (.int top),.v (.int c),.v (.int a),.v (.int b)]:=by
    refine zaD (d:=.int b) ?_ rfl
    simp [mRd,mC,zco f1 f7,zco f8 f8,zco f9 f10,zbP,eb]
  refine (zak q1).trans ((zak q2).trans ((zak q3).trans ?_))
  simp [mRet,mRd,mC,zco f11 f12,zbP tp]
end My
namespace My
open PySem L2 PM
def tabF (n:Nat) (d:Int→Int→Int):List (List Int):=(upt n).map fun a=>(upt n).map (d a)
theorem zb4 {m k:Nat} (h:k < m):(upt m)[k]?=some (k:Int):=by
  unfold upt; rw [List.getElem?_map,List.getElem?_range h]; rfl
theorem zcq {n:Nat} {f:Int→Int} {b:Int} (h0:0 ≤ b) (h1:b < n):oIxL (iL ((upt n).map f)) (.int b)=some (.int (f b)):=by
  refine zle h0 ?_
  rw [List.getElem?_map,List.getElem?_map,zb4 (show b.toNat < n by omega)]
  simp [show ((b.toNat:Nat):Int)=b by omega]
theorem zfn {n:Nat} {d:Int→Int→Int} {a:Int} (h0:0 ≤ a) (h1:a < n):oIxL (tabD (tabF n d)) (.int a)=some (iL ((upt n).map (d a))):=by
  unfold tabD tabF
  refine zle h0 ?_
  rw [List.getElem?_map,List.getElem?_map,zb4 (show a.toNat < n by omega)]
  simp [show ((a.toNat:Nat):Int)=a by omega]
theorem zgY {n:Nat} {d:Int→Int→Int}:fLen [tabD (tabF n d)]=some (.int n):=by
  simp [tabD,tabF,zaH]
def upd2 (d:Int→Int→Int) (a b v:Int):Int→Int→Int:=fun x y=>if x=a∧y=b then v else d x y
theorem zlT {n:Nat} {f:Int→Int} {b v:Int} (h0:0 ≤ b) (h1:b < n):((upt n).map f).set b.toNat v=(upt n).map fun y=>if y=b then v else f y:=by
  apply List.ext_getElem?
  intro i
  by_cases hi:i < n
  · rw [List.getElem?_map,zb4 hi]
    by_cases e:b.toNat=i
    · rw [e,List.getElem?_set_self (by rw [List.length_map,zaH]; exact hi)]
      have:(i:Int)=b:=by omega
      simp [this]
    · rw [List.getElem?_set_ne e,List.getElem?_map,zb4 hi]
      have:¬ (i:Int)=b:=by omega
      simp [this]
  · rw [List.getElem?_eq_none_iff.mpr (by rw [List.length_set,List.length_map,zaH]; omega),List.getElem?_eq_none_iff.mpr (by rw [List.length_map,zaH]; omega)]
theorem zlK {n:Nat} {d:Int→Int→Int} {a b v:Int} (a0:0 ≤ a) (a1:a < n) (b0:0 ≤ b) (b1:b < n):(tabF n d).set a.toNat (((upt n).map (d a)).set b.toNat v)=tabF n (upd2 d a b v):=by
  rw [zlT b0 b1]
  unfold tabF
  apply List.ext_getElem?
  intro i
  by_cases hi:i < n
  · rw [List.getElem?_map,zb4 hi]
    by_cases e:a.toNat=i
    · rw [e,List.getElem?_set_self (by rw [List.length_map,zaH]; exact hi)]
      have:(i:Int)=a:=by omega
      simp [upd2,this]
    · rw [List.getElem?_set_ne e,List.getElem?_map,zb4 hi]
      have:¬ (i:Int)=a:=by omega
      simp [upd2,this]
  · rw [List.getElem?_eq_none_iff.mpr (by rw [List.length_set,List.length_map,zaH]; omega),List.getElem?_eq_none_iff.mpr (by rw [List.length_map,zaH]; omega)]
def tabG (n:Nat) (d:Int→Int→Int):Tr:=tabT (tabF n d)
theorem zjr {n:Nat} {d:Int→Int→Int}:tabOf (some (.p (tabG n d)))=some (tabF n d):=by simp [tabG]
theorem zeo {i:Nat} {mk mj me:En→R D} {δ:En} {n:Nat} {d:Int→Int→Int} {a b v:Int} (h:δ[i]?=some (.p (tabG n d))) (hk:mk δ = .ok (.int a)) (hj:mj δ = .ok (.int b)) (hv:me δ = .ok (.int v)) (a0:0 ≤ a) (a1:a < n) (b0:0 ≤ b) (b1:b < n) :
    zhn i mk mj me δ = .nx (δ.set i (.p (tabG n (upd2 d a b v)))):=by
  have l1:(tabF n d).length=n:=by simp [tabF,zaH]
  have e1:ixN (tabF n d).length a=some a.toNat:=by unfold ixN; rw [if_pos a0,l1,if_pos a1]
  have e2:(tabF n d)[a.toNat]?=some ((upt n).map (d a)):=by
    unfold tabF
    rw [List.getElem?_map,zb4 (show a.toNat < n by omega)]
    simp [show ((a.toNat:Nat):Int)=a by omega]
  have e3:ixN ((upt n).map (d a)).length b=some b.toNat:=by unfold ixN; rw [if_pos b0,List.length_map,zaH,if_pos b1]
  unfold zhn
  rw [h,zjr]
  simp only [hv,hk,hj,R.toO_ok,e1,e2,e3,zlK a0 a1 b0 b1,tabG]
structure LenOk (n:Nat) (B:Int) (d:Int→Int→Int):Prop where
  nn:∀ a b:Int,0 ≤ a→a < n→0 ≤ b→b < n→0 ≤ d a b∧d a b ≤ B
  self:∀ a:Int,0 ≤ a→a < n→d a a=0
  sym:∀ a b:Int,0 ≤ a→a < n→0 ≤ b→b < n→d a b=d b a
  tri:∀ a b c:Int,0 ≤ a→a < n→0 ≤ b→b < n→0 ≤ c→c < n→d a c ≤ d a b + d b c
theorem zcT {mi:En→R (List D)} {b:D→En→Option En} {m:En→O} {δ:En} {n:Nat} (h:mi δ = .ok ((upt n).map .int)):mFor mi b m δ=zdo b m ((upt n).map .int) δ:=zbi h
theorem zh6 {n:Nat} {B:Int} {d:Int→Int→Int} (hn:n ≤ 100) (ok:LenOk n B d):zce [tabD (tabF n d)] = .ok .non:=by
  obtain ⟨T,eT⟩:∃ T,T=tabD (tabF n d):=⟨_,rfl⟩
  have tix:∀ a:Int,0 ≤ a→a < n→oIxL T (.int a)=some (iL ((upt n).map (d a))):=fun a h0 h1=>by rw [eT]; exact zfn h0 h1
  rw [← eT]
  have rn:=rngT (show n ≤ 1000 by omega)
  have l1:∀ o2 o3 o4:Option D,∃ p2,zfe [.v T,.v (.int n),sv o2,sv o3,sv o4] = .nx [.v T,.v (.int n),sv p2,sv o3,sv o4]:=fun o2 o3 o4=>by
    obtain ⟨δ,h1,p2,rfl⟩:=zaN (b:=zao 2) (m:=zdh) D.int (fun _ δ=>∃ p2,δ = [.v T,.v (.int n),sv p2,sv o3,sv o4]) (upt n)
      (by
        rintro pre a post δ hall ⟨p2,rfl⟩
        obtain ⟨a0,a1⟩:=mem_upt.mp (show a ∈ upt n by rw [hall]; simp)
        have r:=zcq (n:=n) (f:=d a) a0 a1
        rw [ok.self a a0 a1] at r
        refine ⟨[.v T,.v (.int n),.v (.int a),sv o3,sv o4],[.v T,.v (.int n),.v (.int a),sv o3,sv o4],zaK rfl,.inl ?_,some _,rfl⟩
        unfold zdh
        rw [zbw (by simp [zas,mRd,mC,tix a a0 a1,r])]; rfl)
      [.v T,.v (.int n),sv o2,sv o3,sv o4] ⟨o2,rfl⟩
    exact ⟨p2,(zcT (by simp [mRng,zab,mNil,mVar,rn])).trans h1⟩
  have l3:∀ o2 o3 o4:Option D,∃ p2 p3,zfg [.v T,.v (.int n),sv o2,sv o3,sv o4] = .nx [.v T,.v (.int n),sv p2,sv p3,sv o4]:=fun o2 o3 o4=>by
    obtain ⟨δ,h1,p2,p3,rfl⟩:=zaN (b:=zao 2) (m:=zeA) D.int (fun _ δ=>∃ p2 p3,δ = [.v T,.v (.int n),sv p2,sv p3,sv o4]) (upt n)
      (by
        rintro pre a post δ hall ⟨p2,p3,rfl⟩
        obtain ⟨a0,a1⟩:=mem_upt.mp (show a ∈ upt n by rw [hall]; simp)
        obtain ⟨δ2,g1,r3,rfl⟩:=zaN (b:=zao 3) (m:=zde) D.int (fun _ δ=>∃ r3,δ = [.v T,.v (.int n),.v (.int a),sv r3,sv o4]) (upt a.toNat)
          (by
            rintro pre2 b post2 δ hall2 ⟨r3,rfl⟩
            obtain ⟨b0,b1⟩:=mem_upt.mp (show b ∈ upt a.toNat by rw [hall2]; simp)
            have r1:=zcq (n:=n) (f:=d a) b0 (by omega)
            have r2:=zcq (n:=n) (f:=d b) a0 a1
            rw [ok.sym a b a0 a1 b0 (by omega)] at r1
            refine ⟨[.v T,.v (.int n),.v (.int a),.v (.int b),sv o4],[.v T,.v (.int n),.v (.int a),.v (.int b),sv o4],zaK rfl,.inl ?_,some _,rfl⟩
            unfold zde
            rw [zbw (by simp [zas,mRd,mC,tix a a0 a1,tix b b0 (by omega),r1,r2])]; rfl)
          [.v T,.v (.int n),.v (.int a),sv p3,sv o4] ⟨p3,rfl⟩
        refine ⟨[.v T,.v (.int n),.v (.int a),sv p3,sv o4],[.v T,.v (.int n),.v (.int a),sv r3,sv o4],zaK rfl,.inl ?_,some _,r3,rfl⟩
        have ra:=rngT (show a.toNat ≤ 1000 by omega)
        rw [show ((a.toNat:Nat):Int)=a by omega] at ra
        exact (zcT (n:=a.toNat) (by simp [mRng,zab,mNil,mVar,ra])).trans g1)
      [.v T,.v (.int n),sv o2,sv o3,sv o4] ⟨o2,o3,rfl⟩
    exact ⟨p2,p3,(zcT (by simp [mRng,zab,mNil,mVar,rn])).trans h1⟩
  have l6:∀ o2 o3 o4:Option D,∃ p2 p3 p4,zfd [.v T,.v (.int n),sv o2,sv o3,sv o4] = .nx [.v T,.v (.int n),sv p2,sv p3,sv p4]:=fun o2 o3 o4=>by
    obtain ⟨δ,h1,p2,p3,p4,rfl⟩:=zaN (b:=zao 2) (m:=zeL) D.int (fun _ δ=>∃ p2 p3 p4,δ = [.v T,.v (.int n),sv p2,sv p3,sv p4]) (upt n)
      (by
        rintro pre a post δ hall ⟨p2,p3,p4,rfl⟩
        obtain ⟨a0,a1⟩:=mem_upt.mp (show a ∈ upt n by rw [hall]; simp)
        obtain ⟨δ2,g1,r3,r4,rfl⟩:=zaN (b:=zao 3) (m:=zeN) D.int (fun _ δ=>∃ r3 r4,δ = [.v T,.v (.int n),.v (.int a),sv r3,sv r4]) (upt n)
          (by
            rintro pre2 b post2 δ hall2 ⟨r3,r4,rfl⟩
            obtain ⟨b0,b1⟩:=mem_upt.mp (show b ∈ upt n by rw [hall2]; simp)
            obtain ⟨δ3,k1,t4,rfl⟩:=zaN (b:=zao 4) (m:=zdf) D.int (fun _ δ=>∃ t4,δ = [.v T,.v (.int n),.v (.int a),.v (.int b),sv t4]) (upt n)
              (by
                rintro pre3 c post3 δ hall3 ⟨t4,rfl⟩
                obtain ⟨c0,c1⟩:=mem_upt.mp (show c ∈ upt n by rw [hall3]; simp)
                have r1:=zcq (n:=n) (f:=d a) b0 b1
                have r2:=zcq (n:=n) (f:=d b) c0 c1
                have r5:=zcq (n:=n) (f:=d a) c0 c1
                have tr:¬ d a b + d b c < d a c:=by have:=ok.tri a b c a0 a1 b0 b1 c0 c1; omega
                refine ⟨[.v T,.v (.int n),.v (.int a),.v (.int b),.v (.int c)],[.v T,.v (.int n),.v (.int a),.v (.int b),.v (.int c)],zaK rfl,.inl ?_,some _,rfl⟩
                unfold zdf
                rw [zbw (by simp [zas,mRd,mC,tix a a0 a1,tix b b0 b1,r1,r2,r5,tr])]; rfl)
              [.v T,.v (.int n),.v (.int a),.v (.int b),sv r4] ⟨r4,rfl⟩
            refine ⟨[.v T,.v (.int n),.v (.int a),.v (.int b),sv r4],[.v T,.v (.int n),.v (.int a),.v (.int b),sv t4],zaK rfl,.inl ?_,some _,t4,rfl⟩
            exact (zcT (by simp [mRng,zab,mNil,mVar,rn])).trans k1)
          [.v T,.v (.int n),.v (.int a),sv p3,sv p4] ⟨p3,p4,rfl⟩
        refine ⟨[.v T,.v (.int n),.v (.int a),sv p3,sv p4],[.v T,.v (.int n),.v (.int a),sv r3,sv r4],zaK rfl,.inl ?_,some _,r3,r4,rfl⟩
        exact (zcT (by simp [mRng,zab,mNil,mVar,rn])).trans g1)
      [.v T,.v (.int n),sv o2,sv o3,sv o4] ⟨o2,o3,o4,rfl⟩
    exact ⟨p2,p3,p4,(zcT (by simp [mRng,zab,mNil,mVar,rn])).trans h1⟩
  have lT:fLen [T]=some (.int n):=by rw [eT]; exact zgY
  obtain ⟨p2,e1⟩:=l1 none none none
  obtain ⟨q2,q3,e2⟩:=l3 p2 none none
  obtain ⟨r2,r3,r4,e3⟩:=l6 q2 q3 none
  refine zlj (δ:=[.v T,.v (.int n),sv r2,sv r3,sv r4]) ?_
  show mSeq _ _ [.v T,.no,.no,.no,.no]=_
  have s1:mAsg (mCB fLen (zab (mRd 0) mNil)) (zao 1) [.v T,.no,.no,.no,.no] = .nx [.v T,.v (.int n),sv none,sv none,sv none]:=zaD (d:=.int n) (by simp [mCB,zab,mNil,mRd,lT]) rfl
  exact (zak s1).trans ((zak e1).trans ((zak e2).trans e3))
end My
namespace My
open PySem L2 PM
theorem zmy (z:Int):fAbs [.int z]=some (.int (z.natAbs:Int)):=by
  have:fAbs [.int z]=some (.int (if z < 0 then -z else z)):=rfl
  rw [this]; congr 2; split <;> omega
def encQ (p:Int × Int):D:=.tup [.int p.1,.int p.2]
theorem zmj (ns:List Int) {n:Nat} {top:Int} (hn:n ≤ 12) (t0:0 ≤ top):∃ d,LenOk n (2 * top) d∧zbs [.scr ns,.int n,.int top] = .ok (tabD (tabF n d)):=by
  obtain ⟨F,hF⟩:=Classical.axiomOfChoice (r:=fun (k:Int) (x:Int)=>0 ≤ k∧k ≤ 100→(0 ≤ x∧x ≤ top)∧zat [.scr ns,.int k,.int top] = .ok (.int x)) (fun k=>by
    by_cases hk:0 ≤ k∧k ≤ 100
    · obtain ⟨x,a,b⟩:=zcd ns (k:=k) (top:=top) (by omega) (by omega) t0
      exact ⟨x,fun _=>⟨a,b⟩⟩
    · exact ⟨0,fun z=>absurd z hk⟩)
  let sp:Int→Int × Int:=fun k=>(F (1 + 2 * k),F (2 + 2 * k))
  let d:Int→Int→Int:=fun a b=>(((sp a).1 - (sp b).1).natAbs:Int) + (((sp a).2 - (sp b).2).natAbs:Int)
  have bd:∀ k:Int,0 ≤ k→k < n→(0 ≤ (sp k).1∧(sp k).1 ≤ top)∧(0 ≤ (sp k).2∧(sp k).2 ≤ top):=fun k h0 h1=>⟨(hF (1 + 2 * k) (by omega)).1,(hF (2 + 2 * k) (by omega)).1⟩
  refine ⟨d,⟨fun a b a0 a1 b0 b1=>?_,fun a _ _=>?_,fun a b _ _ _ _=>?_,fun a b c _ _ _ _ _ _=>?_⟩,zcM ?_⟩
  · have:=bd a a0 a1
    have:=bd b b0 b1
    show 0 ≤ _ + _∧_ + _ ≤ _
    omega
  · show (((sp a).1 - (sp a).1).natAbs:Int) + (((sp a).2 - (sp a).2).natAbs:Int)=0
    omega
  · show (((sp a).1 - (sp b).1).natAbs:Int) + (((sp a).2 - (sp b).2).natAbs:Int)=(((sp b).1 - (sp a).1).natAbs:Int) + (((sp b).2 - (sp a).2).natAbs:Int)
    omega
  · show (((sp a).1 - (sp c).1).natAbs:Int) + (((sp a).2 - (sp c).2).natAbs:Int) ≤ (((sp a).1 - (sp b).1).natAbs:Int) + (((sp a).2 - (sp b).2).natAbs:Int) + ((((sp b).1 - (sp c).1).natAbs:Int) + (((sp b).2 - (sp c).2).natAbs:Int))
    omega
  · obtain ⟨S,eS⟩:∃ S,S=D.lst ((upt n).map fun k=>encQ (sp k)):=⟨_,rfl⟩
    have f2:Fit 2:=fitN 100 (by decide)
    have k1:zc3 [.v (.scr ns),.v (.int n),.v (.int top),.no,.no,.no,.no] = .ok S:=by
      rw [eS]
      refine zbW (l:=(upt n).map .int) (by simp [mRng,zab,mNil,mVar,rngT (show n ≤ 1000 by omega)]) (by rw [List.length_map,zaH]; omega) ?_
      refine zbG .int (fun k=>encQ (sp k)) _ fun k hk=>?_
      obtain ⟨a,b⟩:=mem_upt.mp hk
      have fk:Fit k:=fitN 100 (by omega)
      have h1:=(hF (1 + 2 * k) (by omega)).2
      have h2:=(hF (2 + 2 * k) (by omega)).2
      simp [zcU,zaF,ziC,za9,mTup,zar,zab,mNil,mVar,mRd,mC,zco f2 fk,h1,h2,sizeLine,encQ,sp]
    obtain ⟨δ,h1,o5,o6,rfl⟩:=zaN (b:=bTup 2 (zdC (zao 5) (zdC (zao 6) bNil))) (m:=zcD) (fun k=>encQ (sp k)) (fun pre δ=>∃ o5 o6,δ = [.v (.scr ns),.v (.int n),.v (.int top),.v S,.o (.lst (pre.map fun a=>iL ((upt n).map (d a)))),sv o5,sv o6]) (upt n)
      (by
        rintro pre a post δ hall ⟨o5,o6,rfl⟩
        have pl:pre.length ≤ 12:=by
          have:(upt n).length=n:=zaH
          rw [hall] at this; simp at this; omega
        have k2:∀ L:Sl,zeu [.v (.scr ns),.v (.int n),.v (.int top),.v S,L,.v (.int (sp a).1),.v (.int (sp a).2)] = .ok (iL ((upt n).map (d a))):=fun L=>by
          refine Eq.trans (zbW (l:=(upt n).map fun k=>encQ (sp k)) (r:=(upt n).map fun b=>.int (d a b)) (by simp [mItL,mRd,eS]) (by rw [List.length_map,zaH]; omega) ?_) (by simp [iL])
          refine zbG (fun k=>encQ (sp k)) (fun b=>.int (d a b)) _ fun b _=>?_
          simp [zcU,zaF,ziC,za9,mCB,zab,mNil,mRd,mC,encQ,zmy,d]
        refine ⟨[.v (.scr ns),.v (.int n),.v (.int top),.v S,.o (.lst (pre.map fun a=>iL ((upt n).map (d a)))),.v (.int (sp a).1),.v (.int (sp a).2)],[.v (.scr ns),.v (.int n),.v (.int top),.v S,.o (.lst ((pre ++ [a]).map fun a=>iL ((upt n).map (d a)))),.v (.int (sp a).1),.v (.int (sp a).2)],?_,.inl ?_,some _,some _,rfl⟩
        · rcases o5 with _ | o5 <;> rcases o6 with _ | o6 <;> rfl
        · unfold zcD
          refine (zc8 (d:=iL ((upt n).map (d a))) rfl (k2 _) (by rw [List.length_map]; omega)).trans ?_
          simp)
      [.v (.scr ns),.v (.int n),.v (.int top),.v S,.o (.lst []),.no,.no] ⟨none,none,rfl⟩
    show mSeq _ _ [.v (.scr ns),.v (.int n),.v (.int top),.no,.no,.no,.no]=_
    have q1:mAsg zc3 (zao 3) [.v (.scr ns),.v (.int n),.v (.int top),.no,.no,.no,.no] = .nx [.v (.scr ns),.v (.int n),.v (.int top),.v S,.no,.no,.no]:=zaD k1 rfl
    have q2:mAsg (mLst mNil) (bNew 4) [.v (.scr ns),.v (.int n),.v (.int top),.v S,.no,.no,.no] = .nx [.v (.scr ns),.v (.int n),.v (.int top),.v S,.o (.lst []),.no,.no]:=zaD (d:=.lst []) (by simp [mLst,mNil,sizeLine]) rfl
    have q3:zeq [.v (.scr ns),.v (.int n),.v (.int top),.v S,.o (.lst []),.no,.no] = .nx [.v (.scr ns),.v (.int n),.v (.int top),.v S,.o (.lst ((upt n).map fun a=>iL ((upt n).map (d a)))),sv o5,sv o6]:=(zbi (by simp [mItL,mVar,eS])).trans h1
    refine (zak q1).trans ((zak q2).trans ((zak q3).trans ?_))
    simp [zhf,tabD,tabF]
structure SymOk (n:Nat) (B:Int) (d:Int→Int→Int):Prop where
  nn:∀ a b:Int,0 ≤ a→a < n→0 ≤ b→b < n→0 ≤ d a b∧d a b ≤ B
  self:∀ a:Int,0 ≤ a→a < n→d a a=0
  sym:∀ a b:Int,0 ≤ a→a < n→0 ≤ b→b < n→d a b=d b a
def newD (d:Int→Int→Int) (k:Int):Int→Int→Int:=fun a b=>if d a k + d k b < d a b then d a k + d k b else d a b
theorem zkw {n:Nat} {B:Int} {d:Int→Int→Int} {k:Int} (h:SymOk n B d) (k0:0 ≤ k) (k1:k < n):SymOk n B (newD d k):=by
  refine ⟨fun a b a0 a1 b0 b1=>?_,fun a a0 a1=>?_,fun a b a0 a1 b0 b1=>?_⟩
  · have:=h.nn a b a0 a1 b0 b1
    have:=h.nn a k a0 a1 k0 k1
    have:=h.nn k b k0 k1 b0 b1
    unfold newD; split <;> omega
  · have:=h.self a a0 a1
    have:=h.nn a k a0 a1 k0 k1
    have:=h.nn k a k0 k1 a0 a1
    unfold newD; split <;> omega
  · have:=h.sym a b a0 a1 b0 b1
    have:=h.sym a k a0 a1 k0 k1
    have:=h.sym k b k0 k1 b0 b1
    unfold newD; split <;> split <;> omega
theorem zkr {n:Nat} {B:Int} {d:Int→Int→Int} {k:Int} (h:SymOk n B d) (k0:0 ≤ k) (k1:k < n) {M:List Int} (hM:∀ m ∈ M,0 ≤ m∧m < n) (met:∀ m ∈ M,∀ a b:Int,0 ≤ a→a < n→0 ≤ b→b < n→d a b ≤ d a m + d m b) :
    ∀ m ∈ M ++ [k],∀ a b:Int,0 ≤ a→a < n→0 ≤ b→b < n→newD d k a b ≤ newD d k a m + newD d k m b:=by
  intro m hm a b a0 a1 b0 b1
  have kk:=h.self k k0 k1
  rcases List.mem_append.mp hm with z | z
  · obtain ⟨m0,m1⟩:=hM m z
    have e1:=met m z a b a0 a1 b0 b1
    have e2:=met m z k b k0 k1 b0 b1
    have e3:=met m z a k a0 a1 k0 k1
    have p1:=h.nn k m k0 k1 m0 m1
    have p2:=h.nn m k m0 m1 k0 k1
    unfold newD
    split <;> split <;> split <;> omega
  · rw [List.mem_singleton.mp z]
    have p1:=h.nn a k a0 a1 k0 k1
    have p2:=h.nn k b k0 k1 b0 b1
    unfold newD
    split <;> split <;> split <;> omega
def half (d:Int→Int→Int) (k a b:Int):Int→Int→Int:=fun x y=>if x < a∨(x=a∧y < b) then newD d k x y else d x y
theorem zij {n:Nat} {d e:Int→Int→Int} (h:∀ a b:Int,0 ≤ a→a < n→0 ≤ b→b < n→d a b=e a b):tabF n d=tabF n e:=by
  unfold tabF
  refine List.map_congr_left fun a ha=>List.map_congr_left fun b hb=>?_
  obtain ⟨a0,a1⟩:=mem_upt.mp ha
  obtain ⟨b0,b1⟩:=mem_upt.mp hb
  exact h a b a0 a1 b0 b1
theorem zdA {n:Nat} {pre post:List Int} {x:Int} (h:upt n=pre ++ x :: post):x=pre.length∧pre.length < n∧pre=upt pre.length:=by
  have ul:(upt n).length=n:=zaH
  have pl:pre.length < n:=by rw [h] at ul; simp at ul; omega
  refine ⟨?_,pl,?_⟩
  · have h1:(upt n)[pre.length]?=some x:=by rw [h]; simp
    rw [zb4 pl] at h1
    exact (Option.some.inj h1).symm
  · apply List.ext_getElem?
    intro i
    by_cases hi:i < pre.length
    · have h1:(upt n)[i]?=pre[i]?:=by rw [h,List.getElem?_append_left hi]
      rw [zb4 hi,← h1,zb4 (by omega)]
    · rw [List.getElem?_eq_none_iff.mpr (by omega),List.getElem?_eq_none_iff.mpr (by rw [zaH]; omega)]
theorem zk8 {ll:List (List Int)} {l:En}:peek (.p (tabT ll) :: l) = .v (tabD ll) :: peek l:=by
  show Sl.v (trD (tabT ll)) :: _=_
  rw [zec]; rfl
theorem zcR {n:Nat} {d e:Int→Int→Int} (h:∀ a b:Int,0 ≤ a→a < n→0 ≤ b→b < n→d a b=e a b):tabG n d=tabG n e:=by unfold tabG; rw [zij h]
theorem znc {n:Nat} {e:Int→Int→Int} {l:En}:peek (.p (tabG n e) :: l) = .v (tabD (tabF n e)) :: peek l:=by
  show Sl.v (trD (tabT (tabF n e))) :: _=_
  rw [zec]; rfl
theorem zg7 {n:Nat} {B:Int} {d:Int→Int→Int} (hn:n ≤ 100) (h:SymOk n B d):∃ e,LenOk n B e∧zaX (tabF n d) = .ok (tabD (tabF n e)):=by
  have rn:=rngT (show n ≤ 1000 by omega)
  have rng':∀ (e:Int→Int→Int) (l:En),mRng (zab (zc1 (mCB fLen (zab (mRd 0) mNil))) mNil) (.p (tabG n e) :: l) = .ok ((upt n).map .int):=fun e l=>by
    have p:zc1 (mCB fLen (zab (mRd 0) mNil)) (.p (tabG n e) :: l) = .ok (.int n):=by
      unfold zc1
      rw [znc]
      simp [mCB,zab,mNil,mRd,zgY,zdc]
    simp [mRng,zab,mNil,p,rn]
  have inner:∀ (d:Int→Int→Int) (k a:Int) (o3 o4:Option D),SymOk n B d→0 ≤ k→k < n→0 ≤ a→a < n→∃ p3 p4,zcA [.p (tabG n (half d k a 0)),.v (.int k),.v (.int a),sv o3,sv o4] = .nx [.p (tabG n (half d k (a + 1) 0)),.v (.int k),.v (.int a),sv p3,sv p4]:=fun d k a o3 o4 hs k0 k1 a0 a1=>by
    have kk:=hs.self k k0 k1
    obtain ⟨δ,h1,p3,p4,rfl⟩:=zaN (b:=zao 3) (m:=zcp) D.int (fun pre δ=>∃ p3 p4,δ = [.p (tabG n (half d k a pre.length)),.v (.int k),.v (.int a),sv p3,sv p4]) (upt n)
      (by
        rintro pre b post δ hall ⟨p3,p4,rfl⟩
        obtain ⟨eb,_,_⟩:=zdA hall
        obtain ⟨b0,b1⟩:=mem_upt.mp (show b ∈ upt n by rw [hall]; simp)
        rw [← eb]
        obtain ⟨T,eT⟩:∃ T,T=tabF n (half d k a b):=⟨_,rfl⟩
        have v1:half d k a b a k=d a k:=by
          have:=hs.nn a k a0 a1 k0 k1
          unfold half newD; (repeat' split) <;> omega
        have v2:half d k a b k b=d k b:=by
          have:=hs.nn k b k0 k1 b0 b1
          unfold half newD; (repeat' split) <;> omega
        have v3:half d k a b a b=d a b:=by
          unfold half; rw [if_neg (by omega)]
        have ta:=zfn (n:=n) (d:=half d k a b) a0 a1
        have tk:=zfn (n:=n) (d:=half d k a b) k0 k1
        have r1:=zcq (n:=n) (f:=half d k a b a) k0 k1
        have r2:=zcq (n:=n) (f:=half d k a b k) b0 b1
        have r3:=zcq (n:=n) (f:=half d k a b a) b0 b1
        rw [v1] at r1
        rw [v2] at r2
        rw [v3] at r3
        rw [← eT] at ta tk
        rw [show tabG n (half d k a b)=tabT T by rw [eT]; rfl]
        have q1:mAsg (zc1 (m2 oAdd (m2 oIxL (m2 oIxL (mRd 0) (mRd 2)) (mRd 1)) (m2 oIxL (m2 oIxL (mRd 0) (mRd 1)) (mRd 3)))) (zao 4) [.p (tabT T),.v (.int k),.v (.int a),.v (.int b),sv p4] = .nx [.p (tabT T),.v (.int k),.v (.int a),.v (.int b),.v (.int (d a k + d k b))]:=by
          refine zaD (d:=.int (d a k + d k b)) ?_ (zaK rfl)
          unfold zc1
          rw [zk8]
          simp [peek,zkj,mRd,ta,tk,r1,r2,zdc]
        have pv:zc1 (mCB ziB (zab (m2 oIxL (m2 oIxL (mRd 0) (mRd 2)) (mRd 3)) (zab (mRd 4) mNil))) [.p (tabT T),.v (.int k),.v (.int a),.v (.int b),.v (.int (d a k + d k b))] = .ok (.int (newD d k a b)):=by
          unfold zc1
          rw [zk8]
          simp [peek,zkj,mCB,zab,mNil,mRd,ta,r3,ziB,zdc,newD]
        have q2:=zeo (i:=0) (mk:=mVar 2) (mj:=mVar 3) (me:=zc1 (mCB ziB (zab (m2 oIxL (m2 oIxL (mRd 0) (mRd 2)) (mRd 3)) (zab (mRd 4) mNil)))) (δ:=[.p (tabT T),.v (.int k),.v (.int a),.v (.int b),.v (.int (d a k + d k b))]) (d:=half d k a b) (n:=n) (by rw [eT]; rfl) rfl rfl pv a0 a1 b0 b1
        have eq2:tabG n (upd2 (half d k a b) a b (newD d k a b))=tabG n (half d k a (pre ++ [b]).length):=zcR fun x y _ _ _ _=>by
          have:((pre ++ [b]).length:Int)=b + 1:=by simp; omega
          rw [this]
          unfold upd2 half
          by_cases c1:x=a∧y=b
          · rw [if_pos c1,if_pos (by omega),c1.1,c1.2]
          · rw [if_neg c1]
            by_cases c2:x < a∨x=a∧y < b
            · rw [if_pos c2,if_pos (by omega)]
            · rw [if_neg c2,if_neg (by omega)]
        rw [eq2] at q2
        exact ⟨[.p (tabT T),.v (.int k),.v (.int a),.v (.int b),sv p4],_,zaK rfl,.inl ((zak q1).trans q2),some (.int b),some (.int (d a k + d k b)),rfl⟩)
      [.p (tabG n (half d k a 0)),.v (.int k),.v (.int a),sv o3,sv o4] ⟨o3,o4,rfl⟩
    refine ⟨p3,p4,(zbi (rng' _ _)).trans (h1.trans ?_)⟩
    have:tabG n (half d k a (upt n).length)=tabG n (half d k (a + 1) 0):=zcR fun x y _ _ _ hy=>by
      rw [zaH]
      unfold half
      by_cases c:x < a∨x=a∧y < (n:Int)
      · rw [if_pos c,if_pos (by omega)]
      · rw [if_neg c,if_neg (by omega)]
    rw [this]
  have mid:∀ (d:Int→Int→Int) (k:Int) (o2 o3 o4:Option D),SymOk n B d→0 ≤ k→k < n→∃ p2 p3 p4,zcN [.p (tabG n d),.v (.int k),sv o2,sv o3,sv o4] = .nx [.p (tabG n (newD d k)),.v (.int k),sv p2,sv p3,sv p4]:=fun d k o2 o3 o4 hs k0 k1=>by
    obtain ⟨δ,h1,p2,p3,p4,rfl⟩:=zaN (b:=zao 2) (m:=zcr) D.int (fun pre δ=>∃ p2 p3 p4,δ = [.p (tabG n (half d k pre.length 0)),.v (.int k),sv p2,sv p3,sv p4]) (upt n)
      (by
        rintro pre a post δ hall ⟨p2,p3,p4,rfl⟩
        obtain ⟨ea,_,_⟩:=zdA hall
        obtain ⟨a0,a1⟩:=mem_upt.mp (show a ∈ upt n by rw [hall]; simp)
        rw [← ea]
        obtain ⟨r3,r4,e⟩:=inner d k a p3 p4 hs k0 k1 a0 a1
        refine ⟨[.p (tabG n (half d k a 0)),.v (.int k),.v (.int a),sv p3,sv p4],_,zaK rfl,.inl e,some (.int a),r3,r4,?_⟩
        have:((pre ++ [a]).length:Int)=a + 1:=by simp; omega
        rw [this]; rfl)
      [.p (tabG n (half d k 0 0)),.v (.int k),sv o2,sv o3,sv o4] ⟨o2,o3,o4,rfl⟩
    have e0:tabG n (half d k 0 0)=tabG n d:=zcR fun x y x0 _ y0 _=>by unfold half; rw [if_neg (by omega)]
    have e1:tabG n (half d k (upt n).length 0)=tabG n (newD d k):=zcR fun x y _ x1 _ _=>by rw [zaH]; unfold half; rw [if_pos (by omega)]
    rw [e0,e1] at h1
    exact ⟨p2,p3,p4,(zbi (rng' _ _)).trans h1⟩
  obtain ⟨δ,h1,e,p1,p2,p3,p4,rfl,hs,met⟩:=zaN (b:=zao 1) (m:=zcs) D.int (fun pre δ=>∃ (e:Int→Int→Int) (p1 p2 p3 p4:Option D),δ = [.p (tabG n e),sv p1,sv p2,sv p3,sv p4]∧SymOk n B e∧∀ m ∈ pre,∀ a b:Int,0 ≤ a→a < n→0 ≤ b→b < n→e a b ≤ e a m + e m b) (upt n)
    (by
      rintro pre k post δ hall ⟨e,p1,p2,p3,p4,rfl,hs,met⟩
      obtain ⟨k0,k1⟩:=mem_upt.mp (show k ∈ upt n by rw [hall]; simp)
      obtain ⟨r2,r3,r4,e2⟩:=mid e k p2 p3 p4 hs k0 k1
      exact ⟨[.p (tabG n e),.v (.int k),sv p2,sv p3,sv p4],_,zaK rfl,.inl e2,newD e k,some (.int k),r2,r3,r4,rfl,zkw hs k0 k1,zkr hs k0 k1 (fun m hm=>mem_upt.mp (show m ∈ upt n by rw [hall]; exact List.mem_append_left _ hm)) met⟩)
    [.p (tabG n d),.no,.no,.no,.no] ⟨d,none,none,none,none,rfl,h,fun m hm=>by cases hm⟩
  refine ⟨e,⟨hs.nn,hs.self,hs.sym,fun a b c a0 a1 b0 b1 c0 c1=>met b (mem_upt.mpr ⟨b0,b1⟩) a c a0 a1 c0 c1⟩,?_⟩
  have q:zbu [.p (tabG n d),.no,.no,.no,.no] = .ro (tabD (tabF n e)):=by
    have q1:zcG [.p (tabG n d),.no,.no,.no,.no] = .nx [.p (tabG n e),sv p1,sv p2,sv p3,sv p4]:=(zbi (rng' _ _)).trans h1
    exact (zak q1).trans (show O.ro (trD (tabT (tabF n e)))=_ by rw [zec])
  show runT 4 zbu (tabF n d)=_
  unfold runT
  rw [show (Sl.p (tabT (tabF n d)) :: List.replicate 4 Sl.no) = [.p (tabG n d),.no,.no,.no,.no] from rfl,q]
end My
namespace My
open PySem L2 PM
theorem zgH {α:Type} {f:D→R (List Int)} (enc:α→D) (g:α→List Int) (l:List α) (h:∀ x ∈ l,f (enc x) = .ok (g x)):zbz f (l.map enc) = .ok (l.map g):=by
  induction l with
  | nil=>rfl
  | cons a l ih=>rw [List.map_cons,zbz,h a (by simp),R.bind_ok,ih fun x hx=>h x (by simp [hx]),R.bind_ok]; rfl
theorem zki {n:Nat} {B:Int} {d:Int→Int→Int} {a b v:Int} (h:SymOk n B d) (a0:0 ≤ a) (b0:0 ≤ b) (ne:a ≠ b) (v0:0 ≤ v) (v1:v ≤ B):SymOk n B (upd2 (upd2 d a b v) b a v):=by
  refine ⟨fun x y x0 x1 y0 y1=>?_,fun x x0 x1=>?_,fun x y x0 x1 y0 y1=>?_⟩
  · have:=h.nn x y x0 x1 y0 y1
    unfold upd2; (repeat' split) <;> omega
  · have:=h.self x x0 x1
    unfold upd2; (repeat' split) <;> omega
  · have:=h.sym x y x0 x1 y0 y1
    unfold upd2; (repeat' split) <;> omega
theorem zh0 (ns:List Int) {most:Int} (t0:0 ≤ most) (t1:most ≤ 1000000000000000000):∃ (n:Nat) (d:Int→Int→Int),(1 ≤ n∧n ≤ 11)∧LenOk n 2000000000000000000 d∧za6 [.scr ns,.int most] = .ok (tabD (tabF n d)):=by
  obtain ⟨c,ec⟩:∃ c,c=ns.getD 0 0:=⟨_,rfl⟩
  have c0:zaA [.scr ns,.int 0] = .ok (.int c):=by rw [ec]; exact zfk ns 0
  have f7:Fit 7:=fitN 1000 (by decide)
  have f56:Fit 56:=fitN 1000 (by decide)
  have f112:Fit 112:=fitN 1000 (by decide)
  have f336:Fit 336:=fitN 1000 (by decide)
  obtain ⟨n,hn1,hn2,hn⟩:∃ n:Nat,1 ≤ n∧n ≤ 11∧(n:Int)=if c / 7 % 8=3 then 8 + c / 56 % 4 else 1 + c % 7:=by
    have a1:=zeH (c / 56) (show (0:Int) < 5 by decide)
    have a2:=zeG (c / 56) (show (0:Int) < 5 by decide)
    have a3:=zeH c (show (0:Int) < 7 by decide)
    have a4:=zeG c (show (0:Int) < 7 by decide)
    by_cases h:c / 7 % 8=3
    · exact ⟨(8 + c / 56 % 4).toNat,by omega,by omega,by rw [if_pos h]; omega⟩
    · exact ⟨(1 + c % 7).toNat,by omega,by omega,by rw [if_neg h]; omega⟩
  obtain ⟨w,ew⟩:∃ w,w=c / 112 % 3:=⟨_,rfl⟩
  have w0:0 ≤ w:=by rw [ew]; exact zeH _ (by decide)
  have w1:w < 3:=by rw [ew]; exact zeG _ (by decide)
  obtain ⟨top,⟨p0,p1⟩,itop⟩:∃ top:Int,(0 ≤ top∧top ≤ 1000000000000000000)∧oIxL (.lst [.int 6,.int 60,.int most]) (.int (c / 336 % 3))=some (.int top):=by
    have h0:=zeH (c / 336) (show (0:Int) < 3 by decide)
    have h1:=zeG (c / 336) (show (0:Int) < 3 by decide)
    rcases (show c / 336 % 3=0∨c / 336 % 3=1∨c / 336 % 3=2 by omega) with e | e | e <;> rw [e]
    · exact ⟨6,by decide,rfl⟩
    · exact ⟨60,by decide,rfl⟩
    · exact ⟨most,⟨t0,t1⟩,rfl⟩
  have rn:=rngT (show n ≤ 1000 by omega)
  have big:∀ {d:Int→Int→Int} {B:Int},B ≤ 2000000000000000000→LenOk n B d→LenOk n 2000000000000000000 d:=fun hB h=>⟨fun a b a0 a1 b0 b1=>by have:=h.nn a b a0 a1 b0 b1; omega,h.self,h.sym,h.tri⟩
  have q1:mAsg (zar zaA (zab (mVar 0) (zab (mC (.int 0)) mNil))) (zao 2) [.v (.scr ns),.v (.int most),.no,.no,.no,.no,.no,.no,.no,.no] = .nx [.v (.scr ns),.v (.int most),.v (.int c),.no,.no,.no,.no,.no,.no,.no]:=zaD (d:=.int c) (by simp [zar,zab,mNil,mVar,mC,c0]) rfl
  have q2:mAsg (m2 oAdd (mC (.int 1)) (m2 oMod (mRd 2) (mC (.int 7)))) (zao 3) [.v (.scr ns),.v (.int most),.v (.int c),.no,.no,.no,.no,.no,.no,.no] = .nx [.v (.scr ns),.v (.int most),.v (.int c),.v (.int (1 + c % 7)),.no,.no,.no,.no,.no,.no]:=zaD (d:=.int (1 + c % 7)) (by simp [mRd,mC,zbP]) rfl
  have q3:mIfS (zas (m2 oEq (m2 oMod (m2 oDiv (mRd 2) (mC (.int 7))) (mC (.int 8))) (mC (.int 3)))) (mAsg (m2 oAdd (mC (.int 8)) (m2 oMod (m2 oDiv (mRd 2) (mC (.int 56))) (mC (.int 4)))) (zao 3)) zbd [.v (.scr ns),.v (.int most),.v (.int c),.v (.int (1 + c % 7)),.no,.no,.no,.no,.no,.no] = .nx [.v (.scr ns),.v (.int most),.v (.int c),.v (.int n),.no,.no,.no,.no,.no,.no]:=by
    by_cases h:c / 7 % 8=3
    · rw [if_pos h] at hn
      rw [zff (by simp [zas,mRd,mC,zbP,zc0,f7,h])]
      exact zaD (d:=.int n) (by simp [mRd,mC,zbP,zc0,f56,hn]) rfl
    · rw [if_neg h] at hn
      rw [zbw (by simp [zas,mRd,mC,zbP,zc0,f7,h]),hn]; rfl
  have q4:mAsg (m2 oMod (m2 oDiv (mRd 2) (mC (.int 112))) (mC (.int 3))) (zao 4) [.v (.scr ns),.v (.int most),.v (.int c),.v (.int n),.no,.no,.no,.no,.no,.no] = .nx [.v (.scr ns),.v (.int most),.v (.int c),.v (.int n),.v (.int w),.no,.no,.no,.no,.no]:=zaD (d:=.int w) (by simp [mRd,mC,zbP,zc0,f112,ew]) rfl
  have q5:mAsg (m2 oIxL (mLst (zab (mC (.int 6)) (zab (mC (.int 60)) (zab (mVar 1) mNil)))) (m2 oMod (m2 oDiv (mRd 2) (mC (.int 336))) (mC (.int 3)))) (zao 5) [.v (.scr ns),.v (.int most),.v (.int c),.v (.int n),.v (.int w),.no,.no,.no,.no,.no] = .nx [.v (.scr ns),.v (.int most),.v (.int c),.v (.int n),.v (.int w),.v (.int top),.no,.no,.no,.no]:=zaD (d:=.int top) (by simp [mLst,zab,mNil,mVar,mRd,mC,sizeLine,zbP,zc0,f336,itop]) rfl
  have run:∀ X,_→za6 [.scr ns,.int most] = .ok X:=fun X hX=>zcM ((zak q1).trans ((zak q2).trans ((zak q3).trans ((zak q4).trans ((zak q5).trans hX)))))
  by_cases hw0:w=0
  · obtain ⟨d,hd,hg⟩:=zmj ns (n:=n) (top:=top) (by omega) p0
    refine ⟨n,d,⟨hn1,hn2⟩,big (by omega) hd,run _ ?_⟩
    have:mIfS (zas (m2 oEq (mRd 4) (mC (.int 0)))) (zeV (zar zbs (zab (mVar 0) (zab (mVar 3) (zab (mVar 5) mNil))))) zbd [.v (.scr ns),.v (.int most),.v (.int c),.v (.int n),.v (.int w),.v (.int top),.no,.no,.no,.no] = .ro (tabD (tabF n d)):=by
      rw [zff (by simp [zas,mRd,mC,hw0])]
      simp [zeV,zar,zab,mNil,mVar,hg]
    unfold mSeq
    rw [this]
  · have q6:mIfS (zas (m2 oEq (mRd 4) (mC (.int 0)))) (zeV (zar zbs (zab (mVar 0) (zab (mVar 3) (zab (mVar 5) mNil))))) zbd [.v (.scr ns),.v (.int most),.v (.int c),.v (.int n),.v (.int w),.v (.int top),.no,.no,.no,.no] = .nx [.v (.scr ns),.v (.int most),.v (.int c),.v (.int n),.v (.int w),.v (.int top),.no,.no,.no,.no]:=by
      rw [zbw (by simp [zas,mRd,mC,hw0])]; rfl
    obtain ⟨lo,elo⟩:∃ lo:Int,lo=if w=1 then top else 0:=⟨_,rfl⟩
    have lo0:0 ≤ lo∧lo ≤ top:=by rw [elo]; split <;> omega
    have k2:zbv [.v (.scr ns),.v (.int most),.v (.int c),.v (.int n),.v (.int w),.v (.int top),.no,.no,.no,.no] = .ok (tabF n fun _ _=>0):=by
      unfold zbv zi7
      have r:mRng (zab (mVar 3) mNil) [.v (.scr ns),.v (.int most),.v (.int c),.v (.int n),.v (.int w),.v (.int top),.no,.no,.no,.no] = .ok ((upt n).map .int):=by simp [mRng,zab,mNil,mVar,rn]
      rw [r,R.bind_ok,zaU (by rw [List.length_map,zaH]; exact Nat.le_trans hn2 (by decide))]
      have g:zbz (zgN (za9 1) zb5 (zaF [.v (.scr ns),.v (.int most),.v (.int c),.v (.int n),.v (.int w),.v (.int top),.no,.no,.no,.no] [3] 1)) ((upt n).map .int) = .ok ((upt n).map fun _=>(upt n).map fun _=>(0:Int)):=by
        refine zgH .int _ _ fun a _=>?_
        have k1:zb5 [.v (.int n),.v (.int a)] = .ok (iL ((upt n).map fun _=>(0:Int))):=by
          refine Eq.trans (zbW (l:=(upt n).map .int) (r:=(upt n).map fun _=>.int 0) (by simp [mRng,zab,mNil,mVar,rn]) (by rw [List.length_map,zaH]; omega) ?_) (by simp [iL])
          exact zbG .int (fun _=>.int 0) _ fun k _=>by simp [zcU,zaF,za9,mC]
        have e:zaF [.v (.scr ns),.v (.int most),.v (.int c),.v (.int n),.v (.int w),.v (.int top),.no,.no,.no,.no] [3] 1 = [.v (.int n),.no]:=rfl
        have al:asIl (iL ((upt n).map fun _=>(0:Int)))=some ((upt n).map fun _=>(0:Int)):=zeb _
        rw [e]
        simp [zgN,za9,k1,al]
      rw [g]; rfl
    have q7:zky zbv 6 [.v (.scr ns),.v (.int most),.v (.int c),.v (.int n),.v (.int w),.v (.int top),.no,.no,.no,.no] = .nx [.v (.scr ns),.v (.int most),.v (.int c),.v (.int n),.v (.int w),.v (.int top),.p (tabG n fun _ _=>0),.no,.no,.no]:=by
      unfold zky
      rw [k2]; rfl
    have inner:∀ (d:Int→Int→Int) (a:Int) (o8 o9:Option D),SymOk n (2 * top) d→0 ≤ a→a < n→(∀ x y:Int,0 ≤ x→x < a→0 ≤ y→y < a→x ≠ y→lo ≤ d x y) →
        ∃ d' p8 p9,zcZ [.v (.scr ns),.v (.int most),.v (.int c),.v (.int n),.v (.int w),.v (.int top),.p (tabG n d),.v (.int a),sv o8,sv o9] = .nx [.v (.scr ns),.v (.int most),.v (.int c),.v (.int n),.v (.int w),.v (.int top),.p (tabG n d'),.v (.int a),sv p8,sv p9]∧SymOk n (2 * top) d'∧∀ x y:Int,0 ≤ x→x < a + 1→0 ≤ y→y < a + 1→x ≠ y→lo ≤ d' x y:=fun d a o8 o9 hs a0 a1 hd=>by
      obtain ⟨δ,h1,e,p8,p9,rfl,es,ed⟩:=zaN (b:=zao 8) (m:=zcC) D.int (fun pre δ=>∃ (e:Int→Int→Int) (p8 p9:Option D),δ = [.v (.scr ns),.v (.int most),.v (.int c),.v (.int n),.v (.int w),.v (.int top),.p (tabG n e),.v (.int a),sv p8,sv p9]∧SymOk n (2 * top) e∧∀ x y:Int,0 ≤ x→x < a + 1→0 ≤ y→y < a + 1→x ≠ y→(x < a∨y < pre.length)→(y < a∨x < pre.length)→lo ≤ e x y) (upt a.toNat)
        (by
          rintro pre b post δ hall ⟨e,p8,p9,rfl,es,ed⟩
          obtain ⟨eb,_,_⟩:=zdA hall
          obtain ⟨b0,b1⟩:=mem_upt.mp (show b ∈ upt a.toNat by rw [hall]; simp)
          have aa:0 ≤ a * (a - 1):=Int.mul_nonneg a0 (by omega)
          have ab:a * (a - 1) ≤ 12 * 12:=Int.mul_le_mul (by omega) (by omega) (by omega) (by decide)
          obtain ⟨x,⟨x0,x1⟩,hx⟩:=zcd ns (k:=1 + a * (a - 1) / 2 + b) (top:=top) (by omega) (by omega) p0
          have fa:Fit a:=fitN 100 (by omega)
          have fa1:Fit (a - 1):=fitN 100 (by omega)
          have f2:Fit 2:=fitN 100 (by decide)
          obtain ⟨v,ev⟩:∃ v,v=if w=1 then x + top else x:=⟨_,rfl⟩
          have v0:lo ≤ v∧0 ≤ v∧v ≤ 2 * top:=by rw [ev,elo]; split <;> omega
          have s1:mAsg (zar zat (zab (mVar 0) (zab (m2 oAdd (m2 oAdd (mC (.int 1)) (m2 oDiv (m2 oMul (mRd 7) (m2 oSub (mRd 7) (mC (.int 1)))) (mC (.int 2)))) (mRd 8)) (zab (mVar 5) mNil)))) (zao 9) [.v (.scr ns),.v (.int most),.v (.int c),.v (.int n),.v (.int w),.v (.int top),.p (tabG n e),.v (.int a),.v (.int b),sv p9] = .nx [.v (.scr ns),.v (.int most),.v (.int c),.v (.int n),.v (.int w),.v (.int top),.p (tabG n e),.v (.int a),.v (.int b),.v (.int x)]:=by
            refine zaD (d:=.int x) ?_ (zaK rfl)
            simp [zar,zab,mNil,mVar,mRd,mC,zco fa fa1,zc0,f2,hx]
          have s2:mIfS (zas (m2 oEq (mRd 4) (mC (.int 1)))) (mAsg (m2 oAdd (mRd 9) (mRd 5)) (zao 9)) zbd [.v (.scr ns),.v (.int most),.v (.int c),.v (.int n),.v (.int w),.v (.int top),.p (tabG n e),.v (.int a),.v (.int b),.v (.int x)] = .nx [.v (.scr ns),.v (.int most),.v (.int c),.v (.int n),.v (.int w),.v (.int top),.p (tabG n e),.v (.int a),.v (.int b),.v (.int v)]:=by
            by_cases h:w=1
            · rw [if_pos h] at ev
              rw [zff (by simp [zas,mRd,mC,h])]
              exact zaD (d:=.int v) (by simp [mRd,ev]) rfl
            · rw [if_neg h] at ev
              rw [zbw (by simp [zas,mRd,mC,h]),ev]; rfl
          have s3:=zeo (i:=6) (mk:=mVar 7) (mj:=mVar 8) (me:=mVar 9) (δ:=[.v (.scr ns),.v (.int most),.v (.int c),.v (.int n),.v (.int w),.v (.int top),.p (tabG n e),.v (.int a),.v (.int b),.v (.int v)]) (n:=n) (d:=e) rfl rfl rfl rfl a0 a1 b0 (by omega)
          have s4:=zeo (i:=6) (mk:=mVar 8) (mj:=mVar 7) (me:=mVar 9) (δ:=[.v (.scr ns),.v (.int most),.v (.int c),.v (.int n),.v (.int w),.v (.int top),.p (tabG n (upd2 e a b v)),.v (.int a),.v (.int b),.v (.int v)]) (n:=n) (d:=upd2 e a b v) rfl rfl rfl rfl b0 (by omega) a0 a1
          refine ⟨[.v (.scr ns),.v (.int most),.v (.int c),.v (.int n),.v (.int w),.v (.int top),.p (tabG n e),.v (.int a),.v (.int b),sv p9],_,zaK rfl,.inl ((zak s1).trans ((zak s2).trans ((zak s3).trans s4))),upd2 (upd2 e a b v) b a v,some (.int b),some (.int v),rfl,zki es a0 b0 (by omega) v0.2.1 v0.2.2,fun y z y0 y1 z0 z1 yz h1 h2=>?_⟩
          have pl:((pre ++ [b]).length:Int)=b + 1:=by simp; omega
          rw [pl] at h1 h2
          have h3:=ed y z y0 y1 z0 z1 yz
          have v1:=v0.1
          unfold upd2
          (repeat' split) <;> first | exact v1 | (refine h3 ?_ ?_ <;> omega))
        [.v (.scr ns),.v (.int most),.v (.int c),.v (.int n),.v (.int w),.v (.int top),.p (tabG n d),.v (.int a),sv o8,sv o9] ⟨d,o8,o9,rfl,hs,fun x y x0 x1 y0 y1 xy h1 h2=>by
          simp at h1 h2
          exact hd x y x0 (by omega) y0 (by omega) xy⟩
      refine ⟨e,p8,p9,(zbi (l:=(upt a.toNat).map .int) ?_).trans h1,es,fun x y x0 x1 y0 y1 xy=>ed x y x0 x1 y0 y1 xy (by rw [zaH]; omega) (by rw [zaH]; omega)⟩
      have ra:=rngT (show a.toNat ≤ 1000 by omega)
      rw [show ((a.toNat:Nat):Int)=a by omega] at ra
      simp [mRng,zab,mNil,mVar,ra]
    obtain ⟨δ,h1,d,o7,o8,o9,rfl,hs,hd⟩:=zaN (b:=zao 7) (m:=zcx) D.int (fun pre δ=>∃ (d:Int→Int→Int) (o7 o8 o9:Option D),δ = [.v (.scr ns),.v (.int most),.v (.int c),.v (.int n),.v (.int w),.v (.int top),.p (tabG n d),sv o7,sv o8,sv o9]∧SymOk n (2 * top) d∧∀ x y:Int,0 ≤ x→x < pre.length→0 ≤ y→y < pre.length→x ≠ y→lo ≤ d x y) (upt n)
      (by
        rintro pre a post δ hall ⟨d,o7,o8,o9,rfl,hs,hd⟩
        obtain ⟨ea,_,_⟩:=zdA hall
        obtain ⟨a0,a1⟩:=mem_upt.mp (show a ∈ upt n by rw [hall]; simp)
        rw [← ea] at hd
        obtain ⟨d',p8,p9,e1,e2,e3⟩:=inner d a o8 o9 hs a0 a1 hd
        refine ⟨[.v (.scr ns),.v (.int most),.v (.int c),.v (.int n),.v (.int w),.v (.int top),.p (tabG n d),.v (.int a),sv o8,sv o9],_,zaK rfl,.inl e1,d',some (.int a),p8,p9,rfl,e2,?_⟩
        have pl:((pre ++ [a]).length:Int)=a + 1:=by simp; omega
        rw [pl]; exact e3)
      [.v (.scr ns),.v (.int most),.v (.int c),.v (.int n),.v (.int w),.v (.int top),.p (tabG n fun _ _=>0),.no,.no,.no] ⟨fun _ _=>0,none,none,none,rfl,⟨fun _ _ _ _ _ _=>⟨Int.le_refl _,by omega⟩,fun _ _ _=>rfl,fun _ _ _ _ _ _=>rfl⟩,fun x y x0 x1=>by simp at x1; omega⟩
    have q8:zcW [.v (.scr ns),.v (.int most),.v (.int c),.v (.int n),.v (.int w),.v (.int top),.p (tabG n fun _ _=>0),.no,.no,.no] = .nx [.v (.scr ns),.v (.int most),.v (.int c),.v (.int n),.v (.int w),.v (.int top),.p (tabG n d),sv o7,sv o8,sv o9]:=(zbi (l:=(upt n).map .int) (by simp [mRng,zab,mNil,mVar,rn])).trans h1
    rw [zaH] at hd
    by_cases hw2:w=2
    · obtain ⟨e,he,hsh⟩:=zg7 (show n ≤ 100 by omega) hs
      refine ⟨n,e,⟨hn1,hn2⟩,big (by omega) he,run _ ((zak q6).trans ((zak q7).trans ((zak q8).trans ?_)))⟩
      have:mIfS (zas (m2 oEq (mRd 4) (mC (.int 2)))) (zgy zaX 6) zbd [.v (.scr ns),.v (.int most),.v (.int c),.v (.int n),.v (.int w),.v (.int top),.p (tabG n d),sv o7,sv o8,sv o9] = .ro (tabD (tabF n e)):=by
        rw [zff (by simp [zas,mRd,mC,hw2])]
        show (match tabOf (some (Sl.p (tabG n d))) with | some ll=>_ | none=>_)=_
        rw [zjr]
        simp only [hsh]
      unfold mSeq
      rw [this]
    · have hw1:w=1:=by omega
      rw [if_pos hw1] at elo
      rw [elo] at hd
      refine ⟨n,d,⟨hn1,hn2⟩,big (by omega) ⟨hs.nn,hs.self,hs.sym,fun a b c a0 a1 b0 b1 c0 c1=>?_⟩,run _ ((zak q6).trans ((zak q7).trans ((zak q8).trans ?_)))⟩
      · have n1:=hs.nn a c a0 a1 c0 c1
        by_cases e1:a=b
        · subst e1; have:=hs.self a a0 a1; omega
        · by_cases e2:b=c
          · subst e2; have:=hs.self b b0 b1; omega
          · have:=hd a b a0 a1 b0 b1 e1
            have:=hd b c b0 b1 c0 c1 e2
            omega
      · have:mIfS (zas (m2 oEq (mRd 4) (mC (.int 2)))) (zgy zaX 6) zbd [.v (.scr ns),.v (.int most),.v (.int c),.v (.int n),.v (.int w),.v (.int top),.p (tabG n d),sv o7,sv o8,sv o9] = .nx [.v (.scr ns),.v (.int most),.v (.int c),.v (.int n),.v (.int w),.v (.int top),.p (tabG n d),sv o7,sv o8,sv o9]:=by
          rw [zbw (by simp [zas,mRd,mC,hw2])]; rfl
        exact (zak this).trans (show O.ro (trD (tabT (tabF n d)))=_ by rw [zec])
end My
namespace My
open PySem L2 PM
def encR (p:Int × Int):D:=.tup [.int p.1,.int p.2]
end My
namespace My
open PySem L2 PM
def odd (E:List Int) (k:Int):Bool:=decide (E.count k % 2=1)
def insO (L:List Int) (t:Int):List Int:=if t ∈ L then L else L ++ [t]
def zaW (E:List Int):List Int:=E.foldl insO []
theorem ziu (E:List Int) (x:Int):zaW (E ++ [x])=insO (zaW E) x:=by simp [zaW]
theorem zbL:∀ E:List Int,(zaW E).Nodup∧∀ x,x ∈ zaW E ↔ x ∈ E:=by
  have key:∀ (E L:List Int),L.Nodup→(E.foldl insO L).Nodup∧∀ x,x ∈ E.foldl insO L ↔ x ∈ L∨x ∈ E:=by
    intro E
    induction E with
    | nil=>intro L h; exact ⟨h,by simp⟩
    | cons a E ih =>
      intro L h
      have h2:(insO L a).Nodup:=by
        unfold insO
        split
        · exact h
        · rename_i z
          refine List.nodup_append.mpr ⟨h,by simp,fun x hx y hy e=>?_⟩
          rw [List.mem_singleton.mp hy] at e
          rw [e] at hx; exact z hx
      have m2:∀ x,x ∈ insO L a ↔ x ∈ L∨x=a:=fun x=>by
        unfold insO
        split
        · rename_i z
          exact ⟨.inl,fun w=>w.elim id fun e=>by rw [e]; exact z⟩
        · simp
      obtain ⟨i1,i2⟩:=ih (insO L a) h2
      refine ⟨i1,fun x=>?_⟩
      rw [List.foldl_cons,i2,m2,List.mem_cons,or_assoc]
  intro E
  obtain ⟨a,b⟩:=key E [] List.nodup_nil
  exact ⟨a,fun x=>by rw [show zaW E=E.foldl insO [] from rfl,b]; simp⟩
theorem zfl (E:List Int):(zaW E).length ≤ E.length:=by
  have:=zbL E
  exact List.Nodup.length_le_of_subset this.1 fun x hx=>(this.2 x).mp hx
def dF (E:List Int):D:=.dct ((zaW E).map .inl) ((zaW E).map fun k=>.bl (odd E k))
theorem get_map (ks:List Int) (f:Int→D) (t:Int):getK (ks.map .inl) (ks.map f) (.inl t)=if t ∈ ks then some (f t) else none:=by
  induction ks with
  | nil=>rfl
  | cons a l ih =>
    simp only [List.map_cons,getK,ih]
    by_cases h:a=t
    · subst h; simp
    · have h':¬ (Sum.inl a:Key)=Sum.inl t:=fun e=>h (Sum.inl.inj e)
      rw [if_neg h']
      by_cases z:t ∈ l
      · rw [if_pos z,if_pos (List.mem_cons_of_mem _ z)]
      · rw [if_neg z,if_neg (fun w=>by rcases List.mem_cons.mp w with e | e; exact h e.symm; exact z e)]
theorem zke (ks:List Int) (f:Int→D) (t:Int) (v:D) (hn:ks.Nodup):putL (ks.map .inl) (ks.map f) (.inl t) v=ks.map fun k=>if k=t then v else f k:=by
  induction ks with
  | nil=>rfl
  | cons a l ih =>
    have hl:=(List.nodup_cons.mp hn)
    simp only [List.map_cons,putL]
    by_cases h:a=t
    · subst h
      simp only [if_true,ih hl.2]
    · have h':¬ (Sum.inl a:Key)=Sum.inl t:=fun e=>h (Sum.inl.inj e)
      rw [if_neg h',if_neg h,ih hl.2]
theorem any_map (L:List Int) (t:Int):(L.map (.inl:Int→Key)).any (fun a=>decide (a = .inl t))=decide (t ∈ L):=by
  rw [Bool.eq_iff_iff]
  simp only [List.any_eq_true,List.mem_map,decide_eq_true_eq]
  constructor
  · rintro ⟨x,⟨a,h1,rfl⟩,h2⟩
    cases h2; exact h1
  · intro h
    exact ⟨_,⟨t,h,rfl⟩,rfl⟩
theorem zd8 (E:List Int) (x k:Int):odd (E ++ [x]) k=if k=x then !odd E k else odd E k:=by
  unfold odd
  rw [List.count_append]
  by_cases h:k=x
  · subst h
    rw [if_pos rfl,List.count_singleton_self]
    by_cases z:E.count k % 2=1 <;> simp [z] <;> omega
  · rw [if_neg h,List.count_singleton]
    have:(x == k)=false:=beq_eq_false_iff_ne.mpr fun e=>h e.symm
    simp [this]
theorem zlP (E:List Int) (x:Int):putD ((zaW E).map .inl) ((zaW E).map fun k=>.bl (odd E k)) (.inl x) (.bl (!odd E x))=dF (E ++ [x]):=by
  have ok:=zbL E
  unfold putD dF
  rw [any_map,ziu]
  by_cases h:x ∈ zaW E
  · rw [if_pos (by simpa using h),zke _ _ _ _ ok.1]
    simp only [insO,if_pos h]
    congr 1
    refine List.map_congr_left fun k _=>?_
    rw [zd8]
    by_cases e:k=x
    · subst e; simp
    · simp [e]
  · rw [if_neg (by simpa using h)]
    simp only [insO,if_neg h,List.map_append,List.map_cons,List.map_nil]
    congr 2
    · refine List.map_congr_left fun k hk=>?_
      rw [zd8,if_neg (fun e=>h (by rw [← e]; exact hk))]
    · rw [zd8,if_pos rfl]
def ends (R:List (Int × Int)):List Int:=R.flatMap fun p=>[p.1,p.2]
theorem zea (R:List (Int × Int)):(ends R).length=2 * R.length:=by
  induction R with
  | nil=>rfl
  | cons p R ih=>simp only [ends,List.flatMap_cons,List.length_append,List.length_cons,List.length_nil] at *; omega
def oddL (R:List (Int × Int)):List Int:=(zaW (ends R)).filter (odd (ends R))
theorem zg3 {R:List (Int × Int)} (hR:R.length ≤ 30):zbH [.lst (R.map encR)] = .ok (iL (srt (oddL R))):=by
  obtain ⟨A,eA⟩:∃ A,A=D.lst (R.map encR):=⟨_,rfl⟩
  have step:∀ (E:List Int) (x:Int) (s2:Sl),E.length ≤ 100→zdV [.v A,.o (dF E),s2,.v (.int x)] = .nx [.v A,.o (dF (E ++ [x])),s2,.v (.int x)]:=fun E x s2 hE=>by
    have g:zhk (mRd 1) (mVar 3) (mC (.bl false)) [.v A,.o (dF E),s2,.v (.int x)] = .ok (.bl (odd E x)):=by
      have gk:=get_map (zaW E) (fun k=>D.bl (odd E k)) x
      by_cases h:x ∈ zaW E
      · rw [if_pos h] at gk
        simp [zhk,mRd,mVar,mC,dF,asK,gk,zln]
      · rw [if_neg h] at gk
        have z:odd E x=false:=by
          unfold odd
          have:x ∉ E:=fun w=>h ((zbL E).2 x |>.mpr w)
          rw [List.count_eq_zero.mpr this]; rfl
        simp [zhk,mRd,mVar,mC,dF,asK,gk,z,zln]
    have fl:=zfl E
    show zjz 1 (mVar 3) (zh8 (zhk (mRd 1) (mVar 3) (mC (.bl false)))) _=_
    unfold zjz
    have nv:zh8 (zhk (mRd 1) (mVar 3) (mC (.bl false))) [.v A,.o (dF E),s2,.v (.int x)] = .ok (.bl (!odd E x)):=by
      unfold zh8
      rw [g]; rfl
    show (PM.R.toO (zh8 _ _) _ _)=_
    rw [nv]
    simp only [PM.R.toO_ok]
    show (PM.R.toO (mVar 3 _) _ _)=_
    have v3:mVar 3 [.v A,.o (dF E),s2,.v (.int x)] = .ok (.int x):=rfl
    rw [v3]
    simp only [PM.R.toO_ok,asK]
    rw [zaU (by rw [List.length_map]; exact zjY (by omega)),zlP]
    rfl
  obtain ⟨δ1,h1,o2,o3,rfl⟩:=zaN (b:=zao 2) (m:=zcF) encR (fun pre δ=>∃ o2 o3,δ = [.v A,.o (dF (ends pre)),sv o2,sv o3]) R
    (by
      rintro pre p post δ hall ⟨o2,o3,rfl⟩
      have pl:pre.length ≤ 30:=by rw [hall] at hR; simp at hR; omega
      have el:=zea pre
      have s1:=step (ends pre) p.1 (.v (encR p)) (by omega)
      have s2:=step (ends pre ++ [p.1]) p.2 (.v (encR p)) (by simp; omega)
      refine ⟨[.v A,.o (dF (ends pre)),.v (encR p),sv o3],_,zaK rfl,.inl ?_,some (encR p),some (.int p.2),rfl⟩
      have e:ends (pre ++ [p])=ends pre ++ [p.1] ++ [p.2]:=by simp [ends]
      rw [e]
      unfold zcF zes
      refine (zbi (l:=[.int p.1,.int p.2]) rfl).trans ?_
      unfold zdo
      rw [show zao 3 (.int p.1) [.v A,.o (dF (ends pre)),.v (encR p),sv o3]=some [.v A,.o (dF (ends pre)),.v (encR p),.v (.int p.1)] from zaK rfl]
      simp only [s1]
      unfold zdo
      rw [show zao 3 (.int p.2) [.v A,.o (dF (ends pre ++ [p.1])),.v (encR p),.v (.int p.1)]=some [.v A,.o (dF (ends pre ++ [p.1])),.v (encR p),.v (.int p.2)] from rfl]
      simp only [s2]
      rfl)
    [.v A,.o (dF []),.no,.no] ⟨none,none,rfl⟩
  have q0:mAsg (mC (.dct [] [])) (bNew 1) [.v A,.no,.no,.no] = .nx [.v A,.o (dF []),.no,.no]:=rfl
  have q1:zeO [.v A,.o (dF []),.no,.no]=_:=(zbi (l:=R.map encR) (by rw [eA]; rfl)).trans h1
  have fl:=zfl (ends R)
  have el:=zea R
  have k:zdb [.v A,.v (.fd ((zaW (ends R)).map .inl) ((zaW (ends R)).map fun k=>.bl (odd (ends R) k))),sv o2,sv o3] = .ok (iL (oddL R)):=by
    refine zbW (l:=(zaW (ends R)).map .int) ?_ (by rw [List.length_map]; omega) ?_
    · show PM.R.ok (((zaW (ends R)).map .inl).map kD)=_
      rw [List.map_map]; rfl
    · refine zdk .int _ _ fun x hx=>?_
      have e:zaF [.v A,.v (.fd ((zaW (ends R)).map .inl) ((zaW (ends R)).map fun k=>.bl (odd (ends R) k))),sv o2,sv o3] [1] 1 = [.v (.fd ((zaW (ends R)).map .inl) ((zaW (ends R)).map fun k=>.bl (odd (ends R) k))),.no]:=rfl
      rw [e]
      have gk:=get_map (zaW (ends R)) (fun k=>D.bl (odd (ends R) k)) x
      rw [if_pos hx] at gk
      have fg:fGet (.fd ((zaW (ends R)).map .inl) ((zaW (ends R)).map fun k=>.bl (odd (ends R) k))) (.int x)=some (.bl (odd (ends R) x)):=gk
      cases z:odd (ends R) x <;> simp [zcU,za9,zas,mVar,fg,z]
  have ol:(oddL R).length < 64:=Nat.lt_of_le_of_lt (List.length_filter_le ..) (by omega)
  refine zcM ?_
  rw [← eA]
  refine (zak q0).trans ((zak q1).trans ?_)
  show zeV (mCB zbU (zab zdb mNil)) [.v A,.v (.fd ((zaW (ends R)).map .inl) ((zaW (ends R)).map fun k=>.bl (odd (ends R) k))),sv o2,sv o3]=_
  have fs:zbU [iL (oddL R)]=some (iL (srt (oddL R))):=by
    unfold zbU iL
    simp only [zeb,Option.bind]
    rw [zaU ol]; rfl
  simp only [zeV,mCB,zab,mNil,k,PM.R.bind_ok,fs,PM.R.of_some]; rfl
theorem flip {x:Int} {E:List Int}:∀ {K:List Int},K.Nodup→((K.filter (odd (E ++ [x]))).length + (K.filter (odd E)).length) % 2=if x ∈ K then 1 else 0
  | [],_=>rfl
  | a :: K,h=>by
    have hk:=List.nodup_cons.mp h
    have ih:=flip (x:=x) (E:=E) hk.2
    rw [List.filter_cons,List.filter_cons,zd8]
    by_cases e:a=x
    · subst e
      rw [if_neg hk.1] at ih
      rw [if_pos rfl,if_pos (List.mem_cons_self)]
      cases z:odd E a <;> simp <;> omega
    · rw [if_neg e]
      have m:(x ∈ a :: K) ↔ x ∈ K:=by
        rw [List.mem_cons]; exact ⟨fun w=>w.resolve_left fun q=>e q.symm,.inr⟩
      have ei:(if x ∈ a :: K then 1 else 0)=(if x ∈ K then 1 else 0:Nat):=by simp only [m]
      rw [ei]
      cases z:odd E a <;> simp <;> omega
theorem ziD:∀ (n:Nat) (E:List Int),E.length=n→∀ K:List Int,K.Nodup→(∀ x ∈ E,x ∈ K)→(K.filter (odd E)).length % 2=E.length % 2:=by
  intro n
  induction n with
  | zero =>
    intro E hE K _ _
    rw [List.length_eq_zero_iff.mp hE]
    have:K.filter (odd []) = []:=List.filter_eq_nil_iff.mpr fun a _=>by simp [odd]
    rw [this]
  | succ n ih =>
    intro E hE K hn hs
    have ne:E ≠ []:=fun e=>by rw [e] at hE; simp at hE
    obtain ⟨E',x,rfl⟩:∃ E' x,E=E' ++ [x]:=⟨E.dropLast,E.getLast ne,(List.dropLast_concat_getLast ne).symm⟩
    have l:E'.length=n:=by simp at hE; exact hE
    have i:=ih E' l K hn fun y hy=>hs y (by simp [hy])
    have f:=flip (x:=x) (E:=E') hn
    rw [if_pos (hs x (by simp))] at f
    rw [List.length_append,List.length_singleton]
    omega
theorem zja (R:List (Int × Int)):(oddL R).length % 2=0:=by
  have ok:=zbL (ends R)
  have:=ziD _ (ends R) rfl (zaW (ends R)) ok.1 fun x hx=>(ok.2 x).mpr hx
  rw [zea] at this
  unfold oddL
  omega
theorem zkN {R:List (Int × Int)} {x:Int} (h:x ∈ oddL R):x ∈ ends R:=((zbL (ends R)).2 x).mp (List.mem_filter.mp h).1
theorem ze6 (R:List (Int × Int)):(oddL R).Nodup:=(zbL (ends R)).1.filter _
end My
namespace My
open PySem L2 PM
theorem zmg {n:Nat} {d:Int→Int→Int} {ns:List Int} (h:∀ q ∈ ns,0 ≤ q∧q < (n:Int)):ziS (tabD (tabF n d)) (dOf (tabD (tabF n d))) ns:=by
  intro i hi j hj
  have a:=zfn (d:=d) (h i hi).1 (h i hi).2
  have b:=zcq (n:=n) (f:=d i) (h j hj).1 (h j hj).2
  refine ⟨_,a,?_⟩
  rw [b]
  unfold dOf
  rw [a,Option.bind_some,b]
end My
namespace My
open PySem L2 PM
theorem zjC (l:List Int):(srt l).length=l.length:=List.length_mergeSort l
theorem srt_mem {l:List Int} {x:Int}:x ∈ srt l ↔ x ∈ l:=List.mem_mergeSort
theorem zg5 (L:D) (ns:List Int):(zdg L ns).length ≤ ns.length / 2:=zgV _ _ _
theorem zd5 {n:Nat} {B:Int} {d:Int→Int→Int} (ok:LenOk n B d) (hn:n ≤ 100) {ns:List Int} (h:∀ q ∈ ns,0 ≤ q∧q < (n:Int)) (he:ns.length % 2=0) (hl:ns.length ≤ 12) :
    zax [tabD (tabF n d),iL ns] = .ok (.lst ((zdg (tabD (tabF n d)) ns).map encR)):=by
  have look:=zh6 hn ok
  have tk:=zmg (d:=d) h
  obtain ⟨T,eT⟩:∃ T,T=tabD (tabF n d):=⟨_,rfl⟩
  rw [← eT] at look tk ⊢
  refine zcM ?_
  show mSeq _ _ [.v T,.v (iL ns)]=_
  have q0:mDo (zar zce (zab (mVar 0) mNil)) [.v T,.v (iL ns)] = .nx [.v T,.v (iL ns)]:=by simp [mDo,zar,zab,mNil,mVar,look]
  refine (zak q0).trans ?_
  have p:zgg [.v T,.v (iL ns)] = .ok (.lst ((zdg T ns).map encR)):=by
    unfold zgg
    show (match asIs (ns.map D.int) with | some ns=>ifC (ns.length % 2=0∧ns.length ≤ 12∧ziS T (dOf T) ns) (PM.R.ok (D.lst ((zdg T ns).map zbr))) .no | none=>.no)=_
    rw [zeb]
    exact zaU ⟨he,hl,tk⟩
  unfold zeV
  rw [p]; rfl
theorem zfI {R:List (Int × Int)} {x:Int} (h:x ∈ ends R):∃ p ∈ R,x=p.1∨x=p.2:=by
  unfold ends at h
  obtain ⟨p,hp,hx⟩:=List.mem_flatMap.mp h
  exact ⟨p,hp,by simpa using hx⟩
end My
namespace My
open PySem L2 PM
theorem zlH (i j:Int):PyData.eqv (.int i) (.int j)=decide (i=j):=by
  unfold PyData.eqv
  first | rfl | simp
theorem znx (t m:BP):(ltD (encB t) (encB m)=true→t.1 ≤ m.1)∧(ltD (encB t) (encB m)=false→m.1 ≤ t.1):=by
  have e:∀ b:BP,∃ q,toPy 8 (encB b) = .tuple [.int b.1,q]:=fun b=>⟨_,rfl⟩
  obtain ⟨q1,e1⟩:=e t
  obtain ⟨q2,e2⟩:=e m
  unfold ltD
  rw [e1,e2]
  have:ltP 8 (.tuple [.int t.1,q1]) (.tuple [.int m.1,q2])=if decide (t.1=m.1)=true then lexB (fun j=>PyData.eqv ([PyData.int t.1,q1].getD (j + 1) .none) ([PyData.int m.1,q2].getD (j + 1) .none)) (fun j=>ltP 7 ([PyData.int t.1,q1].getD (j + 1) .none) ([PyData.int m.1,q2].getD (j + 1) .none)) 1 1 else decide (t.1 < m.1):=by
    rw [← zlH]; rfl
  rw [this]
  by_cases c:t.1=m.1
  · exact ⟨fun _=>by omega,fun _=>by omega⟩
  · rw [if_neg (by simpa using c)]
    constructor <;> intro h <;> simp at h <;> omega
theorem zjQ:∀ (l:List BP) (m:BP),(minB l m).1 ≤ m.1∧∀ x ∈ l,(minB l m).1 ≤ x.1
  | [],m=>⟨Int.le_refl _,fun _ h=>by cases h⟩
  | t :: l,m=>by
    obtain ⟨h1,h2⟩:=zjQ l (if ltD (encB t) (encB m)=true then t else m)
    obtain ⟨a,b⟩:=znx t m
    show (minB l (if ltD (encB t) (encB m)=true then t else m)).1 ≤ _∧∀ x ∈ t :: l,(minB l (if ltD (encB t) (encB m)=true then t else m)).1 ≤ x.1
    cases c:ltD (encB t) (encB m) with
    | true =>
      rw [c,if_pos rfl] at h1 h2
      rw [if_pos rfl]
      have:=a c
      exact ⟨by omega,fun x hx=>by rcases List.mem_cons.mp hx with rfl | hx; exact h1; exact h2 x hx⟩
    | false =>
      rw [c,if_neg (by decide)] at h1 h2
      rw [if_neg (by decide)]
      have:=b c
      exact ⟨h1,fun x hx=>by rcases List.mem_cons.mp hx with rfl | hx; omega; exact h2 x hx⟩
theorem zfX {l:List BP} (h:l ≠ []):zhl l ∈ l∧∀ x ∈ l,(zhl l).1 ≤ x.1:=by
  cases l with
  | nil=>exact absurd rfl h
  | cons b l =>
    obtain ⟨h1,h2⟩:=zjQ l b
    exact ⟨zfD l b,fun x hx=>by rcases List.mem_cons.mp hx with rfl | hx; exact h1; exact h2 x hx⟩
def cost (d:Int→Int→Int) (Q:List (Int × Int)):Int:=(Q.map fun p=>d p.1 p.2).sum
theorem zeh (a:Int) (r:List Int) (j:Nat):cutO (a :: r) (j + 1)=r.eraseIdx j:=by
  unfold cutO
  simp [List.eraseIdx_eq_take_drop_succ]
theorem zdO {r:List Int} {j:Nat} {b:Int} (h:r[j]?=some b):r.Perm (b :: r.eraseIdx j):=by
  induction r generalizing j with
  | nil=>simp at h
  | cons a r ih =>
    cases j with
    | zero=>simp at h; subst h; exact .refl _
    | succ j =>
      simp at h
      exact ((ih h).cons a).trans (.swap b a _)
theorem zlz (d:Int→Int→Int):∀ (m:Nat) (rest:List Int),rest.length=2 * m→(ends (bpF d m rest).2).Perm rest∧(bpF d m rest).1=cost d (bpF d m rest).2
  | 0,rest,h=>by
    obtain rfl:rest = []:=List.length_eq_zero_iff.mp (by omega)
    exact ⟨.refl _,rfl⟩
  | m + 1,rest,h=>by
    cases rest with
    | nil=>simp at h
    | cons a r =>
      have hr:r.length=2 * m + 1:=by simp at h; omega
      have ne:(List.range ((a :: r).length - 1)).map (fun j=>bwW d (bpF d m) (a :: r) (j + 1)) ≠ []:=fun e=>by
        have:=congrArg List.length e
        rw [List.length_map,List.length_range] at this; simp only [List.length_cons,List.length_nil] at this; omega
      obtain ⟨j,hj,e⟩:=List.mem_map.mp (zfX ne).1
      have jl:j < r.length:=by simpa using hj
      have gk:r[j]?=some r[j]:=List.getElem?_eq_getElem jl
      have eb:bpF d (m + 1) (a :: r)=bwW d (bpF d m) (a :: r) (j + 1):=e.symm
      have g:(a :: r).getD (j + 1) 0=r[j]:=by simp [jl]
      rw [eb]
      unfold bwW
      rw [zeh,g]
      have el:(r.eraseIdx j).length=2 * m:=by rw [List.length_eraseIdx_of_lt jl]; omega
      obtain ⟨i1,i2⟩:=zlz d m (r.eraseIdx j) el
      refine ⟨?_,?_⟩
      · show ([a,r[j]] ++ ends (bpF d m (r.eraseIdx j)).2).Perm (a :: r)
        exact (((i1.cons r[j]).trans (zdO gk).symm)).cons a
      · show d a r[j] + (bpF d m (r.eraseIdx j)).1=d a r[j] + cost d (bpF d m (r.eraseIdx j)).2
        rw [i2]
theorem zmR {d:Int→Int→Int}:∀ (m:Nat) (rest:List Int) (Q:List (Int × Int)),(∀ i ∈ rest,∀ j ∈ rest,d i j=d j i)→rest.length=2 * m→(ends Q).Perm rest→(bpF d m rest).1 ≤ cost d Q
  | 0,rest,Q,_,h,p=>by
    obtain rfl:rest = []:=List.length_eq_zero_iff.mp (by omega)
    have:=p.length_eq
    rw [zea] at this
    obtain rfl:Q = []:=List.length_eq_zero_iff.mp (by simp at this; omega)
    exact Int.le_refl _
  | m + 1,rest,Q,hs,h,p=>by
    cases rest with
    | nil=>simp at h
    | cons a r =>
      have hr:r.length=2 * m + 1:=by simp at h; omega
      have aE:a ∈ ends Q:=p.mem_iff.mpr (by simp)
      obtain ⟨q,hq,hx⟩:=zfI aE
      obtain ⟨Q1,Q2,rfl⟩:=List.append_of_mem hq
      have pQ:(Q1 ++ q :: Q2).Perm (q :: (Q1 ++ Q2)):=List.perm_middle
      have cQ:cost d (Q1 ++ q :: Q2)=d q.1 q.2 + cost d (Q1 ++ Q2):=by
        unfold cost
        simp only [List.map_append,List.map_cons,List.sum_append,List.sum_cons]
        omega
      have pE:(ends (Q1 ++ q :: Q2)).Perm ([q.1,q.2] ++ ends (Q1 ++ Q2)):=by
        unfold ends
        exact pQ.flatMap_right _
      -- the other end
      obtain ⟨b,eb,pb⟩:∃ b:Int,d q.1 q.2=d a b∧([q.1,q.2] ++ ends (Q1 ++ Q2)).Perm (a :: b :: ends (Q1 ++ Q2)):=by
        rcases hx with rfl | rfl
        · exact ⟨q.2,rfl,.refl _⟩
        · refine ⟨q.1,hs _ ?_ _ ?_,.swap _ _ _⟩
          · exact p.mem_iff.mp (pE.mem_iff.mpr (by simp))
          · simp
      have pr:(b :: ends (Q1 ++ Q2)).Perm r:=((pb.symm.trans pE.symm).trans p).cons_inv
      have bR:b ∈ r:=pr.mem_iff.mp (by simp)
      obtain ⟨j,jl,ej⟩:=List.getElem_of_mem bR
      have gk:r[j]?=some b:=by rw [List.getElem?_eq_getElem jl,ej]
      have pe:(ends (Q1 ++ Q2)).Perm (r.eraseIdx j):=(pr.trans (zdO gk)).cons_inv
      have el:(r.eraseIdx j).length=2 * m:=by rw [List.length_eraseIdx_of_lt jl]; omega
      have sub:∀ i ∈ r.eraseIdx j,i ∈ a :: r:=fun i hi=>List.mem_cons_of_mem _ (List.mem_of_mem_eraseIdx hi)
      have ih:=zmR m (r.eraseIdx j) (Q1 ++ Q2) (fun i hi k hk=>hs i (sub i hi) k (sub k hk)) el pe
      have ne:(List.range ((a :: r).length - 1)).map (fun j=>bwW d (bpF d m) (a :: r) (j + 1)) ≠ []:=fun e=>by
        have:=congrArg List.length e
        rw [List.length_map,List.length_range] at this; simp only [List.length_cons,List.length_nil] at this; omega
      have le:=(zfX ne).2 (bwW d (bpF d m) (a :: r) (j + 1)) (List.mem_map.mpr ⟨j,List.mem_range.mpr (by simpa using jl),rfl⟩)
      have e1:(bwW d (bpF d m) (a :: r) (j + 1)).1=d a b + (bpF d m (r.eraseIdx j)).1:=by
        unfold bwW
        rw [zeh]
        have:(a :: r).getD (j + 1) 0=b:=by simp [jl,ej]
        rw [this]; rfl
      rw [e1] at le
      show (zhl _).1 ≤ _
      rw [cQ,eb]
      omega
end My
namespace My
open PySem L2 PM
def prs:List Int→List (Int × Int)
  | a :: b :: l=>(a,b) :: prs l
  | _=>[]
theorem zfE:∀ (m:Nat) (l:List Int),l.length=2 * m→ends (prs l)=l
  | 0,l,h=>by rw [List.length_eq_zero_iff.mp (by omega:l.length=0)]; rfl
  | m + 1,[],h=>by simp at h
  | m + 1,[_],h=>by simp at h; omega
  | m + 1,a :: b :: l,h=>by
    have:=zfE m l (by simp at h; omega)
    show [a,b] ++ ends (prs l)=_
    rw [this]; rfl
end My
namespace My
open PySem L2 PM
theorem zj8 {d:Int→Int→Int} (E F:List (Int × Int)):cost d (E ++ F)=cost d E + cost d F:=by
  unfold cost
  rw [List.map_append,List.sum_append]
end My
namespace My
open PySem L2 PM
theorem zkd {n:Nat} {d:Int→Int→Int} {A:D} (m:En→O) (hm:m=mAsg (m2 oAdd (mRd 2) (m2 oIxL (m2 oIxL (mRd 0) (mRd 3)) (mRd 4))) (zao 2)) (L:List (Int × Int)) (hL:∀ q ∈ L,(0 ≤ q.1∧q.1 < (n:Int))∧(0 ≤ q.2∧q.2 < (n:Int))) (s:Int) :
    ∃ o3 o4:Option D,zdo (bTup 2 (zdC (zao 3) (zdC (zao 4) bNil))) m (L.map encR) [.v (tabD (tabF n d)),.v A,.v (.int s),.no,.no] = .nx [.v (tabD (tabF n d)),.v A,.v (.int (s + cost d L)),sv o3,sv o4]:=by
  obtain ⟨T,eT⟩:∃ T,T=tabD (tabF n d):=⟨_,rfl⟩
  have tix:∀ a:Int,0 ≤ a→a < n→oIxL T (.int a)=some (iL ((upt n).map (d a))):=fun a h0 h1=>by rw [eT]; exact zfn h0 h1
  rw [← eT]
  obtain ⟨δ,h1,o3,o4,rfl⟩:=zaN (b:=bTup 2 (zdC (zao 3) (zdC (zao 4) bNil))) (m:=m) encR (fun pre δ=>∃ o3 o4:Option D,δ = [.v T,.v A,.v (.int (s + cost d pre)),sv o3,sv o4]) L
    (by
      rintro pre q post δ hall ⟨o3,o4,rfl⟩
      obtain ⟨⟨a0,a1⟩,b0,b1⟩:=hL q (by rw [hall]; simp)
      have bb:bTup 2 (zdC (zao 3) (zdC (zao 4) bNil)) (encR q) [.v T,.v A,.v (.int (s + cost d pre)),sv o3,sv o4]=some [.v T,.v A,.v (.int (s + cost d pre)),.v (.int q.1),.v (.int q.2)]:=by rcases o3 with _ | o3 <;> rcases o4 with _ | o4 <;> rfl
      refine ⟨_,[.v T,.v A,.v (.int (s + cost d (pre ++ [q]))),.v (.int q.1),.v (.int q.2)],bb,.inl ?_,some (.int q.1),some (.int q.2),rfl⟩
      have r:=zcq (n:=n) (f:=d q.1) b0 b1
      rw [hm]
      refine zaD (d:=.int (s + cost d (pre ++ [q]))) ?_ rfl
      have e:cost d (pre ++ [q])=cost d pre + d q.1 q.2:=by rw [zj8]; show _ + (d q.1 q.2 + 0)=_; omega
      rw [e]
      simp [mRd,tix q.1 a0 a1,r]
      omega)
    [.v T,.v A,.v (.int s),.no,.no] ⟨none,none,by show ([.v T,.v A,.v (.int s),.no,.no]:En) = [.v T,.v A,.v (.int (s + 0)),.no,.no]; rw [Int.add_zero]⟩
  exact ⟨o3,o4,h1⟩
theorem zni {n:Nat} {d:Int→Int→Int} {i j:Int} (i0:0 ≤ i) (i1:i < n) (j0:0 ≤ j) (j1:j < n):dOf (tabD (tabF n d)) i j=d i j:=by
  unfold dOf
  rw [zfn i0 i1,Option.bind_some,zcq j0 j1]
end My
namespace My
open PySem L2 PM
theorem zie {j i k:Nat} {me:En→R D} {δ:En} {r l:List D} {d:D} (hj:δ[j]?=some (.o (.lst r))) (hi:δ[i]?=some (.o (.lst l))) (ne:i ≠ j) (he:me δ = .ok (.int (Int.ofNat k))) (g:l[k]?=some d) (c:k < 2 ^ 63∧r.length < 100000):zeP j i me δ = .nx ((δ.set i (.o (.lst (l.eraseIdx k)))).set j (.o (.lst (r ++ [d])))):=by
  unfold zeP
  simp only [hj,hi]
  rw [if_neg ne,he]
  simp only [R.toO_ok,g]
  rw [if_pos c]
end My
namespace My
open PySem L2 PM
theorem zjk {l:List BP} (h:l ≠ []):zhl l ∈ l:=(zfX h).1
theorem ziZ {a:Int}:∀ {l:List Int},(∀ x ∈ l,a < x)→risI l=true→risI (a :: l)=true
  | [],_,_=>rfl
  | b :: l,h,r=>by
    unfold risI
    rw [decide_eq_true (h b (by simp)),r]; rfl
theorem zms (d:Int→Int→Int):∀ (m:Nat) (rest:List Int),rest.length=2 * m→rest.Pairwise (· < ·)→(∀ p ∈ (bpF d m rest).2,p.1 < p.2)∧risI ((bpF d m rest).2.map (·.1))=true
  | 0,rest,_,_=>⟨fun p hp=>(by cases hp),rfl⟩
  | m + 1,rest,h,pw=>by
    have ne:(List.range (rest.length - 1)).map (fun j=>bwW d (bpF d m) rest (j + 1)) ≠ []:=by
      intro z
      have:=congrArg List.length z
      simp at this
      omega
    have lm:=zjk ne
    obtain ⟨j,hj,ej⟩:=List.mem_map.mp lm
    have jl:=List.mem_range.mp hj
    have e:bpF d (m + 1) rest=bwW d (bpF d m) rest (j + 1):=ej.symm
    rw [e]
    cases rest with
    | nil=>simp at h
    | cons a r =>
      have cl:=zhD (rest:=a :: r) (k:=j + 1) (by omega) (by simp at jl ⊢; omega)
      have ce:cutO (a :: r) (j + 1)=r.eraseIdx j:=zeh a r j
      have pr:=List.pairwise_cons.mp pw
      have sub:(r.eraseIdx j).Sublist r:=List.eraseIdx_sublist r j
      obtain ⟨u1,u2⟩:=zms d m (cutO (a :: r) (j + 1)) (by omega) (by rw [ce]; exact pr.2.sublist sub)
      obtain ⟨b1,_⟩:=zlz d m (cutO (a :: r) (j + 1)) (by omega)
      have jr:j < r.length:=by simp at jl; omega
      have gj:(a :: r).getD (j + 1) 0=r[j]:=by
        rw [List.getD_eq_getElem?_getD,List.getElem?_cons_succ,List.getElem?_eq_getElem jr]; rfl
      constructor
      · intro p hp
        rcases List.mem_cons.mp hp with z | z
        · rw [z]
          show (a :: r).getD 0 0 < (a :: r).getD (j + 1) 0
          rw [gj]
          exact pr.1 _ (List.getElem_mem jr)
        · exact u1 p z
      · show risI ((a :: r).getD 0 0 :: (bpF d m (cutO (a :: r) (j + 1))).2.map (·.1))=true
        refine ziZ (fun x hx=>?_) u2
        obtain ⟨p,hp,rfl⟩:=List.mem_map.mp hx
        have m1:p.1 ∈ cutO (a :: r) (j + 1):=b1.mem_iff.mp (List.mem_flatMap.mpr ⟨p,hp,by simp⟩)
        rw [ce] at m1
        exact pr.1 _ (sub.subset m1)
theorem zkU (l:List Int):(srt l).Pairwise (· ≤ ·):=by
  have:=List.pairwise_mergeSort (le:=fun a b:Int=>decide (a ≤ b)) (fun a b c=>by simp; omega) (fun a b=>by simp; omega) l
  exact this.imp fun h=>by simpa using h
theorem zkb {l r:List Int} (h:l.Perm r):srt l=srt r:=(L2.sort_eq ((List.mergeSort_perm _ _).trans h) (zkU l):srt l=r.mergeSort fun a b=>decide (a ≤ b))
theorem zmw {l:List Int} (h:l.Nodup):(srt l).Pairwise (· < ·):=by
  have nd:(srt l).Nodup:=(List.mergeSort_perm _ _).nodup_iff.mpr h
  have:=List.pairwise_and_iff.mpr ⟨zkU l,nd⟩
  exact this.imp fun ⟨h1,h2⟩=>by omega
end My
namespace My
open PySem L2 PM
theorem zd7 (l:List Int):∀ k,zaG (k + 1) (iL l)=true:=fun k=>by
  unfold iL
  show (l.map D.int).all (zaG k)=true
  rw [List.all_map,List.all_eq_true]
  intro x _
  cases k <;> rfl
theorem zll (p:Int × Int):∀ k,zaG (k + 1) (encR p)=true:=fun k=>by cases k <;> rfl
theorem zfU (P:List (Int × Int)) (k:Nat):zaG (k + 2) (.lst (P.map encR))=true:=by
  show (P.map encR).all (zaG (k + 1))=true
  rw [List.all_map,List.all_eq_true]
  exact fun p _=>zll p k
theorem zc6 {ml:En→R (List D)} {δ:En} {l:List D} (h:ml δ = .ok l) (hl:l.length ≤ 100000):mLst ml δ = .ok (.lst l):=by
  unfold mLst
  rw [h,R.bind_ok]
  exact zaU (zlC hl)
theorem ne_f {a b:En→R D} {δ:En} {x:D} (ha:a δ = .ok x) (hb:b δ = .ok x) (p:zaG 8 x=true):zas (m2 oNeD a b) δ = .ok false:=by
  unfold zas
  rw [zc5,ha,R.bind_ok,hb,R.bind_ok,zl3 p p rfl]; rfl
theorem zlV (P:List (Int × Int)):zgd (P.map encR)=some (P.map (·.1)):=by
  induction P with
  | nil=>rfl
  | cons p P ih =>
    show (zgd (P.map encR)).map (p.1 :: ·)=_
    rw [ih]; rfl
theorem zfo {l:List Int} (h:l.length < 64):zbU [iL l]=some (iL (srt l)):=by
  unfold zbU iL
  simp only [zeb,Option.bind_some]
  rw [zaU h]; rfl
theorem zgp {P:List (Int × Int)} {some:List Int} (pl:P.length ≤ 12) (up:∀ p ∈ P,p.1 < p.2) (ri:risI (P.map (·.1))=true) (pe:(ends P).Perm some):zaQ [.lst (P.map encR),iL some] = .ok (.bl true):=by
  obtain ⟨A,eA⟩:∃ A,A=D.lst (P.map encR):=⟨_,rfl⟩
  have isl:oIsi "list" A = .some (.bl true):=by rw [eA]; rfl
  have fs:zcl [A] = .some A:=by
    rw [eA]
    unfold zcl
    simp only [zlV]
    rw [if_pos ⟨ri,by rw [List.length_map]; omega⟩]
  have pA:zaG 8 A=true:=by rw [eA]; exact zfU P 6
  have el:∀ Q:List (Int × Int),(ends Q).length=2 * Q.length:=fun Q=>by
    induction Q with
    | nil=>rfl
    | cons q Q ih =>
      show (q.1 :: q.2 :: ends Q).length=2 * (Q.length + 1)
      simp only [List.length_cons,ih]; omega
  have sl:=pe.length_eq
  rw [el] at sl
  rw [← eA]
  obtain ⟨δ,hl,o3,o4,rfl⟩:=zaN (b:=zao 3) (m:=zds) encR (fun pre δ=>∃ o3 o4:Option D,δ = [.v A,.v (iL some),.v (iL (ends pre)),sv o3,sv o4]) P
    (by
      rintro pre q post δ hall ⟨o3,o4,rfl⟩
      have hq:q ∈ P:=by rw [hall]; simp
      have qu:=up q hq
      have prl:pre.length ≤ 12:=by
        have:=congrArg List.length hall
        rw [List.length_append] at this
        omega
      have epl:=el pre
      refine ⟨[.v A,.v (iL some),.v (iL (ends pre)),.v (encR q),sv o4],[.v A,.v (iL some),.v (iL (ends (pre ++ [q]))),.v (encR q),.v (.int q.2)],zaK rfl,.inl ?_,.some _,.some _,rfl⟩
      have it:oIsi "tuple" (encR q) = .some (.bl true):=rfl
      have lt:fLen [encR q] = .some (.int 2):=rfl
      have i0:oIxT (encR q) (.int 0) = .some (.int q.1):=rfl
      have i1:oIxT (encR q) (.int 1) = .some (.int q.2):=rfl
      have q1:mIfS (mOr (mNot (zas (m1 (oIsi "tuple") (mRd 3)))) (zas (m2 oNe (mCB fLen (zab (mRd 3) mNil)) (mC (.int 2))))) (mRet (mC (.bl false))) zbd [.v A,.v (iL some),.v (iL (ends pre)),.v (encR q),sv o4] = .nx [.v A,.v (iL some),.v (iL (ends pre)),.v (encR q),sv o4]:=by
        rw [zbw (by simp [mOr,mNot,zas,mRd,mCB,zab,mNil,mC,it,lt])]; rfl
      obtain ⟨δ2,h2,p4,z4,rfl⟩:=zaN (b:=zao 4) (m:=zcf) D.int (fun pr δ=>∃ p4:Option D,(pr = [q.1,q.2]→p4 = .some (.int q.2))∧δ = [.v A,.v (iL some),.v (iL (ends pre)),.v (encR q),sv p4]) [q.1,q.2]
        (by
          rintro pr k po δ hall2 ⟨p4,_,rfl⟩
          refine ⟨[.v A,.v (iL some),.v (iL (ends pre)),.v (encR q),.v (.int k)],[.v A,.v (iL some),.v (iL (ends pre)),.v (encR q),.v (.int k)],zaK rfl,.inl ?_,.some (.int k),fun z=>?_,rfl⟩
          · have j1:oIsi "int" (.int k) = .some (.bl true):=rfl
            have j2:oIsi "bool" (.int k) = .some (.bl false):=rfl
            unfold zcf
            rw [zbw (by simp [mOr,mNot,zas,mRd,j1,j2])]; rfl
          · have:=congrArg List.getLast? z
            have e:k=q.2:=by simpa using this
            rw [e])
        [.v A,.v (iL some),.v (iL (ends pre)),.v (encR q),sv o4] ⟨o4,(fun z=>by cases z),rfl⟩
      rw [z4 rfl] at h2
      have q2:zdU [.v A,.v (iL some),.v (iL (ends pre)),.v (encR q),sv o4] = .nx [.v A,.v (iL some),.v (iL (ends pre)),.v (encR q),.v (.int q.2)]:=(zbi (l:=[q.1,q.2].map .int) rfl).trans h2
      have q3:mIfS (zas (m2 oGe (m2 oIxT (mRd 3) (mC (.int 0))) (m2 oIxT (mRd 3) (mC (.int 1))))) (mRet (mC (.bl false))) zbd [.v A,.v (iL some),.v (iL (ends pre)),.v (encR q),.v (.int q.2)] = .nx [.v A,.v (iL some),.v (iL (ends pre)),.v (encR q),.v (.int q.2)]:=by
        rw [zbw (by simp [zas,mRd,mC,i0,i1]; omega)]; rfl
      refine (zak q1).trans ((zak q2).trans ((zak q3).trans ?_))
      refine zaD (d:=iL (ends (pre ++ [q]))) ?_ rfl
      have l2:mLst (zab (m2 oIxT (mRd 3) (mC (.int 0))) (zab (m2 oIxT (mRd 3) (mC (.int 1))) mNil)) [.v A,.v (iL some),.v (iL (ends pre)),.v (encR q),.v (.int q.2)] = .ok (iL [q.1,q.2]):=zc6 (l:=[.int q.1,.int q.2]) (by simp [zab,mNil,mRd,mC,i0,i1]) (by simp)
      have ee:ends (pre ++ [q])=ends pre ++ [q.1,q.2]:=by unfold ends; rw [List.flatMap_append]; rfl
      have ct:oCat (iL (ends pre)) (iL [q.1,q.2]) = .some (iL (ends (pre ++ [q]))):=by
        rw [ee]
        unfold oCat iL
        simp only
        rw [zaU (by rw [List.length_map,List.length_map]; exact Nat.le_trans (show (ends pre).length + [q.1,q.2].length ≤ 100 by simp; omega) (by decide)),List.map_append]
      rw [zc5]
      simp only [mRd,List.getElem?_cons_succ,List.getElem?_cons_zero,R.bind_ok,l2,ct,R.of_some])
    [.v A,.v (iL some),.v (iL []),.no,.no] ⟨none,none,rfl⟩
  refine zey ?_
  show mSeq _ _ [.v A,.v (iL some),.no,.no,.no]=_
  have q1:mIfS (mOr (mNot (zas (m1 (oIsi "list") (mRd 0)))) (zas (m2 oNeD (mRd 0) (mCB zcl (zab (mRd 0) mNil))))) (mRet (mC (.bl false))) zbd [.v A,.v (iL some),.no,.no,.no] = .nx [.v A,.v (iL some),.no,.no,.no]:=by
    have t1:zas (m1 (oIsi "list") (mRd 0)) [.v A,.v (iL some),.no,.no,.no] = .ok true:=by simp [zas,mRd,isl]
    have t2:zas (m2 oNeD (mRd 0) (mCB zcl (zab (mRd 0) mNil))) [.v A,.v (iL some),.no,.no,.no] = .ok false:=ne_f rfl (by simp [mCB,zab,mNil,mRd,fs]) pA
    rw [zbw (by simp only [mOr,mNot,t1,t2,R.bind_ok]; rfl)]; rfl
  have q2:mAsg (mLst mNil) (zao 2) [.v A,.v (iL some),.no,.no,.no] = .nx [.v A,.v (iL some),.v (iL []),.no,.no]:=zaD (d:=iL []) (zc6 (l:=[]) rfl (by simp)) rfl
  have q3:zdR [.v A,.v (iL some),.v (iL []),.no,.no]=_:=(zbi (l:=P.map encR) (by rw [eA]; simp [mItL,mVar])).trans hl
  refine (zak q1).trans ((zak q2).trans ((zak q3).trans ?_))
  have s1:=zfo (l:=ends P) (by rw [el]; omega)
  have s2:=zfo (l:=some) (by omega)
  rw [zkb pe] at s1
  have eq:=zi4 (zd7 (srt some) 7) (zd7 (srt some) 7) rfl
  simp only [mRet,zc5,mCB,zab,mNil,mRd,List.getElem?_cons_succ,List.getElem?_cons_zero,R.bind_ok,s1,s2,R.of_some,eq]
  rfl
theorem zfi {n:Nat} {d:Int→Int→Int} {L:List (Int × Int)} (hL:∀ q ∈ L,(0 ≤ q.1∧q.1 < (n:Int))∧(0 ≤ q.2∧q.2 < (n:Int))):zbh [tabD (tabF n d),.lst (L.map encR)] = .ok (.int (cost d L)):=by
  obtain ⟨o3,o4,h⟩:=zkd (d:=d) (A:=.lst (L.map encR)) zej rfl L hL 0
  rw [Int.zero_add] at h
  refine zey ?_
  show mSeq _ _ [.v (tabD (tabF n d)),.v (.lst (L.map encR)),.no,.no,.no]=_
  have q1:mAsg (mC (.int 0)) (zao 2) [.v (tabD (tabF n d)),.v (.lst (L.map encR)),.no,.no,.no] = .nx [.v (tabD (tabF n d)),.v (.lst (L.map encR)),.v (.int 0),.no,.no]:=rfl
  have q2:zfp [.v (tabD (tabF n d)),.v (.lst (L.map encR)),.v (.int 0),.no,.no]=_:=(zbi (l:=L.map encR) (by simp [mItL,mVar])).trans h
  exact (zak q1).trans ((zak q2).trans rfl)
theorem ze0 {l:List Int} (hl:l.length ≤ 1000):za5 [iL l,iL l] = .ok (.bl true):=by
  have k:zcV [.v (iL l),.v (iL l)] = .ok (iL l):=by
    refine zbW (l:=l.map .int) (by simp [mItL,mRd,iL]) (by rw [List.length_map]; omega) ?_
    refine zbG D.int D.int l fun x _=>?_
    have i1:oIsi "int" (.int x)=some (.bl true):=rfl
    have i2:oIsi "bool" (.int x)=some (.bl false):=rfl
    have s:zaF [.v (iL l),.v (iL l)] [] 1 = [.no]:=rfl
    rw [s]
    simp [zcU,za9,mAnd,mNot,zas,mRd,mVar,i1,i2]
  refine zey ?_
  show mSeq _ _ [.v (iL l),.v (iL l)]=_
  have isl:oIsi "list" (iL l)=some (.bl true):=rfl
  have q1:mIfS (mOr (mNot (zas (m1 (oIsi "list") (mRd 0)))) (zas (m2 oNeD (mRd 0) (mRd 1)))) (mRet (mC (.bl false))) zbd [.v (iL l),.v (iL l)] = .nx [.v (iL l),.v (iL l)]:=by
    have t1:zas (m1 (oIsi "list") (mRd 0)) [.v (iL l),.v (iL l)] = .ok true:=by simp [zas,mRd,isl]
    have t2:zas (m2 oNeD (mRd 0) (mRd 1)) [.v (iL l),.v (iL l)] = .ok false:=ne_f rfl rfl (zd7 l 7)
    rw [zbw (by simp only [mOr,mNot,t1,t2,R.bind_ok]; rfl)]; rfl
  refine (zak q1).trans ?_
  simp only [mRet,zc5,mCB,zab,mNil,k,R.bind_ok,zjf,R.of_some,mRd,List.getElem?_cons_zero,List.getElem?_cons_succ]
  simp
end My
namespace My
open PySem L2 PM
theorem zhe (ns:List Int) {n:Nat} (hn:n ≤ 20):∃ l:List Int,l.Nodup∧(∀ v ∈ l,0 ≤ v∧v < (n:Int))∧l.length % 2=0∧l.length ≤ n∧zbI [.scr ns,.int n] = .ok (iL l):=by
  obtain ⟨c,⟨c0,c1⟩,hc⟩:=zcd ns (k:=37) (top:=(n:Int) / 2) (by decide) (by decide) (by omega)
  obtain ⟨m,rfl⟩:∃ m:Nat,c=m:=⟨c.toNat,(Int.toNat_of_nonneg c0).symm⟩
  have mn:2 * m ≤ n:=by omega
  have rn:=rngT (show 2 * m ≤ 1000 by omega)
  obtain ⟨δ,h1,L,dr,o4,hp,hk,rfl⟩:=zaN (b:=zao 4) (m:=zcH) D.int (fun pre δ=>∃ (L dr:List Int) (o4:Option D),(dr ++ L).Perm (upt n)∧dr.length=pre.length∧δ = [.v (.scr ns),.v (.int n),.o (iL L),.o (iL dr),sv o4]) (upt (2 * m))
    (by
      rintro pre k post δ hall ⟨L,dr,o4,hp,hk,rfl⟩
      have k0:=mem_upt.mp (show k ∈ upt (2 * m) by rw [hall]; simp)
      have pl:pre.length < 2 * m:=by
        have:=congrArg List.length hall
        rw [zaH] at this
        simp only [List.length_append,List.length_cons] at this
        omega
      have tl:=hp.length_eq
      rw [List.length_append,zaH] at tl
      obtain ⟨x,⟨x0,x1⟩,hx⟩:=zcd ns (k:=38 + k) (top:=(L.length:Int) - 1) (by omega) (by omega) (by omega)
      obtain ⟨j,rfl⟩:∃ j:Nat,x=Int.ofNat j:=⟨x.toNat,(Int.toNat_of_nonneg x0).symm⟩
      have jl:j < L.length:=by simp at x1; omega
      refine ⟨[.v (.scr ns),.v (.int n),.o (iL L),.o (iL dr),.v (.int k)],[.v (.scr ns),.v (.int n),.o (iL (L.eraseIdx j)),.o (iL (dr ++ [L[j]])),.v (.int k)],zaK rfl,.inl ?_,L.eraseIdx j,dr ++ [L[j]],some _,?_,by simp [hk],rfl⟩
      · have li:fLen [iL L]=some (.int L.length):=by unfold iL fLen; simp
        have e:zar zat (zab (mVar 0) (zab (m2 oAdd (mC (.int 38)) (mRd 4)) (zab (m2 oSub (mCB fLen (zab (mRd 2) mNil)) (mC (.int 1))) mNil))) [.v (.scr ns),.v (.int n),.o (iL L),.o (iL dr),.v (.int k)] = .ok (.int (Int.ofNat j)):=by
          simp [zar,zab,mNil,mVar,mRd,mC,mCB,li]
          rw [hx]; rfl
        have g:(L.map D.int)[j]?=some (.int L[j]):=by rw [List.getElem?_map,List.getElem?_eq_getElem jl]; rfl
        unfold zcH
        rw [zie (r:=dr.map D.int) (l:=L.map D.int) (k:=j) rfl rfl (by decide) e g ⟨Nat.lt_of_lt_of_le (show j < 1000 by omega) (by decide),by rw [List.length_map]; omega⟩]
        show O.nx [.v (.scr ns),.v (.int n),.o (.lst ((L.map D.int).eraseIdx j)),.o (.lst (dr.map D.int ++ [.int L[j]])),.v (.int k)]=_
        have em:∀ (l:List Int) (k:Nat),(l.map D.int).eraseIdx k=(l.eraseIdx k).map D.int:=fun l=>by
          induction l with
          | nil=>intro k; rfl
          | cons a l ih =>
            intro k
            cases k with
            | zero=>rfl
            | succ k=>simp only [List.map_cons,List.eraseIdx_cons_succ,ih k]
        unfold iL
        rw [em,List.map_append]; rfl
      · refine List.Perm.trans ?_ hp
        rw [List.append_assoc]
        exact (zdO (List.getElem?_eq_getElem jl)).symm.append_left dr)
    [.v (.scr ns),.v (.int n),.o (iL (upt n)),.o (iL []),.no] ⟨upt n,[],none,List.Perm.refl _,rfl,rfl⟩
  rw [zaH] at hk
  have nd:=hp.nodup_iff.mpr (zf7 n)
  refine ⟨dr,(List.nodup_append.mp nd).1,fun v hv=>mem_upt.mp (hp.mem_iff.mp (List.mem_append_left _ hv)),by omega,by omega,zcM ?_⟩
  show mSeq _ _ [.v (.scr ns),.v (.int n),.no,.no,.no]=_
  have lr:lstR [.int n]=some (iL (upt n)):=by
    unfold lstR
    simp only
    rw [zaU (by omega)]
    unfold iL upt
    simp
  have q1:mAsg (zkA (zab (mVar 1) mNil)) (bNew 2) [.v (.scr ns),.v (.int n),.no,.no,.no] = .nx [.v (.scr ns),.v (.int n),.o (iL (upt n)),.no,.no]:=zaD (d:=iL (upt n)) (by simp [zkA,zab,mNil,mVar,lr]) rfl
  have q2:mAsg (mLst mNil) (bNew 3) [.v (.scr ns),.v (.int n),.o (iL (upt n)),.no,.no] = .nx [.v (.scr ns),.v (.int n),.o (iL (upt n)),.o (iL []),.no]:=zaD (d:=iL []) (zc6 (l:=[]) rfl (by simp)) rfl
  have f2:Fit 2:=fitN 10 (by decide)
  have fm:Fit (m:Int):=fitN 1000 (by omega)
  have dv:oDiv (.int n) (.int 2)=some (.int ((n:Int) / 2)):=zc0 (by decide) f2
  have e:zar zat (zab (mVar 0) (zab (mC (.int 37)) (zab (m2 oDiv (mRd 1) (mC (.int 2))) mNil))) [.v (.scr ns),.v (.int n),.o (iL (upt n)),.o (iL []),.no] = .ok (.int m):=by
    simp [zar,zab,mNil,mVar,mRd,mC,dv,hc]
  have q3:zeF [.v (.scr ns),.v (.int n),.o (iL (upt n)),.o (iL []),.no]=_:=(zbi (l:=(upt (2 * m)).map .int) (by
    simp only [mRng,zab,mNil,zc5,e,mC,R.bind_ok,zco f2 fm,R.of_some]
    rw [show (2:Int) * m=((2 * m:Nat):Int) by omega]
    exact congrArg R.of rn)).trans h1
  exact (zak q1).trans ((zak q2).trans ((zak q3).trans rfl))
theorem zgj (ns:List Int) {n:Nat} (hn0:0 < n) (hn:n ≤ 20):∃ L:List (Int × Int),L.length ≤ 12∧(∀ p ∈ L,((0 ≤ p.1∧p.1 < (n:Int))∧(0 ≤ p.2∧p.2 < (n:Int)))∧p.1 ≠ p.2)∧zbt [.scr ns,.int n] = .ok (.lst (L.map encR)):=by
  have p12:oPow (.int 10) (.int 12)=some (.int 1000000000000):=zjF ⟨by decide,by decide,by decide⟩
  have f16:Fit 16:=fitN 100 (by decide)
  obtain ⟨c,⟨c0,c1⟩,hc⟩:=zcd ns (k:=47) (top:=12) (by decide) (by decide) (by decide)
  obtain ⟨m,rfl⟩:∃ m:Nat,c=m:=⟨c.toNat,(Int.toNat_of_nonneg c0).symm⟩
  have rn:=rngT (show m ≤ 1000 by omega)
  have q1:mAsg (mLst mNil) (bNew 2) [.v (.scr ns),.v (.int n),.no,.no,.no,.no] = .nx [.v (.scr ns),.v (.int n),.o (.lst []),.no,.no,.no]:=zaD (d:=.lst []) (zc6 (l:=[]) rfl (by simp)) rfl
  by_cases h1:n=1
  · refine ⟨[],by simp,fun p hp=>(by cases hp),zcM ?_⟩
    show mSeq _ _ [.v (.scr ns),.v (.int n),.no,.no,.no,.no]=_
    have q2:mIfS (zas (m2 oGt (mRd 1) (mC (.int 1)))) zcz zbd [.v (.scr ns),.v (.int n),.o (.lst []),.no,.no,.no] = .nx [.v (.scr ns),.v (.int n),.o (.lst []),.no,.no,.no]:=by
      rw [zbw (by simp [zas,mRd,mC,h1])]; rfl
    exact (zak q1).trans ((zak q2).trans rfl)
  · obtain ⟨δ,hl,L,o3,o4,o5,ll,lm,rfl⟩:=zaN (b:=zao 3) (m:=zdi) D.int (fun pre δ=>∃ (L:List (Int × Int)) (o3 o4 o5:Option D),L.length=pre.length∧(∀ p ∈ L,((0 ≤ p.1∧p.1 < (n:Int))∧(0 ≤ p.2∧p.2 < (n:Int)))∧p.1 ≠ p.2)∧δ = [.v (.scr ns),.v (.int n),.o (.lst (L.map encR)),sv o3,sv o4,sv o5]) (upt m)
      (by
        rintro pre k post δ hall ⟨L,o3,o4,o5,ll,lm,rfl⟩
        have k0:=mem_upt.mp (show k ∈ upt m by rw [hall]; simp)
        have pl:pre.length < m:=by
          have:=congrArg List.length hall
          rw [zaH] at this
          simp only [List.length_append,List.length_cons] at this
          omega
        have k9:0 ≤ k % 9∧k % 9 < 9:=⟨Int.emod_nonneg _ (by decide),Int.emod_lt_of_pos _ (by decide)⟩
        obtain ⟨x,⟨x0,x1⟩,hx⟩:=zcd ns (k:=48 + k % 9) (top:=1000000000000) (by omega) (by omega) (by decide)
        have f1k:Fit (1 + k):=fitN 1000 (by omega)
        obtain ⟨y,ey⟩:∃ y,y=x / (1 + k):=⟨_,rfl⟩
        have y0:0 ≤ y:=by rw [ey]; exact Int.ediv_nonneg x0 (by omega)
        obtain ⟨a,ea⟩:∃ a,a=y % n:=⟨_,rfl⟩
        have a0:0 ≤ a:=by rw [ea]; exact Int.emod_nonneg _ (by omega)
        have a1:a < n:=by rw [ea]; exact Int.emod_lt_of_pos _ (by omega)
        obtain ⟨g,eg⟩:∃ g,g=y / 16 % ((n:Int) - 1):=⟨_,rfl⟩
        have g0:0 ≤ g:=by rw [eg]; exact Int.emod_nonneg _ (by omega)
        have g1:g < (n:Int) - 1:=by rw [eg]; exact Int.emod_lt_of_pos _ (by omega)
        obtain ⟨b,eb⟩:∃ b,b=(a + 1 + g) % n:=⟨_,rfl⟩
        have b0:0 ≤ b:=by rw [eb]; exact Int.emod_nonneg _ (by omega)
        have b1:b < n:=by rw [eb]; exact Int.emod_lt_of_pos _ (by omega)
        have ab:a ≠ b:=fun z=>by
          rw [eb] at z
          by_cases w:a + 1 + g < n
          · rw [Int.emod_eq_of_lt (by omega) w] at z; omega
          · have:(a + 1 + g) % n=a + 1 + g - n:=by
              have e:a + 1 + g=(a + 1 + g - n) + n:=by omega
              rw [e,Int.add_emod_right,Int.emod_eq_of_lt (by omega) (by omega)]; omega
            omega
        refine ⟨[.v (.scr ns),.v (.int n),.o (.lst (L.map encR)),.v (.int k),sv o4,sv o5],[.v (.scr ns),.v (.int n),.o (.lst ((L ++ [(a,b)]).map encR)),.v (.int k),.v (.int y),.v (.int a)],zaK rfl,.inl ?_,L ++ [(a,b)],some _,some _,some _,by simp [ll],fun p hp=>?_,rfl⟩
        · have dv:oDiv (.int x) (.int (1 + k))=some (.int y):=by rw [ey]; exact zc0 (by omega) f1k
          have dv2:oDiv (.int y) (.int 16)=some (.int (y / 16)):=zc0 (by decide) f16
          have m9:oMod (.int k) (.int 9)=some (.int (k % 9)):=zbP (by decide)
          have mn:oMod (.int y) (.int n)=some (.int a):=by rw [ea]; exact zbP (by omega)
          have mg:oMod (.int (y / 16)) (.int ((n:Int) - 1))=some (.int g):=by rw [eg]; exact zbP (by omega)
          have mb:oMod (.int (a + 1 + g)) (.int n)=some (.int b):=by rw [eb]; exact zbP (by omega)
          have r1:mAsg (m2 oDiv (zar zat (zab (mVar 0) (zab (m2 oAdd (mC (.int 48)) (m2 oMod (mRd 3) (mC (.int 9)))) (zab (m2 oPow (mC (.int 10)) (mC (.int 12))) mNil)))) (m2 oAdd (mC (.int 1)) (mRd 3))) (zao 4) [.v (.scr ns),.v (.int n),.o (.lst (L.map encR)),.v (.int k),sv o4,sv o5] = .nx [.v (.scr ns),.v (.int n),.o (.lst (L.map encR)),.v (.int k),.v (.int y),sv o5]:=by
            refine zaD (d:=.int y) ?_ (by rcases o4 with _ | o4 <;> rfl)
            simp [zar,zab,mNil,mVar,mRd,mC,m9,p12,hx,dv]
          have r2:mAsg (m2 oMod (mRd 4) (mRd 1)) (zao 5) [.v (.scr ns),.v (.int n),.o (.lst (L.map encR)),.v (.int k),.v (.int y),sv o5] = .nx [.v (.scr ns),.v (.int n),.o (.lst (L.map encR)),.v (.int k),.v (.int y),.v (.int a)]:=by
            refine zaD (d:=.int a) ?_ (by rcases o5 with _ | o5 <;> rfl)
            simp [mRd,mn]
          refine (zak r1).trans ((zak r2).trans ?_)
          rw [List.map_append]
          refine (zc8 (l:=L.map encR) (d:=encR (a,b)) rfl ?_ (by rw [List.length_map]; omega)).trans rfl
          simp [mTup,zab,mNil,mVar,mRd,mC,dv2,mg,mb,sizeLine,encR]
        · rcases List.mem_append.mp hp with z | z
          · exact lm p z
          · rw [List.mem_singleton.mp z]
            exact ⟨⟨⟨a0,a1⟩,b0,b1⟩,ab⟩)
      [.v (.scr ns),.v (.int n),.o (.lst []),.no,.no,.no] ⟨[],none,none,none,rfl,fun p hp=>(by cases hp),rfl⟩
    rw [zaH] at ll
    refine ⟨L,by omega,lm,zcM ?_⟩
    show mSeq _ _ [.v (.scr ns),.v (.int n),.no,.no,.no,.no]=_
    have e:zar zat (zab (mVar 0) (zab (mC (.int 47)) (zab (mC (.int 12)) mNil))) [.v (.scr ns),.v (.int n),.o (.lst []),.no,.no,.no] = .ok (.int m):=by
      simp [zar,zab,mNil,mVar,mC,hc]
    have q2:mIfS (zas (m2 oGt (mRd 1) (mC (.int 1)))) zcz zbd [.v (.scr ns),.v (.int n),.o (.lst []),.no,.no,.no] = .nx [.v (.scr ns),.v (.int n),.o (.lst (L.map encR)),sv o3,sv o4,sv o5]:=by
      rw [zff (by simp [zas,mRd,mC]; omega)]
      exact (zbi (l:=(upt m).map .int) (by
        simp only [mRng,zab,mNil,e,R.bind_ok]
        exact congrArg R.of rn)).trans hl
    exact (zak q1).trans ((zak q2).trans rfl)
theorem zfq {p:Int}:∀ {R:List (Int × Int)},(∀ q ∈ R,q.1 ≠ q.2)→(ends R).count p=(R.filter fun q=>decide (p=q.1) || decide (p=q.2)).length
  | [],_=>rfl
  | q :: R,h=>by
    have ih:=zfq (p:=p) (R:=R) fun x hx=>h x (List.mem_cons_of_mem _ hx)
    have hq:=h q (by simp)
    show (q.1 :: q.2 :: ends R).count p=_
    rw [List.count_cons,List.count_cons,ih]
    by_cases h1:p=q.1
    · have h2:¬ p=q.2:=fun z=>hq (h1.symm.trans z)
      have e2:(q.2 == p)=false:=by simpa using fun z=>h2 z.symm
      rw [List.filter_cons_of_pos (by simp [h1])]
      simp [h1.symm,e2]
    · have e1:(q.1 == p)=false:=by simpa using fun z=>h1 z.symm
      by_cases h2:p=q.2
      · rw [List.filter_cons_of_pos (by simp [h2])]
        simp [e1,h2.symm]
      · have e2:(q.2 == p)=false:=by simpa using fun z=>h2 z.symm
        rw [List.filter_cons_of_neg (by simp [h1,h2])]
        simp [e1,e2]
theorem zh7 {n:Nat} {R:List (Int × Int)} (hm:∀ p ∈ R,((0 ≤ p.1∧p.1 < (n:Int))∧(0 ≤ p.2∧p.2 < (n:Int)))∧p.1 ≠ p.2):(upt n).filter (fun p=>odd (ends R) p)=srt (oddL R):=by
  have s1:((upt n).filter (fun p=>odd (ends R) p)).Pairwise (· ≤ ·):=by
    refine List.Pairwise.filter _ ?_
    unfold upt
    rw [List.pairwise_map]
    exact List.pairwise_lt_range.imp fun h=>by omega
  refine L2.sort_eq ?_ s1
  refine (List.perm_ext_iff_of_nodup ((zf7 n).filter _) (ze6 R)).mpr fun x=>?_
  rw [List.mem_filter]
  unfold oddL
  rw [List.mem_filter,(zbL (ends R)).2 x,mem_upt]
  constructor
  · rintro ⟨_,h⟩
    refine ⟨?_,h⟩
    apply Classical.byContradiction
    intro z
    unfold odd at h
    rw [List.count_eq_zero.mpr z] at h
    simp at h
  · rintro ⟨h,o⟩
    refine ⟨?_,o⟩
    obtain ⟨p,hp,hx⟩:=zfI h
    rcases hx with rfl | rfl
    · exact (hm p hp).1.1
    · exact (hm p hp).1.2
theorem zh4 {n:Nat} {R:List (Int × Int)} (hn:n ≤ 100) (hR:R.length ≤ 30) (hm:∀ p ∈ R,((0 ≤ p.1∧p.1 < (n:Int))∧(0 ≤ p.2∧p.2 < (n:Int)))∧p.1 ≠ p.2):zbR [.lst (R.map encR),.int n] = .ok (iL (srt (oddL R))):=by
  rw [← zh7 hm]
  have rn:=rngT (show n ≤ 1000 by omega)
  obtain ⟨A,eA⟩:∃ A,A=D.lst (R.map encR):=⟨_,rfl⟩
  rw [← eA]
  obtain ⟨δ,hl,o3,o4,rfl⟩:=zaN (b:=zao 3) (m:=zeD) D.int (fun pre δ=>∃ o3 o4:Option D,δ = [.v A,.v (.int n),.o (iL (pre.filter fun p=>odd (ends R) p)),sv o3,sv o4]) (upt n)
    (by
      rintro pre p post δ hall ⟨o3,o4,rfl⟩
      have pl:=congrArg List.length hall
      rw [zaH,List.length_append] at pl
      have fl:=List.length_filter_le (fun p=>odd (ends R) p) pre
      obtain ⟨M,eM⟩:∃ M,M=R.filter fun q=>decide (p=q.1) || decide (p=q.2):=⟨_,rfl⟩
      refine ⟨[.v A,.v (.int n),.o (iL (pre.filter fun p=>odd (ends R) p)),.v (.int p),sv o4],[.v A,.v (.int n),.o (iL ((pre ++ [p]).filter fun p=>odd (ends R) p)),.v (.int p),.v (.lst (M.map encR))],zaK rfl,.inl ?_,some _,some _,rfl⟩
      have k:zdH [.v A,.v (.int n),.o (iL (pre.filter fun p=>odd (ends R) p)),.v (.int p),sv o4] = .ok (.lst (M.map encR)):=by
        rw [eM]
        refine zbW (l:=R.map encR) (by rw [eA]; simp [mItL,mRd]) (by rw [List.length_map]; omega) ?_
        have s:zaF [.v A,.v (.int n),.o (iL (pre.filter fun p=>odd (ends R) p)),.v (.int p),sv o4] [3] 1 = [.v (.int p),.no]:=rfl
        rw [s]
        refine zdk encR _ R fun q _=>?_
        have i0:oIxT (encR q) (.int 0)=some (.int q.1):=rfl
        have i1:oIxT (encR q) (.int 1)=some (.int q.2):=rfl
        by_cases e1:p=q.1
        · simp [zcU,za9,mOr,zas,mRd,mVar,mC,i0,i1,e1]
        · by_cases e2:p=q.2
          · simp [zcU,za9,mOr,zas,mRd,mVar,mC,i0,i1,e1,e2]
          · simp [zcU,za9,mOr,zas,mRd,mVar,mC,i0,i1,e1,e2]
      have q1:mAsg zdH (zao 4) [.v A,.v (.int n),.o (iL (pre.filter fun p=>odd (ends R) p)),.v (.int p),sv o4] = .nx [.v A,.v (.int n),.o (iL (pre.filter fun p=>odd (ends R) p)),.v (.int p),.v (.lst (M.map encR))]:=zaD (d:=.lst (M.map encR)) k (by rcases o4 with _ | o4 <;> rfl)
      refine (zak q1).trans ?_
      have lM:fLen [D.lst (M.map encR)]=some (.int M.length):=by unfold fLen; simp
      have om:oMod (.int M.length) (.int 2)=some (.int ((M.length:Int) % 2)):=zbP (by decide)
      have od:odd (ends R) p=decide (M.length % 2=1):=by unfold odd; rw [zfq (fun q hq=>(hm q hq).2),eM]
      have fa:(pre ++ [p]).filter (fun p=>odd (ends R) p)=if odd (ends R) p=true then pre.filter (fun p=>odd (ends R) p) ++ [p] else pre.filter (fun p=>odd (ends R) p):=by
        rw [List.filter_append]
        by_cases z:odd (ends R) p=true
        · rw [if_pos z,List.filter_cons_of_pos z]; rfl
        · rw [if_neg z,List.filter_cons_of_neg z,List.filter_nil,List.append_nil]
      rw [fa,od]
      by_cases c:M.length % 2=1
      · rw [if_pos (decide_eq_true c),zff (by simp [zas,mCB,zab,mNil,mRd,mC,lM,om]; omega)]
        exact ziv rfl rfl (by omega)
      · rw [if_neg (by simpa using c),zbw (by simp [zas,mCB,zab,mNil,mRd,mC,lM,om]; omega)]; rfl)
    [.v A,.v (.int n),.o (iL []),.no,.no] ⟨none,none,rfl⟩
  refine zcM ?_
  show mSeq _ _ [.v A,.v (.int n),.no,.no,.no]=_
  have q1:mAsg (mLst mNil) (bNew 2) [.v A,.v (.int n),.no,.no,.no] = .nx [.v A,.v (.int n),.o (iL []),.no,.no]:=zaD (d:=iL []) (zc6 (l:=[]) rfl (by simp)) rfl
  have q2:ze7 [.v A,.v (.int n),.o (iL []),.no,.no]=_:=(zbi (l:=(upt n).map .int) (by simp [mRng,zab,mNil,mVar,rn])).trans hl
  exact (zak q1).trans ((zak q2).trans rfl)
end My
namespace My
open PySem L2 PM
theorem zmn {l:List Int} {k:Nat} (h:k < l.length):oIxL (iL l) (.int k)=some (.int (l.getD k 0)):=by
  show atI (l.map D.int) k=_
  unfold atI ixN
  rw [if_pos (by omega),List.length_map]
  simp [h]
theorem zgm:∀ (m:Nat) (l:List Int),l.length=2 * m→prs l=(List.range m).map fun k=>(l.getD (2 * k) 0,l.getD (2 * k + 1) 0)
  | 0,l,h=>by
    have:l = []:=List.length_eq_zero_iff.mp (by omega)
    subst this; rfl
  | m + 1,[],h=>by simp at h
  | m + 1,[_],h=>by simp at h; omega
  | m + 1,a :: b :: l,h=>by
    have ih:=zgm m l (by simp at h; omega)
    rw [List.range_succ_eq_map,List.map_cons,List.map_map]
    show (a,b) :: prs l=(a,b) :: _
    rw [ih]
    congr 1
theorem zl7 {l:List Int} {m:Nat} (h:l.length=2 * m) {P:Int→Prop} (hl:∀ v ∈ l,P v):∀ q ∈ prs l,P q.1∧P q.2:=fun q hq=>by
  have e:=zfE m l h
  have m1:q.1 ∈ ends (prs l):=List.mem_flatMap.mpr ⟨q,hq,by simp⟩
  have m2:q.2 ∈ ends (prs l):=List.mem_flatMap.mpr ⟨q,hq,by simp⟩
  rw [e] at m1 m2
  exact ⟨hl _ m1,hl _ m2⟩
theorem zei {n:Nat} {B:Int} {d:Int→Int→Int} (ok:LenOk n B d) (hn:n ≤ 100) {S:List Int} (nd:S.Nodup) (mem:∀ q ∈ S,0 ≤ q∧q < (n:Int)) (ev:S.length % 2=0) (hl:S.length ≤ 12):∃ P:List (Int × Int),zax [tabD (tabF n d),iL S] = .ok (.lst (P.map encR))∧P.length ≤ 12∧zaQ [.lst (P.map encR),iL S] = .ok (.bl true)∧(∀ q ∈ P,(0 ≤ q.1∧q.1 < (n:Int))∧(0 ≤ q.2∧q.2 < (n:Int)))∧∀ Q:List (Int × Int),(ends Q).Perm S→cost d P ≤ cost d Q:=by
  have lp:=zd5 ok hn mem ev hl
  obtain ⟨m,hm⟩:∃ m,S.length=2 * m:=⟨S.length / 2,by omega⟩
  obtain ⟨P,eP⟩:∃ P,P=zdg (tabD (tabF n d)) S:=⟨_,rfl⟩
  have pl:=zg5 (tabD (tabF n d)) S
  rw [← eP] at lp pl
  have eb:P=(bpF (dOf (tabD (tabF n d))) m (srt S)).2:=by
    rw [eP,← show S.length / 2=m by omega]; rfl
  have sl:(srt S).length=2 * m:=by rw [zjC,hm]
  obtain ⟨b1,b2⟩:=zlz (dOf (tabD (tabF n d))) m (srt S) sl
  obtain ⟨u1,u2⟩:=zms (dOf (tabD (tabF n d))) m (srt S) sl (zmw nd)
  rw [← eb] at b1 b2 u1 u2
  have sp:(srt S).Perm S:=List.mergeSort_perm _ _
  have de:∀ a b:Int,a ∈ S→b ∈ S→dOf (tabD (tabF n d)) a b=d a b:=fun a b ha hb=>zni (mem a ha).1 (mem a ha).2 (mem b hb).1 (mem b hb).2
  have cc:∀ Q:List (Int × Int),(ends Q).Perm S→cost (dOf (tabD (tabF n d))) Q=cost d Q:=fun Q hQ=>by
    unfold cost
    congr 1
    refine List.map_congr_left fun p hp=>?_
    exact de _ _ (hQ.mem_iff.mp (List.mem_flatMap.mpr ⟨p,hp,by simp⟩)) (hQ.mem_iff.mp (List.mem_flatMap.mpr ⟨p,hp,by simp⟩))
  refine ⟨P,lp,by omega,zgp (by omega) u1 u2 (b1.trans sp),fun q hq=>⟨mem _ (sp.mem_iff.mp (b1.mem_iff.mp (List.mem_flatMap.mpr ⟨q,hq,by simp⟩))),mem _ (sp.mem_iff.mp (b1.mem_iff.mp (List.mem_flatMap.mpr ⟨q,hq,by simp⟩)))⟩,fun Q hQ=>?_⟩
  have le:=zmR (d:=dOf (tabD (tabF n d))) m (srt S) Q (fun i hi j hj=>?_) sl (hQ.trans sp.symm)
  · rw [b2,cc P (b1.trans sp),cc Q hQ] at le
    exact le
  · have hi':=sp.mem_iff.mp hi
    have hj':=sp.mem_iff.mp hj
    rw [de i j hi' hj',de j i hj' hi']
    exact ok.sym i j (mem i hi').1 (mem i hi').2 (mem j hj').1 (mem j hj').2
end My
namespace My
open PySem L2 PM
theorem ziE (n:Nat) (d:Int→Int→Int):zaG 7 (tabD (tabF n d))=true:=by
  unfold tabD tabF
  simp only [zaG,List.map_map,List.all_map]
  simp [iL,zaG]
theorem zbB {f:List D→R D} {a b:En→R D} {δ:En} {x y r:D} (ha:a δ = .ok x) (hb:b δ = .ok y) (hf:f [x,y] = .ok r):zar f (zab a (zab b mNil)) δ = .ok r:=by
  simp [zar,zab,mNil,ha,hb,hf]
theorem zkR {f:List D→R D} {a:En→R D} {δ:En} {x r:D} (ha:a δ = .ok x) (hf:f [x] = .ok r):zar f (zab a mNil) δ = .ok r:=by
  simp [zar,zab,mNil,ha,hf]
theorem zlF {ml:En→R (List D)} {δ:En} {l:List D} (h:ml δ = .ok l) (hl:l.length ≤ 100000):mTup ml δ = .ok (.tup l):=by
  unfold mTup
  rw [h,R.bind_ok]
  exact zaU (zlC hl)
theorem zhy {f:List D→R D} {a b:En→R D} {δ:En} {x y r:D} (ha:a δ = .ok x) (hb:b δ = .ok y) (hf:f [x,y] = .ok r) (hr:zdc r=true):zdn f (zab a (zab b mNil)) δ = .ok r:=by
  simp [zdn,zab,mNil,ha,hb,hf,hr]
theorem law_true (ns:List Int) (h:ns.length ≤ 63):zm3 [.scr ns] = .ok (.bl true):=by
  obtain ⟨n,d,⟨n1,n12⟩,ok,hlen⟩:=zh0 ns (most:=500000000000000000) (by decide) (by decide)
  have hn0:0 < n:=by omega
  obtain ⟨S,snd,smem,sev,slen,hS⟩:=zhe ns (n:=n) (by omega)
  obtain ⟨L,ll,lm,hL⟩:=zgj ns hn0 (show n ≤ 20 by omega)
  obtain ⟨P,lp,pl,lpp,pm,ple⟩:=zei ok (by omega) snd smem sev (by omega)
  have oe:=zg3 (R:=L) (by omega)
  have lo:=zh4 (n:=n) (by omega) (by omega) lm
  have om:∀ q ∈ srt (oddL L),0 ≤ q∧q < (n:Int):=fun q hq=>by
    obtain ⟨p,hp,hx⟩:=zfI (zkN (srt_mem.mp hq))
    rcases hx with rfl | rfl
    · exact (lm p hp).1.1
    · exact (lm p hp).1.2
  have ond:(srt (oddL L)).Nodup:=(List.mergeSort_perm _ _).nodup_iff.mpr (ze6 L)
  have ol:(srt (oddL L)).length ≤ 11:=by
    have:=List.Nodup.length_le_of_subset (l₂:=upt n) ond fun q hq=>mem_upt.mpr (om q hq)
    rw [zaH] at this
    omega
  obtain ⟨P2,lp2,_,lpp2,_⟩:=zei ok (by omega) ond om (by rw [zjC]; exact zja L) (by omega)
  obtain ⟨m,hm⟩:∃ m,S.length=2 * m:=⟨S.length / 2,by omega⟩
  have le:=ple (prs S) (by rw [zfE m S hm])
  have sP:=zfi (d:=d) pm
  have sD:=zfi (d:=d) (zl7 hm smem)
  have no:=ze0 (l:=srt (oddL L)) (by omega)
  have pS:=zgm m S hm
  have lS:fLen [iL S]=some (.int S.length):=zjf S
  obtain ⟨Od,eOd⟩:∃ Od,Od=srt (oddL L):=⟨_,rfl⟩
  rw [← eOd] at oe lo lp2 lpp2 no
  obtain ⟨Ro,eRo⟩:∃ Ro,Ro=D.lst (L.map encR):=⟨_,rfl⟩
  have fRo:zdm [Ro]=some Ro:=by rw [eRo]; rfl
  have pRo:zaG 7 Ro=true:=by rw [eRo]; exact zfU L 5
  obtain ⟨Fo,eFo⟩:∃ Fo,Fo=D.lst (P.map encR):=⟨_,rfl⟩
  have fFo:zdm [Fo]=some Fo:=by rw [eFo]; rfl
  have pFo:zaG 8 Fo=true:=by rw [eFo]; exact zfU P 6
  obtain ⟨F2,eF2⟩:∃ F2,F2=D.lst (P2.map encR):=⟨_,rfl⟩
  obtain ⟨Dr,eDr⟩:∃ Dr,Dr=D.lst ((prs S).map encR):=⟨_,rfl⟩
  obtain ⟨T,eT⟩:∃ T,T=tabD (tabF n d):=⟨_,rfl⟩
  have lT:fLen [T]=some (.int n):=by rw [eT]; exact zgY
  rw [← eT] at hlen lp lp2 sP sD
  rw [← eRo] at hL oe lo
  rw [← eFo] at lp lpp sP
  rw [← eF2] at lp2 lpp2
  rw [← eDr] at sD
  have pT:=ziE n d
  rw [← eT] at pT
  have p17:oPow (.int 10) (.int 17)=some (.int 100000000000000000):=zjF ⟨by decide,by decide,by decide⟩
  have f5:Fit 5:=fitN 10 (by decide)
  have f2:Fit 2:=fitN 10 (by decide)
  have fp:Fit 100000000000000000:=fitN (10 ^ 17) (by decide)
  have fS:zdm [iL S]=some (iL S):=rfl
  have dv:oDiv (.int S.length) (.int 2)=some (.int m):=by rw [zc0 (by decide) f2,hm]; congr 2; omega
  have rn:=rngT (show m ≤ 1000 by omega)
  have ph:zaG 8 (.lst [T,iL S,Ro])=true:=by
    show [T,iL S,Ro].all (zaG 7)=true
    simp [pT,zd7 S 6,pRo]
  refine zey ?_
  show mSeq _ _ [.v (.scr ns),.no,.no,.no,.no,.no,.no,.no,.no]=_
  have q1:mAsg (zar za6 (zab (mVar 0) (zab (m2 oMul (mC (.int 5)) (m2 oPow (mC (.int 10)) (mC (.int 17)))) mNil))) (zao 1) [.v (.scr ns),.no,.no,.no,.no,.no,.no,.no,.no] = .nx [.v (.scr ns),.v T,.no,.no,.no,.no,.no,.no,.no]:=zaD (d:=T) (by simp [zar,zab,mNil,mVar,mC,p17,zco f5 fp,hlen]) rfl
  have q2:mAsg (zar zbI (zab (mVar 0) (zab (mCB fLen (zab (mRd 1) mNil)) mNil))) (zao 2) [.v (.scr ns),.v T,.no,.no,.no,.no,.no,.no,.no] = .nx [.v (.scr ns),.v T,.v (iL S),.no,.no,.no,.no,.no,.no]:=zaD (d:=iL S) (zbB rfl (by simp [mCB,zab,mNil,mRd,lT]) hS) rfl
  have q3:mAsg zkS (zao 3) [.v (.scr ns),.v T,.v (iL S),.no,.no,.no,.no,.no,.no] = .nx [.v (.scr ns),.v T,.v (iL S),.v Dr,.no,.no,.no,.no,.no]:=by
    refine zaD (d:=Dr) ?_ rfl
    rw [eDr,pS,List.map_map]
    refine zbW (l:=(List.range m).map fun k:Nat=>.int k) ?_ (by simp; omega) ?_
    · simp only [mRng,zab,mNil,zc5,mCB,mRd,mC,List.getElem?_cons_succ,List.getElem?_cons_zero,R.bind_ok,lS,R.of_some,dv]
      refine (congrArg R.of rn).trans ?_
      unfold upt
      rw [List.map_map]; rfl
    · have s:zaF [.v (.scr ns),.v T,.v (iL S),.no,.no,.no,.no,.no,.no] [2] 1 = [.v (iL S),.no]:=rfl
      rw [s]
      refine zbG (fun k:Nat=>.int k) _ _ fun k hk=>?_
      have kl:=List.mem_range.mp hk
      have a0:=zmn (l:=S) (k:=2 * k) (by omega)
      have a1:=zmn (l:=S) (k:=2 * k + 1) (by omega)
      rw [show ((2 * k:Nat):Int)=2 * (k:Int) by omega] at a0
      rw [show ((2 * k + 1:Nat):Int)=2 * (k:Int) + 1 by omega] at a1
      have fk:Fit (k:Int):=fitN 1000 (by omega)
      have b:za9 1 (.int k) [.v (iL S),.no]=some [.v (iL S),.v (.int k)]:=rfl
      have tp:mTup (zab (m2 oIxL (mRd 0) (m2 oMul (mC (.int 2)) (mRd 1))) (zab (m2 oIxL (mRd 0) (m2 oAdd (m2 oMul (mC (.int 2)) (mRd 1)) (mC (.int 1)))) mNil)) [.v (iL S),.v (.int k)] = .ok (encR (S.getD (2 * k) 0,S.getD (2 * k + 1) 0)):=by
        refine zlF (l:=[.int (S.getD (2 * k) 0),.int (S.getD (2 * k + 1) 0)]) ?_ (show 2 ≤ 100000 by decide)
        simp only [zab,mNil,zc5,mRd,mC,List.getElem?_cons_succ,List.getElem?_cons_zero,R.bind_ok,R.of_some,zco f2 fk,a0,a1,zk1]
      simp only [zcU,b,tp,R.nev_ok,R.bind_ok]
      rfl
  have q4:mAsg (zar zbt (zab (mVar 0) (zab (mCB fLen (zab (mRd 1) mNil)) mNil))) (zao 4) [.v (.scr ns),.v T,.v (iL S),.v Dr,.no,.no,.no,.no,.no] = .nx [.v (.scr ns),.v T,.v (iL S),.v Dr,.v Ro,.no,.no,.no,.no]:=zaD (d:=Ro) (zbB rfl (by simp [mCB,zab,mNil,mRd,lT]) hL) rfl
  have q5:mAsg (mLst (zab zi9 (zab (mCB zdm (zab (mRd 2) mNil)) (zab (mCB zdm (zab (mRd 4) mNil)) mNil)))) (zao 5) [.v (.scr ns),.v T,.v (iL S),.v Dr,.v Ro,.no,.no,.no,.no] = .nx [.v (.scr ns),.v T,.v (iL S),.v Dr,.v Ro,.v (.lst [T,iL S,Ro]),.no,.no,.no]:=by
    have k:zi9 [.v (.scr ns),.v T,.v (iL S),.v Dr,.v Ro,.no,.no,.no,.no] = .ok T:=by
      rw [eT]
      refine zbW (l:=(tabF n d).map iL) (r:=(tabF n d).map iL) (by simp [mItL,mRd,tabD]) (by simp [tabF,zaH]; omega) ?_
      refine zbG iL iL _ fun l _=>?_
      have:zdm [iL l]=some (iL l):=rfl
      simp [zcU,zaF,za9,mCB,zab,mNil,mRd,this]
    exact zaD (d:=.lst [T,iL S,Ro]) (zc6 (by simp only [mCB,zab,mNil,mRd,k,List.getElem?_cons_succ,List.getElem?_cons_zero,R.bind_ok,fS,fRo,R.of_some]) (show 3 ≤ 100000 by decide)) rfl
  have h0:oIxL (.lst [T,iL S,Ro]) (.int 0)=some T:=rfl
  have h1:oIxL (.lst [T,iL S,Ro]) (.int 1)=some (iL S):=rfl
  have h2:oIxL (.lst [T,iL S,Ro]) (.int 2)=some Ro:=rfl
  have q6:mAsg (zar zax (zab (m2 oIxL (mRd 5) (mC (.int 0))) (zab (m2 oIxL (mRd 5) (mC (.int 1))) mNil))) (bNew 6) [.v (.scr ns),.v T,.v (iL S),.v Dr,.v Ro,.v (.lst [T,iL S,Ro]),.no,.no,.no] = .nx [.v (.scr ns),.v T,.v (iL S),.v Dr,.v Ro,.v (.lst [T,iL S,Ro]),.o Fo,.no,.no]:=zaD (d:=Fo) (zbB (by simp only [zc5,mRd,mC,List.getElem?_cons_succ,List.getElem?_cons_zero,R.bind_ok,h0,h1,h2,R.of_some]) (by simp only [zc5,mRd,mC,List.getElem?_cons_succ,List.getElem?_cons_zero,R.bind_ok,h0,h1,h2,R.of_some]) lp) (by rw [eFo]; rfl)
  have q7:mAsg (zar zbH (zab (m2 oIxL (mRd 5) (mC (.int 2))) mNil)) (zao 7) [.v (.scr ns),.v T,.v (iL S),.v Dr,.v Ro,.v (.lst [T,iL S,Ro]),.o Fo,.no,.no] = .nx [.v (.scr ns),.v T,.v (iL S),.v Dr,.v Ro,.v (.lst [T,iL S,Ro]),.o Fo,.v (iL Od),.no]:=zaD (d:=iL Od) (zkR (by simp only [zc5,mRd,mC,List.getElem?_cons_succ,List.getElem?_cons_zero,R.bind_ok,h0,h1,h2,R.of_some]) oe) rfl
  have q8:mIfS (mOr (mNot (zas (zar za5 (zab (mVar 7) (zab (zar zbR (zab (mVar 4) (zab (mCB fLen (zab (mRd 1) mNil)) mNil))) mNil))))) (zas (m2 oNeD (mRd 5) (mLst (zab (mVar 1) (zab (mVar 2) (zab (mVar 4) mNil))))))) (mRet (mC (.bl false))) zbd [.v (.scr ns),.v T,.v (iL S),.v Dr,.v Ro,.v (.lst [T,iL S,Ro]),.o Fo,.v (iL Od),.no] = .nx [.v (.scr ns),.v T,.v (iL S),.v Dr,.v Ro,.v (.lst [T,iL S,Ro]),.o Fo,.v (iL Od),.no]:=by
    have t0:zas (zar za5 (zab (mVar 7) (zab (zar zbR (zab (mVar 4) (zab (mCB fLen (zab (mRd 1) mNil)) mNil))) mNil))) [.v (.scr ns),.v T,.v (iL S),.v Dr,.v Ro,.v (.lst [T,iL S,Ro]),.o Fo,.v (iL Od),.no] = .ok true:=by unfold zas; rw [zbB rfl (zbB rfl (by simp [mCB,zab,mNil,mRd,lT]) lo) no]; rfl
    have t1:zas (m2 oNeD (mRd 5) (mLst (zab (mVar 1) (zab (mVar 2) (zab (mVar 4) mNil))))) [.v (.scr ns),.v T,.v (iL S),.v Dr,.v Ro,.v (.lst [T,iL S,Ro]),.o Fo,.v (iL Od),.no] = .ok false:=by exact ne_f rfl (zc6 rfl (show 3 ≤ 100000 by decide)) ph
    rw [zbw (by simp only [mOr,mNot,t0,t1,R.bind_ok]; rfl)]; rfl
  have q9:mIfS (mOr (mNot (zas (zdn zaQ (zab (mRd 6) (zab (mVar 2) mNil))))) (zas (m2 oGt (zdn zbh (zab (mVar 1) (zab (mRd 6) mNil))) (zar zbh (zab (mVar 1) (zab (mVar 3) mNil)))))) (mRet (mC (.bl false))) zbd [.v (.scr ns),.v T,.v (iL S),.v Dr,.v Ro,.v (.lst [T,iL S,Ro]),.o Fo,.v (iL Od),.no] = .nx [.v (.scr ns),.v T,.v (iL S),.v Dr,.v Ro,.v (.lst [T,iL S,Ro]),.o Fo,.v (iL Od),.no]:=by
    have t0:zas (zdn zaQ (zab (mRd 6) (zab (mVar 2) mNil))) [.v (.scr ns),.v T,.v (iL S),.v Dr,.v Ro,.v (.lst [T,iL S,Ro]),.o Fo,.v (iL Od),.no] = .ok true:=by unfold zas; rw [zhy rfl rfl lpp rfl]; rfl
    have t1:zas (m2 oGt (zdn zbh (zab (mVar 1) (zab (mRd 6) mNil))) (zar zbh (zab (mVar 1) (zab (mVar 3) mNil)))) [.v (.scr ns),.v T,.v (iL S),.v Dr,.v Ro,.v (.lst [T,iL S,Ro]),.o Fo,.v (iL Od),.no] = .ok false:=by unfold zas; rw [zc5,zhy (x:=T) (y:=Fo) rfl rfl sP rfl,R.bind_ok,zbB (x:=T) (y:=Dr) rfl rfl sD,R.bind_ok,znr,R.of_some,R.bind_ok,decide_eq_false (by omega)]; rfl
    rw [zbw (by simp only [mOr,mNot,t0,t1,R.bind_ok]; rfl)]; rfl
  have q10:mAsg (mCB zdm (zab (mRd 6) mNil)) (zao 8) [.v (.scr ns),.v T,.v (iL S),.v Dr,.v Ro,.v (.lst [T,iL S,Ro]),.o Fo,.v (iL Od),.no] = .nx [.v (.scr ns),.v T,.v (iL S),.v Dr,.v Ro,.v (.lst [T,iL S,Ro]),.o Fo,.v (iL Od),.v Fo]:=zaD (d:=Fo) (by simp only [mCB,zab,mNil,mRd,List.getElem?_cons_succ,List.getElem?_cons_zero,R.bind_ok,fFo,R.of_some]) rfl
  have q11:mIfS (mOr (mNot (zas (zar zaQ (zab (zar zax (zab (mVar 1) (zab (mVar 7) mNil))) (zab (mVar 7) mNil))))) (zas (m2 oNeD (mRd 6) (mRd 8)))) (mRet (mC (.bl false))) zbd [.v (.scr ns),.v T,.v (iL S),.v Dr,.v Ro,.v (.lst [T,iL S,Ro]),.o Fo,.v (iL Od),.v Fo] = .nx [.v (.scr ns),.v T,.v (iL S),.v Dr,.v Ro,.v (.lst [T,iL S,Ro]),.o Fo,.v (iL Od),.v Fo]:=by
    have t0:zas (zar zaQ (zab (zar zax (zab (mVar 1) (zab (mVar 7) mNil))) (zab (mVar 7) mNil))) [.v (.scr ns),.v T,.v (iL S),.v Dr,.v Ro,.v (.lst [T,iL S,Ro]),.o Fo,.v (iL Od),.v Fo] = .ok true:=by unfold zas; rw [zbB (zbB rfl rfl lp2) rfl lpp2]; rfl
    have t1:zas (m2 oNeD (mRd 6) (mRd 8)) [.v (.scr ns),.v T,.v (iL S),.v Dr,.v Ro,.v (.lst [T,iL S,Ro]),.o Fo,.v (iL Od),.v Fo] = .ok false:=by exact ne_f rfl rfl pFo
    rw [zbw (by simp only [mOr,mNot,t0,t1,R.bind_ok]; rfl)]; rfl
  have q12:zbT 6 (mTup (zab (mC (.int 0)) (zab (mC (.int 0)) mNil))) [.v (.scr ns),.v T,.v (iL S),.v Dr,.v Ro,.v (.lst [T,iL S,Ro]),.o Fo,.v (iL Od),.v Fo] = .nx [.v (.scr ns),.v T,.v (iL S),.v Dr,.v Ro,.v (.lst [T,iL S,Ro]),.o (.lst (P.map encR ++ [.tup [.int 0,.int 0]])),.v (iL Od),.v Fo]:=by
    refine (zc8 (l:=P.map encR) (d:=.tup [.int 0,.int 0]) (by rw [eFo]; rfl) (by simp [mTup,zab,mNil,mC,sizeLine]) (by rw [List.length_map]; omega)).trans rfl
  refine (zak q1).trans ((zak q2).trans ((zak q3).trans ((zak q4).trans ((zak q5).trans ((zak q6).trans ((zak q7).trans ((zak q8).trans ((zak q9).trans ((zak q10).trans ((zak q11).trans ((zak q12).trans ?_)))))))))))
  have c:zar zax (zab (mVar 1) (zab (mVar 2) mNil)) [.v (.scr ns),.v T,.v (iL S),.v Dr,.v Ro,.v (.lst [T,iL S,Ro]),.o (.lst (P.map encR ++ [.tup [.int 0,.int 0]])),.v (iL Od),.v Fo] = .ok Fo:=zbB rfl rfl lp
  unfold mRet
  rw [zc5,c,R.bind_ok]
  show (((R.ok Fo).bind _)).toO _ _=_
  rw [R.bind_ok,zi4 pFo pFo rfl]; rfl
end My
namespace My
open PySem L2 PM PyProof.Rows
def top (i:Nat):Stmt:=PySem.Challenge.pw_goodenough_k17_whole_any_pairing.main.body.getD i (.Pass ⟨0,0,0,0⟩)
abbrev XO0:XOT:=fun _ _ _ _ _=>False
structure Adr where
  KnownPairs:Addr
def caT (ad:Adr):Nat→Addr
  | 2=>ad.KnownPairs
  | _=>0
def caF (ad:Adr) (c:Nat):Addr:=caT ad (c % 16)
def anT:Nat→Str
  | _=>Str.empty
def anF (c:Nat):Str:=anT (c % 16)
abbrev KX (K:PySem.W.Frag) (ad:Adr):Kx:=⟨K,caF ad,anF⟩
def zhB (K:PySem.W.Frag):Sp:=fun vs H Q _=>∃ (a:Addr) (ns:List Int),vs = [.ref a]∧SqL K H a (ns.map V.int)∧ns.length ≤ 63∧∀ H',Q (.bl true) H'
structure Txt (K:PySem.W.Frag) (mg:Str→Option Value) (ad:Adr):Prop where
  len:mg "len"=none
  abs:mg "abs"=none
  isinstance:mg "isinstance"=none
  list:mg "list"=none
  int:mg "int"=none
  bool:mg "bool"=none
  tuple:mg "tuple"=none
  range:mg "range"=none
  min:mg "min"=none
  sorted:mg "sorted"=none
  m_KnownPairs:mg "KnownPairs"=some (.ref ad.KnownPairs)
  cl_KnownPairs:Cls K ad.KnownPairs
  na_KnownPairs_known:NoAttr K ad.KnownPairs "known"
  na_KnownPairs_lengths:NoAttr K ad.KnownPairs "lengths"
section
variable {P:Program} {w:World} {K:PySem.W.Frag} {mg:Str→Option Value} {base:Heap} {ad:Adr}
theorem znh (T:Txt K mg ad):∀ c,zks c=true→Cls (KX K ad).f ((KX K ad).ca c)∧NoAttr (KX K ad).f ((KX K ad).ca c) "known":=by
  intro c h
  match c,h with
  | 2,_=>exact ⟨T.cl_KnownPairs,T.na_KnownPairs_known⟩
theorem zhd (T:Txt K mg ad):Cls (KX K ad).f ((KX K ad).ca 2)∧NoAttr (KX K ad).f ((KX K ad).ca 2) "known":=⟨T.cl_KnownPairs,T.na_KnownPairs_known⟩
theorem zmk (T:Txt K mg ad):∀ c,zim c=true→Cls (KX K ad).f ((KX K ad).ca c)∧NoAttr (KX K ad).f ((KX K ad).ca c) "lengths":=by
  intro c h
  match c,h with
  | 2,_=>exact ⟨T.cl_KnownPairs,T.na_KnownPairs_lengths⟩
theorem zgo (T:Txt K mg ad):Cls (KX K ad).f ((KX K ad).ca 2)∧NoAttr (KX K ad).f ((KX K ad).ca 2) "lengths":=⟨T.cl_KnownPairs,T.na_KnownPairs_lengths⟩
abbrev zcm:Stmt:=top 10
theorem ze1:FnScope ["_law_script","_law_k"] ["_law_script","_law_k"] (zaq zcm):=⟨rfl,rfl,rfl,by decide +kernel,rfl,by decide +kernel,by decide +kernel⟩
theorem zeZ {f:Addr} {fd:FuncData} (F:Fun K "_law_cell_at" "_law_cell_at" zcm f fd) (T:Txt K mg ad)  : FnOk P w K mg base CX0 1 f fd ["_law_script","_law_k"] (spM (KX K ad) XO0 zaA):=by
  refine F.ok ze1 (fun vs H Q E h=>zdD h) (fun cdv A outer s H vs Q E hr h=>?_)
  have hu:=zcu hr
  exact ⟨_,(zag (zcc (za4 zmJ (pv 1) (zaw zaz (by rfl) T.len PySem.boot_len (zaa (pv 0) zae)) (zbg _))
      (zal (zaZ (zaR zaC (pv 0) (pv 1) (fun _ _=>rfl))))
      za0)
      (zal (zaZ zai))),zgW (K:=(KX K ad)) (XO:=XO0) (E:=E) (np:=2) (nv:=0) (m:=zbA)
      (zau (zcv (za2 (zaj zmr zac ((zcw zbX (zaB zac zaL))).r))
      (zbS (zaj zaV zac zac))
      zbb)
      (zbS se_int)) rfl h⟩
abbrev zcO:Stmt:=top 11
theorem sc_law_number:FnScope ["_law_script","_law_k","_law_top","_law_cell","_law_high","_law_low"] ["_law_script","_law_k","_law_top"] (zaq zcO):=⟨rfl,rfl,rfl,by decide +kernel,rfl,by decide +kernel,by decide +kernel⟩
theorem zfQ {f:Addr} {fd:FuncData} (F:Fun K "_law_number" "_law_number" zcO f fd) (T:Txt K mg ad) (G_law_cell_at:Has P w K mg base CX0 1 "_law_cell_at" ["_law_script","_law_k"] (spM (KX K ad) XO0 zaA)):FnOk P w K mg base CX0 2 f fd ["_law_script","_law_k","_law_top"] (spM (KX K ad) XO0 zat):=by
  refine F.ok sc_law_number (fun vs H Q E h=>zdD h) (fun cdv A outer s H vs Q E hr h=>?_)
  have hu:=zcu hr
  exact ⟨_,(zag (zaM (i:=3) sc_law_number.nd rfl (by first | exact Or.inl rfl | exact Or.inr rfl) (zay zb1 (za7 G_law_cell_at (hr.mono (by decide)) (by rfl) zbm (zaa (pv 0) (zaa (pv 1) zae))) (zay zjp zai zai)))
      (zag (zaM (i:=4) sc_law_number.nd rfl (by first | exact Or.inl rfl | exact Or.inr rfl) (zay zb1 (zay za3 (zay zbo (pv 3) zai) (zay zbo (zay zbo (zay za3 (pv 1) zai) (zay za3 (pv 1) zai)) zai)) zai))
      (zag (zaM (i:=5) sc_law_number.nd rfl (by first | exact Or.inl rfl | exact Or.inr rfl) (zay zb1 (zay za3 (zay za3 (zay zbo (pv 3) zai) (zay zbo (zay zbo (pv 1) (pv 1)) zai)) zai) zai))
      (zal (zaZ (zay zb1 (zay za3 (zay zbo (pv 4) zai) (pv 5)) (zay za3 (pv 2) zai))))))),zgW (K:=(KX K ad)) (XO:=XO0) (E:=E) (np:=3) (nv:=3) (m:=zdY)
      (zau (za1 (zaj zb3 ((zbe (zad zam (zad zam zav)))).r ((zaj zjt (se_int).r (se_int).r)).r) zap)
      (zau (za1 (zaj zb3 ((zaj za8 ((zaj zbV zac (se_int).r)).r ((zaj zbV ((zaj zbV ((zaj za8 zac (se_int).r)).r ((zaj za8 zac (se_int).r)).r)).r (se_int).r)).r)).r (se_int).r) zap)
      (zau (za1 (zaj zb3 ((zaj za8 ((zaj za8 ((zaj zbV zac (se_int).r)).r ((zaj zbV ((zaj zbV zac zac)).r (se_int).r)).r)).r (se_int).r)).r (se_int).r) zap)
      (zbS (zaj zb3 ((zaj za8 ((zaj zbV zac (se_int).r)).r zac)).r ((zaj za8 zac (se_int).r)).r))))) rfl h⟩
abbrev zcb:Stmt:=top 12
theorem sc_law_grid:FnScope ["_law_script","_law_many","_law_top","_law_spots","_law_lengths_here","_law_x","_law_y"] ["_law_script","_law_many","_law_top"] (zaq zcb):=⟨rfl,rfl,rfl,by decide +kernel,rfl,by decide +kernel,by decide +kernel⟩
theorem zhg {f:Addr} {fd:FuncData} (F:Fun K "_law_grid" "_law_grid" zcb f fd) (T:Txt K mg ad) (G_law_number:Has P w K mg base CX0 2 "_law_number" ["_law_script","_law_k","_law_top"] (spM (KX K ad) XO0 zat)):FnOk P w K mg base CX0 3 f fd ["_law_script","_law_many","_law_top"] (spO (KX K ad) XO0 zbs):=by
  refine F.ok sc_law_grid (fun vs H Q E h=>zda h) (fun cdv A outer s H vs Q E hr h=>?_)
  have hu:=zcu hr
  exact ⟨_,(zag (zfT (i:=3) sc_law_grid.nd rfl (by first | exact Or.inl rfl | exact Or.inr rfl) rfl (zaJ rfl T.range (zaa (pv 1) zae)) (zcX (zaq zcb) ["_law_script","_law_many","_law_top","_law_spots","_law_lengths_here","_law_x","_law_y"] ["_law_script","_law_top","_law_k"] [0,2] 1 rfl rfl rfl (by decide +kernel) (by decide +kernel) (by decide +kernel) rfl (by decide +kernel) (fun cl C s H fp pins=>(zaE (i:=2) (show List.Nodup (["_law_script","_law_top","_law_k"]:List Str) by decide +kernel) rfl (Or.inl rfl))) (fun cl C s H fp pins=>(zcY (zaa (za7 G_law_number (hr.mono (by decide)) (by rfl) zbm (zaa (pv 0) (zaa (zay za3 zai (zay zbo zai (pv 2))) (zaa (pv 1) zae)))) (zaa (za7 G_law_number (hr.mono (by decide)) (by rfl) zbm (zaa (pv 0) (zaa (zay za3 zai (zay zbo zai (pv 2))) (zaa (pv 1) zae)))) zae)))) (Or.inl ⟨rfl,rfl⟩)) rfl)
      (zag (zaM (i:=4) sc_law_grid.nd rfl (by first | exact Or.inl rfl | exact Or.inr rfl) (zdv zae))
      (zag (zbj PassesOwn.never rfl (zcy (pv 3)) (zlg rfl (zef (zaE (i:=5) sc_law_grid.nd rfl (by first | exact Or.inl rfl | exact Or.inr rfl)) (zef (zaE (i:=6) sc_law_grid.nd rfl (by first | exact Or.inl rfl | exact Or.inr rfl)) ziX)))
      (zal (zdM (ziw PySem.F.plainAttrs_list PySem.F.slot_list_append PySem.F.type_list_append zb9 (pv 4) (zaa (zdG rfl (zcy (pv 3)) (zcX (zaq zcb) ["_law_script","_law_many","_law_top","_law_spots","_law_lengths_here","_law_x","_law_y"] ["_law_x","_law_y","_law_other"] [5,6] 1 rfl rfl rfl (by decide +kernel) (by decide +kernel) (by decide +kernel) rfl (by decide +kernel) (fun cl C s H fp pins=>(zaE (i:=2) (show List.Nodup (["_law_x","_law_y","_law_other"]:List Str) by decide +kernel) rfl (Or.inl rfl))) (fun cl C s H fp pins=>(zay za3 (zaw zhr (by rfl) (by exact T.abs) boot_abs (zaa (zay zgv (pv 0) (zaR zbN (pv 2) zai (fun _ _=>rfl))) zae)) (zaw zhr (by rfl) (by exact T.abs) boot_abs (zaa (zay zgv (pv 1) (zaR zbN (pv 2) zai (fun _ _=>rfl))) zae)))) (Or.inl ⟨rfl,rfl⟩))) zae)))))
      (zal (zaZ (pv 4)))))),zek (K:=(KX K ad)) (XO:=XO0) (E:=E) (np:=3) (nv:=4) (m:=zfj)
      (zau (za1 ((zb0 (zaI len1 (zad zam zav)).c (by decide) zbC zcg (Or.inl ⟨rfl,rfl⟩) (zfc (zad (zbe (zad zam (zad (zaj za8 (se_int).r ((zaj zbV (se_int).r zac)).r) (zad zam zav)))) (zad (zbe (zad zam (zad (zaj za8 (se_int).r ((zaj zbV (se_int).r zac)).r) (zad zam zav)))) zav))))).e zap)
      (zau (zeJ (zci zav))
      (zau (zbk (zfx zam) (zld (zed zap (zed zap zi5)))
      (zdp ((zb0 (zee zac) (by decide) zbC zcg (Or.inl ⟨rfl,rfl⟩) (zaj za8 ((zcw zkX (zaB ((zaj zf0 zac ((zaj zbJ zac (se_int).r)).r)).r zaL))).r ((zcw zkX (zaB ((zaj zf0 zac ((zaj zbJ zac (se_int).r)).r)).r zaL))).r))).e))
      zfz))) rfl h⟩
abbrev zb6:Stmt:=top 13
theorem sc_law_shortest:FnScope ["_law_lengths_here","_law_amid","_law_one","_law_other","_law_both"] ["_law_lengths_here"] (zaq zb6):=⟨rfl,rfl,rfl,by decide +kernel,rfl,by decide +kernel,by decide +kernel⟩
theorem zev {f:Addr} {fd:FuncData} (F:Fun K "_law_shortest" "_law_shortest" zb6 f fd) (T:Txt K mg ad)  : FnOk P w K mg base CX0 1 f fd ["_law_lengths_here"] (spT (KX K ad) XO0 zaX):=by
  refine F.ok sc_law_shortest (fun vs H Q E h=>zlM h) (fun cdv A outer s H vs Q E hr h=>?_)
  have hu:=zcu hr
  exact ⟨_,(zag (zbj PassesOwn.never rfl (zaJ rfl T.range (zaa (zaw zaz (by rfl) T.len PySem.boot_len (zaa (pv 0) zae)) zae)) (zaE (i:=1) sc_law_shortest.nd rfl (by first | exact Or.inl rfl | exact Or.inr rfl))
      (zal (zbj PassesOwn.never rfl (zaJ rfl T.range (zaa (zaw zaz (by rfl) T.len PySem.boot_len (zaa (pv 0) zae)) zae)) (zaE (i:=2) sc_law_shortest.nd rfl (by first | exact Or.inl rfl | exact Or.inr rfl))
      (zal (zbj PassesOwn.never rfl (zaJ rfl T.range (zaa (zaw zaz (by rfl) T.len PySem.boot_len (zaa (pv 0) zae)) zae)) (zaE (i:=3) sc_law_shortest.nd rfl (by first | exact Or.inl rfl | exact Or.inr rfl))
      (zag (zaM (i:=4) sc_law_shortest.nd rfl (by first | exact Or.inl rfl | exact Or.inr rfl) (zay za3 (zaR zaC (zaR zaC (pv 0) (pv 2) (fun _ _=>rfl)) (pv 1) (fun _ _=>rfl)) (zaR zaC (zaR zaC (pv 0) (pv 1) (fun _ _=>rfl)) (pv 3) (fun _ _=>rfl))))
      (zal (zjP (zaw (zjA rfl) (by rfl) T.min boot_min (zaa (zaR zaC (zaR zaC (pv 0) (pv 2) (fun _ _=>rfl)) (pv 3) (fun _ _=>rfl)) (zaa (pv 4) zae))) (zi2 (zaR zaC (pv 0) (pv 2) (fun _ _=>rfl)) (pv 3) zfu)))))))))
      (zal (zaZ (pv 0)))),zmo (K:=(KX K ad)) (XO:=XO0) (E:=E) (nv:=4) (m:=zbu)
      (zau (zbk (zaI len1 (zad (zer (zcw zbX (zaB zac zaL))) zav)) zap
      (zbk (zaI len1 (zad (zer (zcw zbX (zaB zac zaL))) zav)) zap
      (zbk (zaI len1 (zad (zer (zcw zbX (zaB zac zaL))) zav)) zap
      (zau (za1 (zer (zaj za8 ((zaj zaV ((zaj zaV zac zac)).r zac)).r ((zaj zaV ((zaj zaV zac zac)).r zac)).r)) zap)
      (zgR zam zam (zer (zcw zlm (zaB ((zaj zaV ((zaj zaV zac zac)).r zac)).r (zaB zac zaL)))))))))
      zjm) rfl h⟩
abbrev zbn:Stmt:=top 14
theorem sc_law_lengths:FnScope ["_law_script","_law_most","_law_head","_law_many","_law_way","_law_top","_law_lengths_here","_law_one","_law_other","_law_number_here"] ["_law_script","_law_most"] (zaq zbn):=⟨rfl,rfl,rfl,by decide +kernel,rfl,by decide +kernel,by decide +kernel⟩
theorem zeS {f:Addr} {fd:FuncData} (F:Fun K "_law_lengths" "_law_lengths" zbn f fd) (T:Txt K mg ad) (G_law_cell_at:Has P w K mg base CX0 1 "_law_cell_at" ["_law_script","_law_k"] (spM (KX K ad) XO0 zaA)) (G_law_number:Has P w K mg base CX0 2 "_law_number" ["_law_script","_law_k","_law_top"] (spM (KX K ad) XO0 zat)) (G_law_grid:Has P w K mg base CX0 3 "_law_grid" ["_law_script","_law_many","_law_top"] (spO (KX K ad) XO0 zbs)) (G_law_shortest:Has P w K mg base CX0 1 "_law_shortest" ["_law_lengths_here"] (spT (KX K ad) XO0 zaX)):FnOk P w K mg base CX0 4 f fd ["_law_script","_law_most"] (spO (KX K ad) XO0 za6):=by
  refine F.ok sc_law_lengths (fun vs H Q E h=>zda h) (fun cdv A outer s H vs Q E hr h=>?_)
  have hu:=zcu hr
  exact ⟨_,(zag (zaM (i:=2) sc_law_lengths.nd rfl (by first | exact Or.inl rfl | exact Or.inr rfl) (za7 G_law_cell_at (hr.mono (by decide)) (by rfl) zbm (zaa (pv 0) (zaa zai zae))))
      (zag (zaM (i:=3) sc_law_lengths.nd rfl (by first | exact Or.inl rfl | exact Or.inr rfl) (zay za3 zai (zay zb1 (pv 2) zai)))
      (zag (zcc (za4 zf1 (zay zb1 (zay zbE (pv 2) zai) zai) zai (zbg _))
      (zal (zaM (i:=3) sc_law_lengths.nd rfl (by first | exact Or.inl rfl | exact Or.inr rfl) (zay za3 zai (zay zb1 (zay zbE (pv 2) zai) zai))))
      za0)
      (zag (zaM (i:=4) sc_law_lengths.nd rfl (by first | exact Or.inl rfl | exact Or.inr rfl) (zay zb1 (zay zbE (pv 2) zai) zai))
      (zag (zaM (i:=5) sc_law_lengths.nd rfl (by first | exact Or.inl rfl | exact Or.inr rfl) (zaR zaC (zdv (zaa zai (zaa zai (zaa (pv 1) zae)))) (zay zb1 (zay zbE (pv 2) zai) zai) (fun _ _=>rfl)))
      (zag (zcc (za4 zf1 (pv 4) zai (zbg _))
      (zal (zaZ (za7 G_law_grid (hr.mono (by decide)) (by rfl) zbm (zaa (pv 0) (zaa (pv 3) (zaa (pv 5) zae))))))
      za0)
      (zag (zfT (i:=6) sc_law_lengths.nd rfl (by first | exact Or.inl rfl | exact Or.inr rfl) rfl (zaJ rfl T.range (zaa (pv 3) zae)) (zcX (zaq zbn) ["_law_script","_law_most","_law_head","_law_many","_law_way","_law_top","_law_lengths_here","_law_one","_law_other","_law_number_here"] ["_law_many","_law_one"] [3] 1 rfl rfl rfl (by decide +kernel) (by decide +kernel) (by decide +kernel) rfl (by decide +kernel) (fun cl C s H fp pins=>(zaE (i:=1) (show List.Nodup (["_law_many","_law_one"]:List Str) by decide +kernel) rfl (by first | exact Or.inl rfl | exact Or.inr rfl))) (fun cl C s H fp pins=>(zdG rfl (zaJ (by rfl) (by exact T.range) (zaa (pv 0) zae)) (zcX (zkC _ (zaq zbn)) ["_law_many","_law_one"] ["_law_other"] [] 1 rfl rfl rfl (by decide +kernel) (by decide +kernel) (by decide +kernel) rfl (by decide +kernel) (fun cl C s H fp pins=>(zaE (i:=0) (show List.Nodup (["_law_other"]:List Str) by decide +kernel) rfl (Or.inl rfl))) (fun cl C s H fp pins=>zai) (Or.inl ⟨rfl,rfl⟩)))) (Or.inl ⟨rfl,rfl⟩)) rfl)
      (zag (zbj PassesOwn.never rfl (zaJ rfl T.range (zaa (pv 3) zae)) (zaE (i:=7) sc_law_lengths.nd rfl (by first | exact Or.inl rfl | exact Or.inr rfl))
      (zal (zbj PassesOwn.never rfl (zaJ rfl T.range (zaa (pv 7) zae)) (zaE (i:=8) sc_law_lengths.nd rfl (by first | exact Or.inl rfl | exact Or.inr rfl))
      (zag (zaM (i:=9) sc_law_lengths.nd rfl (by first | exact Or.inl rfl | exact Or.inr rfl) (za7 G_law_number (hr.mono (by decide)) (by rfl) zbm (zaa (pv 0) (zaa (zay za3 (zay za3 zai (zay zbE (zay zbo (pv 7) (zay zgv (pv 7) zai)) zai)) (pv 8)) (zaa (pv 5) zae)))))
      (zag (zcc (za4 zf1 (pv 4) zai (zbg _))
      (zal (zaM (i:=9) sc_law_lengths.nd rfl (by first | exact Or.inl rfl | exact Or.inr rfl) (zay za3 (pv 9) (pv 5))))
      za0)
      (zag (zjP (pv 9) (zi2 (zaR zaC (pv 6) (pv 7) (fun _ _=>rfl)) (pv 8) zfu))
      (zal (zjP (pv 9) (zi2 (zaR zaC (pv 6) (pv 8) (fun _ _=>rfl)) (pv 7) zfu)))))))))
      (zag (zcc (za4 zf1 (pv 4) zai (zbg _))
      (zal (zaZ (za7 G_law_shortest (hr.mono (by decide)) (by rfl) zbm (zaa (pv 6) zae))))
      za0)
      (zal (zaZ (pv 6)))))))))))),zek (K:=(KX K ad)) (XO:=XO0) (E:=E) (np:=2) (nv:=8) (m:=zdw)
      (zau (za1 (zbe (zad zam (zad se_int zav))) zap)
      (zau (za1 (zaj za8 (se_int).r ((zaj zb3 zac (se_int).r)).r) zap)
      (zau (zcv (za2 (zaj zgk ((zaj zb3 ((zaj zdj zac (se_int).r)).r (se_int).r)).r (se_int).r))
      (za1 (zaj za8 (se_int).r ((zaj zb3 ((zaj zdj zac (se_int).r)).r (se_int).r)).r) zap)
      zbb)
      (zau (za1 (zaj zb3 ((zaj zdj zac (se_int).r)).r (se_int).r) zap)
      (zau (za1 (zaj zaV ((zci (zad se_int (zad se_int (zad zam zav))))).e.r ((zaj zb3 ((zaj zdj zac (se_int).r)).r (se_int).r)).r) zap)
      (zau (zcv (za2 (zaj zgk zac (se_int).r))
      (zg4 (zbq (zad zam (zad zam (zad zam zav)))))
      zbb)
      (zau (zlD (zkG (zaI len1 (zad zam zav)).c (by decide) zbC zcg (zb0 (zaI len1 (zad zam zav)).c (by decide) zbC zcg (Or.inl ⟨rfl,rfl⟩) se_int)))
      (zau (zbk (zaI len1 (zad zam zav)) zap
      (zbk (zaI len1 (zad zam zav)) zap
      (zau (za1 (zbe (zad zam (zad (zaj za8 ((zaj za8 (se_int).r ((zaj zdj ((zaj zbV zac ((zaj zf0 zac (se_int).r)).r)).r (se_int).r)).r)).r zac) (zad zam zav)))) zap)
      (zau (zcv (za2 (zaj zgk zac (se_int).r))
      (za1 (zaj za8 zac zac) zap)
      zbb)
      (zau (zgR zam zam zam)
      (zgR zam zam zam))))))
      (zau (zcv (za2 (zaj zgk zac (se_int).r))
      zkO
      zbb)
      zjm))))))))) rfl h⟩
abbrev zdF:Stmt:=top 15
theorem sc_law_some:FnScope ["_law_script","_law_many","_law_left","_law_some_here","_law_k"] ["_law_script","_law_many"] (zaq zdF):=⟨rfl,rfl,rfl,by decide +kernel,rfl,by decide +kernel,by decide +kernel⟩
theorem zhc {f:Addr} {fd:FuncData} (F:Fun K "_law_some" "_law_some" zdF f fd) (T:Txt K mg ad) (G_law_number:Has P w K mg base CX0 2 "_law_number" ["_law_script","_law_k","_law_top"] (spM (KX K ad) XO0 zat)):FnOk P w K mg base CX0 3 f fd ["_law_script","_law_many"] (spO (KX K ad) XO0 zbI):=by
  refine F.ok sc_law_some (fun vs H Q E h=>zda h) (fun cdv A outer s H vs Q E hr h=>?_)
  have hu:=zcu hr
  exact ⟨_,(zag (zaM (i:=2) sc_law_some.nd rfl (by first | exact Or.inl rfl | exact Or.inr rfl) (zbM (zio rfl) (by rfl) T.list boot_list (zaa (zlI (by rfl) T.range (zaa (pv 1) zae)) zae)))
      (zag (zaM (i:=3) sc_law_some.nd rfl (by first | exact Or.inl rfl | exact Or.inr rfl) (zdv zae))
      (zag (zbj PassesOwn.never rfl (zaJ rfl T.range (zaa (zay zbo zai (za7 G_law_number (hr.mono (by decide)) (by rfl) zbm (zaa (pv 0) (zaa zai (zaa (zay zbE (pv 1) zai) zae))))) zae)) (zaE (i:=4) sc_law_some.nd rfl (by first | exact Or.inl rfl | exact Or.inr rfl))
      (zal (zdM (ziw PySem.F.plainAttrs_list PySem.F.slot_list_append PySem.F.type_list_append zb9 (pv 3) (zaa (ziw PySem.F.plainAttrs_list PySem.F.slot_list_pop PySem.F.type_list_pop zkL (pv 2) (zaa (za7 G_law_number (hr.mono (by decide)) (by rfl) zbm (zaa (pv 0) (zaa (zay za3 zai (pv 4)) (zaa (zay zgv (zaw zaz (by rfl) T.len PySem.boot_len (zaa (pv 2) zae)) zai) zae)))) zae)) zae)))))
      (zal (zaZ (pv 3)))))),zek (K:=(KX K ad)) (XO:=XO0) (E:=E) (np:=2) (nv:=3) (m:=ze8)
      (zau (zeJ (zi3 (zad zam zav)))
      (zau (zeJ (zci zav))
      (zau (zbk (zaI len1 (zad (zaj zbV (se_int).r ((zbe (zad zam (zad se_int (zad (zaj zdj zac (se_int).r) zav))))).r) zav)) zap
      (zjy (zbe (zad zam (zad (zaj za8 (se_int).r zac) (zad (zaj zf0 ((zcw zbX (zaB zac zaL))).r (se_int).r) zav))))))
      zfz))) rfl h⟩
abbrev zc4:Stmt:=top 18
theorem sc_law_roads:FnScope ["_law_script","_law_many","_law_roads_here","_law_k","_law_number_here","_law_one"] ["_law_script","_law_many"] (zaq zc4):=⟨rfl,rfl,rfl,by decide +kernel,rfl,by decide +kernel,by decide +kernel⟩
theorem zgn {f:Addr} {fd:FuncData} (F:Fun K "_law_roads" "_law_roads" zc4 f fd) (T:Txt K mg ad) (G_law_number:Has P w K mg base CX0 2 "_law_number" ["_law_script","_law_k","_law_top"] (spM (KX K ad) XO0 zat)):FnOk P w K mg base CX0 3 f fd ["_law_script","_law_many"] (spO (KX K ad) XO0 zbt):=by
  refine F.ok sc_law_roads (fun vs H Q E h=>zda h) (fun cdv A outer s H vs Q E hr h=>?_)
  have hu:=zcu hr
  exact ⟨_,(zag (zaM (i:=2) sc_law_roads.nd rfl (by first | exact Or.inl rfl | exact Or.inr rfl) (zdv zae))
      (zag (zcc (za4 zmD (pv 1) zai (zbg _))
      (zal (zbj PassesOwn.never rfl (zaJ rfl T.range (zaa (za7 G_law_number (hr.mono (by decide)) (by rfl) zbm (zaa (pv 0) (zaa zai (zaa zai zae)))) zae)) (zaE (i:=3) sc_law_roads.nd rfl (by first | exact Or.inl rfl | exact Or.inr rfl))
      (zag (zaM (i:=4) sc_law_roads.nd rfl (by first | exact Or.inl rfl | exact Or.inr rfl) (zay zbE (za7 G_law_number (hr.mono (by decide)) (by rfl) zbm (zaa (pv 0) (zaa (zay za3 zai (zay zb1 (pv 3) zai)) (zaa (zay zjp zai zai) zae)))) (zay za3 zai (pv 3))))
      (zag (zaM (i:=5) sc_law_roads.nd rfl (by first | exact Or.inl rfl | exact Or.inr rfl) (zay zb1 (pv 4) (pv 1)))
      (zal (zdM (ziw PySem.F.plainAttrs_list PySem.F.slot_list_append PySem.F.type_list_append zb9 (pv 2) (zaa (zcY (zaa (pv 5) (zaa (zay zb1 (zay za3 (zay za3 (pv 5) zai) (zay zb1 (zay zbE (pv 4) zai) (zay zgv (pv 1) zai))) (pv 1)) zae))) zae))))))))
      za0)
      (zal (zaZ (pv 2))))),zek (K:=(KX K ad)) (XO:=XO0) (E:=E) (np:=2) (nv:=4) (m:=zet)
      (zau (zeJ (zci zav))
      (zau (zcv (za2 (zaj zm1 zac (se_int).r))
      (zbk (zaI len1 (zad (zbe (zad zam (zad se_int (zad se_int zav)))) zav)) zap
      (zau (za1 (zaj zdj ((zbe (zad zam (zad (zaj za8 (se_int).r ((zaj zb3 zac (se_int).r)).r) (zad (zaj zjt (se_int).r (se_int).r) zav))))).r ((zaj za8 (se_int).r zac)).r) zap)
      (zau (za1 (zaj zb3 zac zac) zap)
      (zdp (zfc (zad zam (zad (zaj zb3 ((zaj za8 ((zaj za8 zac (se_int).r)).r ((zaj zb3 ((zaj zdj zac (se_int).r)).r ((zaj zf0 zac (se_int).r)).r)).r)).r zac) zav)))))))
      zbb)
      zfz)) rfl h⟩
abbrev zeE:Stmt:=top 4
theorem sc_look_at:FnScope ["lengths","count","a","b","c"] ["lengths"] (zaq zeE):=⟨rfl,rfl,rfl,by decide +kernel,rfl,by decide +kernel,by decide +kernel⟩
theorem zhW {f:Addr} {fd:FuncData} (F:Fun K "look_at" "look_at" zeE f fd) (T:Txt K mg ad)  : FnOk P w K mg base CX0 1 f fd ["lengths"] (spM (KX K ad) XO0 zce):=by
  refine F.ok sc_look_at (fun vs H Q E h=>zdD h) (fun cdv A outer s H vs Q E hr h=>?_)
  have hu:=zcu hr
  exact ⟨_,(zag (zaM (i:=1) sc_look_at.nd rfl (by first | exact Or.inl rfl | exact Or.inr rfl) (zaw zaz (by rfl) T.len PySem.boot_len (zaa (pv 0) zae)))
      (zag (zbj PassesOwn.never rfl (zaJ rfl T.range (zaa (pv 1) zae)) (zaE (i:=2) sc_look_at.nd rfl (by first | exact Or.inl rfl | exact Or.inr rfl))
      (zal (zcc (za4 zl8 (zaR zaC (zaR zaC (pv 0) (pv 2) (fun _ _=>rfl)) (pv 2) (fun _ _=>rfl)) zai (zbg _))
      (zal zfF)
      za0)))
      (zag (zbj PassesOwn.never rfl (zaJ rfl T.range (zaa (pv 1) zae)) (zaE (i:=2) sc_look_at.nd rfl (by first | exact Or.inl rfl | exact Or.inr rfl))
      (zal (zbj PassesOwn.never rfl (zaJ rfl T.range (zaa (pv 2) zae)) (zaE (i:=3) sc_look_at.nd rfl (by first | exact Or.inl rfl | exact Or.inr rfl))
      (zal (zcc (za4 zl8 (zaR zaC (zaR zaC (pv 0) (pv 2) (fun _ _=>rfl)) (pv 3) (fun _ _=>rfl)) (zaR zaC (zaR zaC (pv 0) (pv 3) (fun _ _=>rfl)) (pv 2) (fun _ _=>rfl)) (zbg _))
      (zal zfF)
      za0)))))
      (zal (zbj PassesOwn.never rfl (zaJ rfl T.range (zaa (pv 1) zae)) (zaE (i:=2) sc_look_at.nd rfl (by first | exact Or.inl rfl | exact Or.inr rfl))
      (zal (zbj PassesOwn.never rfl (zaJ rfl T.range (zaa (pv 1) zae)) (zaE (i:=3) sc_look_at.nd rfl (by first | exact Or.inl rfl | exact Or.inr rfl))
      (zal (zbj PassesOwn.never rfl (zaJ rfl T.range (zaa (pv 1) zae)) (zaE (i:=4) sc_look_at.nd rfl (by first | exact Or.inl rfl | exact Or.inr rfl))
      (zal (zcc (za4 zmJ (zay za3 (zaR zaC (zaR zaC (pv 0) (pv 2) (fun _ _=>rfl)) (pv 3) (fun _ _=>rfl)) (zaR zaC (zaR zaC (pv 0) (pv 3) (fun _ _=>rfl)) (pv 4) (fun _ _=>rfl))) (zaR zaC (zaR zaC (pv 0) (pv 2) (fun _ _=>rfl)) (pv 4) (fun _ _=>rfl)) (zbg _))
      (zal zfF)
      za0))))))))))),zgW (K:=(KX K ad)) (XO:=XO0) (E:=E) (np:=1) (nv:=4) (m:=zgf)
      (zau (za1 (zcw zbX (zaB zac zaL)) zap)
      (zau (zbk (zaI len1 (zad zam zav)) zap
      (zcv (za2 (zaj zlv ((zaj zaV ((zaj zaV zac zac)).r zac)).r (se_int).r))
      zfS
      zbb))
      (zau (zbk (zaI len1 (zad zam zav)) zap
      (zbk (zaI len1 (zad zam zav)) zap
      (zcv (za2 (zaj zlv ((zaj zaV ((zaj zaV zac zac)).r zac)).r ((zaj zaV ((zaj zaV zac zac)).r zac)).r))
      zfS
      zbb)))
      (zbk (zaI len1 (zad zam zav)) zap
      (zbk (zaI len1 (zad zam zav)) zap
      (zbk (zaI len1 (zad zam zav)) zap
      (zcv (za2 (zaj zmr ((zaj za8 ((zaj zaV ((zaj zaV zac zac)).r zac)).r ((zaj zaV ((zaj zaV zac zac)).r zac)).r)).r ((zaj zaV ((zaj zaV zac zac)).r zac)).r))
      zfS
      zbb))))))) rfl h⟩
abbrev zbc:Stmt:=zg6 (top 7) 0
theorem zct:FnScope ["self","lengths"] ["self","lengths"] (zaq zbc):=⟨rfl,rfl,rfl,by decide +kernel,rfl,by decide +kernel,by decide +kernel⟩
abbrev zaO:Stmt:=zg6 (top 7) 1
theorem zbY:FnScope ["self","rest"] ["self","rest"] (zaq zaO):=⟨rfl,rfl,rfl,by decide +kernel,rfl,by decide +kernel,by decide +kernel⟩
abbrev zaS:Stmt:=zg6 (top 7) 2
theorem sc_KnownPairs_best_with:FnScope ["self","rest","k","others","pair"] ["self","rest","k"] (zaq zaS):=⟨rfl,rfl,rfl,by decide +kernel,rfl,by decide +kernel,by decide +kernel⟩
theorem zma {f:Addr} {fd:FuncData} (F:Fun K "__init__" "KnownPairs.__init__" zbc f fd) (T:Txt K mg ad):FnOk P w K mg base CX0 1 f fd ["self","lengths"] (spIu (KX K ad) 2 ()):=by
  refine F.ok zct (fun vs H Q E h=>by obtain ⟨d,L,x,dx,F,Hb,lv,rfl,_⟩:=h; rfl) (fun cdv A outer s H vs Q E hr h=>?_)
  have hu:=zcu hr
  obtain ⟨d,L,h⟩:=h
  exact ⟨_,zag (zlh (pv 0) (pv 1) rfl) (zal (zlh (pv 0) (zkF (Nat.lt_of_succ_lt hu) (zcY zae) (zcY (zaa zai (zaa (zcY zae) zae)))) rfl)),i_ok (K:=KX K ad) (c:=2) T.cl_KnownPairs T.na_KnownPairs_lengths T.na_KnownPairs_known h⟩
theorem zkQ {f:Addr} {fd:FuncData} (F:Fun K "best" "KnownPairs.best" zaO f fd) (T:Txt K mg ad):FnOk P w K mg base CX0 1 f fd ["self","rest"] (spBm (KX K ad) 2 0):=by
  refine F.ok zbY (fun vs H Q E h=>by obtain ⟨d,L,x,kp,dx,r,lv,F,kvs,rest,rfl,_⟩:=h; rfl) (fun cdv A outer s H vs Q E hr h=>?_)
  have hu:=zcu hr
  obtain ⟨d,L,h⟩:=h
  exact ⟨_,zag (zcc (zk6 (zf2 hu (pv 1) (zfb (pv 0) rfl))) zjG za0) (zal (zaZ (zg2 hu (zfb (pv 0) rfl) (pv 1) (fun _ _=>rfl)))),znD (K:=KX K ad) (c:=2) T.cl_KnownPairs T.na_KnownPairs_known h⟩
theorem zlx {f:Addr} {fd:FuncData} {m n:Nat} (hm:m ≤ 6) (F:Fun K "best_with" "KnownPairs.best_with" zaS f fd) (T:Txt K mg ad) (G:HasM P w K mg base CX0 n "best" ad.KnownPairs ["self","rest"] (spBm (KX K ad) 2 m)):FnOk P w K mg base CX0 (n + 1) f fd ["self","rest","k"] (spWm (KX K ad) 2 m):=by
  refine F.ok sc_KnownPairs_best_with (fun vs H Q E h=>by obtain ⟨d,L,x,kp,dx,r,lv,F,kvs,rest,k,rfl,_⟩:=h; rfl) (fun cdv A outer s H vs Q E hr h=>?_)
  obtain ⟨d,L,h⟩:=h
  have G':=G.imp (sp':=spKB (KX K ad) 2 d L m) fun _ _ _ _ z=>⟨d,L,z⟩
  exact ⟨_,zag (zaM (i:=3) sc_KnownPairs_best_with.nd rfl (by first | exact Or.inl rfl | exact Or.inr rfl) (zgM G' hr zbm (pv 0) (zaa (zay zjl (zhq zkW (pv 1) (zgO zai) (zgO (pv 2))) (zhq zkW (pv 1) (zgO (zay za3 (pv 2) zai)) zlq)) zae)))
    (zag (zaM (i:=4) sc_KnownPairs_best_with.nd rfl (by first | exact Or.inl rfl | exact Or.inr rfl) (zcY (zaa (zaR zbN (pv 1) zai (fun _ _=>rfl)) (zaa (zaR zbN (pv 1) (pv 2) (fun _ _=>rfl)) zae))))
    (zal (zaZ (zcY (zaa (zay za3 (zaR zaC (zaR zaC (zfb (pv 0) rfl) (zaR zbN (pv 4) zai (fun _ _=>rfl)) (fun _ _=>rfl)) (zaR zbN (pv 4) zai (fun _ _=>rfl)) (fun _ _=>rfl)) (zaR zbN (pv 3) zai (fun _ _=>rfl))) (zaa (zay zjl (zcY (zaa (pv 4) zae)) (zaR zbN (pv 3) zai (fun _ _=>rfl))) zae)))))),
    znt (K:=KX K ad) (c:=2) T.cl_KnownPairs T.na_KnownPairs_lengths hm h⟩
theorem zlp {f:Addr} {fd:FuncData} {m n:Nat} (hm:m ≤ 6) (F:Fun K "best" "KnownPairs.best" zaO f fd) (T:Txt K mg ad) (G:HasM P w K mg base CX0 n "best_with" ad.KnownPairs ["self","rest","k"] (spWm (KX K ad) 2 m)):FnOk P w K mg base CX0 (n + 1) f fd ["self","rest"] (spBm (KX K ad) 2 (m + 1)):=by
  refine F.ok zbY (fun vs H Q E h=>by obtain ⟨d,L,x,kp,dx,r,lv,F,kvs,rest,rfl,_⟩:=h; rfl) (fun cdv A outer s H vs Q E hr h=>?_)
  have hu:=zcu hr
  obtain ⟨d,L,h⟩:=h
  have G':=G.imp (sp':=spKW (KX K ad) 2 d L m) fun _ _ _ _ z=>⟨d,L,z⟩
  exact ⟨_,zag (zcc (zk6 (zf2 hu (pv 1) (zfb (pv 0) rfl))) (zal (zjV hu (zfb (pv 0) rfl) (pv 1) (zaw (zjX (ca:=(KX K ad).ca) (an:=(KX K ad).an) hr.units rfl) (by rfl) T.min boot_min (zaa (zdG rfl (zjS rfl T.range (zaa zai (zaa (zaw zaz (by rfl) T.len PySem.boot_len (zaa (pv 1) zae)) zae)))
      (zcX (zaq zaO) ["self","rest"] ["self","rest","k"] [0,1] 1 rfl rfl rfl (by decide +kernel) (by decide +kernel) (by decide +kernel) rfl (by decide +kernel) (fun cl C s H fp pins=>(zaE (i:=2) (show List.Nodup (["self","rest","k"]:List Str) by decide +kernel) rfl (Or.inl rfl))) (fun cl C s H fp pins=>(zgM (by exact G') (by exact hr) zbm (pv 0) (zaa (pv 1) (zaa (pv 2) zae)))) (Or.inl ⟨rfl,rfl⟩))) zae)) rfl)) za0)
    (zal (zaZ (zg2 hu (zfb (pv 0) rfl) (pv 1) (fun _ _=>rfl)))),b_ok (K:=KX K ad) (c:=2) T.cl_KnownPairs T.na_KnownPairs_known hm h⟩
theorem znn {fb fw:Addr} {gb gw:FuncData} (Mb:MethAt K ad.KnownPairs "best" "KnownPairs.best" zaO fb gb) (Mw:MethAt K ad.KnownPairs "best_with" "KnownPairs.best_with" zaS fw gw) (T:Txt K mg ad):HasM P w K mg base CX0 13 "best" ad.KnownPairs ["self","rest"] (spBu (KX K ad) 2 ()):=by
  have bb:=Mb.fn.binds (ps:=["self","rest"]) fun _ _ _ _ _ _ us hl=>match us,hl with | [_,_],_=>rfl
  have bw:=Mw.fn.binds (ps:=["self","rest","k"]) fun _ _ _ _ _ _ us hl=>match us,hl with | [_,_,_],_=>rfl
  have key:∀ m,m ≤ 6→FnOk P w K mg base CX0 (1 + 2 * m) fb gb ["self","rest"] (spBm (KX K ad) 2 m):=by
    intro m
    induction m with
    | zero=>exact fun _=>zkQ Mb.fn T
    | succ m ih =>
      intro hm
      have Gb:=Mb.hasM T.cl_KnownPairs (ih (by omega)) bb
      have Gw:=Mw.hasM T.cl_KnownPairs (zlx (by omega) Mw.fn T Gb) bw
      exact (zlp (by omega) Mb.fn T Gw).mono (by omega)
  refine Mb.hasM T.cl_KnownPairs ⟨fun vs H Q E h=>?_,fun A outer s H args us vs Q E hr e b v h=>?_⟩ bb
  · obtain ⟨m,hm,h⟩:=h
    exact (key m hm).len vs H Q E h
  · obtain ⟨m,hm,h⟩:=h
    exact ((key m hm).mono (by omega)).run A outer s H args us vs Q E hr e b v h
abbrev zbK:Stmt:=top 8
theorem zd0:FnScope ["lengths","some"] ["lengths","some"] (zaq zbK):=⟨rfl,rfl,rfl,by decide +kernel,rfl,by decide +kernel,by decide +kernel⟩
theorem zd1 {f:Addr} {fd:FuncData} (F:Fun K "least_pairing" "least_pairing" zbK f fd) (T:Txt K mg ad) (G_look_at:Has P w K mg base CX0 1 "look_at" ["lengths"] (spM (KX K ad) XO0 zce)) (G_KnownPairs___init__:HasC P w K mg base CX0 1 "KnownPairs" ad.KnownPairs ["self","lengths"] (spIu (KX K ad) 2 ())) (G_KnownPairs_best:HasM P w K mg base CX0 13 "best" ad.KnownPairs ["self","rest"] (spBu (KX K ad) 2 ())):FnOk P w K mg base CX0 14 f fd ["lengths","some"] (spO (KX K ad) XO0 zax):=by
  refine F.ok zd0 (fun vs H Q E h=>zda h) (fun cdv A outer s H vs Q E hr h=>?_)
  have hu:=zcu hr
  exact ⟨_,(zag (zdM (za7 G_look_at (hr.mono (by decide)) (by rfl) zbm (zaa (pv 0) zae)))
      (zal (zaZ (zbM zby (by rfl) T.list boot_list (zaa (zaR zbN (zgM G_KnownPairs_best (hr.mono (by decide)) zbm (zl5 G_KnownPairs___init__ (hr.mono (by decide)) (by rfl) zbm (zaa (pv 0) zae)) (zaa (zbM zfL (by rfl) T.tuple boot_tuple (zaa (zaw zcj (by rfl) T.sorted boot_sorted (zaa (pv 1) zae)) zae)) zae)) zai (fun _ _=>rfl)) zae))))),zek (K:=(KX K ad)) (XO:=XO0) (E:=E) (np:=2) (nv:=0) (m:=zcE)
      (zau (zlo (zbe (zad zam zav)))
      (zg4 (zjU (K:=KX K ad) (c:=2)))) rfl h⟩
abbrev zcQ:Stmt:=top 6
theorem sc_odd_ends:FnScope ["roads","odd","road","place"] ["roads"] (zaq zcQ):=⟨rfl,rfl,rfl,by decide +kernel,rfl,by decide +kernel,by decide +kernel⟩
theorem zgP {f:Addr} {fd:FuncData} (F:Fun K "odd_ends" "odd_ends" zcQ f fd) (T:Txt K mg ad)  : FnOk P w K mg base CX0 1 f fd ["roads"] (spO (KX K ad) XO0 zbH):=by
  refine F.ok sc_odd_ends (fun vs H Q E h=>zda h) (fun cdv A outer s H vs Q E hr h=>?_)
  have hu:=zcu hr
  exact ⟨_,(zag (zaM (i:=1) sc_odd_ends.nd rfl (by first | exact Or.inl rfl | exact Or.inr rfl) zko)
      (zag (zbj PassesOwn.never rfl (zcy (pv 0)) (zaE (i:=2) sc_odd_ends.nd rfl (by first | exact Or.inl rfl | exact Or.inr rfl))
      (zal (zbj PassesOwn.never rfl (zk9 (pv 2)) (zaE (i:=3) sc_odd_ends.nd rfl (by first | exact Or.inl rfl | exact Or.inr rfl))
      (zal (zjV hu (pv 1) (pv 3) (zmN (zkc hu (pv 1) (pv 3) zft (znq))) rfl)))))
      (zal (zaZ (zaw zcj (by rfl) T.sorted boot_sorted (zaa (zdG rfl (zlO (zmQ (pv 1))) (zcX (zaq zcQ) ["roads","odd","road","place"] ["odd","place"] [1] 1 rfl rfl rfl (by decide +kernel) (by decide +kernel) (by decide +kernel) rfl (by decide +kernel) (fun cl C s H fp pins=>(zaE (i:=1) (show List.Nodup (["odd","place"]:List Str) by decide +kernel) rfl (Or.inl rfl))) (fun cl C s H fp pins=>(pv 1)) (Or.inr ⟨_,_,rfl,rfl,fun cl C s H fp pins=>(zcP (zg2 (by exact hu) (pv 0) (pv 1) (fun _ _=>rfl)))⟩))) zae)))))),zek (K:=(KX K ad)) (XO:=XO0) (E:=E) (np:=1) (nv:=3) (m:=zfs)
      (zau (zeJ zj9)
      (zau (zbk (zfx zam) zap
      (zbk (zk5 zam) zap
      (zl9 zam (zne (zl4 zac zam zfK)))))
      (zi0 (zg4 (zdP zel (zaB ((zb0 (zmi zam).c (by decide) zbC zcg (Or.inr ⟨_,_,rfl,rfl,(st_b (zlt zam zam))⟩) zam)).e.r zaL)))))) rfl h⟩
abbrev zdl:Stmt:=top 19
theorem sc_law_odd:FnScope ["_law_roads_here","_law_many","_law_odd_here","_law_place","_law_ends"] ["_law_roads_here","_law_many"] (zaq zdl):=⟨rfl,rfl,rfl,by decide +kernel,rfl,by decide +kernel,by decide +kernel⟩
theorem zia {f:Addr} {fd:FuncData} (F:Fun K "_law_odd" "_law_odd" zdl f fd) (T:Txt K mg ad)  : FnOk P w K mg base CX0 1 f fd ["_law_roads_here","_law_many"] (spO (KX K ad) XO0 zbR):=by
  refine F.ok sc_law_odd (fun vs H Q E h=>zda h) (fun cdv A outer s H vs Q E hr h=>?_)
  have hu:=zcu hr
  exact ⟨_,(zag (zaM (i:=2) sc_law_odd.nd rfl (by first | exact Or.inl rfl | exact Or.inr rfl) (zdv zae))
      (zag (zbj PassesOwn.never rfl (zaJ rfl T.range (zaa (pv 1) zae)) (zaE (i:=3) sc_law_odd.nd rfl (by first | exact Or.inl rfl | exact Or.inr rfl))
      (zag (zfT (i:=4) sc_law_odd.nd rfl (by first | exact Or.inl rfl | exact Or.inr rfl) rfl (zcy (pv 0)) (zcX (zaq zdl) ["_law_roads_here","_law_many","_law_odd_here","_law_place","_law_ends"] ["_law_place","_law_road"] [3] 1 rfl rfl rfl (by decide +kernel) (by decide +kernel) (by decide +kernel) rfl (by decide +kernel) (fun cl C s H fp pins=>(zaE (i:=1) (show List.Nodup (["_law_place","_law_road"]:List Str) by decide +kernel) rfl (Or.inl rfl))) (fun cl C s H fp pins=>(pv 1)) (Or.inr ⟨_,_,rfl,rfl,fun cl C s H fp pins=>((zgD (za4 zf1 (pv 0) (zaR zbN (pv 1) zai (fun _ _=>rfl)) (zbg _)) (zdQ (za4 zf1 (pv 0) (zaR zbN (pv 1) zai (fun _ _=>rfl)) (zbg _))))).pt⟩)) rfl)
      (zal (zcc (za4 zf1 (zay zb1 (zaw zaz (by rfl) T.len PySem.boot_len (zaa (pv 4) zae)) zai) zai (zbg _))
      (zal (zdM (ziw PySem.F.plainAttrs_list PySem.F.slot_list_append PySem.F.type_list_append zb9 (pv 2) (zaa (pv 3) zae))))
      za0))))
      (zal (zaZ (pv 2))))),zek (K:=(KX K ad)) (XO:=XO0) (E:=E) (np:=2) (nv:=3) (m:=zgA)
      (zau (zeJ (zci zav))
      (zau (zbk (zaI len1 (zad zam zav)) zap
      (zau (za1 ((zb0 (zee zac) (by decide) zbC zcg (Or.inr ⟨_,_,rfl,rfl,(zf4 (za2 (zaj zgk zac ((zaj zbJ zac (se_int).r)).r)) (za2 (zaj zgk zac ((zaj zbJ zac (se_int).r)).r)))⟩) zam)).e zap)
      (zcv (za2 (zaj zgk ((zaj zb3 ((zcw zbX (zaB zac zaL))).r (se_int).r)).r (se_int).r))
      (zdp zam)
      zbb)))
      zfz)) rfl h⟩
abbrev zbD:Stmt:=top 20
theorem ze3:FnScope ["_law_found","_law_due"] ["_law_found","_law_due"] (zaq zbD):=⟨rfl,rfl,rfl,by decide +kernel,rfl,by decide +kernel,by decide +kernel⟩
theorem ze2 {f:Addr} {fd:FuncData} (F:Fun K "_law_numbers" "_law_numbers" zbD f fd) (T:Txt K mg ad)  : FnOk P w K mg base CX0 1 f fd ["_law_found","_law_due"] (spM (KX K ad) XO0 za5):=by
  refine F.ok ze3 (fun vs H Q E h=>zdD h) (fun cdv A outer s H vs Q E hr h=>?_)
  have hu:=zcu hr
  exact ⟨_,(zag (zcc ((zgD (zdS (zcP (zaw zaP (by rfl) T.isinstance boot_isinstance (zaa (pv 0) (zaa (zc2 (v:=.ty "list") (by rfl) T.list boot_list rfl) zae))))) (zdQ (za4 (zhM hr.units) (pv 0) (pv 1) (zbg _))))).pt
      (zal (zaZ zft))
      za0)
      (zal (zaZ (zhj zf1 (zaw zaz (by rfl) T.len PySem.boot_len (zaa (zdG rfl (zcy (pv 0)) (zcX (zaq zbD) ["_law_found","_law_due"] ["_law_one"] [] 1 rfl rfl rfl (by decide +kernel) (by decide +kernel) (by decide +kernel) rfl (by decide +kernel) (fun cl C s H fp pins=>(zaE (i:=0) (show List.Nodup (["_law_one"]:List Str) by decide +kernel) rfl (Or.inl rfl))) (fun cl C s H fp pins=>(pv 0)) (Or.inr ⟨_,_,rfl,rfl,fun cl C s H fp pins=>((zm4 (zcP (zaw zaP (by rfl) T.isinstance boot_isinstance (zaa (pv 0) (zaa (zc2 (v:=.ty "int") (by rfl) T.int boot_int rfl) zae)))) (zmh (zdS (zcP (zaw zaP (by rfl) T.isinstance boot_isinstance (zaa (pv 0) (zaa (zc2 (v:=.ty "bool") (by rfl) T.bool boot_bool rfl) zae)))))))).pt⟩))) zae)) (zaw zaz (by rfl) T.len PySem.boot_len (zaa (pv 1) zae)) (zbg _))))),zgW (K:=(KX K ad)) (XO:=XO0) (E:=E) (np:=2) (nv:=0) (m:=zdt)
      (zau (zcv (zf4 (zdT (st_b (zep zge zac))) (za2 (zaj zhT zac zac)))
      (zbS zfK)
      zbb)
      (zbS (zaj zgk ((zcw zbX (zaB ((zb0 (zee zac) (by decide) zbC zcg (Or.inr ⟨_,_,rfl,rfl,(zmB (st_b (zep zhE zac)) (zdT (st_b (zep zf6 zac))))⟩) zam)).e.r zaL))).r ((zcw zbX (zaB zac zaL))).r))) rfl h⟩
abbrev zc9:Stmt:=top 17
theorem sc_law_pairs:FnScope ["_law_found","_law_some_here","_law_places","_law_pair","_law_place"] ["_law_found","_law_some_here"] (zaq zc9):=⟨rfl,rfl,rfl,by decide +kernel,rfl,by decide +kernel,by decide +kernel⟩
theorem zf8 {f:Addr} {fd:FuncData} (F:Fun K "_law_pairs" "_law_pairs" zc9 f fd) (T:Txt K mg ad)  : FnOk P w K mg base CX0 1 f fd ["_law_found","_law_some_here"] (spM (KX K ad) XO0 zaQ):=by
  refine F.ok sc_law_pairs (fun vs H Q E h=>zdD h) (fun cdv A outer s H vs Q E hr h=>?_)
  have hu:=zcu hr
  exact ⟨_,(zag (zcc ((zgD (zdS (zcP (zaw zaP (by rfl) T.isinstance boot_isinstance (zaa (pv 0) (zaa (zc2 (v:=.ty "list") (by rfl) T.list boot_list rfl) zae))))) (zdQ (za4 (zhM hr.units) (pv 0) (zaw zgz (by rfl) T.sorted boot_sorted (zaa (pv 0) zae)) (zbg _))))).pt
      (zal (zaZ zft))
      za0)
      (zag (zaM (i:=2) sc_law_pairs.nd rfl (by first | exact Or.inl rfl | exact Or.inr rfl) (zdv zae))
      (zag (zbj PassesOwn.never rfl (zcy (pv 0)) (zaE (i:=3) sc_law_pairs.nd rfl (by first | exact Or.inl rfl | exact Or.inr rfl))
      (zag (zcc ((zgD (zdS (zcP (zaw zaP (by rfl) T.isinstance boot_isinstance (zaa (pv 3) (zaa (zc2 (v:=.ty "tuple") (by rfl) T.tuple boot_tuple rfl) zae))))) (zdQ (za4 zl8 (zaw zaz (by rfl) T.len PySem.boot_len (zaa (pv 3) zae)) zai (zbg _))))).pt
      (zal (zaZ zft))
      za0)
      (zag (zbj PassesOwn.never rfl (zk9 (pv 3)) (zaE (i:=4) sc_law_pairs.nd rfl (by first | exact Or.inl rfl | exact Or.inr rfl))
      (zal (zcc ((zgD (zdS (zcP (zaw zaP (by rfl) T.isinstance boot_isinstance (zaa (pv 4) (zaa (zc2 (v:=.ty "int") (by rfl) T.int boot_int rfl) zae))))) (zdQ (zcP (zaw zaP (by rfl) T.isinstance boot_isinstance (zaa (pv 4) (zaa (zc2 (v:=.ty "bool") (by rfl) T.bool boot_bool rfl) zae))))))).pt
      (zal (zaZ zft))
      za0)))
      (zag (zcc (za4 znv (zaR zbN (pv 3) zai (fun _ _=>rfl)) (zaR zbN (pv 3) zai (fun _ _=>rfl)) (zbg _))
      (zal (zaZ zft))
      za0)
      (zal (zaM (i:=2) sc_law_pairs.nd rfl (by first | exact Or.inl rfl | exact Or.inr rfl) (zay zlY (pv 2) (zdv (zaa (zaR zbN (pv 3) zai (fun _ _=>rfl)) (zaa (zaR zbN (pv 3) zai (fun _ _=>rfl)) zae))))))))))
      (zal (zaZ (zhj (zk0 hr.units) (zaw zcj (by rfl) T.sorted boot_sorted (zaa (pv 2) zae)) (zaw zcj (by rfl) T.sorted boot_sorted (zaa (pv 1) zae)) (zbg _))))))),zgW (K:=(KX K ad)) (XO:=XO0) (E:=E) (np:=2) (nv:=3) (m:=zex)
      (zau (zcv (zf4 (zdT (st_b (zep zge zac))) (za2 (zaj zhT zac ((zdP zih (zaB zac zaL))).e.r)))
      (zbS zfK)
      zbb)
      (zau (za1 ((zci zav)).e zap)
      (zau (zbk (zfx zam) zap
      (zau (zcv (zf4 (zdT (st_b (zep zhV zac))) (za2 (zaj zlv ((zcw zbX (zaB zac zaL))).r (se_int).r)))
      (zbS zfK)
      zbb)
      (zau (zbk (zk5 zam) zap
      (zcv (zf4 (zdT (st_b (zep zhE zac))) (st_b (zep zf6 zac)))
      (zbS zfK)
      zbb))
      (zau (zcv (za2 (zaj znH ((zaj zbJ zac (se_int).r)).r ((zaj zbJ zac (se_int).r)).r))
      (zbS zfK)
      zbb)
      (za1 ((zna zmv zac ((zci (zad (zaj zbJ zac (se_int).r) (zad (zaj zbJ zac (se_int).r) zav)))).e.r)).e zap)))))
      (zbS (zaj zk3 ((zdP zel (zaB zac zaL))).e.r ((zdP zel (zaB zac zaL))).e.r))))) rfl h⟩
abbrev zeK:Stmt:=top 16
theorem sc_law_sum:FnScope ["_law_lengths_here","_law_roads_here","_law_total","_law_one","_law_other"] ["_law_lengths_here","_law_roads_here"] (zaq zeK):=⟨rfl,rfl,rfl,by decide +kernel,rfl,by decide +kernel,by decide +kernel⟩
theorem ziF {f:Addr} {fd:FuncData} (F:Fun K "_law_sum" "_law_sum" zeK f fd) (T:Txt K mg ad)  : FnOk P w K mg base CX0 1 f fd ["_law_lengths_here","_law_roads_here"] (spM (KX K ad) XO0 zbh):=by
  refine F.ok sc_law_sum (fun vs H Q E h=>zdD h) (fun cdv A outer s H vs Q E hr h=>?_)
  have hu:=zcu hr
  exact ⟨_,(zag (zaM (i:=2) sc_law_sum.nd rfl (by first | exact Or.inl rfl | exact Or.inr rfl) zai)
      (zag (zbj PassesOwn.never rfl (zcy (pv 1)) (zlg rfl (zef (zaE (i:=3) sc_law_sum.nd rfl (by first | exact Or.inl rfl | exact Or.inr rfl)) (zef (zaE (i:=4) sc_law_sum.nd rfl (by first | exact Or.inl rfl | exact Or.inr rfl)) ziX)))
      (zal (zaM (i:=2) sc_law_sum.nd rfl (by first | exact Or.inl rfl | exact Or.inr rfl) (zay za3 (pv 2) (zaR zaC (zaR zaC (pv 0) (pv 3) (fun _ _=>rfl)) (pv 4) (fun _ _=>rfl))))))
      (zal (zaZ (pv 2))))),zgW (K:=(KX K ad)) (XO:=XO0) (E:=E) (np:=2) (nv:=3) (m:=zf9)
      (zau (za1 se_int zap)
      (zau (zbk (zfx zam) (zld (zed zap (zed zap zi5)))
      (za1 (zaj za8 zac ((zaj zaV ((zaj zaV zac zac)).r zac)).r) zap))
      (zbS zam))) rfl h⟩
abbrev zez:Stmt:=top 21
theorem sc_law:FnScope ["_law_script","_law_lengths_here","_law_some_here","_law_drawn","_law_roads_here","_law_handed","_law_found","_law_odd_here","_law_kept"] ["_law_script"] (zaq zez):=⟨rfl,rfl,rfl,by decide +kernel,rfl,by decide +kernel,by decide +kernel⟩
theorem zm9 {f:Addr} {fd:FuncData} (F:Fun K "law" "law" zez f fd) (T:Txt K mg ad) (G_law_lengths:Has P w K mg base CX0 4 "_law_lengths" ["_law_script","_law_most"] (spO (KX K ad) XO0 za6)) (G_law_some:Has P w K mg base CX0 3 "_law_some" ["_law_script","_law_many"] (spO (KX K ad) XO0 zbI)) (G_law_roads:Has P w K mg base CX0 3 "_law_roads" ["_law_script","_law_many"] (spO (KX K ad) XO0 zbt)) (G_least_pairing:Has P w K mg base CX0 14 "least_pairing" ["lengths","some"] (spO (KX K ad) XO0 zax)) (G_odd_ends:Has P w K mg base CX0 1 "odd_ends" ["roads"] (spO (KX K ad) XO0 zbH)) (G_law_odd:Has P w K mg base CX0 1 "_law_odd" ["_law_roads_here","_law_many"] (spO (KX K ad) XO0 zbR)) (G_law_numbers:Has P w K mg base CX0 1 "_law_numbers" ["_law_found","_law_due"] (spM (KX K ad) XO0 za5)) (G_law_pairs:Has P w K mg base CX0 1 "_law_pairs" ["_law_found","_law_some_here"] (spM (KX K ad) XO0 zaQ)) (G_law_sum:Has P w K mg base CX0 1 "_law_sum" ["_law_lengths_here","_law_roads_here"] (spM (KX K ad) XO0 zbh)):FnOk P w K mg base CX0 15 f fd ["_law_script"] (zhB K):=by
  refine F.ok sc_law (fun vs H Q E h=>?_) (fun cdv A outer s H vs Q E hr h=>?_)
  · obtain ⟨a,ns,rfl,_⟩:=h
    rfl
  · obtain ⟨a,ns,rfl,hS,hlen,hq⟩:=h
    have hu:=zcu hr
    exact ⟨_,(zag (zaM (i:=1) sc_law.nd rfl (by first | exact Or.inl rfl | exact Or.inr rfl) (za7 G_law_lengths (hr.mono (by decide)) (by rfl) zbm (zaa (pv 0) (zaa (zay zbo zai (zay zjp zai zai)) zae))))
      (zag (zaM (i:=2) sc_law.nd rfl (by first | exact Or.inl rfl | exact Or.inr rfl) (za7 G_law_some (hr.mono (by decide)) (by rfl) zbm (zaa (pv 0) (zaa (zaw zaz (by rfl) T.len PySem.boot_len (zaa (pv 1) zae)) zae))))
      (zag (zfT (i:=3) sc_law.nd rfl (by first | exact Or.inl rfl | exact Or.inr rfl) rfl (zaJ rfl T.range (zaa (zay zbE (zaw zaz (by rfl) T.len PySem.boot_len (zaa (pv 2) zae)) zai) zae)) (zcX (zaq zez) ["_law_script","_law_lengths_here","_law_some_here","_law_drawn","_law_roads_here","_law_handed","_law_found","_law_odd_here","_law_kept"] ["_law_some_here","_law_k"] [2] 1 rfl rfl rfl (by decide +kernel) (by decide +kernel) (by decide +kernel) rfl (by decide +kernel) (fun cl C s H fp pins=>(zaE (i:=1) (show List.Nodup (["_law_some_here","_law_k"]:List Str) by decide +kernel) rfl (Or.inl rfl))) (fun cl C s H fp pins=>(zcY (zaa (zaR zaC (pv 0) (zay zbo zai (pv 1)) (fun _ _=>rfl)) (zaa (zaR zaC (pv 0) (zay za3 (zay zbo zai (pv 1)) zai) (fun _ _=>rfl)) zae)))) (Or.inl ⟨rfl,rfl⟩)) rfl)
      (zag (zaM (i:=4) sc_law.nd rfl (by first | exact Or.inl rfl | exact Or.inr rfl) (za7 G_law_roads (hr.mono (by decide)) (by rfl) zbm (zaa (pv 0) (zaa (zaw zaz (by rfl) T.len PySem.boot_len (zaa (pv 1) zae)) zae))))
      (zag (zaM (i:=5) sc_law.nd rfl (by first | exact Or.inl rfl | exact Or.inr rfl) (zdv (zaa (zdG rfl (zcy (pv 1)) (zcX (zaq zez) ["_law_script","_law_lengths_here","_law_some_here","_law_drawn","_law_roads_here","_law_handed","_law_found","_law_odd_here","_law_kept"] ["_law_line"] [] 1 rfl rfl rfl (by decide +kernel) (by decide +kernel) (by decide +kernel) rfl (by decide +kernel) (fun cl C s H fp pins=>(zaE (i:=0) (show List.Nodup (["_law_line"]:List Str) by decide +kernel) rfl (Or.inl rfl))) (fun cl C s H fp pins=>(zbM zby (by rfl) T.list boot_list (zaa (pv 0) zae))) (Or.inl ⟨rfl,rfl⟩))) (zaa (zbM zby (by rfl) T.list boot_list (zaa (pv 2) zae)) (zaa (zbM zby (by rfl) T.list boot_list (zaa (pv 4) zae)) zae)))))
      (zag (zaM (i:=6) sc_law.nd rfl (by first | exact Or.inl rfl | exact Or.inr rfl) (za7 G_least_pairing (hr.mono (by decide)) (by rfl) zbm (zaa (zaR zaC (pv 5) zai (fun _ _=>rfl)) (zaa (zaR zaC (pv 5) zai (fun _ _=>rfl)) zae))))
      (zag (zaM (i:=7) sc_law.nd rfl (by first | exact Or.inl rfl | exact Or.inr rfl) (za7 G_odd_ends (hr.mono (by decide)) (by rfl) zbm (zaa (zaR zaC (pv 5) zai (fun _ _=>rfl)) zae)))
      (zag (zcc ((zgD (zdS (zcP (za7 G_law_numbers (hr.mono (by decide)) (by rfl) zbm (zaa (pv 7) (zaa (za7 G_law_odd (hr.mono (by decide)) (by rfl) zbm (zaa (pv 4) (zaa (zaw zaz (by rfl) T.len PySem.boot_len (zaa (pv 1) zae)) zae))) zae))))) (zdQ (za4 (zhM hr.units) (pv 5) (zdv (zaa (pv 1) (zaa (pv 2) (zaa (pv 4) zae)))) (zbg _))))).pt
      (zal (zaZ zft))
      za0)
      (zag (zcc ((zgD (zdS (zcP (za7 G_law_pairs (hr.mono (by decide)) (by rfl) zbm (zaa (pv 6) (zaa (pv 2) zae))))) (zdQ (za4 zmD (za7 G_law_sum (hr.mono (by decide)) (by rfl) zbm (zaa (pv 1) (zaa (pv 6) zae))) (za7 G_law_sum (hr.mono (by decide)) (by rfl) zbm (zaa (pv 1) (zaa (pv 3) zae))) (zbg _))))).pt
      (zal (zaZ zft))
      za0)
      (zag (zaM (i:=8) sc_law.nd rfl (by first | exact Or.inl rfl | exact Or.inr rfl) (zbM zby (by rfl) T.list boot_list (zaa (pv 6) zae)))
      (zag (zcc ((zgD (zdS (zcP (za7 G_law_pairs (hr.mono (by decide)) (by rfl) zbm (zaa (za7 G_least_pairing (hr.mono (by decide)) (by rfl) zbm (zaa (pv 1) (zaa (pv 7) zae))) (zaa (pv 7) zae))))) (zdQ (za4 (zhM hr.units) (pv 6) (pv 8) (zbg _))))).pt
      (zal (zaZ zft))
      za0)
      (zag (zdM (ziw PySem.F.plainAttrs_list PySem.F.slot_list_append PySem.F.type_list_append zb9 (pv 6) (zaa (zcY (zaa zai (zaa zai zae))) zae)))
      (zal (zaZ (zhj (zk0 hr.units) (za7 G_least_pairing (hr.mono (by decide)) (by rfl) zbm (zaa (pv 1) (zaa (pv 2) zae))) (pv 8) (zbg _)))))))))))))))),zgW (K:=(KX K ad)) (XO:=XO0) (E:=E) (np:=1) (nv:=8) (m:=zmE)
      (zau (za1 ((zbq (zad zam (zad (zaj zbV (se_int).r ((zaj zjt (se_int).r (se_int).r)).r) zav)))).e zap)
      (zau (za1 ((zbq (zad zam (zad (zcw zbX (zaB zac zaL)) zav)))).e zap)
      (zau (za1 ((zb0 (zaI len1 (zad (zaj zdj ((zcw zbX (zaB zac zaL))).r (se_int).r) zav)).c (by decide) zbC zcg (Or.inl ⟨rfl,rfl⟩) (zfc (zad (zaj zaV zac ((zaj zbV (se_int).r zac)).r) (zad (zaj zaV zac ((zaj za8 ((zaj zbV (se_int).r zac)).r (se_int).r)).r) zav))))).e zap)
      (zau (za1 ((zbq (zad zam (zad (zcw zbX (zaB zac zaL)) zav)))).e zap)
      (zau (za1 ((zci (zad ((zb0 (zee zac) (by decide) zbC zcg (Or.inl ⟨rfl,rfl⟩) ((zdP zfB (zaB zac zaL))).e)).e (zad ((zdP zfB (zaB zac zaL))).e (zad ((zdP zfB (zaB zac zaL))).e zav))))).e zap)
      (zau (zeJ (zbq (zad (zaj zaV zac (se_int).r) (zad (zaj zaV zac (se_int).r) zav))))
      (zau (za1 ((zbq (zad (zaj zaV zac (se_int).r) zav))).e zap)
      (zau (zcv (zf4 (zdT (st_b (zbe (zad zam (zad ((zbq (zad zam (zad (zcw zbX (zaB zac zaL)) zav)))).e zav))))) (za2 (zaj zhT zac ((zci (zad zam (zad zam (zad zam zav))))).e.r)))
      (zbS zfK)
      zbb)
      (zau (zcv (zf4 (zdT (st_b (zhz (ziM (zhv zam zjR))))) (za2 (zaj zm1 ((zhz (zhv zam (ziM zjR)))).r ((zbe (zad zam (zad zam zav)))).r)))
      (zbS zfK)
      zbb)
      (zau (za1 ((zdP zfB (zaB zac zaL))).e zap)
      (zau (zcv (zf4 (zdT (st_b (zbe (zad ((zbq (zad zam (zad zam zav)))).e (zad zam zav))))) (za2 (zaj zhT zac zac)))
      (zbS zfK)
      zbb)
      (zau (zdp (zfc (zad se_int (zad se_int zav))))
      (zbS (zaj zk3 ((zbq (zad zam (zad zam zav)))).e.r zac)))))))))))))) rfl (zml (f:=zm3) (law_true ns hlen) hS hq)⟩
end
theorem all_mk {l:PySem.W.OpenLaw} {w:World} {K:PySem.W.Frag} {h:Heap} {mg:Str→Option Value} {fa:Addr} (X:K.In h) (G:h.Ns mainGlobals mg) (hfa:mg "law"=some (.ref fa))
    (d0:∃ f fd,DefAt K "_law_cell_at" zcm f fd)
    (d1:∃ f fd,DefAt K "_law_number" zcO f fd)
    (d2:∃ f fd,DefAt K "_law_grid" zcb f fd)
    (d3:∃ f fd,DefAt K "_law_shortest" zb6 f fd)
    (d4:∃ f fd,DefAt K "_law_lengths" zbn f fd)
    (d5:∃ f fd,DefAt K "_law_some" zdF f fd)
    (d6:∃ f fd,DefAt K "_law_roads" zc4 f fd)
    (d7:∃ f fd,DefAt K "look_at" zeE f fd)
    (d8:∃ f fd,DefAt K "least_pairing" zbK f fd)
    (d9:∃ f fd,DefAt K "odd_ends" zcQ f fd)
    (d10:∃ f fd,DefAt K "_law_odd" zdl f fd)
    (d11:∃ f fd,DefAt K "_law_numbers" zbD f fd)
    (d12:∃ f fd,DefAt K "_law_pairs" zc9 f fd)
    (d13:∃ f fd,DefAt K "_law_sum" zeK f fd)
    {fL:Addr} {oc:Value} {od an:Option Addr} {osl:Array (Option Value)} {kV doc pm cdv ct:Value} (aL:PySem.W.nsIn K mainGlobals "law"=some (some (.ref fL)))
    (lL:K.lookup fL=some ⟨oc,od,.func (PySem.W.fnOf "law" "law" (zcI zez) (zch zez) (zaq zez) .none kV doc pm an cdv ct),osl⟩) (cL:PySem.W.codeIn K cdv "law"=true) (kL:PySem.W.keepIn K (.ref fL)=true)
    (z0:PySem.W.nsIn K mainGlobals "len"=some none)
    (z1:PySem.W.nsIn K mainGlobals "abs"=some none)
    (z2:PySem.W.nsIn K mainGlobals "isinstance"=some none)
    (z3:PySem.W.nsIn K mainGlobals "list"=some none)
    (z4:PySem.W.nsIn K mainGlobals "int"=some none)
    (z5:PySem.W.nsIn K mainGlobals "bool"=some none)
    (z6:PySem.W.nsIn K mainGlobals "tuple"=some none)
    (z7:PySem.W.nsIn K mainGlobals "range"=some none)
    (z8:PySem.W.nsIn K mainGlobals "min"=some none)
    (z9:PySem.W.nsIn K mainGlobals "sorted"=some none)
    {cKnownPairs:Addr}
    (un_KnownPairs:PySem.W.nsIn K mainGlobals "KnownPairs"=some (some (.ref cKnownPairs)))
    (pzn:PySem.W.specialIn K (.builtin "object.__class__") "__get__"=some (some (.builtin "getset_descriptor.__get__")))
    (pzt:PySem.W.takesIn K (.builtin "object.__class__")=some true)
    (phd_KnownPairs:PySem.W.hasDictIn K cKnownPairs=true)
    (ppg_KnownPairs:PySem.W.plainGet K cKnownPairs Str.empty=true)
    (ppo_KnownPairs:PySem.W.plainOver K cKnownPairs=true)
    (psa_KnownPairs:PySem.W.findIn K (.ref cKnownPairs) "__setattr__"=some (some (.builtin "object.__setattr__")))
    (pna_KnownPairs_known:PySem.W.findIn K (.ref cKnownPairs) "known"=some none)
    (pna_KnownPairs_lengths:PySem.W.findIn K (.ref cKnownPairs) "lengths"=some none)
    (pmk_KnownPairs:PySem.W.makesIn K cKnownPairs=true)
    (pkp_KnownPairs:PySem.W.keepIn K (.ref cKnownPairs)=true)
    (dm_KnownPairs___init__:∃ f fd,MethAt K cKnownPairs "__init__" "KnownPairs.__init__" zbc f fd)
    (dm_KnownPairs_best_with:∃ f fd,MethAt K cKnownPairs "best_with" "KnownPairs.best_with" zaS f fd)
    (dm_KnownPairs_best:∃ f fd,MethAt K cKnownPairs "best" "KnownPairs.best" zaO f fd)
    : ∃ fd:FuncData,(∀ (s:Shared) (v:Value),BindsTo s fd ⟨[v],[]⟩ [("_law_script",v)])∧∀ base:Heap,K.In base→base.Ns mainGlobals mg→FnOk l.prog w K mg base CX0 15 fa fd ["_law_script"] (zhB K):=by
  have e:=hfa.symm.trans (PySem.W.mg_of X G aL)
  cases e
  let ad:Adr:=⟨cKnownPairs⟩
  have T:Txt K mg ad:=⟨PySem.W.mg_none_of X G z0,PySem.W.mg_none_of X G z1,PySem.W.mg_none_of X G z2,PySem.W.mg_none_of X G z3,PySem.W.mg_none_of X G z4,PySem.W.mg_none_of X G z5,PySem.W.mg_none_of X G z6,PySem.W.mg_none_of X G z7,PySem.W.mg_none_of X G z8,PySem.W.mg_none_of X G z9,PySem.W.mg_of X G un_KnownPairs,⟨ppg_KnownPairs,phd_KnownPairs,ppo_KnownPairs,psa_KnownPairs⟩,pna_KnownPairs_known,pna_KnownPairs_lengths⟩
  obtain ⟨f0,g0,D0⟩:=d0
  obtain ⟨f1,g1,D1⟩:=d1
  obtain ⟨f2,g2,D2⟩:=d2
  obtain ⟨f3,g3,D3⟩:=d3
  obtain ⟨f4,g4,D4⟩:=d4
  obtain ⟨f5,g5,D5⟩:=d5
  obtain ⟨f6,g6,D6⟩:=d6
  obtain ⟨f7,g7,D7⟩:=d7
  obtain ⟨f8,g8,D8⟩:=d8
  obtain ⟨f9,g9,D9⟩:=d9
  obtain ⟨f10,g10,D10⟩:=d10
  obtain ⟨f11,g11,D11⟩:=d11
  obtain ⟨f12,g12,D12⟩:=d12
  obtain ⟨f13,g13,D13⟩:=d13
  obtain ⟨f_KnownPairs___init__,g_KnownPairs___init__,D_KnownPairs___init__⟩:=dm_KnownPairs___init__
  obtain ⟨f_KnownPairs_best_with,g_KnownPairs_best_with,D_KnownPairs_best_with⟩:=dm_KnownPairs_best_with
  obtain ⟨f_KnownPairs_best,g_KnownPairs_best,D_KnownPairs_best⟩:=dm_KnownPairs_best
  have FL:=zi6 (st:=zez) lL cL kL
  refine ⟨PySem.W.fnOf "law" "law" (zcI zez) (zch zez) (zaq zez) .none kV doc pm an cdv ct,fun s v=>.of_eq rfl,fun base _ _=>?_⟩
  have G_KnownPairs___init__:HasC l.prog w K mg base CX0 1 "KnownPairs" ad.KnownPairs ["self","lengths"] (spIu (KX K ad) 2 ()):=D_KnownPairs___init__.hasC pmk_KnownPairs pkp_KnownPairs T.m_KnownPairs (zma D_KnownPairs___init__.fn T) (D_KnownPairs___init__.fn.binds fun _ _ _ _ _ _ us hl=>match us,hl with | [_,_],_=>rfl)
  have G_KnownPairs_best:HasM l.prog w K mg base CX0 13 "best" ad.KnownPairs ["self","rest"] (spBu (KX K ad) 2 ()):=znn D_KnownPairs_best D_KnownPairs_best_with T
  have G_law_cell_at:Has l.prog w K mg base CX0 1 "_law_cell_at" ["_law_script","_law_k"] (spM (KX K ad) XO0 zaA):=D0.has X G (zeZ D0.fn T  ) (D0.fn.binds fun _ _ _ _ _ _ us hl=>match us,hl with | [_,_],_=>rfl)
  have G_law_number:Has l.prog w K mg base CX0 2 "_law_number" ["_law_script","_law_k","_law_top"] (spM (KX K ad) XO0 zat):=D1.has X G (zfQ D1.fn T  G_law_cell_at) (D1.fn.binds fun _ _ _ _ _ _ us hl=>match us,hl with | [_,_,_],_=>rfl)
  have G_law_grid:Has l.prog w K mg base CX0 3 "_law_grid" ["_law_script","_law_many","_law_top"] (spO (KX K ad) XO0 zbs):=D2.has X G (zhg D2.fn T  G_law_number) (D2.fn.binds fun _ _ _ _ _ _ us hl=>match us,hl with | [_,_,_],_=>rfl)
  have G_law_shortest:Has l.prog w K mg base CX0 1 "_law_shortest" ["_law_lengths_here"] (spT (KX K ad) XO0 zaX):=D3.has X G (zev D3.fn T  ) (D3.fn.binds fun _ _ _ _ _ _ us hl=>match us,hl with | [_],_=>rfl)
  have G_law_lengths:Has l.prog w K mg base CX0 4 "_law_lengths" ["_law_script","_law_most"] (spO (KX K ad) XO0 za6):=D4.has X G (zeS D4.fn T  G_law_cell_at G_law_number G_law_grid G_law_shortest) (D4.fn.binds fun _ _ _ _ _ _ us hl=>match us,hl with | [_,_],_=>rfl)
  have G_law_some:Has l.prog w K mg base CX0 3 "_law_some" ["_law_script","_law_many"] (spO (KX K ad) XO0 zbI):=D5.has X G (zhc D5.fn T  G_law_number) (D5.fn.binds fun _ _ _ _ _ _ us hl=>match us,hl with | [_,_],_=>rfl)
  have G_law_roads:Has l.prog w K mg base CX0 3 "_law_roads" ["_law_script","_law_many"] (spO (KX K ad) XO0 zbt):=D6.has X G (zgn D6.fn T  G_law_number) (D6.fn.binds fun _ _ _ _ _ _ us hl=>match us,hl with | [_,_],_=>rfl)
  have G_look_at:Has l.prog w K mg base CX0 1 "look_at" ["lengths"] (spM (KX K ad) XO0 zce):=D7.has X G (zhW D7.fn T  ) (D7.fn.binds fun _ _ _ _ _ _ us hl=>match us,hl with | [_],_=>rfl)
  have G_least_pairing:Has l.prog w K mg base CX0 14 "least_pairing" ["lengths","some"] (spO (KX K ad) XO0 zax):=D8.has X G (zd1 D8.fn T  G_look_at G_KnownPairs___init__ G_KnownPairs_best) (D8.fn.binds fun _ _ _ _ _ _ us hl=>match us,hl with | [_,_],_=>rfl)
  have G_odd_ends:Has l.prog w K mg base CX0 1 "odd_ends" ["roads"] (spO (KX K ad) XO0 zbH):=D9.has X G (zgP D9.fn T  ) (D9.fn.binds fun _ _ _ _ _ _ us hl=>match us,hl with | [_],_=>rfl)
  have G_law_odd:Has l.prog w K mg base CX0 1 "_law_odd" ["_law_roads_here","_law_many"] (spO (KX K ad) XO0 zbR):=D10.has X G (zia D10.fn T  ) (D10.fn.binds fun _ _ _ _ _ _ us hl=>match us,hl with | [_,_],_=>rfl)
  have G_law_numbers:Has l.prog w K mg base CX0 1 "_law_numbers" ["_law_found","_law_due"] (spM (KX K ad) XO0 za5):=D11.has X G (ze2 D11.fn T  ) (D11.fn.binds fun _ _ _ _ _ _ us hl=>match us,hl with | [_,_],_=>rfl)
  have G_law_pairs:Has l.prog w K mg base CX0 1 "_law_pairs" ["_law_found","_law_some_here"] (spM (KX K ad) XO0 zaQ):=D12.has X G (zf8 D12.fn T  ) (D12.fn.binds fun _ _ _ _ _ _ us hl=>match us,hl with | [_,_],_=>rfl)
  have G_law_sum:Has l.prog w K mg base CX0 1 "_law_sum" ["_law_lengths_here","_law_roads_here"] (spM (KX K ad) XO0 zbh):=D13.has X G (ziF D13.fn T  ) (D13.fn.binds fun _ _ _ _ _ _ us hl=>match us,hl with | [_,_],_=>rfl)
  exact zm9 FL T G_law_lengths G_law_some G_law_roads G_least_pairing G_odd_ends G_law_odd G_law_numbers G_law_pairs G_law_sum
theorem walk {l:PySem.W.OpenLaw} {q:Program} {loose:List Str} {XP:(Str→Option Value)→Heap→Prop} {YP:World→Heap→Prop} {d:DefRec} {K:Params→PySem.W.Frag} (hn:l.most=some 63) (hdf:d.params.defaults = [])
    (hY:∀ (w:World) (h:Heap),YP w h→(K w.params).In h) (hT:∀ w:World,tabOf (K w.params)=none)
    (F:∀ (w:World) (mg:Str→Option Value) (fa:Addr) (h:Heap),(K w.params).In h→h.Ns mainGlobals mg→mg d.name=some (.ref fa) →
      ∃ fd:FuncData,(∀ (s:Shared) (u:Value),BindsTo s fd ⟨[u],[]⟩ [("_law_script",u)])∧∀ base:Heap,(K w.params).In base→base.Ns mainGlobals mg→FnOk l.prog w (K w.params) mg base CX0 15 fa fd ["_law_script"] (zhB (K w.params))) :
    PySem.W.WalkO q loose XP YP l.row.toRowW d [] (fun f vs=>PySem.call f vs) :=
  L2.walk_of (n:=63) (k:=15) (x:="_law_script") (CX:=fun _=>CX0) (sp:=fun w=>zhB (K w.params)) hn (by decide) hdf ⟨rfl,by decide,by decide⟩ hY hT F (fun _ _ a ns hl _ hS=>⟨a,ns,rfl,hS,hl,fun _=>rfl⟩) fun _ _ _ _ _ z=>z
end My
def PySem.W.Fast.tw14282396135782739886:Nat:=0
def PySem.W.Fast.tw14551953714903711942:Nat:=0
def PySem.W.Fast.tw12181883318165048716:Nat:=0
def PySem.W.Fast.tw15647299946090649171:Nat:=0
def PySem.W.Fast.tw14382846920321827780:Nat:=0
def PySem.W.Fast.tw13623286525888725839:Nat:=0
def PySem.W.Fast.tw1288209237036220058:Nat:=0
open PySem PySem.W PyProof.Rows
set_option maxRecDepth 100000 in
set_option maxHeartbeats 0 in
theorem PySem.Challenge.cw_goodenough_k17_whole_any_pairing_holds : PySem.Challenge.rw_goodenough_k17_whole_any_pairing.Holds := by
  w_on; o_law; k_head; (case hw=>w_witness2)
  k_fill
  refine My.walk (l:=PySem.Challenge.rw_goodenough_k17_whole_any_pairing) rfl rfl (fun w h Y=>by first | exact PySem.W.kIn_of Y | exact PySem.W.km_in_of Y) ?tab ?F
  (case tab=>intro w; kernel_rfl)
  case F =>
    intro w mg fa h KX G hmg
    refine' My.all_mk KX G hmg (L2.defAt_mk ?a0 ?l0 ?c0 ?k0) (L2.defAt_mk ?a1 ?l1 ?c1 ?k1) (L2.defAt_mk ?a2 ?l2 ?c2 ?k2) (L2.defAt_mk ?a3 ?l3 ?c3 ?k3) (L2.defAt_mk ?a4 ?l4 ?c4 ?k4) (L2.defAt_mk ?a5 ?l5 ?c5 ?k5) (L2.defAt_mk ?a6 ?l6 ?c6 ?k6) (L2.defAt_mk ?a7 ?l7 ?c7 ?k7) (L2.defAt_mk ?a8 ?l8 ?c8 ?k8) (L2.defAt_mk ?a9 ?l9 ?c9 ?k9) (L2.defAt_mk ?a10 ?l10 ?c10 ?k10) (L2.defAt_mk ?a11 ?l11 ?c11 ?k11) (L2.defAt_mk ?a12 ?l12 ?c12 ?k12) (L2.defAt_mk ?a13 ?l13 ?c13 ?k13) ?aL ?lL ?cL ?kL ?z0 ?z1 ?z2 ?z3 ?z4 ?z5 ?z6 ?z7 ?z8 ?z9 ?un_KnownPairs ?pzn ?pzt ?phd_KnownPairs ?ppg_KnownPairs ?ppo_KnownPairs ?psa_KnownPairs ?pna_KnownPairs_known ?pna_KnownPairs_lengths ?pmk_KnownPairs ?pkp_KnownPairs (L2.methAt_mk ?ma0 ?mi0 ?ml0 ?mc0 ?mk0) (L2.methAt_mk ?ma1 ?mi1 ?ml1 ?mc1 ?mk1) (L2.methAt_mk ?ma2 ?mi2 ?ml2 ?mc2 ?mk2)
    (case a0=>k_is); (case l0=>k_is); (case c0=>k_is); (case k0=>k_is)
    (case a1=>k_is); (case l1=>k_is); (case c1=>k_is); (case k1=>k_is)
    (case a2=>k_is); (case l2=>k_is); (case c2=>k_is); (case k2=>k_is)
    (case a3=>k_is); (case l3=>k_is); (case c3=>k_is); (case k3=>k_is)
    (case a4=>k_is); (case l4=>k_is); (case c4=>k_is); (case k4=>k_is)
    (case a5=>k_is); (case l5=>k_is); (case c5=>k_is); (case k5=>k_is)
    (case a6=>k_is); (case l6=>k_is); (case c6=>k_is); (case k6=>k_is)
    (case a7=>k_is); (case l7=>k_is); (case c7=>k_is); (case k7=>k_is)
    (case a8=>k_is); (case l8=>k_is); (case c8=>k_is); (case k8=>k_is)
    (case a9=>k_is); (case l9=>k_is); (case c9=>k_is); (case k9=>k_is)
    (case a10=>k_is); (case l10=>k_is); (case c10=>k_is); (case k10=>k_is)
    (case a11=>k_is); (case l11=>k_is); (case c11=>k_is); (case k11=>k_is)
    (case a12=>k_is); (case l12=>k_is); (case c12=>k_is); (case k12=>k_is)
    (case a13=>k_is); (case l13=>k_is); (case c13=>k_is); (case k13=>k_is)
    (case aL=>k_is); (case lL=>k_is); (case cL=>k_is); (case kL=>k_is)
    (case z0=>k_is)
    (case z1=>k_is)
    (case z2=>k_is)
    (case z3=>k_is)
    (case z4=>k_is)
    (case z5=>k_is)
    (case z6=>k_is)
    (case z7=>k_is)
    (case z8=>k_is)
    (case z9=>k_is)
    (case un_KnownPairs=>k_is)
    (case pzn=>k_is)
    (case pzt=>k_is)
    (case phd_KnownPairs=>k_is)
    (case ppg_KnownPairs=>k_is)
    (case ppo_KnownPairs=>k_is)
    (case psa_KnownPairs=>k_is)
    (case pna_KnownPairs_known=>k_is)
    (case pna_KnownPairs_lengths=>k_is)
    (case pmk_KnownPairs=>k_is)
    (case pkp_KnownPairs=>k_is)
    (case ma0=>k_is); (case mi0=>k_is); (case ml0=>k_is); (case mc0=>k_is); (case mk0=>k_is)
    (case ma1=>k_is); (case mi1=>k_is); (case ml1=>k_is); (case mc1=>k_is); (case mk1=>k_is)
    (case ma2=>k_is); (case mi2=>k_is); (case ml2=>k_is); (case mc2=>k_is); (case mk2=>k_is)
#print axioms PySem.Challenge.cw_goodenough_k17_whole_any_pairing_holds
