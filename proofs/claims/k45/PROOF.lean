import PyProof.Rows.All
import Wide.All
import OpenK.AllK
import Wide.FinOn
import Lean
import PyProof.EqAt
import PyProof.EqKinds
import PyProof.TupleCall
import PySem.Challenge.RW_goodenough_k45_covers_looked_at
set_option Elab.async false
set_option linter.all false
set_option maxRecDepth 100000
set_option maxHeartbeats 4000000
noncomputable section
namespace L2
open PySem PySem.Spec PyProof.Rows
abbrev Key:=Sum Int Str
def zlE:Key→Value→Bool
  | .inl k,v=>Value.isInt k v
  | .inr x,v=>Value.isStrOf x v
def keyH (w:World):Key→Int
  | .inl k=>hashInt k
  | .inr x=>hashStr w x
theorem zcf:∀ {k:Key} {v:Value},zlE k v=true→(∃ i t,k=Sum.inl i∧v=Value.int i t)∨(∃ x t,k=Sum.inr x∧v=Value.str x t)
  | .inl i,v,h=>by
    obtain ⟨t,e⟩:=Value.isInt_shape (k:=i) (v:=v) h
    exact .inl ⟨i,t,rfl,e⟩
  | .inr x,v,h=>by
    obtain ⟨t,e⟩:=Value.isStrOf_shape (x:=x) (v:=v) h
    exact .inr ⟨x,t,rfl,e⟩
theorem zm7 (i:Int) (t:Tok):zlE (.inl i) (.int i t)=true:=by simp [zlE,Value.isInt]
theorem znj (x:Str) (t:Tok):zlE (.inr x) (.str x t)=true:=by simp [zlE,Value.isStrOf]
theorem zpO (a b:Int):decide ((Sum.inl a:Key)=Sum.inl b)=(a == b):=by
  by_cases e:a=b
  · subst e; simp
  · have h:¬ (Sum.inl a:Key)=Sum.inl b:=fun q=>e (Sum.inl.inj q)
    rw [decide_eq_false h]
    exact (beq_eq_false_iff_ne.mpr e).symm
theorem zqB (a b:Str):decide ((Sum.inr a:Key)=Sum.inr b)=decide (a=b):=by
  by_cases e:a=b
  · subst e; simp
  · have h:¬ (Sum.inr a:Key)=Sum.inr b:=fun q=>e (Sum.inr.inj q)
    rw [decide_eq_false h,decide_eq_false e]
theorem zp4 (a:Int) (b:Str):decide ((Sum.inl a:Key)=Sum.inr b)=false:=decide_eq_false (fun q=>nomatch q)
theorem zqF (a:Str) (b:Int):decide ((Sum.inr a:Key)=Sum.inl b)=false:=decide_eq_false (fun q=>nomatch q)
def zcV (prog:Program) (w:World):PySem.KeyKind prog w Key where
  is:=zlE
  hash:=keyH w
  inj:=fun v a b ha hb=>by
    rcases zcf ha with ⟨i,t,rfl,rfl⟩ | ⟨x,t,rfl,rfl⟩
    · rcases zcf hb with ⟨j,u,rfl,e⟩ | ⟨y,u,rfl,e⟩
      · injection e with e1 _; rw [e1]
      · exact nomatch e
    · rcases zcf hb with ⟨j,u,rfl,e⟩ | ⟨y,u,rfl,e⟩
      · exact nomatch e
      · injection e with e1 _; rw [e1]
  byValue:=fun k v h=>by
    rcases zcf h with ⟨i,t,rfl,rfl⟩ | ⟨x,t,rfl,rfl⟩ <;> rfl
  pyHash:=fun hv h=>by
    rcases zcf hv with ⟨i,t,rfl,rfl⟩ | ⟨x,t,rfl,rfl⟩
    · exact wpAny_pyHash_int h
    · exact wpAny_pyHash_str h
  eqBool:=fun hu hv h=>by
    rcases zcf hu with ⟨i,t,rfl,rfl⟩ | ⟨x,t,rfl,rfl⟩
    · rcases zcf hv with ⟨j,u,rfl,rfl⟩ | ⟨y,u,rfl,rfl⟩
      · rw [zpO] at h; exact wpAny_eqBool_int h
      · rw [zp4] at h; exact SeqAt.EqAt.int_str i t y u _ _ _ _ h
    · rcases zcf hv with ⟨j,u,rfl,rfl⟩ | ⟨y,u,rfl,rfl⟩
      · rw [zqF] at h; exact SeqAt.EqAt.str_int x t j u _ _ _ _ h
      · rw [zqB] at h; exact wpAny_eqBool_str h
  «strs»:=fun k x t v h=>by
    rcases zcf h with ⟨i,u,rfl,e⟩ | ⟨y,u,rfl,e⟩
    · exact nomatch e
    · injection e with e1 _
      subst e1
      cases v <;> rfl
theorem zkn (prog:Program) (w:World) (i:Int) (t:Tok):(zcV prog w).is (.inl i) (.int i t)=true:=zm7 i t
theorem zkm (prog:Program) (w:World) (x:Str) (t:Tok):(zcV prog w).is (.inr x) (.str x t)=true:=znj x t
end L2
namespace L2
open PySem PySem.Spec PyProof.Rows
inductive V where
  | non | bl (b:Bool) | int (i:Int) | str (x:Str) | byt (b:Array UInt8) | flt (b:UInt64) | ref (a:Addr) | ty (n:String)
  deriving DecidableEq
def RelV:V→Value→Prop
  | .non,u=>u=Value.none
  | .bl b,u=>u=Value.bool b
  | .int i,u=>∃ t,u=Value.int i t
  | .str x,u=>∃ t,u=Value.str x t
  | .byt b,u=>∃ t,u=Value.bytes b t
  | .flt b,u=>∃ t,u=Value.float b t
  | .ref a,u=>u=Value.ref a
  | .ty n,u=>u=Value.type n
abbrev Vals:List V→List Value→Prop:=Paired RelV
theorem Vals.length {xs:List V} {us:List Value} (r:Vals xs us):xs.length=us.length:=Paired.length r
theorem Vals.get:∀ {xs:List V} {us:List Value} {i:Nat} {x:V},Vals xs us→xs[i]?=some x→∃ u,us[i]?=some u∧RelV x u
  | _,_,_,_,.nil,e=>by simp at e
  | _,_,0,_,.cons r _,e=>by simp at e; subst e; exact ⟨_,rfl,r⟩
  | _,_,i + 1,x,.cons _ t,e=>by
    obtain ⟨u,h1,h2⟩:=Vals.get (i:=i) (x:=x) t (by simpa using e)
    exact ⟨u,by simpa using h1,h2⟩
theorem Vals.set {x:V} {u:Value} (r:RelV x u):∀ {xs:List V} {us:List Value} (i:Nat),Vals xs us→Vals (xs.set i x) (us.set i u)
  | _,_,_,.nil=>.nil
  | _,_,0,.cons _ t=>.cons r t
  | _,_,i + 1,.cons q t=>.cons q (Vals.set r i t)
theorem Vals.append:∀ {xs ys:List V} {us ws:List Value},Vals xs us→Vals ys ws→Vals (xs ++ ys) (us ++ ws)
  | _,_,_,_,.nil,s=>s
  | _,_,_,_,.cons r t,s=>.cons r (Vals.append t s)
theorem Vals.take:∀ {xs:List V} {us:List Value} (n:Nat),Vals xs us→Vals (xs.take n) (us.take n)
  | _,_,0,_=>.nil
  | _,_,_ + 1,.nil=>.nil
  | _,_,n + 1,.cons r t=>.cons r (Vals.take n t)
theorem Vals.drop:∀ {xs:List V} {us:List Value} (n:Nat),Vals xs us→Vals (xs.drop n) (us.drop n)
  | _,_,0,r=>r
  | _,_,_ + 1,.nil=>.nil
  | _,_,n + 1,.cons _ t=>Vals.drop n t
def RelO:Option V→Option Value→Prop
  | some v,some u=>RelV v u
  | none,none=>True
  | _,_=>False
def KV {κ:Type}:List (κ × V)→List (κ × Value)→Prop:=Paired fun (p:κ × V) (q:κ × Value)=>p.1=q.1∧RelV p.2 q.2
def kV:Key→V
  | .inl i=>.int i
  | .inr x=>.str x
inductive HO where
  | lst (xs:List V)
  | tup (xs:List V)
  | dK (kvs:List (Key × V)) | dT (kvs:List (List Key × V))
  | set (S:Int→Bool) (n:Nat)
  | ins (C dx:Addr) (fs:List (Str × V))
  | own (x:Addr)
  | xd (fs:List (Str × V))
  | met (f x:Addr)
  | rng (lo hi:Int)
  | frz (o:Obj) (u:HO)
  | tbl (ps:Array Value)
  | ext (φ:Heap→Prop)
abbrev Hp:=Addr→Option HO
def upd (H:Hp) (a:Addr) (o:HO):Hp:=fun b=>if b=a then some o else H b
theorem zaR {H:Hp} {a:Addr} {o:HO}:upd H a o a=some o:=by unfold upd; rw [if_pos rfl]
theorem zaA {H:Hp} {a b:Addr} {o:HO} (h:b ≠ a):upd H a o b=H b:=by unfold upd; rw [if_neg h]
theorem zq8 {H:Hp} {a b:Addr} {o u:HO} (h:H a=some o) (h':H b=some u) (d:o ≠ u):a ≠ b:=by
  intro e; subst e; rw [h] at h'; exact d (Option.some.inj h')
theorem zaI {H:Hp} {a b:Addr} {o:HO} (h:H a=some o) (h':H b=none):a ≠ b:=by
  intro e; subst e; rw [h] at h'; cases h'
def zp7 (fd:FuncData):Option Pos :=
  match fd.body with
  | .stmts [.Return (some (.Call _ _ [⟨_,.Lambda _ _ _ pos,_⟩] _)) _]=>some pos
  | _=>none
def tabAt (K:PySem.W.Frag) (v:Value):Option Addr :=
  match v with
  | .ref c=>match K.lookup c with
    | some o=>match o.data with
      | .fields vs=>match (vs[11]?:Option Value) with
        | some (.ref P)=>some P
        | _=>none
      | _=>none
    | _=>none
  | _=>none
def tabOf (K:PySem.W.Frag):Option (Addr × Array Value) :=
  K.findSome? fun p=>match p.2.data with
    | .func fd=>match zp7 fd with
      | some pos=>(tabAt K fd.code).map fun P=>(P,#[.str (fd.qualname ++ ".<locals>." ++ "<lambda>") 0,rawInt pos.line,rawInt pos.col])
      | none=>none
    | _=>none
def TblOk (H:Hp) (h:Heap) (a:Addr) (ps:Array Value):Prop :=
  ∃ (q:Str) (t:Tok) (ln cl:Int) (more:List Value) (real:Array Value),ps.toList = .str q t :: rawInt ln :: rawInt cl :: more∧h.get? a=some { cls:=.none,data:=.fields real } ∧
    (real = #[]∨∃ (c:Addr) (o:Obj) (vs:Array Value) (u:Tok),real = #[rawInt ln,rawInt cl,.ref c]∧H c=some (.own a)∧h.get? c=some o∧o.data = .fields vs∧vs[1]?=some (.str q u))
theorem TblOk.lt {H:Hp} {h:Heap} {a:Addr} {ps:Array Value} (x:TblOk H h a ps):a < h.objs.size:=by
  obtain ⟨_,_,_,_,_,_,_,e,_⟩:=x
  exact Heap.lt_size e
theorem TblOk.stay {H H':Hp} {h h':Heap} {a:Addr} {ps:Array Value} (x:TblOk H h a ps) (k:∀ b u,(b=a∨H b=some (.own a))→h.get? b=some u→h'.get? b=some u)
    (ho:∀ b,H b=some (.own a)→H' b=some (.own a)):TblOk H' h' a ps:=by
  obtain ⟨q,t,ln,cl,more,real,e1,e2,e3⟩:=x
  refine ⟨q,t,ln,cl,more,real,e1,k _ _ (.inl rfl) e2,?_⟩
  rcases e3 with e3 | ⟨c,o,vs,u,r1,r2,r3,r4⟩
  · exact .inl e3
  · exact .inr ⟨c,o,vs,u,r1,ho _ r2,k _ _ (.inr r2) r3,r4⟩
def TbAt (K:PySem.W.Frag) (H:Hp):Prop:=∀ t,tabOf K=some t→∃ more,H t.1=some (.tbl (t.2 ++ more))
theorem TbAt.none {K:PySem.W.Frag} {H:Hp} (h:tabOf K = .none):TbAt K H:=fun t e=>by rw [h] at e; cases e
theorem TbAt.grown {K:PySem.W.Frag} {H H':Hp} (x:TbAt K H) (g:∀ b ps,H b=some (.tbl ps)→∃ more,H' b=some (.tbl (ps ++ more))):TbAt K H':=fun t e=>by
  obtain ⟨m1,e1⟩:=x t e
  obtain ⟨m2,e2⟩:=g _ _ e1
  exact ⟨m1 ++ m2,by rw [e2,Array.append_assoc]⟩
section
variable (P:Program) (w:World)
def ObjOk (H:Hp) (h:Heap) (a:Addr):HO→Prop
  | .lst xs=>xs.length ≤ sizeLine∧∃ (its:List Value) (n:Nat),Vals xs its∧h.get? a=some { cls:=.type "list",data:=.seq its.toArray n }
  | .tup xs=>xs.length ≤ sizeLine∧∃ its:List Value,Vals xs its∧IsTup h a its.toArray
  | .dK kvs=>kvs.length ≤ sizeLine∧(a == sysModules)=false∧∃ vs,KV kvs vs∧h.DictOf (zcV P w) a vs
  | .dT kvs=>kvs.length ≤ sizeLine∧(a == sysModules)=false∧∃ xs:List (List Key × Addr × Value),
      Paired (fun (p:List Key × V) (q:List Key × Addr × Value)=>p.1=q.1∧H q.2.1=some (.tup (p.1.map kV))∧RelV p.2 q.2.2) kvs xs ∧
      ∃ o es ep,h.get? a=some o∧o.ExactDict∧o.data = .dict es ep∧es.toList=xs.map (entryOfKey (tupleKind (zcV P w)))∧(xs.map (·.1)).Nodup
  | .set S n=>h.SetOf (intKind P w) a S n
  | .ins C dx fs=>H dx=some (.own a)∧fs.length ≤ 1000∧dx ≠ a∧h.get? a=some (PySem.W.instObj C dx) ∧
      ∃ mA,h.Ns1 dx mA∧(∀ f,RelO (fs.lookup f) (mA f))∧PySem.Within mA (fs.map (·.1))
  | .own _=>∃ o,h.get? a=some o
  | .xd fs=>∃ mA,h.Ns1 a mA∧∀ f,RelO (fs.lookup f) (mA f)
  | .rng lo hi=>∃ t u v,h.get? a=some { cls:=.type "range",data:=.fields #[.int lo t,.int hi u,.int 1 v] }
  | .frz o u=>h.get? a=some o∧ObjOk H h a u
  | .tbl ps=>TblOk H h a ps
  | .met f x=>h.get? a=some (PySem.W.methodObj (.ref f) (.ref x))
  | .ext φ=>φ h∧(∃ o,h.get? a=some o)∧∀ h1 h2:Heap,φ h1→(∀ o,h1.get? a=some o→h2.get? a=some o)→φ h2
def HOk (H:Hp) (h:Heap):Prop:=∀ a o,H a=some o→ObjOk P w H h a o
end
section
variable {P:Program} {w:World} {H H':Hp} {h h':Heap} {a:Addr} {o:HO}
theorem ObjOk.lt (x:ObjOk P w H h a o):a < h.objs.size:=by
  cases o with
  | lst xs=>obtain ⟨_,_,_,_,e⟩:=x; exact Heap.lt_size e
  | tup xs=>obtain ⟨_,_,_,p⟩:=x; exact p.lt
  | dK kvs=>obtain ⟨_,_,_,_,o,_,_,e,_⟩:=x; exact Heap.lt_size e
  | dT kvs=>obtain ⟨_,_,_,_,o,_,_,e,_⟩:=x; exact Heap.lt_size e
  | set S n=>obtain ⟨o,_,_,_,e,_⟩:=x; exact Heap.lt_size e
  | ins C dx fs=>obtain ⟨_,_,_,e,_⟩:=x; exact Heap.lt_size e
  | own y=>obtain ⟨_,e⟩:=x; exact Heap.lt_size e
  | xd fs=>obtain ⟨_,⟨_,_,_,e,_⟩,_⟩:=x; exact Heap.lt_size e
  | rng lo hi=>obtain ⟨_,_,_,e⟩:=x; exact Heap.lt_size e
  | frz ob u=>obtain ⟨e,_⟩:=x; exact Heap.lt_size e
  | tbl ps=>exact TblOk.lt x
  | met f y=>exact Heap.lt_size (show h.get? a=some _ from x)
  | ext φ=>obtain ⟨_,⟨_,e⟩,_⟩:=x; exact Heap.lt_size e
theorem Paired.mapP {α β:Type} {F G:α→β→Prop}:∀ {l₁:List α} {l₂:List β},Paired F l₁ l₂→(∀ a b,F a b→G a b)→Paired G l₁ l₂
  | _,_,.nil,_=>.nil
  | _,_,.cons r t,f=>.cons (f _ _ r) (Paired.mapP t f)
theorem ObjOk.stay (x:ObjOk P w H h a o) (k:∀ b u,(b=a∨H b=some (.own a))→h.get? b=some u→h'.get? b=some u)
    (ho:∀ b,H b=some (.own a)→H' b=some (.own a)) (ht:∀ b xs,H b=some (.tup xs)→H' b=some (.tup xs)):ObjOk P w H' h' a o:=by
  induction o with
  | lst xs=>obtain ⟨z,its,n,r,e⟩:=x; exact ⟨z,its,n,r,k _ _ (.inl rfl) e⟩
  | tup xs=>obtain ⟨z,its,r,ob,e,c⟩:=x; exact ⟨z,its,r,ob,k _ _ (.inl rfl) e,c⟩
  | dK kvs=>obtain ⟨z,y,vs,r,ob,es,ep,e,c⟩:=x; exact ⟨z,y,vs,r,ob,es,ep,k _ _ (.inl rfl) e,c⟩
  | dT kvs =>
    obtain ⟨z,y,xs,r,ob,es,ep,e,c⟩:=x
    exact ⟨z,y,xs,Paired.mapP r fun p q z=>⟨z.1,ht _ _ z.2.1,z.2.2⟩,ob,es,ep,k _ _ (.inl rfl) e,c⟩
  | set S n=>obtain ⟨ob,es,ep,t,e,c⟩:=x; exact ⟨ob,es,ep,t,k _ _ (.inl rfl) e,c⟩
  | ins C dx fs =>
    obtain ⟨d,z,ne,e,mA,⟨od,es,ep,e2,c⟩,r⟩:=x
    exact ⟨ho _ d,z,ne,k _ _ (.inl rfl) e,mA,⟨od,es,ep,k _ _ (.inr d) e2,c⟩,r⟩
  | own y=>obtain ⟨ob,e⟩:=x; exact ⟨ob,k _ _ (.inl rfl) e⟩
  | xd fs=>obtain ⟨mA,⟨od,es,ep,e,c⟩,r⟩:=x; exact ⟨mA,⟨od,es,ep,k _ _ (.inl rfl) e,c⟩,r⟩
  | rng lo hi=>obtain ⟨t,u,v,e⟩:=x; exact ⟨t,u,v,k _ _ (.inl rfl) e⟩
  | frz ob u ih=>obtain ⟨e,q⟩:=x; exact ⟨k _ _ (.inl rfl) e,ih q⟩
  | tbl ps=>exact TblOk.stay x k ho
  | met f y =>
    have e:h.get? a=some (PySem.W.methodObj (.ref f) (.ref y)):=x
    show h'.get? a=some (PySem.W.methodObj (.ref f) (.ref y))
    exact k a _ (.inl rfl) e
  | ext φ=>obtain ⟨p,⟨o,e⟩,st⟩:=x; exact ⟨st _ _ p fun o q=>k _ _ (.inl rfl) q,⟨o,k _ _ (.inl rfl) e⟩,st⟩
theorem HOk.lt (x:HOk P w H h) (e:H a=some o):a < h.objs.size:=(x a o e).lt
theorem HOk.fresh (x:HOk P w H h) (e:h.objs.size ≤ a):H a=none:=by
  cases q:H a with
  | none=>rfl
  | some u=>exact absurd (Nat.lt_of_lt_of_le (x.lt q) e) (Nat.lt_irrefl _)
theorem HOk.kept (x:HOk P w H h) (k:∀ b u,h.get? b=some u→h'.get? b=some u):HOk P w H h':=fun a o e =>
  (x a o e).stay (fun b u _ q=>k b u q) (fun _ q=>q) fun _ _ q=>q
theorem HOk.laid (x:HOk P w H h) (k:∀ b u,h.get? b=some u→h'.get? b=some u) (hp:h.objs.size ≤ a) (new:ObjOk P w (upd H a o) h' a o):HOk P w (upd H a o) h':=fun b u e=>by
  have hn:=x.fresh hp
  by_cases hb:b=a
  · subst hb; rw [zaR] at e; cases e; exact new
  · rw [zaA hb] at e
    exact (x b u e).stay (fun c v _ q=>k c v q) (fun c q=>by rw [zaA (zaI q hn)]; exact q) fun c xs q=>by rw [zaA (zaI q hn)]; exact q
end
def Rd (H:Hp) (a:Addr) (u:HO):Prop:=H a=some u∨∃ o,H a=some (.frz o u)
theorem Rd.ok {P:Program} {w:World} {H:Hp} {h:Heap} {a:Addr} {u:HO} (r:Rd H a u) (x:HOk P w H h):ObjOk P w H h a u:=by
  rcases r with r | ⟨o,r⟩
  · exact x a u r
  · obtain ⟨_,q⟩:=x a _ r
    exact q
def Mut:Option HO→Prop
  | some (.lst _)=>True
  | some (.dK _)=>True
  | some (.dT _)=>True
  | some (.set _ _)=>True
  | some (.ins _ _ _)=>True
  | some (.ext _)=>True
  | _=>False
section
variable {P:Program} {w:World} {H:Hp} {h h':Heap} {x e:Addr} {o':HO}
theorem HOk.write (ok:HOk P w H h) (mu:Mut (H x)) (he:e=x∨H e=some (.own x)) (k:∀ b u,b ≠ e→h.get? b=some u→h'.get? b=some u) (heo:∃ u,h'.get? e=some u)
    (new:ObjOk P w (upd H x o') h' x o'):HOk P w (upd H x o') h':=fun b u q=>by
  have nown:∀ c y,H c=some (.own y)→c ≠ x:=fun c y r z=>by subst z; rw [r] at mu; exact mu
  have ntup:∀ c xs,H c=some (.tup xs)→c ≠ x:=fun c xs r z=>by subst z; rw [r] at mu; exact mu
  by_cases hb:b=x
  · subst hb; rw [zaR] at q; cases q; exact new
  · rw [zaA hb] at q
    by_cases hbe:b=e
    · have q':H b=some (.own x):=by
        rcases he with z | z
        · exact absurd (hbe.trans z) hb
        · rw [hbe]; exact z
      rw [q] at q'; cases q'
      obtain ⟨v,hv⟩:=heo
      exact ⟨v,by rw [hbe]; exact hv⟩
    · refine (ok b u q).stay (fun c v hc r=>k c v ?_ r) (fun c r=>by rw [zaA (nown c b r)]; exact r) fun c xs r=>by rw [zaA (ntup c xs r)]; exact r
      rcases hc with rfl | hc
      · exact hbe
      · rintro rfl
        rcases he with z | z
        · exact nown c b hc z
        · rw [hc] at z; cases z; exact hb rfl
end
structure Un (fs ex:List Addr) (H H':Hp) (h h':Heap):Prop where
  keep:∀ b o,h.get? b=some o→H b=none→b ∉ fs→b ∉ ex→h'.get? b=some o
  slot:∀ b o,h.get? b=some o→H b=none→b ∈ fs→b ∉ ex→∃ sl,h'.get? b=some { o with slots:=sl }
  free:∀ b o,h.get? b=some o→H b=none→b ∉ ex→H' b=none
  there:∀ b o,h.get? b=some o→b ∉ ex→∃ o',h'.get? b=some o'
  tups:∀ b xs,H b=some (.tup xs)→H' b=some (.tup xs)
  frzs:∀ b o u,H b=some (.frz o u)→H' b=some (.frz o u)
  tbls:∀ b ps,H b=some (.tbl ps)→∃ more,H' b=some (.tbl (ps ++ more))
section
variable {fs fs' ex ex':List Addr} {H H1 H2:Hp} {h h1 h2 h':Heap} {a x e:Addr} {o:HO}
theorem Un.any (u:Un fs ex H H1 h h1) {b:Addr} {ob:Obj} (q:h.get? b=some ob) (n:H b=none) (hx:b ∉ ex):∃ sl,h1.get? b=some { ob with slots:=sl }:=by
  by_cases hb:b ∈ fs
  · exact u.slot b ob q n hb hx
  · exact ⟨ob.slots,u.keep b ob q n hb hx⟩
theorem Un.kept (k:∀ b u,h.get? b=some u→h'.get? b=some u):Un fs ex H H h h' :=
  ⟨fun b ob q _ _ _=>k b ob q,fun b ob q _ _ _=>⟨ob.slots,k b ob q⟩,fun _ _ _ n _=>n,fun b ob q _=>⟨ob,k b ob q⟩,fun _ _ q=>q,fun _ _ _ q=>q,fun _ ps q=>⟨#[],by rw [q]; simp⟩⟩
theorem Un.refl:Un fs ex H H h h:=Un.kept fun _ _ q=>q
theorem Un.laid (k:∀ b u,h.get? b=some u→h'.get? b=some u) (hp:h.objs.size ≤ a) (hn:H a=none):Un fs ex H (upd H a o) h h' where
  keep:=fun b u q _ _ _=>k b u q
  slot:=fun b u q _ _ _=>⟨u.slots,k b u q⟩
  free:=fun b u q n _=>by rw [zaA (Nat.ne_of_lt (Nat.lt_of_lt_of_le (Heap.lt_size q) hp))]; exact n
  there:=fun b u q _=>⟨u,k b u q⟩
  tups:=fun b xs q=>by rw [zaA (zaI q hn)]; exact q
  frzs:=fun b u xs q=>by rw [zaA (zaI q hn)]; exact q
  tbls:=fun b ps q=>⟨#[],by rw [zaA (zaI q hn),q]; simp⟩
theorem Un.write (mu:Mut (H x)) (he:e=x∨H e=some (.own x)) (k:∀ b u,b ≠ e→h.get? b=some u→h'.get? b=some u) (heo:∃ u,h'.get? e=some u):Un fs ex H (upd H x o) h h':=by
  have hx:∀ b,H b=none→b ≠ x:=fun b n z=>by subst z; rw [n] at mu; exact mu
  have hb:∀ b,H b=none→b ≠ e:=fun b n z=>by
    subst z
    rcases he with r | r
    · exact hx b n r
    · rw [n] at r; cases r
  have hm:∀ b u,H b=some u→¬ Mut (some u)→b ≠ x:=fun b u q nm z=>by subst z; rw [q] at mu; exact nm mu
  refine ⟨fun b u q n _ _=>k b u (hb b n) q,fun b u q n _ _=>⟨u.slots,k b u (hb b n) q⟩,fun b u q n _=>by rw [zaA (hx b n)]; exact n,fun b u q _=>?_,
    fun b xs q=>by rw [zaA (hm b _ q fun z=>z)]; exact q,fun b u xs q=>by rw [zaA (hm b _ q fun z=>z)]; exact q,fun b ps q=>⟨#[],by rw [zaA (hm b _ q fun z=>z),q]; simp⟩⟩
  by_cases hbe:b=e
  · subst hbe; exact heo
  · exact ⟨u,k b u hbe q⟩
end
def trk (h:Heap) (H:Hp):List Addr:=(List.range h.objs.size).filter fun a=>(H a).isSome
def hidT (h:Heap) (H:Hp):Heap:=PySem.W.hideAll h (trk h H)
theorem zmg (h:Heap) (H:Hp):(hidT h H).objs.size=h.objs.size:=PySem.W.hideAll_size _ _
theorem zn4 {h:Heap} {H:Hp} {b:Addr} {o:Obj} (e:h.get? b=some o) (n:H b=none):(hidT h H).get? b=some o :=
  PySem.W.hideAll_get _ e fun hm=>by
    have q:(H b).isSome=true:=(List.mem_filter.mp hm).2
    rw [n] at q; simp at q
theorem zpI {h:Heap} {H:Hp} {b:Addr} {o:Obj} (e:(hidT h H).get? b=some o):h.get? b=some o∧H b=none:=by
  have e':h.get? b=some o:=PySem.W.of_hideAll (trk h H) e
  refine ⟨e',?_⟩
  cases q:H b with
  | none=>rfl
  | some x =>
    have hm:b ∈ trk h H:=List.mem_filter.mpr ⟨List.mem_range.mpr (Heap.lt_size e'),by simp [q]⟩
    have z:(hidT h H).get? b=none:=PySem.W.hideAll_none (trk h H) hm
    rw [z] at e; cases e
def zq9 (g h:Heap) (L:Addr):List (Addr × Obj):=(List.range h.objs.size).filterMap fun a=>if a=L∨(g.get? a).isSome=true then none else (h.get? a).map fun o=>(a,o)
end L2
namespace L2
open PySem PySem.Spec PyProof.Rows
structure Mod (K:PySem.W.Frag) (mg:Str→Option Value) (base:Heap):Prop where
  kin:K.In base
  glob:base.Ns mainGlobals mg
  blt:∃ mb,base.Ns builtinsNs mb∧∀ x:Str,x ≠ "__name__"→mb x=bootBuiltins x
  nolimit:base.NoLimit
structure Cx where
  prog:Program
  w:World
  K:PySem.W.Frag
  mg:Str→Option Value
  base:Heap
  A:Around
  N:List Str
  s₀:Shared
  H₀:Hp
  env:Env
  outer:List Env
  stack:List Env
  ex:List Addr
  fn:Str→Bool
  calm:Bool
  pn:List (Addr × Obj)
  xe:Value→Shared→Prop
def frs (l:List Env):List Addr:=l.filterMap (·.frame)
abbrev Cx.fs (X:Cx):List Addr:=frs X.outer
def Vis (sc:Scope) (x:Str):Prop:=sc.names.lookup x=some .local∨sc.names.lookup x=some .cell∨sc.names.lookup x=some .free
def Loc (sc:Scope) (x:Str):Prop:=sc.names.lookup x=some .local∨sc.names.lookup x=some .cell
def Look (env:Env) (h:Heap) (m:Str→Option Value) (x:Str) (u:Value):Prop :=
  (env.kindOf x=some .local∧m x=some u)∨((env.kindOf x=some .cell∨env.kindOf x=some .free)∧∃ c,env.cells.lookup x=some c∧h.IsCell c (some u))
structure Cx.Ok (X:Cx):Prop where
  mod:Mod X.K X.mg X.base
  kind:X.env.scope.kind = .function
  glob:X.env.globals=mainGlobals
  blt:X.env.builtins=builtinsNs
  above:X.s₀.heap.objs.size ≤ X.env.locals
  inj:∀ x y c,X.env.cells.lookup x=some c→X.env.cells.lookup y=some c→x=y
  has:∀ x,(X.env.kindOf x=some .cell∨X.env.kindOf x=some .free)→∃ c,X.env.cells.lookup x=some c
  cab:∀ x c,X.fn x=true→X.env.cells.lookup x=some c→X.s₀.heap.objs.size ≤ c
  hd:X.calm=true→X.A.handled=none
  frames:X.A.frames=some X.stack
  stk:X.stack=X.outer∨(X.stack=X.env :: X.outer∧X.env.frame=some X.env.locals)
  exf:∀ b ∈ X.ex,b ≠ X.env.locals∧∀ x c,X.env.cells.lookup x=some c→c ≠ b
  bs:∀ b o,X.base.get? b=some o→X.s₀.heap.get? b=some o∧X.H₀ b=none
  bsz:X.base.objs.size ≤ X.s₀.heap.objs.size
  noex:∀ b o,X.base.get? b=some o→b ∉ X.ex
  exfs:∀ b ∈ X.ex,b ∉ X.fs
  funs:X.s₀.heap.FunFrames X.base X.outer
  frf:∀ b ∈ X.fs,X.H₀ b=none
  tb:TbAt X.K X.H₀
structure Inv (X:Cx) (pins:List (Addr × Obj)) (σ:List (Option V)) (H:Hp) (s:Shared):Prop where
  ok:X.Ok
  os:s.os=X.s₀.os
  bare:AllBare s.gens
  base:Un X.fs X.ex X.H₀ H X.s₀.heap s.heap
  loc:∃ m,s.heap.Ns X.env.locals m∧∀ (i:Nat) (x:Str) (v:V),X.N[i]?=some x→σ[i]?=some (some v)→Vis X.env.scope x→∃ u,RelV v u∧Look X.env s.heap m x u
  cell:∀ x c,X.env.cells.lookup x=some c→∃ v,s.heap.IsCell c v
  free:H X.env.locals=none
  freeC:∀ x c,X.env.cells.lookup x=some c→H c=none
  pin:∀ p ∈ X.pn ++ pins,s.heap.get? p.1=some p.2∧H p.1=none∧p.1 ≠ X.env.locals∧p.1 ∉ X.fs∧∀ v,p.2.data ≠ .cell v
  hok:HOk X.prog X.w H s.heap
  len:σ.length=X.N.length
section
variable {X:Cx} {pins:List (Addr × Obj)} {σ:List (Option V)} {H H':Hp} {s:Shared} {h':Heap}
theorem Cx.Ok.nofr (ok:X.Ok) {b:Addr} {o:Obj} (e:X.base.get? b=some o):b ∉ X.fs:=fun hb=>by
  have:=(ok.funs.mem hb).1
  rw [e] at this; cases this
theorem Inv.bs (I:Inv X pins σ H s):∀ b o,X.base.get? b=some o→s.heap.get? b=some o∧H b=none:=fun b o e =>
  ⟨I.base.keep b o (I.ok.bs b o e).1 (I.ok.bs b o e).2 (I.ok.nofr e) (I.ok.noex b o e),I.base.free b o (I.ok.bs b o e).1 (I.ok.bs b o e).2 (I.ok.noex b o e)⟩
theorem Inv.bk (I:Inv X pins σ H s):∀ b o,X.base.get? b=some o→s.heap.get? b=some o:=fun b o e=>(I.bs b o e).1
theorem Inv.mod (I:Inv X pins σ H s):Mod X.K X.mg X.base:=I.ok.mod
theorem Inv.kIn (I:Inv X pins σ H s):X.K.In s.heap:=I.ok.mod.kin.keeps I.bk
theorem Inv.lt (I:Inv X pins σ H s):X.env.locals < s.heap.objs.size:=let ⟨_,hn,_⟩:=I.loc; hn.lt
theorem Inv.sz (I:Inv X pins σ H s):X.s₀.heap.objs.size ≤ s.heap.objs.size:=Nat.le_trans I.ok.above (Nat.le_of_lt I.lt)
theorem Inv.nofs (I:Inv X pins σ H s) {a:Addr} (h:s.heap.objs.size ≤ a):a ∉ X.fs:=fun hb=>by
  obtain ⟨_,o,ho,_⟩:=I.ok.funs.mem hb
  exact absurd (Nat.lt_of_lt_of_le (Heap.lt_size ho) (Nat.le_trans I.sz h)) (Nat.lt_irrefl _)
theorem Inv.cne (I:Inv X pins σ H s):∀ x c,X.env.cells.lookup x=some c→c ≠ X.env.locals:=fun x c e z=>by
  obtain ⟨v,o,ho,hd⟩:=I.cell x c e
  obtain ⟨m,⟨o',es,ep,ho',hd',_⟩,_⟩:=I.loc
  rw [z,ho'] at ho; cases ho; rw [hd'] at hd; cases hd
theorem Inv.funs (I:Inv X pins σ H s):s.heap.FunFrames X.base X.outer:=by
  have all:∀ (l:List Env),(∀ b ∈ frs l,b ∈ X.fs)→X.s₀.heap.FunFrames X.base l→s.heap.FunFrames X.base l:=by
    intro l
    induction l with
    | nil=>intro _ _; trivial
    | cons env r ih =>
      intro hs hl
      obtain ⟨hk,⟨L,o,hf,hn,ho,hd⟩,hr⟩:=hl
      have hL:L ∈ X.fs:=hs L (by unfold frs; rw [List.filterMap_cons,hf]; exact List.mem_cons_self)
      obtain ⟨sl,e⟩:=I.base.slot L o ho (I.ok.frf L hL) hL fun z=>I.ok.exfs L z hL
      exact ⟨hk,⟨L,_,hf,hn,e,hd⟩,ih (fun b hb=>hs b (by unfold frs; rw [List.filterMap_cons,hf]; exact List.mem_cons_of_mem _ hb)) hr⟩
  exact all X.outer (fun _ hb=>hb) I.ok.funs
theorem Inv.stack (I:Inv X pins σ H s):s.heap.FunFrames X.base X.stack:=by
  rcases I.ok.stk with e | ⟨e,hf⟩
  · rw [e]; exact I.funs
  · rw [e]
    obtain ⟨m,hn,_⟩:=I.loc
    refine .cons (by rw [I.ok.kind]; decide) hf hn ?_ I.funs
    exact Heap.get?_none_of_le (Nat.le_trans I.ok.bsz I.ok.above)
theorem Inv.stkSub (I:Inv X pins σ H s):∀ b ∈ frs X.stack,b ∈ X.env.locals :: X.fs:=fun b hb=>by
  rcases I.ok.stk with e | ⟨e,hf⟩
  · rw [e] at hb; exact List.mem_cons_of_mem _ hb
  · rw [e] at hb
    unfold frs at hb
    rw [List.filterMap_cons,hf] at hb
    exact hb
theorem Inv.stkFree (I:Inv X pins σ H s):∀ b ∈ frs X.stack,H b=none:=fun b hb=>by
  rcases List.mem_cons.mp (I.stkSub b hb) with e | hb
  · rw [e]; exact I.free
  · obtain ⟨_,o,ho,_⟩:=I.ok.funs.mem hb
    exact I.base.free b o ho (I.ok.frf b hb) fun z=>I.ok.exfs b z hb
theorem Inv.step {g':Array GenState} {t':Nat} {d':Drawn} {ch:List Addr} (I:Inv X pins σ H s)
    (hch:∀ b ∈ ch,(b ∈ X.ex∨X.s₀.heap.objs.size ≤ b)∧b ≠ X.env.locals∧(∀ x c,X.env.cells.lookup x=some c→c ≠ b)∧∀ p ∈ X.pn ++ pins,p.1 ≠ b)
    (keep:∀ b o,b ≠ X.env.locals→b ∉ X.fs→b ∉ ch→s.heap.get? b=some o→H b=none→h'.get? b=some o)
    (slot:∀ b o,b ≠ X.env.locals→b ∈ X.fs→b ∉ ch→s.heap.get? b=some o→H b=none→∃ sl,h'.get? b=some { o with slots:=sl }) (free:∀ b o,b ∉ ch→s.heap.get? b=some o→H b=none→H' b=none)
    (there:∀ b o,b ∉ ch→s.heap.get? b=some o→∃ o',h'.get? b=some o')
    (tups:∀ b xs,H b=some (.tup xs)→H' b=some (.tup xs)) (frzs:∀ b o u,H b=some (.frz o u)→H' b=some (.frz o u)) (tbls:∀ b ps,H b=some (.tbl ps)→∃ more,H' b=some (.tbl (ps ++ more)))
    (ns:∀ m,s.heap.Ns X.env.locals m→h'.Ns X.env.locals m) (hok:HOk X.prog X.w H' h') (hg:AllBare g') :
    Inv X pins σ H' { s with heap:=h',gens:=g',drawn:=d',toks:=t' }:=by
  have neL:∀ b o,X.s₀.heap.get? b=some o→b ≠ X.env.locals:=fun b o e=>Nat.ne_of_lt (Nat.lt_of_lt_of_le (Heap.lt_size e) I.ok.above)
  have neC:∀ b o,X.s₀.heap.get? b=some o→b ∉ X.ex→b ∉ ch:=fun b o e hx hb=>by
    rcases (hch b hb).1 with z | z
    · exact hx z
    · exact absurd (Nat.lt_of_lt_of_le (Heap.lt_size e) z) (Nat.lt_irrefl _)
  have cellK:∀ x c,X.env.cells.lookup x=some c→∀ v,s.heap.IsCell c v→h'.IsCell c v:=fun x c e v ⟨o,ho,hd⟩=>by
    have nch:c ∉ ch:=fun z=>(hch c z).2.2.1 x c e rfl
    by_cases hc:c ∈ X.fs
    · obtain ⟨sl,q⟩:=slot c o (I.cne x c e) hc nch ho (I.freeC x c e)
      exact ⟨_,q,hd⟩
    · exact ⟨o,keep c o (I.cne x c e) hc nch ho (I.freeC x c e),hd⟩
  refine ⟨I.ok,I.os,hg,⟨fun b o e n hb hx=>?_,fun b o e n hb hx=>?_,fun b o e n hx=>?_,fun b o e hx=>?_,fun b xs e=>tups b xs (I.base.tups b xs e),fun b o xs e=>frzs b o xs (I.base.frzs b o xs e),fun b ps e=>?_⟩,?_,fun x c e=>?_,?_,fun x c e=>?_,fun p hp=>?_,hok,I.len⟩
  · exact keep b o (neL b o e) hb (neC b o e hx) (I.base.keep b o e n hb hx) (I.base.free b o e n hx)
  · obtain ⟨sl,e1⟩:=I.base.slot b o e n hb hx
    obtain ⟨sl',e2⟩:=slot b _ (neL b o e) hb (neC b o e hx) e1 (I.base.free b o e n hx)
    exact ⟨sl',e2⟩
  · obtain ⟨o',e1⟩:=I.base.there b o e hx
    exact free b o' (neC b o e hx) e1 (I.base.free b o e n hx)
  · obtain ⟨o',e1⟩:=I.base.there b o e hx
    exact there b o' (neC b o e hx) e1
  · obtain ⟨m1,e1⟩:=I.base.tbls b ps e
    obtain ⟨m2,e2⟩:=tbls b _ e1
    exact ⟨m1 ++ m2,by rw [e2,Array.append_assoc]⟩
  · obtain ⟨m,hn,hl⟩:=I.loc
    refine ⟨m,ns m hn,fun i x v e1 e2 e3=>?_⟩
    obtain ⟨u,r,l⟩:=hl i x v e1 e2 e3
    refine ⟨u,r,?_⟩
    rcases l with l | ⟨k,c,e,z⟩
    · exact .inl l
    · exact .inr ⟨k,c,e,cellK x c e _ z⟩
  · obtain ⟨v,z⟩:=I.cell x c e
    exact ⟨v,cellK x c e v z⟩
  · obtain ⟨m,⟨o,_,_,ho,_⟩,_⟩:=I.loc
    exact free _ o (fun z=>(hch _ z).2.1 rfl) ho I.free
  · obtain ⟨v,o,ho,hd⟩:=I.cell x c e
    exact free c o (fun z=>(hch c z).2.2.1 x c e rfl) ho (I.freeC x c e)
  · obtain ⟨e,n,ne,nf,d⟩:=I.pin p hp
    have nch:p.1 ∉ ch:=fun z=>(hch p.1 z).2.2.2 p hp rfl
    exact ⟨keep p.1 p.2 ne nf nch e n,free p.1 p.2 nch e n,ne,nf,d⟩
theorem Inv.un {t':Nat} (I:Inv X pins σ H s) (u:Un X.fs [] H H' s.heap h') (hok:HOk X.prog X.w H' h'):Inv X pins σ H' { s with heap:=h',toks:=t' }:=by
  obtain ⟨m,⟨o,es,ep,ho,r⟩,_⟩:=id I.loc
  obtain ⟨sl,hL⟩:=u.any ho I.free (by simp)
  exact I.step (g':=s.gens) (d':=s.drawn) (ch:=[]) (fun _ z=>nomatch z) (fun b o _ hb _ e n=>u.keep b o e n hb (by simp)) (fun b o _ hb _ e n=>u.slot b o e n hb (by simp)) (fun b o _ e n=>u.free b o e n (by simp)) (fun b o _ e=>u.there b o e (by simp)) u.tups u.frzs u.tbls (fun m' hm=>by
    obtain ⟨o',es',ep',ho',r'⟩:=hm
    rw [ho] at ho'; cases ho'
    exact ⟨_,es',ep',hL,r'⟩) hok I.bare
theorem Inv.call {g':Array GenState} {t':Nat} {d':Drawn} {ch:List Addr} (I:Inv X pins σ H s) (u:Un (frs X.stack) ch H H' s.heap h') (hok:HOk X.prog X.w H' h') (hg:AllBare g')
    (hch:∀ b ∈ ch,(b ∈ X.ex∨X.s₀.heap.objs.size ≤ b)∧b ≠ X.env.locals∧(∀ x c,X.env.cells.lookup x=some c→c ≠ b)∧∀ p ∈ X.pn ++ pins,p.1 ≠ b) :
    Inv X pins σ H' { s with heap:=h',gens:=g',drawn:=d',toks:=t' }:=by
  obtain ⟨m,⟨o,es,ep,ho,r⟩,_⟩:=id I.loc
  obtain ⟨sl,hL⟩:=u.any ho I.free fun z=>(hch _ z).2.1 rfl
  exact I.step (ch:=ch) hch (fun b o hL hb hc e n=>u.keep b o e n (fun z=>(List.mem_cons.mp (I.stkSub b z)).elim hL hb) hc) (fun b o _ _ hc e n=>u.any e n hc) (fun b o hc e n=>u.free b o e n hc) (fun b o hc e=>u.there b o e hc) u.tups u.frzs u.tbls (fun m' hm=>by
    obtain ⟨o',es',ep',ho',r'⟩:=hm
    rw [ho] at ho'; cases ho'
    exact ⟨_,es',ep',hL,r'⟩) hok hg
theorem Inv.turned {t':Nat} {it:Addr} (I:Inv X pins σ H s) (k:∀ b o,b ≠ it→s.heap.get? b=some o→h'.get? b=some o) (hn:H it=none) (hL:it ≠ X.env.locals)
    (h1:it ∈ X.ex∨X.s₀.heap.objs.size ≤ it) (h2:∀ x c,X.env.cells.lookup x=some c→c ≠ it) (h3:∀ p ∈ X.pn ++ pins,p.1 ≠ it):Inv X pins σ H { s with heap:=h',toks:=t' }:=by
  have nit:∀ b u,H b=some u→b ≠ it:=fun b u e z=>by rw [z,hn] at e; cases e
  refine I.step (g':=s.gens) (d':=s.drawn) (ch:=[it]) (fun b hb=>?_) (fun b o _ _ hc e _=>k b o (fun z=>hc (by simp [z])) e) (fun b o _ _ hc e _=>⟨o.slots,k b o (fun z=>hc (by simp [z])) e⟩) (fun _ _ _ _ n=>n)
    (fun b o hc e=>⟨o,k b o (fun z=>hc (by simp [z])) e⟩) (fun _ _ e=>e) (fun _ _ _ e=>e) (fun b ps e=>⟨#[],by rw [e]; simp⟩) (fun m hm=>?_) (fun b u e=>?_) I.bare
  · have e:b=it:=by simpa using hb
    subst e
    exact ⟨h1,hL,h2,h3⟩
  · obtain ⟨o,es,ep,ho,r⟩:=hm
    exact ⟨o,es,ep,k _ o (Ne.symm hL) ho,r⟩
  · refine (I.hok b u e).stay (fun c v hc q=>k c v ?_ q) (fun _ q=>q) fun _ _ q=>q
    rcases hc with z | z
    · rw [z]; exact nit b u e
    · exact nit c _ z
theorem Inv.tok (I:Inv X pins σ H s) (t:Nat):Inv X pins σ H { s with toks:=t }:=I.un (h':=s.heap) (t':=t) Un.refl I.hok
theorem Inv.kept {t':Nat} (I:Inv X pins σ H s) (k:∀ b u,s.heap.get? b=some u→h'.get? b=some u):Inv X pins σ H { s with heap:=h',toks:=t' }:=I.un (Un.kept k) (I.hok.kept k)
theorem Inv.laid {a:Addr} {o:HO} {t':Nat} (I:Inv X pins σ H s) (k:∀ b u,s.heap.get? b=some u→h'.get? b=some u) (hp:s.heap.objs.size ≤ a) (new:ObjOk X.prog X.w (upd H a o) h' a o) :
    Inv X pins σ (upd H a o) { s with heap:=h',toks:=t' }:=I.un (Un.laid k hp (I.hok.fresh hp)) (I.hok.laid k hp new)
theorem Inv.write {x e:Addr} {o:HO} {t':Nat} (I:Inv X pins σ H s) (mu:Mut (H x)) (he:e=x∨H e=some (.own x)) (k:∀ b u,b ≠ e→s.heap.get? b=some u→h'.get? b=some u) (heo:∃ u,h'.get? e=some u)
    (new:ObjOk X.prog X.w (upd H x o) h' x o):Inv X pins σ (upd H x o) { s with heap:=h',toks:=t' }:=I.un (Un.write mu he k heo) (I.hok.write mu he k heo new)
theorem Inv.pins_of {pins':List (Addr × Obj)} (I:Inv X pins σ H s) (h:∀ p ∈ pins',s.heap.get? p.1=some p.2∧H p.1=none∧p.1 ≠ X.env.locals∧p.1 ∉ X.fs∧∀ v,p.2.data ≠ .cell v):Inv X pins' σ H s :=
  ⟨I.ok,I.os,I.bare,I.base,I.loc,I.cell,I.free,I.freeC,fun p hp=>(List.mem_append.mp hp).elim (fun z=>I.pin p (List.mem_append_left _ z)) (h p),I.hok,I.len⟩
theorem zk2 {N:List Str} (hN:N.Nodup) {i j:Nat} {x:Str} (a:N[i]?=some x) (b:N[j]?=some x):i=j:=by
  obtain ⟨h1,e1⟩:=List.getElem?_eq_some_iff.mp a
  obtain ⟨h2,e2⟩:=List.getElem?_eq_some_iff.mp b
  exact (List.getElem_inj hN).mp (e1.trans e2.symm)
theorem zmr {M:Model} {A:Around} {E:Value→Shared→Prop} {i:Nat} {x:Str} {v:V} {u:Value} {Q:Unit→Shared→Prop} (I:Inv X pins σ H s) (hN:X.N.Nodup) (hi:X.N[i]?=some x) (hx:Loc X.env.scope x) (r:RelV v u)
    (h:∀ s',Inv X pins (σ.set i (some v)) H s'→(∃ a,Heap.SameBut a s.heap s'.heap∧(a=X.env.locals∨X.env.cells.lookup x=some a))→Q () s') (hf:X.fn x=true∨X.env.scope.names.lookup x=some .local:=by first | exact .inl rfl | exact .inr rfl | assumption):wpAny M A (storeName X.env x u) Q E s:=by
  obtain ⟨m,hn,hl⟩:=id I.loc
  have hcls:(X.env.scope.kind == .class || (X.env.scope.kind == .module && X.env.locals != X.env.globals))=false:=by rw [I.ok.kind]; rfl
  have hiσ:i < σ.length:=by rw [I.len]; exact (List.getElem?_eq_some_iff.mp hi).1
  have cne:=I.cne
  have tracked:∀ {a:Addr} {h':Heap},(∃ o,s.heap.get? a=some o∧H a=none)→Heap.SameBut a s.heap h'→HOk X.prog X.w H h':=fun {a h'} ha hs b ob e=>by
    obtain ⟨_,_,hfree⟩:=ha
    refine (I.hok b ob e).stay (fun c w' hc q=>(hs.2 c ?_).trans q) (fun _ q=>q) fun _ _ q=>q
    rintro rfl
    rcases hc with rfl | hc
    · rw [hfree] at e; cases e
    · rw [hfree] at hc; cases hc
  rcases hx with hk | hk
  · refine wpAny_storeName_local hk hn (fun h' hn' hs=>?_) hcls
    obtain ⟨oL,_,_,hoL,_⟩:=id hn
    refine h _ ⟨I.ok,I.os,I.bare,⟨fun b o e n hb hx=>?_,fun b o e n hb hx=>?_,I.base.free,fun b o e hx=>?_,I.base.tups,I.base.frzs,I.base.tbls⟩,⟨_,hn',fun j y v' e1 e2 e3=>?_⟩,fun y c e=>?_,I.free,I.freeC,fun p hp=>?_,tracked ⟨oL,hoL,I.free⟩ hs,by simpa using I.len⟩ ⟨_,hs,.inl rfl⟩
    · exact (hs.2 b (Nat.ne_of_lt (Nat.lt_of_lt_of_le (Heap.lt_size e) I.ok.above))).trans (I.base.keep b o e n hb hx)
    · obtain ⟨sl,e1⟩:=I.base.slot b o e n hb hx
      exact ⟨sl,(hs.2 b (Nat.ne_of_lt (Nat.lt_of_lt_of_le (Heap.lt_size e) I.ok.above))).trans e1⟩
    · obtain ⟨o',e1⟩:=I.base.there b o e hx
      exact ⟨o',(hs.2 b (Nat.ne_of_lt (Nat.lt_of_lt_of_le (Heap.lt_size e) I.ok.above))).trans e1⟩
    · by_cases hj:j=i
      · subst hj
        rw [hi] at e1; cases e1
        rw [List.getElem?_set_self hiσ] at e2
        cases e2
        exact ⟨u,r,.inl ⟨hk,by simp⟩⟩
      · rw [List.getElem?_set_ne (Ne.symm hj)] at e2
        obtain ⟨u',r',q⟩:=hl j y v' e1 e2 e3
        refine ⟨u',r',?_⟩
        rcases q with ⟨k,e⟩ | ⟨k,c,e,z⟩
        · refine .inl ⟨k,?_⟩
          have:y ≠ x:=fun e=>hj (zk2 hN e1 (e ▸ hi))
          simp [this,e]
        · exact .inr ⟨k,c,e,z.sameBut hs (cne y c e)⟩
    · obtain ⟨w',z⟩:=I.cell y c e
      exact ⟨w',z.sameBut hs (cne y c e)⟩
    · obtain ⟨e,n,ne,nf,d⟩:=I.pin p hp
      exact ⟨(hs.2 p.1 ne).trans e,n,ne,nf,d⟩
  · have hfn:X.fn x=true:=by
      rcases hf with z | z
      · exact z
      · rw [z] at hk; cases hk
    obtain ⟨c,hc⟩:=I.ok.has x (.inl hk)
    obtain ⟨w',z⟩:=I.cell x c hc
    refine wpAny_storeName_cell I.ok.kind hk hc z (fun h' hc' hs=>?_)
    obtain ⟨oc,hoc,hocd⟩:=id z
    refine h { s with heap:=h' } ⟨I.ok,I.os,I.bare,⟨fun b o e n hb hx=>?_,fun b o e n hb hx=>?_,I.base.free,fun b o e hx=>?_,I.base.tups,I.base.frzs,I.base.tbls⟩,⟨m,hn.sameBut hs (Ne.symm (cne x c hc)),fun j y v' e1 e2 e3=>?_⟩,fun y c' e=>?_,I.free,I.freeC,fun p hp=>?_,tracked ⟨oc,hoc,I.freeC x c hc⟩ hs,by simpa using I.len⟩ ⟨c,hs,.inr hc⟩
    · exact (hs.2 b (Nat.ne_of_lt (Nat.lt_of_lt_of_le (Heap.lt_size e) (I.ok.cab x c hfn hc)))).trans (I.base.keep b o e n hb hx)
    · obtain ⟨sl,e1⟩:=I.base.slot b o e n hb hx
      exact ⟨sl,(hs.2 b (Nat.ne_of_lt (Nat.lt_of_lt_of_le (Heap.lt_size e) (I.ok.cab x c hfn hc)))).trans e1⟩
    · obtain ⟨o',e1⟩:=I.base.there b o e hx
      exact ⟨o',(hs.2 b (Nat.ne_of_lt (Nat.lt_of_lt_of_le (Heap.lt_size e) (I.ok.cab x c hfn hc)))).trans e1⟩
    · by_cases hj:j=i
      · subst hj
        rw [hi] at e1; cases e1
        rw [List.getElem?_set_self hiσ] at e2
        cases e2
        exact ⟨u,r,.inr ⟨.inl hk,c,hc,hc'⟩⟩
      · rw [List.getElem?_set_ne (Ne.symm hj)] at e2
        obtain ⟨u',r',q⟩:=hl j y v' e1 e2 e3
        refine ⟨u',r',?_⟩
        rcases q with q | ⟨k,c',e,z'⟩
        · exact .inl q
        · refine .inr ⟨k,c',e,z'.sameBut hs ?_⟩
          rintro rfl
          exact hj (zk2 hN e1 (I.ok.inj _ _ _ e hc ▸ hi))
    · by_cases hcc:c'=c
      · subst hcc; exact ⟨_,hc'⟩
      · obtain ⟨w2,z2⟩:=I.cell y c' e
        exact ⟨w2,z2.sameBut hs hcc⟩
    · obtain ⟨e,n,ne,nf,d⟩:=I.pin p hp
      refine ⟨(hs.2 p.1 ?_).trans e,n,ne,nf,d⟩
      intro q
      rw [q,hoc] at e
      have q':oc=p.2:=Option.some.inj e
      exact d w' (by rw [← q']; exact hocd)
theorem zf0 {M:Model} {A:Around} {E:Value→Shared→Prop} {i:Nat} {x:Str} {v:V} {u:Value} {Q:Unit→Shared→Prop} (I:Inv X pins σ H s) (hN:X.N.Nodup) (hi:X.N[i]?=some x) (hx:Loc X.env.scope x) (r:RelV v u)
    (h:∀ s',Inv X pins (σ.set i (some v)) H s'→Q () s') (hf:X.fn x=true∨X.env.scope.names.lookup x=some .local:=by first | exact .inl rfl | exact .inr rfl | assumption):wpAny M A (storeName X.env x u) Q E s :=
  zmr I hN hi hx r (fun s' I' _=>h s' I') hf
end
abbrev XK:=Value→Option Addr→Hp→Prop
abbrev St:=List (Option V)
abbrev VK:=V→Hp→Prop
abbrev TE:=St→Hp→VK→Prop
abbrev TT:=St→Hp→(Bool→Hp→Prop)→Prop
abbrev TA:=St→Hp→(List V→Hp→Prop)→Prop
structure Ends where
  nx:St→Hp→Prop
  rt:VK
  bk:St→Hp→Prop:=fun _ _=>False
  ct:St→Hp→Prop:=fun _ _=>False
abbrev TS:=Ends→St→Hp→Prop
def EP (X:Cx) (pins:List (Addr × Obj)) (σ:St) (Q:VK) (u:Value) (s':Shared):Prop:=∃ v H',Inv X pins σ H' s'∧RelV v u∧Q v H'
def TP (X:Cx) (pins:List (Addr × Obj)) (σ:St) (Q:Bool→Hp→Prop) (b:Bool) (s':Shared):Prop:=∃ H',Inv X pins σ H' s'∧Q b H'
def AP (X:Cx) (pins:List (Addr × Obj)) (σ:St) (Q:List V→Hp→Prop) (us:List Value) (s':Shared):Prop:=∃ vs H',Inv X pins σ H' s'∧Vals vs us∧Q vs H'
def SP (X:Cx) (pins:List (Addr × Obj)) (D:Ends) (f:Flow) (s':Shared):Prop :=
  match f with
  | .next=>∃ σ' H',Inv X pins σ' H' s'∧D.nx σ' H'
  | .brk=>∃ σ' H',Inv X pins σ' H' s'∧D.bk σ' H'
  | .cont=>∃ σ' H',Inv X pins σ' H' s'∧D.ct σ' H'
  | .ret u=>∃ v σ' H',Inv X pins σ' H' s'∧RelV v u∧D.rt v H'
def PE (X:Cx) (e:Expr) (t:TE):Prop :=
  ∀ (pins:List (Addr × Obj)) (s:Shared) (σ:St) (H:Hp) (Q:VK),Inv X pins σ H s→t σ H Q→wpAny (model X.prog X.w) X.A (eval e X.env) (EP X pins σ Q) X.xe s
def PT (X:Cx) (e:Expr) (t:TT):Prop :=
  ∀ (pins:List (Addr × Obj)) (s:Shared) (σ:St) (H:Hp) (Q:Bool→Hp→Prop),Inv X pins σ H s→t σ H Q→wpAny (model X.prog X.w) X.A (isTrue e X.env (eval e X.env)) (TP X pins σ Q) X.xe s
def PW (X:Cx) (e:Expr) (t:TT):Prop :=
  ∀ (whole:Sem Value) (pins:List (Addr × Obj)) (s:Shared) (σ:St) (H:Hp) (Q:Bool→Hp→Prop),Inv X pins σ H s→t σ H Q→wpAny (model X.prog X.w) X.A (isTrue e X.env whole) (TP X pins σ Q) X.xe s
theorem PW.pt {X:Cx} {e:Expr} {t:TT} (h:PW X e t):PT X e t:=h _
def PA (X:Cx) (es:List Expr) (t:TA):Prop :=
  ∀ (pos:Pos) (pins:List (Addr × Obj)) (s:Shared) (σ:St) (H:Hp) (Q:List V→Hp→Prop),Inv X pins σ H s→t σ H Q→wpAny (model X.prog X.w) X.A (spliced (backTo pos (starEach es X.env))) (AP X pins σ Q) X.xe s
def PS (X:Cx) (st:Stmt) (t:TS):Prop :=
  ∀ (pins:List (Addr × Obj)) (s:Shared) (σ:St) (H:Hp) (D:Ends),Inv X pins σ H s→t D σ H→wpAny (model X.prog X.w) X.A (exec st X.env) (SP X pins D) X.xe s
def PSs (X:Cx) (st:List Stmt) (t:TS):Prop :=
  ∀ (pins:List (Addr × Obj)) (s:Shared) (σ:St) (H:Hp) (D:Ends),Inv X pins σ H s→t D σ H→wpAny (model X.prog X.w) X.A (execs st X.env) (SP X pins D) X.xe s
theorem thn {α:Type} {t:Sem α} {Q Q':α→Shared→Prop} {M:Model} {A:Around} {E:Value→Shared→Prop} {s:Shared} (h:wpAny M A t Q E s) (hQ:∀ a s,Q a s→Q' a s):wpAny M A t Q' E s:=wpAny_mono h hQ fun _ _ x=>x
end L2
namespace L2
open PySem PySem.Spec PyProof.Rows
section
variable {X:Cx}
def tVar (i:Nat):TE:=fun σ H Q=>∃ v,σ[i]?=some (some v)∧Q v H
def tC (v:V):TE:=fun _ H Q=>Q v H
theorem zqx {i:Nat} {x:Str} {pos:Pos} (hN:X.N[i]?=some x) (hv:Vis X.env.scope x) (hd:(x == ("__debug__" : Str))=false:=by decide) (hcd:(x == ("__classdict__" : Str))=false:=by decide):PE X (.Name x pos) (tVar i):=by
  intro pins s σ H Q I h
  obtain ⟨v,e,h⟩:=h
  obtain ⟨m,hn,hl⟩:=I.loc
  obtain ⟨u,r,l⟩:=hl i x v hN e hv
  have fin:EP X pins σ Q u s:=⟨v,H,I,r,h⟩
  rcases l with ⟨hk,hm⟩ | ⟨hk,c,hc,hcell⟩
  · exact wpAny_Name (wpAny_loadName_local I.ok.kind hk hn hm fin) hd
  · rcases hk with hk | hk
    · exact wpAny_Name (wpAny_loadName_cell I.ok.kind hk hc hcell fin) hd
    · exact wpAny_Name (wpAny_loadName_free I.ok.kind hk hc hcell fin hcd) hd
theorem zag {i j pos}:PE X (.Constant (.int i) j pos) (tC (.int i)):=fun _ _ _ H _ I h=>wpAny_Constant_int ⟨.int i,H,I.tok _,⟨_,rfl⟩,h⟩
theorem zg1 {b j pos}:PE X (.Constant (.bool b) j pos) (tC (.bl b)):=fun _ _ _ H _ I h=>Constant_bool ⟨.bl b,H,I,rfl,h⟩
theorem zfU {j pos}:PE X (.Constant .none j pos) (tC .non):=fun _ _ _ H _ I h=>Constant_none ⟨.non,H,I,rfl,h⟩
theorem zcR {x j pos}:PE X (.Constant (.str x) j pos) (tC (.str x)):=fun _ _ _ H _ I h=>Calls.Constant_str ⟨.str x,H,I.tok _,⟨_,rfl⟩,h⟩
def Gl (X:Cx) (x:Str):Prop:=X.env.kindOf x=some .globalImplicit
theorem zpr {E:Value→Shared→Prop} {pins:List (Addr × Obj)} {s:Shared} {σ:St} {H:Hp} {x:Str} {u:Value} {pos:Pos} {Q:Value→Shared→Prop} (I:Inv X pins σ H s) (hg:Gl X x) (hm:X.mg x=some u) (h:Q u s)
    (hd:(x == ("__debug__" : Str))=false:=by decide):wpAny (model X.prog X.w) X.A (eval (.Name x pos) X.env) Q E s :=
  Calls.Name_function_global I.ok.kind hg (Calls.loadGlobal_global (by rw [I.ok.glob]; exact I.mod.glob.keeps I.bk) hm h) hd
theorem zgS {E:Value→Shared→Prop} {pins:List (Addr × Obj)} {s:Shared} {σ:St} {H:Hp} {x:Str} {u:Value} {pos:Pos} {Q:Value→Shared→Prop} (I:Inv X pins σ H s) (hg:Gl X x) (hm:X.mg x=none) (hv:bootBuiltins x=some u) (h:Q u s)
    (hn:x ≠ "__name__":=by decide) (hd:(x == ("__debug__" : Str))=false:=by decide):wpAny (model X.prog X.w) X.A (eval (.Name x pos) X.env) Q E s:=by
  obtain ⟨mb,h1,h2⟩:=I.mod.blt
  exact Calls.Name_function_global I.ok.kind hg (Calls.loadGlobal_builtin (by rw [I.ok.glob]; exact I.mod.glob.keeps I.bk) hm (by rw [I.ok.blt]; exact h1.keeps I.bk) ((h2 x hn).trans hv) h) hd
theorem zoS {x:Str} {v:V} {u:Value} {pos:Pos} (hg:Gl X x) (hm:X.mg x=none) (hv:bootBuiltins x=some u) (r:RelV v u) (hn:x ≠ "__name__":=by decide) (hd:(x == ("__debug__" : Str))=false:=by decide):PE X (.Name x pos) (tC v) :=
  fun _ _ _ H _ I h=>zgS I hg hm hv ⟨v,H,I,r,h⟩ hn hd
variable {a b:Expr} {ta tb:TE} {pos:Pos}
def PC (X:Cx) (op:CmpOp) (a b:Expr) (t:TE):Prop :=
  ∀ (pins:List (Addr × Obj)) (s:Shared) (σ:St) (H:Hp) (Q:VK),Inv X pins σ H s→t σ H Q →
    wpAny (model X.prog X.w) X.A (eval a X.env) (fun v s₁=>wpAny (model X.prog X.w) X.A (eval b X.env) (fun u s₂=>wpAny (model X.prog X.w) X.A (compareOp op v u) (EP X pins σ Q) X.xe s₂) X.xe s₁) X.xe s
def tB (t:TE):TT:=fun σ H Q=>t σ H fun x H1=>∃ c,x = .bl c∧Q c H1
theorem zp2 {op:CmpOp} {t:TE} (h:PC X op a b t) (h1:behindInMarks op b=false:=by first | exact nobehind _ (by decide) (by decide) | rfl):PE X (.Compare a [op] [b] pos) t:=fun pins s σ H Q I hw=>wpAny_Compare1 (h pins s σ H Q I hw) h1
theorem zmv {op:CmpOp} {t:TE} (h:PC X op a b t) (h1:behindInMarks op b=false:=by first | exact nobehind _ (by decide) (by decide) | rfl):PT X (.Compare a [op] [b] pos) (tB t):=by
  intro pins s σ H Q I hw
  refine wpAny_isTrue_Compare1 (thn (h pins s σ H _ I hw) fun v s1 h1=>thn h1 fun u s2 h2=>thn h2 fun c s3 ⟨x,H1,I1,r1,q1⟩=>?_) h1
  obtain ⟨d,rfl,q⟩:=q1
  cases r1
  exact wpAny_truthy_bool ⟨H1,I1,q⟩
theorem ze7 {e:Expr} {t:TE} (h:PE X e t) (he:∀ whole,isTrue e X.env whole=(do let v ← whole; standAt e.pos; holding [v] (truthy v)):=by intro _; rfl):PT X e (tB t):=by
  intro pins s σ H Q I hw
  refine isTrue_plain (thn (h pins s σ H _ I hw) fun v s1 ⟨x,H1,I1,r1,q1⟩=>?_) (he _)
  obtain ⟨d,rfl,q⟩:=q1
  cases r1
  exact wpAny_truthy_bool ⟨H1,I1,q⟩
variable {tA tB':TT} {rest:List Expr}
def tAnd (t u:TT):TT:=fun σ H Q=>t σ H fun c H1=>if c=true then u σ H1 Q else Q false H1
def tOr (t u:TT):TT:=fun σ H Q=>t σ H fun c H1=>if c=true then Q true H1 else u σ H1 Q
def tNot (t:TT):TT:=fun σ H Q=>t σ H fun c H1=>Q (!c) H1
theorem zjk (ha:PT X a tA):PW X (.BoolOp .And [a] pos) tA:=by
  intro wh pins s σ H Q I h
  refine isTrue_and (thn (ha pins s σ H Q I h) fun c s1 e=>?_)
  cases c with
  | true=>exact isTrue_and_nil e
  | false=>exact e
theorem zgW (ha:PT X a tA):PW X (.BoolOp .Or [a] pos) tA:=by
  intro wh pins s σ H Q I h
  refine isTrue_or (thn (ha pins s σ H Q I h) fun c s1 e=>?_)
  cases c with
  | false=>exact isTrue_or_nil e
  | true=>exact e
theorem zk0 (ha:PT X a tA) (hb:PW X (.BoolOp .And (b :: rest) pos) tB'):PW X (.BoolOp .And (a :: b :: rest) pos) (tAnd tA tB'):=by
  intro wh pins s σ H Q I h
  refine isTrue_and (thn (ha pins s σ H _ I h) fun c s1 ⟨H1,I1,q1⟩=>?_)
  cases c with
  | true=>exact hb wh pins s1 σ H1 Q I1 q1
  | false=>exact ⟨H1,I1,q1⟩
theorem zje (ha:PT X a tA) (hb:PW X (.BoolOp .Or (b :: rest) pos) tB'):PW X (.BoolOp .Or (a :: b :: rest) pos) (tOr tA tB'):=by
  intro wh pins s σ H Q I h
  refine isTrue_or (thn (ha pins s σ H _ I h) fun c s1 ⟨H1,I1,q1⟩=>?_)
  cases c with
  | true=>exact ⟨H1,I1,q1⟩
  | false=>exact hb wh pins s1 σ H1 Q I1 q1
theorem zig (ha:PT X a tA):PT X (.UnaryOp .Not a pos) (tNot tA):=by
  intro pins s σ H Q I h
  exact isTrue_not (ha pins s σ H (fun c H1=>Q (!c) H1) I h)
def zqo (ta tb:TE):TE:=fun σ H Q=>ta σ H fun x H1=>∃ c,x = .bl c∧if c=true then tb σ H1 Q else Q (.bl false) H1
theorem zlV {op} {t:TE} (h:PE X a t):PE X (.BoolOp op [a] pos) t:=fun pins s σ H Q I hw=>BoolOp_one (h pins s σ H Q I hw)
theorem zl2 (ha:PE X a ta) (hb:PE X (.BoolOp .And (b :: rest) pos) tb):PE X (.BoolOp .And (a :: b :: rest) pos) (zqo ta tb):=by
  intro pins s σ H Q I h
  refine BoolOp_and (thn (ha pins s σ H _ I h) fun v s1 ⟨x,H1,I1,r1,q1⟩=>?_)
  obtain ⟨c,rfl,q1⟩:=q1
  cases r1
  refine wpAny_truthy_bool ?_
  cases c with
  | true=>exact hb pins s1 σ H1 Q I1 q1
  | false=>exact ⟨.bl false,H1,I1,rfl,q1⟩
end
end L2
namespace L2
open PySem PySem.Spec PyProof.Rows
def SqL (K:PySem.W.Frag) (H:Hp) (a:Addr) (xs:List V):Prop :=
  Rd H a (.lst xs) ∨
    ∃ (o:Obj) (its:Array Value) (n:Nat),K.lookup a=some o∧o.cls = .type "list"∧o.dict=none∧o.data = .seq its n∧its.size ≤ sizeLine∧Vals xs its.toList
def SqT (K:PySem.W.Frag) (H:Hp) (a:Addr) (xs:List V):Prop :=
  Rd H a (.tup xs) ∨
    ∃ (o:Obj) (its:Array Value) (n:Nat),K.lookup a=some o∧o.cls = .type "tuple"∧o.data = .seq its n∧its.size ≤ sizeLine∧Vals xs its.toList
def absV:Value→Option V
  | .none=>some .non
  | .bool b=>some (.bl b)
  | .int i _=>some (.int i)
  | .str x _=>some (.str x)
  | .bytes b _=>some (.byt b)
  | .float b _=>some (.flt b)
  | .ref a=>some (.ref a)
  | .type n=>some (.ty n)
  | _=>none
theorem RelV.abs {x:V} {u:Value} (r:RelV x u):absV u=some x:=by
  cases x with
  | non=>cases r; rfl
  | bl _=>cases r; rfl
  | int _=>obtain ⟨t,rfl⟩:=r; rfl
  | str _=>obtain ⟨t,rfl⟩:=r; rfl
  | byt _=>obtain ⟨t,rfl⟩:=r; rfl
  | flt _=>obtain ⟨t,rfl⟩:=r; rfl
  | ref _=>cases r; rfl
  | ty _=>cases r; rfl
theorem RelV.inj {x y:V} {u:Value} (r:RelV x u) (q:RelV y u):x=y:=Option.some.inj (r.abs.symm.trans q.abs)
theorem Vals.inj:∀ {xs ys:List V} {us:List Value},Vals xs us→Vals ys us→xs=ys
  | _,_,_,.nil,.nil=>rfl
  | _,_,_,.cons r t,.cons r' t'=>by rw [r.inj r',Vals.inj t t']
section
variable {X:Cx} {pins:List (Addr × Obj)} {σ:St} {H:Hp} {s:Shared} {a:Addr} {xs ys:List V}
theorem Inv.list (I:Inv X pins σ H s) (h:SqL X.K H a xs):∃ its:List Value,Vals xs its∧PlainL s.heap a its.toArray∧xs.length ≤ sizeLine:=by
  rcases h with h | ⟨o,its,n,hk,hc,hd,hs,hz,r⟩
  · obtain ⟨z,its,n,r,e⟩:=h.ok I.hok
    exact ⟨its,r,⟨_,n,e,rfl,rfl,rfl⟩,z⟩
  · refine ⟨its.toList,r,⟨o,n,I.kIn a o hk,hc,hd,by simpa using hs⟩,?_⟩
    have e:=r.length
    simp only [Array.length_toList] at e
    omega
theorem Inv.tuple (I:Inv X pins σ H s) (h:SqT X.K H a xs):∃ its:List Value,Vals xs its∧IsTup s.heap a its.toArray∧xs.length ≤ sizeLine:=by
  rcases h with h | ⟨o,its,n,hk,hc,hs,hz,r⟩
  · obtain ⟨z,its,r,p⟩:=h.ok I.hok
    exact ⟨its,r,p,z⟩
  · refine ⟨its.toList,r,⟨o,I.kIn a o hk,hc,n,by simpa using hs⟩,?_⟩
    have e:=r.length
    simp only [Array.length_toList] at e
    omega
theorem Inv.list_inj (I:Inv X pins σ H s) (h:SqL X.K H a xs) (h':SqL X.K H a ys):xs=ys:=by
  obtain ⟨its,r,⟨o,n,e,_,_,d⟩,_⟩:=I.list h
  obtain ⟨its',r',⟨o',n',e',_,_,d'⟩,_⟩:=I.list h'
  rw [e] at e'; cases e'
  rw [d] at d'
  injection d' with d1 _
  have:its=its':=by simpa using congrArg Array.toList d1
  subst this
  exact r.inj r'
end
abbrev Cx.wish (X:Cx) (E:Value→Shared→Prop):Cx:={ X with xe:=E }
abbrev Cx.nox (X:Cx):Cx:=X.wish fun _ _=>False
theorem Cx.Ok.wish {X:Cx} (ok:X.Ok) (E:Value→Shared→Prop):(X.wish E).Ok :=
  ⟨ok.mod,ok.kind,ok.glob,ok.blt,ok.above,ok.inj,ok.has,ok.cab,ok.hd,ok.frames,ok.stk,ok.exf,ok.bs,ok.bsz,ok.noex,ok.exfs,ok.funs,ok.frf,ok.tb⟩
theorem Cx.Ok.unwish {X:Cx} {E:Value→Shared→Prop} (ok:(X.wish E).Ok):X.Ok :=
  ⟨ok.mod,ok.kind,ok.glob,ok.blt,ok.above,ok.inj,ok.has,ok.cab,ok.hd,ok.frames,ok.stk,ok.exf,ok.bs,ok.bsz,ok.noex,ok.exfs,ok.funs,ok.frf,ok.tb⟩
section
variable {X:Cx} {pins:List (Addr × Obj)} {σ:St} {H:Hp} {s:Shared} {E:Value→Shared→Prop}
theorem Inv.wish (I:Inv X pins σ H s) (E:Value→Shared→Prop):Inv (X.wish E) pins σ H s:=⟨I.ok.wish E,I.os,I.bare,I.base,I.loc,I.cell,I.free,I.freeC,I.pin,I.hok,I.len⟩
theorem Inv.unwish (I:Inv (X.wish E) pins σ H s):Inv X pins σ H s:=⟨I.ok.unwish,I.os,I.bare,I.base,I.loc,I.cell,I.free,I.freeC,I.pin,I.hok,I.len⟩
theorem SP.unwish {D:Ends} {f:Flow} {s':Shared} (h:SP (X.wish E) pins D f s'):SP X pins D f s':=by
  cases f with
  | next=>obtain ⟨σ',H',I,q⟩:=h; exact ⟨σ',H',I.unwish,q⟩
  | brk=>obtain ⟨σ',H',I,q⟩:=h; exact ⟨σ',H',I.unwish,q⟩
  | cont=>obtain ⟨σ',H',I,q⟩:=h; exact ⟨σ',H',I.unwish,q⟩
  | ret u=>obtain ⟨v,σ',H',I,r,q⟩:=h; exact ⟨v,σ',H',I.unwish,r,q⟩
theorem PSs.nox {st:List Stmt} {t:TS} (h:PSs X.nox st t):PSs X st t:=fun pins s σ H D I hw =>
  wpAny_mono (h pins s σ H D (I.wish _) hw) (fun _ _ q=>q.unwish) fun _ _ z=>False.elim z
end
section
variable {X:Cx} {st:Stmt} {rest:List Stmt} {t u:TS} {e:Expr} {te:TE} {pos:Pos}
def zq4:TS:=fun D σ H=>D.nx σ H
def tSeq (t u:TS):TS:=fun D σ H=>t { D with nx:=u D } σ H
theorem zaO:PSs X [] zq4:=fun _ _ σ H _ I h=>wpAny_execs_nil ⟨σ,H,I,h⟩
theorem zae (h1:PS X st t) (h2:PSs X rest u):PSs X (st :: rest) (tSeq t u):=by
  intro pins s σ H D I h
  refine wpAny_execs_cons (thn (h1 pins s σ H { D with nx:=u D } I h) fun f s1 q=>?_)
  cases f with
  | next =>
    obtain ⟨σ',H',I',q⟩:=q
    exact h2 pins s1 σ' H' D I' q
  | ret v=>exact q
  | brk=>exact q
  | cont=>exact q
theorem zam (h1:PS X st t):PSs X [st] t:=by
  intro pins s σ H D I h
  refine wpAny_execs_cons (thn (h1 pins s σ H D I h) fun f s1 q=>?_)
  cases f with
  | next=>exact wpAny_execs_nil q
  | ret v=>exact q
  | brk=>exact q
  | cont=>exact q
theorem Inv.quiet {pins:List (Addr × Obj)} {σ:St} {H:Hp} {s:Shared} (I:Inv X pins σ H s):interactive X.env=false:=by simp [interactive,I.ok.kind]
def zkD (te:TE):TS:=fun D σ H=>te σ H fun _ H1=>D.nx σ H1
theorem zeY (he:PE X e te) (hs:swapsWith e none pos.line X.env=pure false:=by rfl):PS X (.Expr e pos) (zkD te):=by
  intro pins s σ H D I h
  exact wpAny_Expr_any (thn (he pins s σ H _ I h) fun v s1 ⟨x,H1,I1,r1,q1⟩=>⟨σ,H1,I1,q1⟩) I.quiet hs
def tRet (te:TE):TS:=fun D σ H=>te σ H D.rt
theorem zax (he:PE X e te):PS X (.Return (some e) pos) (tRet te):=by
  intro pins s σ H D I h
  exact wpAny_Return_some (thn (he pins s σ H _ I h) fun v s1 ⟨x,H1,I1,r1,q1⟩=>⟨x,σ,H1,I1,r1,q1⟩)
def tIfS (c:TT) (t u:TS):TS:=fun D σ H=>c σ H fun b H1=>if b=true then t D σ H1 else u D σ H1
theorem zbt {c:Expr} {a b:List Stmt} {tc:TT} (hc:PT X c tc) (ha:PSs X a t) (hb:PSs X b u):PS X (.If c a b pos) (tIfS tc t u):=by
  intro pins s σ H D I h
  refine wpAny_If (thn (hc pins s σ H _ I h) fun d s1 ⟨H1,I1,q1⟩=>?_)
  cases d with
  | true=>exact ha pins s1 σ H1 D I1 q1
  | false=>exact hb pins s1 σ H1 D I1 q1
def zow:TS:=fun _ _ _=>False
theorem zlq:PS X st zow:=fun _ _ _ _ _ _ h=>h.elim
end
abbrev TG:=V→St→Hp→(St→Hp→Prop)→Prop
abbrev TGs:=List V→St→Hp→(St→Hp→Prop)→Prop
def PG (X:Cx) (target:Expr) (t:TG):Prop :=
  ∀ (pins:List (Addr × Obj)) (s:Shared) (σ:St) (H:Hp) (v:V) (u:Value) (Q:St→Hp→Prop),Inv X pins σ H s→RelV v u→t v σ H Q →
    wpAny (model X.prog X.w) X.A (assign target X.env u) (fun _ s'=>∃ σ' H',Inv X pins σ' H' s'∧Q σ' H') X.xe s
def PGs (X:Cx) (ts:List Expr) (t:TGs):Prop :=
  ∀ (pins:List (Addr × Obj)) (s:Shared) (σ:St) (H:Hp) (vs:List V) (us:List Value) (Q:St→Hp→Prop),Inv X pins σ H s→Vals vs us→t vs σ H Q →
    wpAny (model X.prog X.w) X.A (assignInOrder ((assignEach ts X.env).map (·.2)) us) (fun _ s'=>∃ σ' H',Inv X pins σ' H' s'∧Q σ' H') X.xe s
abbrev TSet:=V→V→V→Hp→(Hp→Prop)→Prop
def PSet (X:Cx) (t:TSet):Prop :=
  ∀ (pins:List (Addr × Obj)) (s:Shared) (σ:St) (H:Hp) (o i v:V) (ov iv u:Value) (Q:Hp→Prop),Inv X pins σ H s→RelV o ov→RelV i iv→RelV v u→t o i v H Q →
    wpAny (model X.prog X.w) X.A (setItem ov iv u) (fun _ s'=>∃ H',Inv X pins σ H' s'∧Q H') X.xe s
abbrev TIp:=V→V→Hp→VK→Prop
def PIp (X:Cx) (op:Operator) (t:TIp):Prop :=
  ∀ (pins:List (Addr × Obj)) (s:Shared) (σ:St) (H:Hp) (x y:V) (v u:Value) (Q:VK),Inv X pins σ H s→RelV x v→RelV y u→t x y H Q →
    wpAny (model X.prog X.w) X.A (inplaceOp op v u) (EP X pins σ Q) X.xe s
section
variable {X:Cx} {pos:Pos}
def zjv (i:Nat):TG:=fun v σ H Q=>Q (σ.set i (some v)) H
theorem zav {i:Nat} {x:Str} (hN:X.N.Nodup) (hi:X.N[i]?=some x) (hx:Loc X.env.scope x) (hf:X.fn x=true∨X.env.scope.names.lookup x=some .local:=by first | exact .inl rfl | exact .inr rfl | assumption):PG X (.Name x pos) (zjv i):=by
  intro pins s σ H v u Q I r h
  exact wpAny_assign_Name (zf0 I hN hi hx r (fun s' I'=>⟨_,H,I',h⟩) hf)
def gNil:TGs:=fun vs σ H Q=>vs = []∧Q σ H
def znv (t:TG) (u:TGs):TGs:=fun vs σ H Q=>∃ v r,vs=v :: r∧t v σ H fun σ' H'=>u r σ' H' Q
theorem zbQ:PGs X [] gNil:=by
  intro pins s σ H vs us Q I r h
  obtain ⟨e,h⟩:=h
  subst e
  cases r
  exact assignInOrder_nil ⟨σ,H,I,h⟩
theorem zaL {e:Expr} {es:List Expr} {t:TG} {u:TGs} (h1:PG X e t) (h2:PGs X es u)
    (hs:(assignEach (e :: es) X.env).map (·.2)=assign e X.env :: (assignEach es X.env).map (·.2):=by rfl):PGs X (e :: es) (znv t u):=by
  intro pins s σ H vs us Q I r h
  obtain ⟨v,vr,e1,h⟩:=h
  subst e1
  cases r with
  | cons r rr =>
    rw [hs]
    refine assignInOrder_cons (thn (h1 pins s σ H _ _ _ I r h) fun _ s1 ⟨σ1,H1,I1,q1⟩=>?_)
    exact h2 pins s1 σ1 H1 _ _ Q I1 rr q1
def gTup (K:PySem.W.Frag) (n:Nat) (t:TGs):TG:=fun v σ H Q=>∃ a xs,v = .ref a∧SqT K H a xs∧xs.length=n∧t xs σ H Q
theorem zcE {es:List Expr} {k:Nat} {t:TGs} {n:Nat} (hc:X.calm=true) (h:PGs X es t)
    (hn:(assignEach es X.env).length=n:=by rfl) (hst:(assignEach es X.env).findIdx? (·.1)=none:=by rfl):PG X (.Tuple es k pos) (gTup X.K n t):=by
  intro pins s σ H v u Q I r hw
  obtain ⟨a,xs,e1,hq,hl,hw⟩:=hw
  subst e1
  cases r
  obtain ⟨its,rv,ht,hz⟩:=I.tuple hq
  refine assign_Tuple_tuple (I.ok.hd hc) ht (by simp [hn,← hl,rv.length]) hst fun h' hx=>?_
  have I1:Inv X pins σ H { s with heap:=h' }:=I.kept (t':=s.toks) fun b o e=>hx b o (Nat.ne_of_lt (Heap.lt_size e)) e
  exact h pins _ σ H xs _ Q I1 (by simpa using rv) hw
def gSub (to ti:TE) (t:TSet):TG:=fun v σ H Q=>to σ H fun o H1=>ti σ H1 fun i H2=>t o i v H2 fun H3=>Q σ H3
theorem zmi {o i:Expr} {to ti:TE} {t:TSet} (ho:PE X o to) (hi:PE X i ti) (hs:PSet X t)
    (ha:∀ v,assign (.Subscript o i pos) X.env v=(do
      let ov ← holding [v] (eval o X.env)
      let iv ← holding [v,ov] (eval i X.env)
      standAt pos
      holding [v,ov,iv] (setItem ov iv v)
      release [v,ov,iv] []):=by intro _; rfl):PG X (.Subscript o i pos) (gSub to ti t):=by
  intro pins s σ H v u Q I r h
  rw [ha]
  refine wpAny_bind (wpAny_holding (thn (ho pins s σ H _ I h) fun ov s1 ⟨x,H1,I1,r1,q1⟩=>?_))
  refine wpAny_bind (wpAny_holding (thn (hi pins s1 σ H1 _ I1 q1) fun iv s2 ⟨y,H2,I2,r2,q2⟩=>?_))
  refine wpAny_bind (wpAny_standAt (wpAny_bind (wpAny_holding (thn (hs pins s2 σ H2 x y v ov iv u _ I2 r1 r2 r q2) fun _ s3 ⟨H3,I3,q3⟩=>?_))))
  exact wpAny_release ⟨σ,H3,I3,q3⟩
def tAsg (te:TE) (g:TG):TS:=fun D σ H=>te σ H fun x H1=>g x σ H1 D.nx
theorem zm5 {tg e:Expr} {te:TE} {g:TG} (he:PE X e te) (hg:PG X tg g) (hs:swapsWithSole [tg] e pos.line X.env=pure false:=by rfl) (hw:swappedStores [tg] e X.env=pure none:=by rfl)
    (h1:(assignEach [tg] X.env).map (·.2) = [assign tg X.env]:=by rfl):PS X (.Assign [tg] e pos) (tAsg te g):=by
  intro pins s σ H D I h
  refine wpAny_Assign_stores (thn (he pins s σ H _ I h) fun v s1 ⟨x,H1,I1,r1,q1⟩=>?_) hs hw
  rw [h1]
  exact thn (hg pins s1 σ H1 x v _ I1 r1 q1) fun _ s2 q=>q
theorem zaH {i:Nat} {x:Str} {e:Expr} {te:TE} {pos':Pos} (hN:X.N.Nodup) (hi:X.N[i]?=some x) (hx:Loc X.env.scope x) (he:PE X e te) (hs:swapsWith e (some (.Name x pos')) pos.line X.env=pure false:=by rfl) (hf:X.fn x=true∨X.env.scope.names.lookup x=some .local:=by first | exact .inl rfl | exact .inr rfl | assumption) :
    PS X (.Assign [.Name x pos'] e pos) (tAsg te (zjv i)):=by
  intro pins s σ H D I h
  refine wpAny_Assign_Name (thn (he pins s σ H _ I h) fun v s1 ⟨y,H1,I1,r1,q1⟩=>?_) hs
  exact zf0 I1 hN hi hx r1 (fun s2 I2=>⟨_,H1,I2,q1⟩) hf
def tPar (i j:Nat) (ta:TA):TS:=fun D σ H=>ta σ H fun vs H1=>∃ v w,vs = [v,w]∧D.nx ((σ.set i (some v)).set j (some w)) H1
theorem zl6 {i j:Nat} {x y:Str} {a b:Expr} {ta:TA} {px py pt:Pos} {kt k2 pt2} (hc:X.calm=true) (hN:X.N.Nodup) (hi:X.N[i]?=some x) (hj:X.N[j]?=some y) (hij:i ≠ j)
    (hx:X.env.scope.names.lookup x=some .local) (hy:X.env.scope.names.lookup y=some .local) (ha:PA X [a,b] ta)
    (hw:swappedStores [.Tuple [.Name x px,.Name y py] kt pt] (.Tuple [a,b] k2 pt2) X.env=pure (some [x,y]))
    (hs:swapsWithSole [.Tuple [.Name x px,.Name y py] kt pt] (.Tuple [a,b] k2 pt2) pos.line X.env=pure false:=by rfl) :
    PS X (.Assign [.Tuple [.Name x px,.Name y py] kt pt] (.Tuple [a,b] k2 pt2) pos) (tPar i j ta):=by
  intro pins s σ H D I h
  rw [exec_Assign_arm]
  refine wpAny_bind (wpAny_standAt ?_)
  rw [hs]
  refine wpAny_bind (wpAny_pure ?_)
  rw [if_neg (by decide)]
  refine wpAny_bind (Tuple_ (thn (ha _ pins s σ H _ I h) fun us s1 ⟨vs,H1,I1,r1,q1⟩=>?_))
  obtain ⟨v,w,e1,q1⟩:=q1
  subst e1
  obtain ⟨u1,u2,rfl,rv,rw'⟩:∃ u1 u2,us = [u1,u2]∧RelV v u1∧RelV w u2:=by
    cases r1 with
    | cons p q =>
      cases q with
      | cons p' q' =>
        cases q'
        exact ⟨_,_,rfl,p,p'⟩
  refine wpAny_newObj_type ?_ (by show 2 ≤ sizeLine; decide)
  have I2:Inv X pins σ H1 { s1 with heap:=s1.heap.push { cls:=.type "tuple",data:=.seq [u1,u2].toArray } }:=I1.kept (t':=s1.toks) fun b o e=>Heap.get?_push_of_some _ e
  rw [hw]
  refine wpAny_bind (wpAny_pure ?_)
  show wpAny (model X.prog X.w) X.A (do rule "assign.swapped-stores"; let items ← unpackItems (.ref s1.heap.objs.size) 2 none; assignInOrder [fun v=>bindName X.env y v,fun v=>bindName X.env x v] items.reverse; pure Flow.next) _ _ _
  refine wpAny_bind (wpAny_rule (wpAny_bind (unpackItems_tuple (items:=#[u1,u2]) (I.ok.hd hc) (IsTup.new s1.heap _) fun h' hx'=>?_)))
  have I3:=I2.kept (h':=h') (t':=s1.toks) fun b o e=>hx' b o (Nat.ne_of_lt (Heap.lt_size e)) e
  show wpAny _ _ (assignInOrder [fun v=>bindName X.env y v,fun v=>bindName X.env x v] [u2,u1] >>= fun _=>pure Flow.next) _ _ _
  refine wpAny_bind (assignInOrder_cons (wpAny_bindName (zf0 I3 hN hj (.inl hy) rw' (fun s2 I4=>?_) (.inr hy))))
  refine assignInOrder_cons (wpAny_bindName (zf0 I4 hN hi (.inl hx) rv (fun s3 I5=>assignInOrder_nil (wpAny_pure ?_)) (.inr hx)))
  rw [List.set_comm _ _ (Ne.symm hij)] at I5
  exact ⟨_,H1,I5,q1⟩
def zp0 (to ti te:TE) (tget:V→V→Hp→VK→Prop) (tip:TIp) (tset:TSet):TS:=fun D σ H=>to σ H fun o H1=>ti σ H1 fun i H2=>tget o i H2 fun x H3=>te σ H3 fun y H4=>tip x y H4 fun z H5=>tset o i z H5 fun H6=>D.nx σ H6
def PGet (X:Cx) (t:V→V→Hp→VK→Prop):Prop :=
  ∀ (pins:List (Addr × Obj)) (s:Shared) (σ:St) (H:Hp) (o i:V) (ov iv:Value) (Q:VK),Inv X pins σ H s→RelV o ov→RelV i iv→t o i H Q →
    wpAny (model X.prog X.w) X.A (getItem ov iv) (EP X pins σ Q) X.xe s
theorem znt {o i e:Expr} {to ti te:TE} {tget:V→V→Hp→VK→Prop} {tip:TIp} {tset:TSet} {op:Operator} {tpos:Pos} (ho:PE X o to) (hi:PE X i ti) (hg:PGet X tget) (he:PE X e te) (hp:PIp X op tip) (hs:PSet X tset)
    (ha:∀ ov iv new,augStore i ov iv new=(do holding [new,ov,iv] (setItem ov iv new); release [new,ov,iv] []; pure .next):=by intros; rfl):PS X (.AugAssign (.Subscript o i tpos) op e pos) (zp0 to ti te tget tip tset):=by
  intro pins s σ H D I h
  refine wpAny_AugAssign_SubscriptAny (thn (ho pins s σ H _ I h) fun ov s1 ⟨x1,H1,I1,r1,q1⟩=>?_) ha
  refine thn (hi pins s1 σ H1 _ I1 q1) fun iv s2 ⟨x2,H2,I2,r2,q2⟩=>?_
  refine thn (hg pins s2 σ H2 x1 x2 ov iv _ I2 r1 r2 q2) fun old s3 ⟨x3,H3,I3,r3,q3⟩=>?_
  refine thn (he pins s3 σ H3 _ I3 q3) fun v s4 ⟨x4,H4,I4,r4,q4⟩=>?_
  refine thn (hp pins s4 σ H4 x3 x4 old v _ I4 r3 r4 q4) fun new s5 ⟨x5,H5,I5,r5,q5⟩=>?_
  exact thn (hs pins s5 σ H5 x1 x2 x5 ov iv new _ I5 r1 r2 r5 q5) fun _ s6 ⟨H6,I6,q6⟩=>⟨σ,H6,I6,q6⟩
def ipI (f:Int→Int→Int):TIp:=fun x y H Q=>∃ i j,x = .int i∧y = .int j∧Q (.int (f i j)) H
theorem zoM:PIp X .Sub (ipI fun i j=>i - j):=by
  intro pins s σ H x y v u Q I r1 r2 h
  obtain ⟨i,j,e1,e2,q⟩:=h
  subst e1; subst e2
  obtain ⟨t,rfl⟩:=r1
  obtain ⟨t',rfl⟩:=r2
  exact isub_int ⟨.int _,H,I.tok _,⟨_,rfl⟩,q⟩
end
section
variable {X:Cx} {pos:Pos}
def zoJ (c:TT) (tb:TS):TS:=fun D σ H=>∃ W:Nat→St→Hp→Prop,(∃ m,W m σ H)∧∀ m σ H,W m σ H →
  c σ H fun b H1=>if b=true then ∃ N:St→Hp→Prop,(∀ σ' H',N σ' H'→∃ m',m' < m∧W m' σ' H')∧tb { D with nx:=N,ct:=N,bk:=D.nx } σ H1 else D.nx σ H1
theorem ziG {c:Expr} {body:List Stmt} {tc:TT} {tb:TS} (hp:PassesOwn (model X.prog X.w) X.A X.env X.xe) (hc:PT X c tc) (hb:PSs X body tb):PS X (.While c body [] pos) (zoJ tc tb):=by
  intro pins s σ H D I h
  obtain ⟨W,⟨m0,w0⟩,turn⟩:=h
  refine wpAny_While (codeAny_whileLoop (fun n s'=>∃ σ' H',Inv X pins σ' H' s'∧W n σ' H') ?_ m0 ⟨σ,H,I,w0⟩)
  rintro n s1 ⟨σ1,H1,I1,w1⟩
  refine wpAny_passesOwn hp (thn (hc pins s1 σ1 H1 _ I1 (turn n σ1 H1 w1)) fun b s2 ⟨H2,I2,q2⟩=>?_)
  cases b with
  | true =>
    obtain ⟨N,hN,q2⟩:=q2
    rw [if_pos rfl]
    refine wpAny_passesOwn hp (thn (hb pins s2 σ1 H2 _ I2 q2) fun f s3 q3=>?_)
    cases f with
    | next =>
      obtain ⟨σ3,H3,I3,n3⟩:=q3
      obtain ⟨m',hm,w3⟩:=hN σ3 H3 n3
      exact ⟨m',hm,σ3,H3,I3,w3⟩
    | cont =>
      obtain ⟨σ3,H3,I3,n3⟩:=q3
      obtain ⟨m',hm,w3⟩:=hN σ3 H3 n3
      exact ⟨m',hm,σ3,H3,I3,w3⟩
    | brk=>exact q3
    | ret v=>exact q3
  | false =>
    rw [if_neg Bool.false_ne_true]
    exact wpAny_execs_nil ⟨σ1,H2,I2,q2⟩
end
structure It where
  go:Nat→Hp→Prop
  yld:Nat→Hp→V→Hp→Prop
  stop:Nat→Hp→Prop
def FpOk (X:Cx) (pins:List (Addr × Obj)) (H:Hp) (b:Addr):Prop :=
  H b=none∧b ≠ X.env.locals∧b ∉ X.fs∧(b ∈ X.ex∨X.s₀.heap.objs.size ≤ b)∧(∀ x c,X.env.cells.lookup x=some c→c ≠ b)∧∀ p ∈ X.pn ++ pins,p.1 ≠ b
theorem Inv.fpOk {X:Cx} {pins:List (Addr × Obj)} {σ:St} {H H':Hp} {s:Shared} {b:Addr} (I:Inv X pins σ H s) (hb:s.heap.objs.size ≤ b) (hn:H' b=none):FpOk X pins H' b:=by
  refine ⟨hn,Nat.ne_of_gt (Nat.lt_of_lt_of_le I.lt hb),I.nofs hb,.inr (Nat.le_trans I.sz hb),fun x c e z=>?_,fun p hp z=>?_⟩
  · obtain ⟨v,q⟩:=I.cell x c e
    exact absurd (Nat.lt_of_lt_of_le q.lt (by rw [z]; exact hb)) (Nat.lt_irrefl _)
  · exact absurd (Nat.lt_of_lt_of_le (Heap.lt_size (I.pin p hp).1) (by rw [z]; exact hb)) (Nat.lt_irrefl _)
structure Turn (P:Program) (w:World) (K:PySem.W.Frag) (tg:Expr) (J:It) (fp:List Addr) (it:Addr) (tn:Nat→Heap→Prop):Prop where
  mem:it ∈ fp
  obj:∀ i h,tn i h→∀ b ∈ fp,∃ o,h.get? b=some o∧∀ v,o.data ≠ .cell v
  keep:∀ i h h',tn i h→(∀ b ∈ fp,∀ o,h.get? b=some o→h'.get? b=some o)→tn i h'
  item:∀ (X:Cx),X.prog=P→X.w=w→X.K=K→X.calm=true→∀ (i:Nat) (pins:List (Addr × Obj)) (s:Shared) (σ:St) (H:Hp) (E:Value→Shared→Prop),Inv X pins σ H s→(∀ b ∈ fp,FpOk X pins H b)→tn i s.heap→J.go i H →
    wpAny (model P w) X.A (pyNext (.ref it)) (fun r s1=>∃ u,r=some u ∧
      wpAny (model P w) X.A (letOwnedTupleGo tg (.ref it) u) (fun _ s2=>∃ x H',Inv X pins σ H' s2∧RelV x u∧J.yld i H x H'∧tn (i + 1) s2.heap∧∀ b ∈ fp,H' b=none) E s1) E s
  done:∀ (X:Cx),X.prog=P→X.w=w→X.K=K→X.calm=true→∀ (i:Nat) (pins:List (Addr × Obj)) (s:Shared) (σ:St) (H:Hp) (E:Value→Shared→Prop),Inv X pins σ H s→(∀ b ∈ fp,FpOk X pins H b)→tn i s.heap→J.stop i H →
    wpAny (model P w) X.A (pyNext (.ref it)) (fun r s1=>r=none∧Inv X pins σ H s1) E s
  self:∀ (A:Around) (i:Nat) (s:Shared) (Q:Value→Shared→Prop) (E:Value→Shared→Prop),tn i s.heap→Q (.ref it) s→wpAny (model P w) A (pyIter (.ref it)) Q E s
abbrev TI:=St→Hp→(It→Hp→Prop)→Prop
def PIE (X:Cx) (pins:List (Addr × Obj)) (σ:St) (tg:Expr) (R:It→Hp→Prop) (itv:Value) (s2:Shared):Prop :=
  ∃ (it:Addr) (fp:List Addr) (tn:Nat→Heap→Prop) (J:It) (H':Hp),itv = .ref it∧Inv X pins σ H' s2∧Turn X.prog X.w X.K tg J fp it tn∧tn 0 s2.heap∧(∀ b ∈ fp,FpOk X pins H' b)∧R J H'
def PI (X:Cx) (tg iter:Expr) (wi:TI):Prop :=
  ∀ (pins:List (Addr × Obj)) (s:Shared) (σ:St) (H:Hp) (R:It→Hp→Prop),Inv X pins σ H s→wi σ H R →
    wpAny (model X.prog X.w) X.A (eval iter X.env) (fun v s1=>wpAny (model X.prog X.w) X.A (pyIter v) (PIE X pins σ tg R) X.xe s1) X.xe s
theorem zql {M:Model} {A:Around} {E:Value→Shared→Prop} {s:Shared} {tg:Expr} {it:Addr} {u:Value} {o:Obj} {n:String} {vs:Array Value} {Q:Unit→Shared→Prop} (ho:s.heap.get? it=some o) (hc:o.cls = .type n) (hd:o.data = .fields vs)
    (hn : ["enumerate","zip","dict_itemiterator","dict_reverseitemiterator","odict_iterator","itertools.zip_longest","itertools.pairwise"].contains n=false) (hQ:Q () s):wpAny M A (letOwnedTupleGo tg (.ref it) u) Q E s:=by
  unfold letOwnedTupleGo
  cases tg <;> first
    | exact wpAny_pure hQ
    | (cases u <;> first
        | exact wpAny_pure hQ
        | (refine wpAny_bind (wpAny_load ho ?_)
           rw [hc,hd]
           show wpAny M A (if (["enumerate","zip","dict_itemiterator","dict_reverseitemiterator","odict_iterator","itertools.zip_longest","itertools.pairwise"].contains n && vs[0]? == some (rawInt _))=true then _ else _) Q E s
           rw [if_neg (by intro h; rw [hn,Bool.false_and] at h; cases h)]
           exact wpAny_pure hQ))
def Itl (K:PySem.W.Frag) (a:Addr):It :=
  ⟨fun i H=>∃ xs x,SqL K H a xs∧xs[i]?=some x,fun i H x H'=>H'=H∧∀ xs,SqL K H a xs→xs[i]?=some x,fun i H=>∃ xs,SqL K H a xs∧xs.length ≤ i⟩
def Itr (lo:Int) (n:Nat):It:=⟨fun i _=>i < n,fun i H x H'=>H'=H∧x = .int (lo + i),fun i _=>n ≤ i⟩
theorem zmu {P:Program} {w:World} {K:PySem.W.Frag} {tg:Expr} (a it:Addr):Turn P w K tg (Itl K a) [it] it (fun i h=>h.IsListIter it a i) where
  mem:=by simp
  obj:=fun i h st b hb=>by
    have e:b=it:=by simpa using hb
    subst e
    obtain ⟨o,e,c,d⟩:=st
    exact ⟨o,e,fun v z=>by rw [d] at z; cases z⟩
  keep:=fun i h h' st k=>st.at fun o e=>k it (by simp) o e
  item:=by
    intro X hP hw hK hc i pins s σ H E I hf st hg
    subst hP hw hK
    obtain ⟨xs,x,hq,hx⟩:=hg
    obtain ⟨its,rv,p,hz⟩:=I.list hq
    obtain ⟨u,hu,ru⟩:=rv.get hx
    obtain ⟨f0,f1,f2,f3,f4,f5⟩:=hf it (by simp)
    refine wpAny_pyNext_list_item st p.isList (x:=u) (by simpa using hu) fun h' st' sb=>?_
    have I1:Inv X pins σ H { s with heap:=h' }:=I.turned (t':=s.toks) (fun b o hb e=>(sb.2 b hb).trans e) f0 f1 f3 f4 f5
    obtain ⟨o,e,c,d⟩:=id st'
    exact ⟨u,rfl,zql (s:={ s with heap:=h' }) e c d (by decide) ⟨x,H,I1,ru,⟨rfl,fun ys hy=>by rw [I.list_inj hy hq]; exact hx⟩,st',fun b hb=>(hf b hb).1⟩⟩
  done:=by
    intro X hP hw hK hc i pins s σ H E I hf st hg
    subst hP hw hK
    obtain ⟨xs,hq,hx⟩:=hg
    obtain ⟨its,rv,p,hz⟩:=I.list hq
    obtain ⟨f0,f1,f2,f3,f4,f5⟩:=hf it (by simp)
    have hl:=rv.length
    exact wpAny_pyNext_list_end (I.ok.hd hc) st p.isList (by simp; omega) fun h' eb=>⟨rfl,I.turned (t':=s.toks) (fun b o hb e=>eb b o hb e) f0 f1 f3 f4 f5⟩
  self:=fun _ _ _ _ _ st h=>wpAny_pyIter_listiter st h
theorem zlD {P:Program} {w:World} {K:PySem.W.Frag} {tg:Expr} (it:Addr) (lo:Int) (n:Nat):Turn P w K tg (Itr lo n) [it] it (fun i h=>IsRangeIter h it (lo + (i:Nat) * 1) ((n:Int) - (i:Nat)) 1) where
  mem:=by simp
  obj:=fun i h st b hb=>by
    have e:b=it:=by simpa using hb
    subst e
    exact ⟨_,st,fun v z=>by
      have z':Data.fields _=Data.cell v:=z
      cases z'⟩
  keep:=fun i h h' st k=>k it (by simp) _ st
  item:=by
    intro X hP hw hK hc i pins s σ H E I hf st hg
    subst hP hw hK
    obtain ⟨f0,f1,f2,f3,f4,f5⟩:=hf it (by simp)
    have W:=Walks.range (prog:=X.prog) (w:=X.w) (I.ok.hd hc) it lo 1 n
    refine W.item i s _ _ hg st fun v h' tk hv st' kk=>?_
    obtain ⟨t,rfl⟩:=hv
    have I1:Inv X pins σ H { s with heap:=h',toks:=tk }:=I.turned (fun b o hb e=>kk b o (by simpa using hb) e) f0 f1 f3 f4 f5
    refine ⟨_,rfl,zql (s:={ s with heap:=h',toks:=tk }) (n:="range_iterator") st' rfl rfl (by decide) ⟨.int (lo + i),H,I1,⟨t,?_⟩,⟨rfl,rfl⟩,st',fun b hb=>(hf b hb).1⟩⟩
    rw [Int.mul_one]
  done:=by
    intro X hP hw hK hc i pins s σ H E I hf st hg
    subst hP hw hK
    obtain ⟨f0,f1,f2,f3,f4,f5⟩:=hf it (by simp)
    exact wpAny_pyNext_range_end (I.ok.hd hc) st (by have:n ≤ i:=hg; omega) fun h' eb=>⟨rfl,I.turned (t':=s.toks) (fun b o hb e=>eb b o hb e) f0 f1 f3 f4 f5⟩
  self:=fun _ _ _ _ _ st h=>wpAny_pyIter_rangeiter st h
end L2
namespace L2
open PySem PySem.Spec PyProof.Rows
section
variable {X:Cx} {tg:Expr}
def zpq (K:PySem.W.Frag) (tl:TE):TI:=fun σ H R=>tl σ H fun x H1=>∃ a,x = .ref a∧(∃ xs,SqL K H1 a xs)∧R (Itl K a) H1
theorem zbd {l:Expr} {tl:TE} (hl:PE X l tl):PI X tg l (zpq X.K tl):=by
  intro pins s σ H R I h
  refine thn (hl pins s σ H _ I h) fun v s1 ⟨x,H1,I1,r1,q1⟩=>?_
  obtain ⟨a,e,⟨xs,hq⟩,q⟩:=q1
  subst e
  cases r1
  obtain ⟨its,rv,p,hz⟩:=I1.list hq
  refine wpAny_pyIter_list p.isList ?_
  refine ⟨s1.heap.objs.size,[s1.heap.objs.size],_,_,H1,rfl,I1.kept (t':=s1.toks) fun b o e=>Heap.get?_push_of_some _ e,zmu a _,⟨_,Heap.get?_push_size _ rfl,rfl,rfl⟩,fun b hb=>?_,q⟩
  have e:b=s1.heap.objs.size:=by simpa using hb
  subst e
  exact I1.fpOk (Nat.le_refl _) (I1.hok.fresh (Nat.le_refl _))
theorem zlc {pins:List (Addr × Obj)} {σ:St} {H:Hp} {s:Shared} {R:It→Hp→Prop} {E:Value→Shared→Prop} {lo hi:Int} {t u v:Tok} {tk:Nat} (I:Inv X pins σ H s) (h1 : -(2 ^ 62) ≤ lo) (h2:lo < 2 ^ 62) (h3 : -(2 ^ 62) ≤ hi) (h4:hi < 2 ^ 62)
    (q:R (Itr lo (hi - lo).toNat) H):wpAny (model X.prog X.w) X.A (pyIter (.ref s.heap.objs.size)) (PIE X pins σ tg R) E { s with heap:=s.heap.push { cls:=.type "range",data:=.fields #[.int lo t,.int hi u,.int 1 v] },toks:=tk }:=by
  refine wpAny_pyIter_range (IsRange.new ..) (small_one h1 h2 h3 h4) ?_
  have I1:Inv X pins σ H { s with heap:=s.heap.push { cls:=.type "range",data:=.fields #[.int lo t,.int hi u,.int 1 v] },toks:=tk }:=I.kept fun b o e=>Heap.get?_push_of_some _ e
  refine ⟨(s.heap.push { cls:=.type "range",data:=.fields #[.int lo t,.int hi u,.int 1 v] }).objs.size,[(s.heap.push { cls:=.type "range",data:=.fields #[.int lo t,.int hi u,.int 1 v] }).objs.size],_,_,H,rfl,
    I1.kept (t':=tk) fun b o e=>Heap.get?_push_of_some _ e,zlD _ lo (hi - lo).toNat,?_,fun b hb=>?_,q⟩
  · have e1:lo + ((0:Nat):Int) * 1=lo:=by simp
    have e2:(((hi - lo).toNat:Nat):Int) - ((0:Nat):Int)=Builtin.Range.rangeSize lo hi 1:=by rw [rangeSize_one]; split <;> omega
    show IsRangeIter _ _ (lo + ((0:Nat):Int) * 1) ((((hi - lo).toNat:Nat):Int) - ((0:Nat):Int)) 1
    rw [e1,e2]
    exact Heap.get?_push_size _ rfl
  · have e:b=(s.heap.push { cls:=.type "range",data:=.fields #[.int lo t,.int hi u,.int 1 v] }).objs.size:=by simpa using hb
    subst e
    exact I1.fpOk (Nat.le_refl _) (I1.hok.fresh (Nat.le_refl _))
def zqh (ta:TA):TI:=fun σ H R=>ta σ H fun vs H1=>∃ j:Int,vs = [.int j]∧-(2 ^ 62) ≤ j∧j < 2 ^ 62∧R (Itr 0 j.toNat) H1
def zqQ (ta:TA):TI:=fun σ H R=>ta σ H fun vs H1=>∃ i j:Int,vs = [.int i,.int j]∧(-(2 ^ 62) ≤ i∧i < 2 ^ 62∧-(2 ^ 62) ≤ j∧j < 2 ^ 62)∧R (Itr i (j - i).toNat) H1
theorem zcs {a:Expr} {ta:TA} {p pos:Pos} (hg:Gl X "range") (hm:X.mg "range"=none) (ha:PA X [a] ta) (hs:starEach [a] X.env = [(false,eval a X.env)]:=by rfl):PI X tg (.Call (.Name "range" p) [a] [] pos) (zqh ta):=by
  intro pins s σ H R I h
  refine Call_ (zgS I hg hm boot_range (PyProof.Rows.callWith_type1 (thn (ha pos pins s σ H _ I h) fun us s1 ⟨vs,H1,I1,r1,q1⟩=>?_) hs rfl))
  obtain ⟨j,e,q1,q2,q⟩:=q1
  subst e
  cases r1 with
  | cons r rr =>
    cases rr
    obtain ⟨t,rfl⟩:=r
    exact call_range_1 (zlc I1 (by omega) (by omega) q1 q2 (by simpa using q))
theorem zhU {a b:Expr} {ta:TA} {p pos:Pos} (hg:Gl X "range") (hm:X.mg "range"=none) (ha:PA X [a,b] ta) (hs:starEach [a,b] X.env = [(false,eval a X.env),(false,eval b X.env)]:=by rfl) (hs2:starEach [b] X.env = [(false,eval b X.env)]:=by rfl) :
    PI X tg (.Call (.Name "range" p) [a,b] [] pos) (zqQ ta):=by
  intro pins s σ H R I h
  refine Call_ (zgS I hg hm boot_range (PyProof.Rows.callWith_type1 (thn (ha pos pins s σ H _ I h) fun us s1 ⟨vs,H1,I1,r1,q1⟩=>?_) (by rw [hs,hs2]) (by rw [hs2]; rfl)))
  obtain ⟨i,j,e,⟨q1,q2,q3,q4⟩,q⟩:=q1
  subst e
  cases r1 with
  | cons r rr =>
    cases rr with
    | cons r' rr =>
      cases rr
      obtain ⟨t,rfl⟩:=r
      obtain ⟨t',rfl⟩:=r'
      exact call_range_2 (zlc I1 q1 q2 q3 q4 q)
def tFor (wi:TI) (g:TG) (tb:TS):TS:=fun D σ H=>wi σ H fun J H1=>∃ W:Nat→Nat→St→Hp→Prop,(∃ m,W 0 m σ H1)∧∀ i m σ H,W i m σ H →
  (J.stop i H∧D.nx σ H)∨(J.go i H∧∃ N:St→Hp→Prop,(∀ σ' H',N σ' H'→∃ m',m' < m∧W (i + 1) m' σ' H')∧∀ x H',J.yld i H x H'→g x σ H' fun σ2 H2=>tb { D with nx:=N,ct:=N,bk:=D.nx } σ2 H2)
def ziz (fp:List Addr) (h:Heap):List (Addr × Obj):=fp.filterMap fun b=>(h.get? b).map fun o=>(b,o)
theorem zex {fp:List Addr} {h:Heap} {b:Addr} {o:Obj} (hb:b ∈ fp) (e:h.get? b=some o):(b,o) ∈ ziz fp h:=List.mem_filterMap.mpr ⟨b,hb,by rw [e]; rfl⟩
theorem zmd {fp:List Addr} {h:Heap} {p:Addr × Obj} (hp:p ∈ ziz fp h):p.1 ∈ fp∧h.get? p.1=some p.2:=by
  obtain ⟨b,hb,e⟩:=List.mem_filterMap.mp hp
  cases q:h.get? b with
  | none=>rw [q] at e; cases e
  | some o =>
    rw [q] at e
    have e':(b,o)=p:=Option.some.inj e
    subst e'
    exact ⟨hb,q⟩
theorem Inv.pinned {pins:List (Addr × Obj)} {σ:St} {H:Hp} {s:Shared} {fp:List Addr} (I:Inv X pins σ H s) (hf:∀ b ∈ fp,FpOk X pins H b) (ho:∀ b ∈ fp,∃ o,s.heap.get? b=some o∧∀ v,o.data ≠ .cell v):Inv X (pins ++ ziz fp s.heap) σ H s :=
  I.pins_of fun p hp=>(List.mem_append.mp hp).elim (fun z=>I.pin p (List.mem_append_right _ z)) fun z=>by
    obtain ⟨hb,e⟩:=zmd z
    obtain ⟨f0,f1,f2,_⟩:=hf p.1 hb
    obtain ⟨o,e',d⟩:=ho p.1 hb
    rw [e] at e'; cases e'
    exact ⟨e,f0,f1,f2,d⟩
theorem Inv.unpinned {pins pl:List (Addr × Obj)} {σ:St} {H:Hp} {s:Shared} (I:Inv X (pins ++ pl) σ H s):Inv X pins σ H s:=I.pins_of fun p hp=>I.pin p (List.mem_append_right _ (List.mem_append_left _ hp))
theorem zbY {iter:Expr} {body:List Stmt} {wi:TI} {g:TG} {tb:TS} {pos:Pos} (hp:PassesOwn (model X.prog X.w) X.A X.env X.xe) (hc:X.calm=true) (hi:PI X tg iter wi) (hg:PG X tg g) (hb:PSs X body tb)
    (hs:∀ x,foldedSetIterable iter X.env x=pure x:=by intro _; rfl):PS X (.For tg iter body [] pos) (tFor wi g tb):=by
  intro pins s σ H D I h
  refine wpAny_For (thn (hi pins s σ H _ I h) fun v s1 h1=>thn h1 fun itv s2 h2=>?_) hs
  obtain ⟨it,fp,tn,J,H2,e,I2,T,st2,f2,W,⟨m0,w0⟩,turn⟩:=h2
  subst e
  -- what stays true of the iterator's objects through the loop
  have stat:∀ {H':Hp},(∀ b ∈ fp,H' b=none)→∀ b ∈ fp,FpOk X pins H' b:=fun hn b hb=>⟨hn b hb,(f2 b hb).2⟩
  refine codeAny_forLoop_any (fun n s'=>∃ i σ' H',Inv X pins σ' H' s'∧tn i s'.heap∧(∀ b ∈ fp,H' b=none)∧W i n σ' H') ?_ m0 ⟨0,σ,H2,I2,st2,fun b hb=>(f2 b hb).1,w0⟩
  rintro n s3 ⟨i,σ3,H3,I3,st3,fr3,w3⟩
  rcases turn i n σ3 H3 w3 with ⟨stop,qn⟩ | ⟨go,N,hN,step⟩
  · refine wpAny_passesOwn hp (thn (T.done X rfl rfl rfl hc i pins s3 σ3 H3 X.xe I3 (stat fr3) st3 stop) fun r s4 ⟨hr,I4⟩=>?_)
    subst hr
    exact wpAny_execs_nil ⟨σ3,H3,I4,qn⟩
  · refine wpAny_passesOwn hp (thn (T.item X rfl rfl rfl hc i pins s3 σ3 H3 X.xe I3 (stat fr3) st3 go) fun r s4 ⟨u,hr,h4⟩=>?_)
    subst hr
    refine wpAny_passesOwn hp (thn h4 fun _ s5 ⟨x,H5,I5,r5,y5,st5,fr5⟩=>?_)
    have I5':=I5.pinned (stat fr5) (T.obj _ _ st5)
    refine wpAny_passesOwn hp (thn (hg _ s5 σ3 H5 x u _ I5' r5 (step x H5 y5)) fun _ s6 ⟨σ6,H6,I6,q6⟩=>?_)
    refine wpAny_passesOwn hp (thn (hb _ s6 σ6 H6 _ I6 q6) fun f s7 q7=>?_)
    have again:∀ {σ7:St} {H7:Hp},Inv X (pins ++ ziz fp s5.heap) σ7 H7 s7→N σ7 H7→∃ m,m < n∧∃ i σ' H',Inv X pins σ' H' s7∧tn i s7.heap∧(∀ b ∈ fp,H' b=none)∧W i m σ' H':=fun {σ7 H7} I7 n7=>by
      obtain ⟨m',hm,w7⟩:=hN σ7 H7 n7
      refine ⟨m',hm,i + 1,σ7,H7,I7.unpinned,T.keep _ _ _ st5 fun b hb o e=>(I7.pin (b,o) (List.mem_append_right _ (List.mem_append_right _ (zex hb e)))).1,fun b hb=>?_,w7⟩
      obtain ⟨o,e,d⟩:=T.obj _ _ st5 b hb
      exact (I7.pin (b,o) (List.mem_append_right _ (List.mem_append_right _ (zex hb e)))).2.1
    cases f with
    | next=>obtain ⟨σ7,H7,I7,n7⟩:=q7; exact again I7 n7
    | cont=>obtain ⟨σ7,H7,I7,n7⟩:=q7; exact again I7 n7
    | brk=>obtain ⟨σ7,H7,I7,q7⟩:=q7; exact ⟨σ7,H7,I7.unpinned,q7⟩
    | ret v=>obtain ⟨x7,σ7,H7,I7,r7,q7⟩:=q7; exact ⟨x7,σ7,H7,I7.unpinned,r7,q7⟩
end
end L2
namespace L2
open PySem PySem.Spec PyProof.Rows
abbrev R2:=V→V→Hp→VK→Prop
def OpR (X:Cx) (f:Value→Value→Sem Value) (r:R2):Prop :=
  ∀ (pins:List (Addr × Obj)) (s:Shared) (σ:St) (H:Hp) (x y:V) (v u:Value) (Q:VK),Inv X pins σ H s→RelV x v→RelV y u→r x y H Q →
    wpAny (model X.prog X.w) X.A (f v u) (EP X pins σ Q) X.xe s
def UnR (X:Cx) (f:Value→Sem Value) (r:V→Hp→VK→Prop):Prop :=
  ∀ (pins:List (Addr × Obj)) (s:Shared) (σ:St) (H:Hp) (x:V) (v:Value) (Q:VK),Inv X pins σ H s→RelV x v→r x H Q →
    wpAny (model X.prog X.w) X.A (f v) (EP X pins σ Q) X.xe s
def zfP (X:Cx) (f:Value) (r:List V→Hp→VK→Prop):Prop :=
  ∀ (pins:List (Addr × Obj)) (s:Shared) (σ:St) (H:Hp) (xs:List V) (us:List Value) (Q:VK),Inv X pins σ H s→Vals xs us→r xs H Q →
    wpAny (model X.prog X.w) X.A (call f us) (EP X pins σ Q) X.xe s
def tOp (r:R2) (ta tb:TE):TE:=fun σ H Q=>ta σ H fun x H1=>tb σ H1 fun y H2=>r x y H2 Q
def tUn (r:V→Hp→VK→Prop) (ta:TE):TE:=fun σ H Q=>ta σ H fun x H1=>r x H1 Q
def rI (C:Int→Int→Prop) (g:Int→Int→V):R2:=fun x y H Q=>∃ i j,x = .int i∧y = .int j∧C i j∧Q (g i j) H
def rI0 (g:Int→Int→V):R2:=fun x y H Q=>∃ i j,x = .int i∧y = .int j∧Q (g i j) H
def rU (g:Int→V):V→Hp→VK→Prop:=fun x H Q=>∃ i,x = .int i∧Q (g i) H
section
variable {X:Cx} {a b c:Expr} {ta tb tc:TE} {pos:Pos}
theorem binT (ha:PE X a ta) (hb:PE X b tb) {pins:List (Addr × Obj)} {s:Shared} {σ:St} {H:Hp} {R:V→V→Hp→Prop} (I:Inv X pins σ H s)
    (h:ta σ H fun x H1=>tb σ H1 fun y H2=>R x y H2) {Q:Value→Shared→Prop} {f:Value→Value→Sem Value}
    (hf:∀ v u s2 x y H2,Inv X pins σ H2 s2→RelV x v→RelV y u→R x y H2→wpAny (model X.prog X.w) X.A (f v u) Q X.xe s2) :
    wpAny (model X.prog X.w) X.A (eval a X.env) (fun v s₁=>wpAny (model X.prog X.w) X.A (eval b X.env) (fun u s₂=>wpAny (model X.prog X.w) X.A (f v u) Q X.xe s₂) X.xe s₁) X.xe s:=by
  refine thn (ha pins s σ H _ I h) fun v s1 ⟨x,H1,I1,r1,q1⟩=>?_
  refine thn (hb pins s1 σ H1 _ I1 q1) fun u s2 ⟨y,H2,I2,r2,q2⟩=>?_
  exact hf v u s2 x y H2 I2 r1 r2 q2
theorem zau {op:Operator} {r:R2} (ho:OpR X (binaryOp op) r) (ha:PE X a ta) (hb:PE X b tb):PE X (.BinOp a op b pos) (tOp r ta tb):=by
  intro pins s σ H Q I h
  exact wpAny_BinOp (binT ha hb I h fun v u s2 x y H2 I2 rx ry q=>ho pins s2 σ H2 x y v u Q I2 rx ry q)
theorem zpm {op:UnaryOp} {r:V→Hp→VK→Prop} (ho:UnR X (unaryOp op) r) (ha:PE X a ta):PE X (.UnaryOp op a pos) (tUn r ta):=by
  intro pins s σ H Q I h
  exact UnaryOp_ (thn (ha pins s σ H _ I h) fun v s1 ⟨x,H1,I1,r1,q1⟩=>ho pins s1 σ H1 x v Q I1 r1 q1)
theorem opI {f:Value→Value→Sem Value} {C:Int→Int→Prop} {g:Int→Int→Int}
    (rule:∀ (i j:Int) (t u:Tok) (s:Shared) (Q:Value→Shared→Prop) (E:Value→Shared→Prop),C i j→Q (.int (g i j) s.toks) { s with toks:=s.toks + 1 }→wpAny (model X.prog X.w) X.A (f (.int i t) (.int j u)) Q E s) :
    OpR X f (rI C fun i j=>.int (g i j)):=by
  intro pins s σ H x y v u Q I rx ry h
  obtain ⟨i,j,rfl,rfl,hc,q⟩:=h
  obtain ⟨t,rfl⟩:=rx
  obtain ⟨t',rfl⟩:=ry
  exact rule i j t t' s _ _ hc ⟨.int (g i j),H,I.tok _,⟨_,rfl⟩,q⟩
theorem opI0 {f:Value→Value→Sem Value} {g:Int→Int→Int}
    (rule:∀ (i j:Int) (t u:Tok) (s:Shared) (Q:Value→Shared→Prop) (E:Value→Shared→Prop),Q (.int (g i j) s.toks) { s with toks:=s.toks + 1 }→wpAny (model X.prog X.w) X.A (f (.int i t) (.int j u)) Q E s) :
    OpR X f (rI0 fun i j=>.int (g i j)):=by
  intro pins s σ H x y v u Q I rx ry h
  obtain ⟨i,j,rfl,rfl,q⟩:=h
  obtain ⟨t,rfl⟩:=rx
  obtain ⟨t',rfl⟩:=ry
  exact rule i j t t' s _ _ ⟨.int (g i j),H,I.tok _,⟨_,rfl⟩,q⟩
theorem opB0 {f:Value→Value→Sem Value} {g:Int→Int→Bool}
    (rule:∀ (i j:Int) (t u:Tok) (s:Shared) (Q:Value→Shared→Prop) (E:Value→Shared→Prop),Q (.bool (g i j)) s→wpAny (model X.prog X.w) X.A (f (.int i t) (.int j u)) Q E s) :
    OpR X f (rI0 fun i j=>.bl (g i j)):=by
  intro pins s σ H x y v u Q I rx ry h
  obtain ⟨i,j,rfl,rfl,q⟩:=h
  obtain ⟨t,rfl⟩:=rx
  obtain ⟨t',rfl⟩:=ry
  exact rule i j t t' s _ _ ⟨.bl (g i j),H,I,rfl,q⟩
def CPow (i j:Int):Prop:=0 ≤ j∧j ≤ 1000000∧i.natAbs < 2 ^ 64
theorem zbN:OpR X (binaryOp .Add) (rI0 fun i j=>.int (i + j)):=opI0 fun _ _ _ _ _ _ _ q=>add_int q
theorem zf9:OpR X (binaryOp .Sub) (rI0 fun i j=>.int (i - j)):=opI0 fun _ _ _ _ _ _ _ q=>sub_int q
theorem za6:OpR X (binaryOp .Mod) (rI (fun _ j=>0 < j) fun i j=>.int (i % j)):=opI fun i j _ _ _ _ _ hc q=>by
  have h1:(0:Int) < j:=hc
  exact mod_int' (by omega) (by rw [Int.fmod_eq_emod_of_nonneg i (by omega)]; exact q)
theorem zl3:OpR X (binaryOp .Pow) (rI CPow fun i j=>.int (i ^ j.toNat)):=opI fun _ _ _ _ _ _ _ hc q=>pow_int_small hc.1 hc.2.1 hc.2.2 q
theorem unI {f:Value→Sem Value} {g:Int→Int}
    (rule:∀ (i:Int) (t:Tok) (s:Shared) (Q:Value→Shared→Prop) (E:Value→Shared→Prop),Q (.int (g i) s.toks) { s with toks:=s.toks + 1 }→wpAny (model X.prog X.w) X.A (f (.int i t)) Q E s) :
    UnR X f (rU fun i=>.int (g i)):=by
  intro pins s σ H x v Q I rx h
  obtain ⟨i,rfl,q⟩:=h
  obtain ⟨t,rfl⟩:=rx
  exact rule i t s _ _ ⟨.int (g i),H,I.tok _,⟨_,rfl⟩,q⟩
theorem zmb:UnR X (unaryOp .USub) (rU fun i=>.int (-i)):=unI fun _ _ _ _ _ q=>neg_int q
end
def scal:V→V→Bool
  | .non,.non=>true | .non,.int _=>true | .int _,.non=>true | .non,.bl _=>true | .bl _,.non=>true | .non,.str _=>true | .str _,.non=>true
  | .int _,.int _=>true | .bl _,.bl _=>true | .str _,.str _=>true | .byt _,.byt _=>true
  | .int _,.str _=>true | .str _,.int _=>true | .bl _,.str _=>true | .str _,.bl _=>true
  | _,_=>false
def rEq:R2:=fun x y H Q=>scal x y=true∧Q (.bl (decide (x=y))) H
def rNe:R2:=fun x y H Q=>scal x y=true∧Q (.bl (!decide (x=y))) H
theorem zmK {i j:Int}:decide (V.int i=V.int j)=(i == j):=by
  rw [Bool.eq_iff_iff]
  simp
theorem zoL {i j:Bool}:decide (V.bl i=V.bl j)=(i == j):=by
  rw [Bool.eq_iff_iff]
  simp
theorem zme {i j:Str}:decide (V.str i=V.str j)=(i == j):=by
  rw [Bool.eq_iff_iff]
  simp
theorem zmn {i j:Array UInt8}:decide (V.byt i=V.byt j)=(i.toList == j.toList):=by
  rw [Bool.eq_iff_iff]
  cases i
  cases j
  simp
section
variable {X:Cx} {a b c:Expr} {ta tb tc:TE} {pos:Pos}
theorem zbM {pins:List (Addr × Obj)} {σ:St} {H:Hp} {s:Shared} {Q:VK} {k k':Bool} (I:Inv X pins σ H s) (q:Q (.bl k) H) (e:k=k'):EP X pins σ Q (.bool k') s:=by
  subst e
  exact ⟨.bl k,H,I,rfl,q⟩
theorem zdK:OpR X (compareOp .Eq) rEq:=by
  intro pins s σ H x y v u Q I rx ry h
  obtain ⟨hs,q⟩:=h
  cases x with
  | non =>
    cases rx
    cases y with
    | non=>cases ry; exact PySem.EqNone.eq_none_none (zbM I q (by simp))
    | bl j=>cases ry; exact PySem.EqNone.eq_none_bool (zbM I q (by simp))
    | int j=>obtain ⟨t',rfl⟩:=ry; exact PySem.EqNone.eq_none_int (zbM I q (by simp))
    | str j=>obtain ⟨t',rfl⟩:=ry; exact PySem.EqNone.eq_none_str (zbM I q (by simp))
    | _=>exact absurd (show false=true from hs) Bool.false_ne_true
  | bl i =>
    cases rx
    cases y with
    | non=>cases ry; exact PySem.EqNone.eq_bool_none (zbM I q (by simp))
    | bl j=>cases ry; exact eq_bool (zbM I q zoL)
    | str j=>obtain ⟨t',rfl⟩:=ry; exact PySem.EqMixed.eq_bool_str (zbM I q (by simp))
    | _=>exact absurd (show false=true from hs) Bool.false_ne_true
  | int i =>
    obtain ⟨t,rfl⟩:=rx
    cases y with
    | non=>cases ry; exact PySem.EqNone.eq_int_none (zbM I q (by simp))
    | int j=>obtain ⟨t',rfl⟩:=ry; exact eq_int (zbM I q zmK)
    | str j=>obtain ⟨t',rfl⟩:=ry; exact PySem.EqMixed.eq_int_str (zbM I q (by simp))
    | _=>exact absurd (show false=true from hs) Bool.false_ne_true
  | str i =>
    obtain ⟨t,rfl⟩:=rx
    cases y with
    | non=>cases ry; exact PySem.EqNone.eq_str_none (zbM I q (by simp))
    | bl j=>cases ry; exact PySem.EqMixed.eq_str_bool (zbM I q (by simp))
    | int j=>obtain ⟨t',rfl⟩:=ry; exact PySem.EqMixed.eq_str_int (zbM I q (by simp))
    | str j=>obtain ⟨t',rfl⟩:=ry; exact eq_str (zbM I q zme)
    | _=>exact absurd (show false=true from hs) Bool.false_ne_true
  | byt i =>
    obtain ⟨t,rfl⟩:=rx
    cases y with
    | byt j=>obtain ⟨t',rfl⟩:=ry; exact PySem.W.eq_bytes (zbM I q zmn)
    | _=>exact absurd (show false=true from hs) Bool.false_ne_true
  | _=>cases y <;> exact absurd (show false=true from hs) Bool.false_ne_true
theorem znB:OpR X (compareOp .NotEq) rNe:=by
  intro pins s σ H x y v u Q I rx ry h
  obtain ⟨hs,q⟩:=h
  cases x with
  | non =>
    cases rx
    cases y with
    | non=>cases ry; exact PySem.EqNone.ne_none_none (zbM I q (by simp))
    | bl j=>cases ry; exact PySem.EqNone.ne_none_bool (zbM I q (by simp))
    | int j=>obtain ⟨t',rfl⟩:=ry; exact PySem.EqNone.ne_none_int (zbM I q (by simp))
    | str j=>obtain ⟨t',rfl⟩:=ry; exact PySem.EqNone.ne_none_str (zbM I q (by simp))
    | _=>exact absurd (show false=true from hs) Bool.false_ne_true
  | bl i =>
    cases rx
    cases y with
    | non=>cases ry; exact PySem.EqNone.ne_bool_none (zbM I q (by simp))
    | bl j=>cases ry; exact ne_bool (zbM I q (congrArg not zoL))
    | str j=>obtain ⟨t',rfl⟩:=ry; exact PySem.EqMixed.ne_bool_str (zbM I q (by simp))
    | _=>exact absurd (show false=true from hs) Bool.false_ne_true
  | int i =>
    obtain ⟨t,rfl⟩:=rx
    cases y with
    | non=>cases ry; exact PySem.EqNone.ne_int_none (zbM I q (by simp))
    | int j=>obtain ⟨t',rfl⟩:=ry; exact ne_int (zbM I q (congrArg not zmK))
    | str j=>obtain ⟨t',rfl⟩:=ry; exact PySem.EqMixed.ne_int_str (zbM I q (by simp))
    | _=>exact absurd (show false=true from hs) Bool.false_ne_true
  | str i =>
    obtain ⟨t,rfl⟩:=rx
    cases y with
    | non=>cases ry; exact PySem.EqNone.ne_str_none (zbM I q (by simp))
    | bl j=>cases ry; exact PySem.EqMixed.ne_str_bool (zbM I q (by simp))
    | int j=>obtain ⟨t',rfl⟩:=ry; exact PySem.EqMixed.ne_str_int (zbM I q (by simp))
    | str j=>obtain ⟨t',rfl⟩:=ry; exact ne_str (zbM I q (congrArg not zme))
    | _=>exact absurd (show false=true from hs) Bool.false_ne_true
  | byt i =>
    obtain ⟨t,rfl⟩:=rx
    cases y with
    | byt j=>obtain ⟨t',rfl⟩:=ry; exact PySem.W.ne_bytes (zbM I q (congrArg not zmn))
    | _=>exact absurd (show false=true from hs) Bool.false_ne_true
  | _=>cases y <;> exact absurd (show false=true from hs) Bool.false_ne_true
theorem zhG:OpR X (compareOp .Lt) (rI0 fun i j=>.bl (decide (i < j))):=opB0 fun _ _ _ _ _ _ _ q=>lt_int q
theorem zrd:OpR X (compareOp .LtE) (rI0 fun i j=>.bl (decide (i ≤ j))):=opB0 fun _ _ _ _ _ _ _ q=>le_int q
theorem zfo:OpR X (compareOp .Gt) (rI0 fun i j=>.bl (decide (j < i))):=opB0 fun _ _ _ _ _ _ _ q=>gt_int q
theorem zrt:OpR X (compareOp .GtE) (rI0 fun i j=>.bl (decide (j ≤ i))):=opB0 fun _ _ _ _ _ _ _ q=>ge_int q
theorem zmI:OpR X (compareOp .Is) (fun x y H Q=>y = .non∧Q (.bl (decide (x = .non))) H):=by
  intro pins s σ H x y v u Q I rx ry h
  obtain ⟨rfl,q⟩:=h
  cases ry
  refine is_none_gen (zbM I q ?_)
  cases x <;> first
    | (cases rx; rfl)
    | (obtain ⟨t,rfl⟩:=rx; rfl)
theorem zaU (b:Expr) {op:CmpOp} (h:op ≠ .In:=by decide) (h2:op ≠ .NotIn:=by decide):behindInMarks op b=false:=by
  have e1:(op == CmpOp.In)=false:=by cases op <;> first | rfl | exact absurd rfl h
  have e2:(op == CmpOp.NotIn)=false:=by cases op <;> first | rfl | exact absurd rfl h2
  cases b <;> simp [behindInMarks,e1,e2]
theorem zer {op:CmpOp} {r:R2} (ho:OpR X (compareOp op) r) (ha:PE X a ta) (hb:PE X b tb) (hm:behindInMarks op b=false):PE X (.Compare a [op] [b] pos) (tOp r ta tb):=by
  intro pins s σ H Q I h
  exact wpAny_Compare1 (binT ha hb I h fun v u s2 x y H2 I2 rx ry q=>ho pins s2 σ H2 x y v u Q I2 rx ry q) hm
def zqS (t:TE):TT:=fun σ H Q=>t σ H fun x H'=>∃ k,x = .bl k∧Q k H'
theorem zaC {op:CmpOp} {r:R2} (ho:OpR X (compareOp op) r) (ha:PE X a ta) (hb:PE X b tb) (hm:behindInMarks op b=false):PT X (.Compare a [op] [b] pos) (zqS (tOp r ta tb)):=by
  intro pins s σ H Q I h
  refine wpAny_isTrue_Compare1 (thn (ha pins s σ H _ I h) fun v s1 ⟨x,H1,I1,r1,q1⟩=>thn (hb pins s1 σ H1 _ I1 q1) fun u s2 ⟨y,H2,I2,r2,q2⟩ =>
    thn (ho pins s2 σ H2 x y v u _ I2 r1 r2 q2) fun c s3 ⟨z,H3,I3,r3,k,e,q3⟩=>?_) hm
  subst e
  cases r3
  exact wpAny_truthy_bool ⟨H3,I3,q3⟩
def zon (r r':R2) (ta tb tc:TE):TE:=fun σ H Q=>ta σ H fun x H1=>tb σ H1 fun y H2=>r x y H2 fun z H3=>∃ k,z = .bl k ∧
  (if k=true then tc σ H3 fun w' H4=>r' y w' H4 Q else Q (.bl false) H3)
theorem zoc {op op':CmpOp} {r r':R2} (ho:OpR X (compareOp op) r) (ho':OpR X (compareOp op') r') (ha:PE X a ta) (hb:PE X b tb) (hc:PE X c tc)
    (hm:lastMarks [op,op'] [b,c]=false:=by with_unfolding_all rfl):PE X (.Compare a [op,op'] [b,c] pos) (zon r r' ta tb tc):=by
  intro pins s σ H Q I h
  refine Compare_chain (thn (ha pins s σ H _ I h) fun v s1 ⟨x,H1,I1,r1,q1⟩=>chain_link (thn (hb pins s1 σ H1 _ I1 q1) fun u s2 ⟨y,H2,I2,r2,q2⟩ =>
    thn (ho pins s2 σ H2 x y v u _ I2 r1 r2 q2) fun d s3 ⟨z,H3,I3,r3,k,e,q3⟩=>?_)) hm
  subst e
  cases r3
  refine wpAny_truthy_bool ?_
  cases k with
  | false=>exact ite_ff ⟨.bl false,H3,I3,rfl,q3⟩
  | true=>exact ite_tt (chain_last (thn (hc pins s3 σ H3 _ I3 q3) fun w' s4 ⟨z',H4,I4,r4,q4⟩=>ho' pins s4 σ H4 y z' u w' Q I4 r2 r4 q4))
theorem zjo:(sizeLine:Nat) < 2 ^ 63:=by rw [sizeLine_eq]; decide
theorem zgc {x:V} {us:List Value} (r:Vals [x] us):∃ u,us = [u]∧RelV x u:=by
  cases r with
  | cons r1 r2=>cases r2; exact ⟨_,rfl,r1⟩
theorem zn3 {x y:V} {us:List Value} (r:Vals [x,y] us):∃ u w',us = [u,w']∧RelV x u∧RelV y w':=by
  cases r with
  | cons r1 r2 =>
    cases r2 with
    | cons r3 r4=>cases r4; exact ⟨_,_,rfl,r1,r3⟩
theorem ziX:zfP X (.builtin "abs") (fun xs H Q=>∃ i,xs = [.int i]∧Q (.int (if i < 0 then -i else i)) H):=by
  intro pins s σ H xs us Q I r h
  obtain ⟨i,rfl,q⟩:=h
  obtain ⟨u,rfl,t,rfl⟩:=zgc r
  exact call_abs_int fun u tk=>⟨.int (if i < 0 then -i else i),H,I.tok _,⟨_,rfl⟩,q⟩
theorem zni (hc:X.calm=true):zfP X (.builtin "max") (fun xs H Q=>∃ i j,xs = [.int i,.int j]∧Q (.int (if j > i then j else i)) H):=by
  intro pins s σ H xs us Q I r h
  obtain ⟨i,j,rfl,q⟩:=h
  obtain ⟨u,w',rfl,⟨t,rfl⟩,⟨t',rfl⟩⟩:=zn3 r
  refine max_two_ints (I.ok.hd hc) fun h' tk k=>⟨_,H,I.kept k,?_,q⟩
  by_cases hj:j > i
  · rw [if_pos hj,if_pos hj]; exact ⟨_,rfl⟩
  · rw [if_neg hj,if_neg hj]; exact ⟨_,rfl⟩
theorem zmU (hc:X.calm=true):zfP X (.builtin "min") (fun xs H Q=>∃ i j,xs = [.int i,.int j]∧Q (.int (if j < i then j else i)) H):=by
  intro pins s σ H xs us Q I r h
  obtain ⟨i,j,rfl,q⟩:=h
  obtain ⟨u,w',rfl,⟨t,rfl⟩,⟨t',rfl⟩⟩:=zn3 r
  refine min_two_ints (I.ok.hd hc) fun h' tk k=>⟨_,H,I.kept k,?_,q⟩
  by_cases hj:j < i
  · rw [if_pos hj,if_pos hj]; exact ⟨_,rfl⟩
  · rw [if_neg hj,if_neg hj]; exact ⟨_,rfl⟩
theorem zm9:zfP X (.type "int") (fun xs H Q=>(∃ i,xs = [.int i]∧Q (.int i) H)∨∃ k,xs = [.bl k]∧Q (.int (if k then 1 else 0)) H):=by
  intro pins s σ H xs us Q I r h
  rcases h with ⟨i,rfl,q⟩ | ⟨k,rfl,q⟩
  · obtain ⟨u,rfl,t,rfl⟩:=zgc r
    exact call_int_int ⟨.int i,H,I,⟨_,rfl⟩,q⟩
  · obtain ⟨u,rfl,r1⟩:=zgc r
    cases r1
    exact call_int_bool ⟨.int (if k then 1 else 0),H,I.tok _,⟨_,rfl⟩,q⟩
end
end L2
namespace L2
open PySem PySem.Spec PyProof.Rows
structure ObjM (h:Heap) (x dx C:Addr) (mA:Str→Option Value):Prop where
  obj:h.get? x=some (PySem.W.instObj C dx)
  ns:h.Ns1 dx mA
  ne:dx ≠ x
theorem zl0 {h:Heap} {dx:Addr} {mA:Str→Option Value} (n:h.Ns1 dx mA):∃ od,h.get? dx=some od∧∀ name,PySem.W.lookIn name od=some (mA name):=by
  obtain ⟨o,es,ep,ho,hd,hk,_,hm⟩:=n
  refine ⟨o,ho,fun name=>?_⟩
  have e:=hm name
  unfold nsFind findBy at e
  rw [← Array.find?_toList] at e
  unfold PySem.W.lookIn
  rw [hd]
  dsimp only
  split
  · rename_i y q
    rw [q] at e
    exact congrArg some e
  · rename_i q
    rw [q] at e
    have a:es.toList.any (·.refKey)=false:=by
      rw [List.any_eq_false]
      intro y hy
      obtain ⟨z,t,hkey⟩:=hk y (Array.mem_toList_iff.mp hy)
      simp [DictEntry.refKey,hkey]
    have a':¬ es.toList.any (·.refKey)=true:=by rw [a]; exact Bool.false_ne_true
    rw [if_neg a']
    exact congrArg some e
theorem ObjM.look {h:Heap} {x dx C:Addr} {mA:Str→Option Value} (I:ObjM h x dx C mA):∃ od,PySem.W.InstAt h x (PySem.W.instObj C dx) C (some od)∧∀ name,PySem.W.lookIn name od=some (mA name) :=
  let ⟨od,ho,hl⟩:=zl0 I.ns
  ⟨od,⟨I.obj,rfl,rfl,ho⟩,hl⟩
section
variable {prog:Program} {w:World} {A:Around} {E:Value→Shared→Prop} {s:Shared} {K:PySem.W.Frag} {x dx C f:Addr} {mA:Str→Option Value} {name:Str} {v:Value}
end
theorem RelO.some_of {v:V} {o:Option Value} (r:RelO (some v) o):∃ u,o=some u∧RelV v u:=by
  cases o with
  | none=>exact (show False from r).elim
  | some u=>exact ⟨u,rfl,r⟩
section
variable {P:Program} {w:World} {H H':Hp} {h h':Heap} {a C dx:Addr} {fs fs':List (Str × V)}
theorem zpa (hok:HOk P w H h) (e:H a=some (.ins C dx fs)):∃ mA,ObjM h a dx C mA∧(∀ f,RelO (fs.lookup f) (mA f))∧PySem.Within mA (fs.map (·.1))∧fs.length ≤ 1000∧H dx=some (.own a):=by
  obtain ⟨d,z,ne,ob,mA,n,r,q⟩:=(show ObjOk P w H h a (.ins C dx fs) from hok a _ e)
  exact ⟨mA,⟨ob,n,ne⟩,r,q,z,d⟩
end
structure Cls (K:PySem.W.Frag) (C:Addr):Prop where
  pg:PySem.W.plainGet K C Str.empty=true
  hd:PySem.W.hasDictIn K C=true
  po:PySem.W.plainOver K C=true
  sa:PySem.W.findIn K (.ref C) "__setattr__"=some (some (.builtin "object.__setattr__"))
theorem Cls.get {K:PySem.W.Frag} {C:Addr} (c:Cls K C) (f:Str):PySem.W.plainGet K C f=true:=c.pg
section
variable {X:Cx} {pins:List (Addr × Obj)} {σ:St} {H:Hp} {s:Shared} {a C dx:Addr} {fs:List (Str × V)} {f:Str} {v:V} {A:Around} {E:Value→Shared→Prop}
end
section
variable {X:Cx} {o e value:Expr} {f:Str} {pos pos' tpos:Pos} {ta tv:TE}
end
section
variable {X:Cx} {pins:List (Addr × Obj)} {σ:St} {H:Hp} {s:Shared} {A:Around} {E:Value→Shared→Prop} {Q:Value→Shared→Prop} {c:Value} {b:Bool}
inductive TyOf (K:PySem.W.Frag) (H:Hp):V→Value→Prop where
  | non:TyOf K H .non (.type "NoneType")
  | bl (x:Bool):TyOf K H (.bl x) (.type "bool")
  | int (i:Int):TyOf K H (.int i) (.type "int")
  | str (x:Str):TyOf K H (.str x) (.type "str")
  | flt (x:UInt64):TyOf K H (.flt x) (.type "float")
  | lst {a:Addr} {xs:List V} (e:H a=some (.lst xs)):TyOf K H (.ref a) (.type "list")
  | frz {a:Addr} {o:Obj} {xs:List V} (e:H a=some (.frz o (.lst xs))):TyOf K H (.ref a) (.type "list")
  | tup {a:Addr} {xs:List V} (e:H a=some (.tup xs)):TyOf K H (.ref a) (.type "tuple")
  | dK {a:Addr} {kvs:List (Key × V)} (e:H a=some (.dK kvs)):TyOf K H (.ref a) (.type "dict")
  | dT {a:Addr} {kvs:List (List Key × V)} (e:H a=some (.dT kvs)):TyOf K H (.ref a) (.type "dict")
  | ins {a C dx:Addr} {fs:List (Str × V)} (e:H a=some (.ins C dx fs)) (cl:Cls K C) (ha:PySem.W.findIn K (.ref C) "__class__"=some (some (.builtin "object.__class__")))
      (hn:PySem.W.specialIn K (.builtin "object.__class__") "__get__"=some (some (.builtin "getset_descriptor.__get__"))) (htk:PySem.W.takesIn K (.builtin "object.__class__")=some true)
      (hm:PySem.W.mroIn K C (.type "object")=some true):TyOf K H (.ref a) (.ref C)
theorem zmW {x:V} {u t:Value} (I:Inv X pins σ H s) (rx:RelV x u) (ty:TyOf X.K H x t) (e:PySem.W.kitOne X.K t c=some b) (h:∀ tk,Q (.bool b) { s with toks:=tk }) :
    wpAny (model X.prog X.w) A (call (.builtin "isinstance") [u,c]) Q E s:=by
  cases ty with
  | non=>cases (show u=Value.none from rx); exact PySem.W.kia_one PySem.W.kitx_none I.kIn True.intro e (fun z=>nomatch z) h
  | bl y=>cases (show u=Value.bool y from rx); exact PySem.W.kia_one PySem.W.kitx_bool I.kIn True.intro e (fun z=>nomatch z) h
  | int i=>obtain ⟨t,q⟩:=(show ∃ t,u=Value.int i t from rx); cases q; exact PySem.W.kia_one PySem.W.kitx_int I.kIn True.intro e (fun z=>nomatch z) h
  | str y=>obtain ⟨t,q⟩:=(show ∃ t,u=Value.str y t from rx); cases q; exact PySem.W.kia_one PySem.W.kitx_str I.kIn True.intro e (fun z=>nomatch z) h
  | flt y=>obtain ⟨t,q⟩:=(show ∃ t,u=Value.float y t from rx); cases q; exact PySem.W.kia_one PySem.W.kitx_float I.kIn True.intro e (fun z=>nomatch z) h
  | @lst a xs ea =>
    cases (show u=Value.ref a from rx)
    obtain ⟨_,_,n,_,h1⟩:=(show ObjOk X.prog X.w H s.heap a (.lst xs) from I.hok a _ ea)
    exact PySem.W.kia_one PySem.W.kitx_list I.kIn ⟨_,h1,rfl⟩ e (fun z=>nomatch z) h
  | @frz a ob xs ea =>
    cases (show u=Value.ref a from rx)
    obtain ⟨_,_,_,n,_,h1⟩:=(show ObjOk X.prog X.w H s.heap a (.frz ob (.lst xs)) from I.hok a _ ea)
    exact PySem.W.kia_one PySem.W.kitx_list I.kIn ⟨_,h1,rfl⟩ e (fun z=>nomatch z) h
  | @tup a xs ea =>
    cases (show u=Value.ref a from rx)
    obtain ⟨_,_,_,p⟩:=(show ObjOk X.prog X.w H s.heap a (.tup xs) from I.hok a _ ea)
    obtain ⟨o,h1,h2,_⟩:=p
    exact PySem.W.kia_one PySem.W.kitx_tuple I.kIn ⟨o,h1,h2⟩ e (fun z=>nomatch z) h
  | @dK a kvs ea =>
    cases (show u=Value.ref a from rx)
    obtain ⟨_,_,vs,_,p⟩:=(show ObjOk X.prog X.w H s.heap a (.dK kvs) from I.hok a _ ea)
    obtain ⟨o,es,ep,h1,h2,_⟩:=p
    exact PySem.W.kia_one PySem.W.kitx_dict I.kIn ⟨o,h1,h2.1⟩ e (fun z=>nomatch z) h
  | @dT a kvs ea =>
    cases (show u=Value.ref a from rx)
    obtain ⟨_,_,xs,_,o,es,ep,h1,h2,_⟩:=(show ObjOk X.prog X.w H s.heap a (.dT kvs) from I.hok a _ ea)
    exact PySem.W.kia_one PySem.W.kitx_dict I.kIn ⟨o,h1,h2.1⟩ e (fun z=>nomatch z) h
  | @ins a C dx fs ea cl ha hn htk hm =>
    cases (show u=Value.ref a from rx)
    obtain ⟨mA,O,_⟩:=zpa I.hok ea
    obtain ⟨od,J,_⟩:=O.look
    exact PySem.W.kia_one (PySem.W.kitx_own (cl.get _) cl.hd ha hn htk hm) I.kIn J e (fun z=>nomatch z) h
end
end L2
namespace L2
open PySem PySem.Spec PyProof.Rows
structure Room (k:Nat) (A:Around):Prop where
  hd:A.handled=none
  dp:A.depth + 3 * k + 5 < recursionLimit
  un:A.units + 16 * k + 200 < cLine
theorem Room.mono {j k:Nat} {A:Around} (r:Room k A) (h:j ≤ k):Room j A:=⟨r.hd,by have:=r.dp; omega,by have:=r.un; omega⟩
theorem Room.deeper {k:Nat} {A:Around} (r:Room (k + 1) A) (env:Env):Room k (A.deeper env) :=
  ⟨r.hd,by have:=r.dp; show A.depth + 1 + 3 * k + 5 < _; omega,by have:=r.un; show A.units + 3 + 16 * k + 200 < _; omega⟩
theorem Room.depth {k:Nat} {A:Around} (r:Room k A):A.depth < recursionLimit:=by have:=r.dp; omega
theorem Room.units {k:Nat} {A:Around} (r:Room k A):A.units + 64 < cLine:=by have:=r.un; omega
def tNil:TA:=fun _ H Q=>Q [] H
def zeU (ta:TE) (tr:TA):TA:=fun σ H Q=>ta σ H fun x H1=>tr σ H1 fun xs H2=>Q (x :: xs) H2
section
variable {X:Cx} {e:Expr} {es:List Expr} {te:TE} {t:TA} {pos:Pos}
theorem zah:PA X [] tNil:=fun _ _ _ _ H Q I h=>Calls.spliced_nil ⟨[],H,I,.nil,h⟩
theorem zab (ha:PE X e te) (hr:PA X es t) (hs:starEach (e :: es) X.env=(false,eval e X.env) :: starEach es X.env:=by rfl):PA X (e :: es) (zeU te t):=by
  intro pos pins s σ H Q I h
  rw [hs]
  show wpAny _ _ (spliced ((false,eval e X.env) :: backTo pos (starEach es X.env))) _ _ s
  refine Calls.spliced_cons (thn (ha pins s σ H _ I h) fun u s1 ⟨x,H1,I1,r1,q1⟩=>?_)
  exact thn (hr pos pins s1 σ H1 _ I1 q1) fun us s2 ⟨xs,H2,I2,r2,q2⟩=>⟨x :: xs,H2,I2,.cons r1 r2,q2⟩
def tTup (t:TA):TE:=fun σ H Q=>t σ H fun xs H1=>xs.length ≤ sizeLine∧∀ p,H1 p=none→Q (.ref p) (upd H1 p (.tup xs))
def tLst (t:TA):TE:=fun σ H Q=>t σ H fun xs H1=>xs.length ≤ sizeLine∧∀ p,H1 p=none→Q (.ref p) (upd H1 p (.lst xs))
theorem zcn {x1} (h:PA X es t):PE X (.Tuple es x1 pos) (tTup t):=by
  intro pins s σ H Q I hq
  refine wpAny_Tuple_spliced (thn (h pos pins s σ H _ I hq) fun us s1 ⟨xs,H1,I1,r,z,q⟩=>⟨by rw [← r.length]; exact z,?_⟩)
  have hf:H1 s1.heap.objs.size=none:=I1.hok.fresh (Nat.le_refl _)
  refine ⟨.ref s1.heap.objs.size,upd H1 s1.heap.objs.size (.tup xs),I1.laid (t':=s1.toks) (fun b u e=>Heap.get?_push_of_some _ e) (Nat.le_refl _) ?_,rfl,q _ hf⟩
  exact ⟨z,us,r,⟨_,Heap.get?_push_size _ rfl,rfl,_,rfl⟩⟩
theorem zcm (h:PA X es t):PE X (.List es pos) (tLst t):=by
  intro pins s σ H Q I hq
  refine wpAny_List_spliced (thn (h pos pins s σ H _ I hq) fun us s1 ⟨xs,H1,I1,r,z,q⟩=>⟨by rw [← r.length]; exact z,?_⟩)
  have hf:H1 s1.heap.objs.size=none:=I1.hok.fresh (Nat.le_refl _)
  refine ⟨.ref s1.heap.objs.size,upd H1 s1.heap.objs.size (.lst xs),I1.laid (t':=s1.toks) (fun b u e=>Heap.get?_push_of_some _ e) (Nat.le_refl _) ?_,rfl,q _ hf⟩
  exact ⟨z,us,0,r,Heap.get?_push_size _ rfl⟩
end
abbrev Sp:=List V→Hp→VK→XK→Prop
abbrev CXT:=List Env→Hp→Shared→XK→Value→Shared→Prop
structure Env0 (P:Program) (w:World) (K:PySem.W.Frag) (mg:Str→Option Value) (base:Heap) (A:Around) (outer:List Env) (s:Shared) (H:Hp):Prop where
  frames:A.frames=some outer
  mod:Mod K mg base
  bs:∀ b o,base.get? b=some o→s.heap.get? b=some o∧H b=none
  bsz:base.objs.size ≤ s.heap.objs.size
  funs:s.heap.FunFrames base outer
  frf:∀ b ∈ frs outer,H b=none
  hok:HOk P w H s.heap
  bare:AllBare s.gens
  tb:TbAt K H
def CE (outer:List Env) (P:Program) (w:World) (H:Hp) (s:Shared) (Q:VK) (u:Value) (s':Shared):Prop :=
  ∃ v H',s'.os=s.os∧AllBare s'.gens∧Un (frs outer) [] H H' s.heap s'.heap∧HOk P w H' s'.heap∧RelV v u∧Q v H'
def CR (CX:CXT) (outer:List Env) (P:Program) (w:World) (H:Hp) (s:Shared) (Q:VK) (E:XK) (r:Result) (s':Shared):Prop :=
  match r with
  | .ok (.ret u)=>CE outer P w H s Q u s'
  | .ok _=>False
  | .error e=>CX outer H s E e s'
structure FnOk (P:Program) (w:World) (K:PySem.W.Frag) (mg:Str→Option Value) (base:Heap) (CX:CXT) (k:Nat) (f:Addr) (fd:FuncData) (ps:List Str) (sp:Sp):Prop where
  len:∀ vs H Q E,sp vs H Q E→vs.length=ps.length
  run:∀ (A:Around) (outer:List Env) (s:Shared) (H:Hp) (args:Args) (us:List Value) (vs:List V) (Q:VK) (E:XK),Room k A→Env0 P w K mg base A outer s H→BindsTo s fd args (ps.zip us)→Vals vs us→sp vs H Q E →
    codeAny (model P w) A (.call (.ref f) args) (CR CX outer P w H s Q E) s
section
variable {X:Cx} {pins:List (Addr × Obj)} {σ:St} {H:Hp} {s s':Shared}
theorem Inv.env0 (I:Inv X pins σ H s):Env0 X.prog X.w X.K X.mg X.base X.A X.stack s H :=
  ⟨I.ok.frames,I.ok.mod,I.bs,Nat.le_trans I.ok.bsz I.sz,I.stack,I.stkFree,I.hok,I.bare,I.ok.tb.grown I.base.tbls⟩
theorem Inv.after {Q:VK} {u:Value} (I:Inv X pins σ H s) (h:CE X.stack X.prog X.w H s Q u s'):EP X pins σ Q u s':=by
  obtain ⟨v,H',os,bare,un,hok,r,q⟩:=h
  obtain ⟨hh,g,d,t,os'⟩:=s'
  obtain rfl:os'=s.os:=os
  exact ⟨v,H',I.call (h':=hh) (g':=g) (d':=d) (t':=t) (ch:=[]) un hok bare (fun b z=>absurd z (by simp)),r,q⟩
end
def zlF (sp:Sp) (dvs:List V) (E:XK) (t:TA):TE:=fun σ H Q=>t σ H fun vs H1=>sp (vs ++ dvs) H1 Q E
def Binds (K:PySem.W.Frag) (fd:FuncData) (ps:List Str) (ds:List Value):Prop :=
  ∀ (s:Shared) (us:List Value),K.In s.heap→(us ++ ds).length=ps.length→BindsTo s fd ⟨us,[]⟩ (ps.zip (us ++ ds))
theorem Binds.all {K:PySem.W.Frag} {fd:FuncData} {ps:List Str} (h:∀ us:List Value,us.length=ps.length→bindArgs fd ⟨us,[]⟩=pure (ps.zip us)):Binds K fd ps []:=fun s us _ hl=>by
  rw [List.append_nil] at hl ⊢
  exact .of_eq (h us hl)
def zlh (CX:CXT) (X:Cx) (E:XK):Prop:=∀ (pins:List (Addr × Obj)) (σ:St) (H:Hp) (s:Shared) (e:Value) (s':Shared),Inv X pins σ H s→CX X.stack H s E e s'→X.xe e s'
section
variable {X:Cx} {CX:CXT} {k:Nat} {f C:Addr} {fd:FuncData} {ps:List Str} {sp:Sp} {dvs:List V} {ds:List Value} {E:XK} {x m:Str} {p pos apos:Pos} {e o:Expr} {es:List Expr} {ta:TE} {t:TA}
theorem zqK {pins:List (Addr × Obj)} {σ:St} {H:Hp} {s:Shared} {Q:VK} {us:List Value} {vs:List V} (F:FnOk X.prog X.w X.K X.mg X.base CX k f fd ps sp) (hr:Room k X.A) (hb:Binds X.K fd ps ds) (hd:Vals dvs ds) (hx:zlh CX X E)
    (I:Inv X pins σ H s) (r:Vals vs us) (h:sp (vs ++ dvs) H Q E):wpAny (model X.prog X.w) X.A (call (.ref f) us) (EP X pins σ Q) X.xe s:=by
  have r2:Vals (vs ++ dvs) (us ++ ds):=r.append hd
  have hl:(us ++ ds).length=ps.length:=by rw [← r2.length]; exact F.len _ _ _ _ h
  refine wpAny_call (codeAny_mono (F.run X.A X.stack s H ⟨us,[]⟩ (us ++ ds) (vs ++ dvs) Q E hr I.env0 (hb s us I.kIn hl) r2 h) fun r s' hq=>?_)
  cases r with
  | error e=>exact hx pins σ H s e s' I hq
  | ok fl =>
    cases fl with
    | ret u=>exact I.after hq
    | next=>exact False.elim hq
    | brk=>exact False.elim hq
    | cont=>exact False.elim hq
theorem zpk (F:FnOk X.prog X.w X.K X.mg X.base CX k f fd ps sp) (hr:Room k X.A) (hg:Gl X x) (hm:X.mg x=some (.ref f)) (hk:PySem.W.keepIn X.K (.ref f)=true) (hb:Binds X.K fd ps ds) (hd:Vals dvs ds) (hx:zlh CX X E)
    (ha:PA X (e :: es) t) (hdb:(x == ("__debug__" : Str))=false:=by decide) (he:starEach (e :: es) X.env=(false,eval e X.env) :: starEach es X.env:=by rfl) (hpl:(backTo pos (starEach es X.env)).any (·.1)=false:=by rfl) :
    PE X (.Call (.Name x p) (e :: es) [] pos) (zlF sp dvs E t):=by
  intro pins s σ H Q I h
  refine wpAny_Call_Name_kw (zpr I hg hm ?_ hdb)
  refine PySem.W.callWith_K (h₀:=X.base) I.ok.mod.kin hk (thn (ha pos pins s σ H _ I h) fun us s1 ⟨vs,H1,I1,r,q⟩=>⟨I1.kIn,?_⟩) he hpl
  exact zqK F hr hb hd hx I1 r q
end
def PK (X:Cx) (kws:List Keyword) (t:TA):Prop :=
  ∀ (pos:Pos) (pins:List (Addr × Obj)) (s:Shared) (σ:St) (H:Hp) (Q:List V→Hp→Prop),Inv X pins σ H s→t σ H Q→wpAny (model X.prog X.w) X.A (evalAll ((backToKw pos (keywordEach kws X.env)).map (·.2))) (AP X pins σ Q) X.xe s
section
variable {X:Cx} {CX:CXT} {k:Nat} {f C:Addr} {fd:FuncData} {ps ks:List Str} {sp:Sp} {E:XK} {x m:Str} {p pos apos kpos:Pos} {e o:Expr} {es:List Expr} {kws:List Keyword} {te ta:TE} {t tk:TA} {nm:Option Str}
theorem zp9:PK X [] tNil:=fun _ _ _ _ H Q I h=>wpAny_evalAll_nil ⟨[],H,I,.nil,h⟩
theorem zpg (ha:PE X e te) (hr:PK X kws t):PK X (⟨nm,e,kpos⟩ :: kws) (zeU te t):=by
  intro pos pins s σ H Q I h
  show wpAny _ _ (evalAll ((do let v ← eval e X.env; standAt pos; pure v) :: (backToKw pos (keywordEach kws X.env)).map (·.2))) _ _ s
  refine wpAny_evalAll_cons (wpAny_bind (thn (ha pins s σ H _ I h) fun u s1 ⟨x,H1,I1,r1,q1⟩=>wpAny_bind (wpAny_standAt (wpAny_pure ?_))))
  exact thn (hr pos pins s1 σ H1 _ I1 q1) fun us s2 ⟨xs,H2,I2,r2,q2⟩=>⟨x :: xs,H2,I2,.cons r1 r2,q2⟩
variable {g:List Value→List Value→List Value} {gV:List V→List V→List V}
end
structure FnScope (N P:List Str) (sc:Scope):Prop where
  kind:sc.kind = .function
  co:sc.isCoroutine=false
  gen:sc.isGenerator=false
  nd:N.Nodup
  pre:N.take P.length=P
  par:∀ x ∈ P,sc.names.lookup x=some .local∨sc.names.lookup x=some .cell
  nofree:∀ y ∈ sc.names,y.2 ≠ .free
theorem zjE {kindOf:Str→Option NameKind} {x:Str}:∀ {binds:List (Str × Value)} {m:Str→Option Value},(∀ v,(x,v) ∉ binds)→bindL kindOf binds m x=m x
  | [],_,_=>rfl
  | (n,v) :: r,m,h=>by
    unfold bindL
    rw [zjE fun w hw=>h w (List.mem_cons_of_mem _ hw)]
    split
    · have:x ≠ n:=by rintro rfl; exact h v List.mem_cons_self
      simp [this]
    · rfl
theorem zj4 {kindOf:Str→Option NameKind} {x:Str}:∀ {binds:List (Str × Value)} {m:Str→Option Value},(∀ v,(x,v) ∉ binds)→bindC kindOf binds m x=m x
  | [],_,_=>rfl
  | (n,v) :: r,m,h=>by
    unfold bindC
    rw [zj4 fun w hw=>h w (List.mem_cons_of_mem _ hw)]
    split
    · rfl
    · have:x ≠ n:=by rintro rfl; exact h v List.mem_cons_self
      simp [this]
theorem zjG {kindOf:Str→Option NameKind} {x:Str} {v:Value}:∀ {P:List Str} {vs:List Value} {i:Nat} {m:Str→Option Value},P.Nodup→P[i]?=some x→vs[i]?=some v→kindOf x=some .local →
    bindL kindOf (P.zip vs) m x=some v
  | [],_,_,_,_,h,_,_=>by simp at h
  | _ :: _,[],_,_,_,_,h,_=>by simp at h
  | p :: P,w :: vs,0,m,nd,h1,h2,hk=>by
    simp at h1 h2; subst h1; subst h2
    show bindL kindOf ((p,w) :: P.zip vs) m p=_
    unfold bindL
    rw [zjE fun v hv=>(List.nodup_cons.mp nd).1 (List.of_mem_zip hv).1,if_pos hk]
    simp
  | p :: P,w :: vs,i + 1,m,nd,h1,h2,hk=>by
    show bindL kindOf ((p,w) :: P.zip vs) m x=_
    unfold bindL
    exact zjG (i:=i) (List.nodup_cons.mp nd).2 (by simpa using h1) (by simpa using h2) hk
theorem zjw {kindOf:Str→Option NameKind} {x:Str} {v:Value}:∀ {P:List Str} {vs:List Value} {i:Nat} {m:Str→Option Value},P.Nodup→P[i]?=some x→vs[i]?=some v→kindOf x ≠ some .local →
    bindC kindOf (P.zip vs) m x=some v
  | [],_,_,_,_,h,_,_=>by simp at h
  | _ :: _,[],_,_,_,_,h,_=>by simp at h
  | p :: P,w :: vs,0,m,nd,h1,h2,hk=>by
    simp at h1 h2; subst h1; subst h2
    show bindC kindOf ((p,w) :: P.zip vs) m p=_
    unfold bindC
    rw [zj4 fun v hv=>(List.nodup_cons.mp nd).1 (List.of_mem_zip hv).1,if_neg hk]
    simp
  | p :: P,w :: vs,i + 1,m,nd,h1,h2,hk=>by
    show bindC kindOf ((p,w) :: P.zip vs) m x=_
    unfold bindC
    exact zjw (i:=i) (List.nodup_cons.mp nd).2 (by simpa using h1) (by simpa using h2) hk
def start (N:List Str) (vs:List V):St:=vs.map some ++ List.replicate (N.length - vs.length) none
def cxOf (CX:CXT) (P:Program) (w:World) (K:PySem.W.Frag) (mg:Str→Option Value) (base:Heap) (N:List Str) (qual:Str) (scope:Scope) (f:Addr) (cd:Value) (A:Around) (outer:List Env) (s:Shared) (H:Hp) (E:XK):Cx where
  prog:=P
  w:=w
  K:=K
  mg:=mg
  base:=base
  A:=A.deeper (envOfC qual scope s.heap.objs.size f cd)
  N:=N
  s₀:=s
  H₀:=H
  env:=envOfC qual scope s.heap.objs.size f cd
  outer:=outer
  stack:=envOfC qual scope s.heap.objs.size f cd :: outer
  ex:=[]
  calm:=true
  fn:=fun _=>true
  pn:=[]
  xe:=fun e s'=>wpAny (model P w) (A.deeper (envOfC qual scope s.heap.objs.size f cd)) (leaving (envOfC qual scope s.heap.objs.size f cd) e) (fun _ s''=>CX outer H s E e s'') (fun e' s''=>CX outer H s E e' s'') s'
theorem zk8 {sc:Scope} {n:Nat} {x:Str} (h:sc.names.lookup x=some .cell):∃ c,(cellsFrom n sc.names []).lookup x=some c:=by
  have q:=PySem.W.cellsFrom_some sc.names n [] (.inl h)
  exact Option.isSome_iff_exists.mp q
theorem znu {CX:CXT} {P:Program} {w:World} {K:PySem.W.Frag} {mg:Str→Option Value} {base:Heap} {N ps:List Str} {qual:Str} {scope:Scope} {f:Addr} {cd:Value} {A:Around} {outer:List Env} {s s1:Shared} {H:Hp} {E:XK} {us:List Value} {vs:List V}
    (S:FnScope N ps scope) (hd:A.handled=none) (e0:Env0 P w K mg base A outer s H) (hl:vs.length=ps.length) (r:Vals vs us)
    (x:InCallC s s.heap.objs.size (bindL (envOfC qual scope s.heap.objs.size f cd).kindOf (ps.zip us) fun _=>none) (cellsFrom (s.heap.objs.size + 1) scope.names []) (bindC (envOfC qual scope s.heap.objs.size f cd).kindOf (ps.zip us) fun _=>none) s1) :
    Inv (cxOf CX P w K mg base N qual scope f cd A outer s H E) [] (start N vs) H s1:=by
  have hpl:ps.length ≤ N.length:=by have:=congrArg List.length S.pre; rw [List.length_take] at this; omega
  obtain ⟨h1,tk,rfl,hk⟩:=x.done
  have noA:∀ b:Addr,b ∉ (cxOf CX P w K mg base N qual scope f cd A outer s H E).ex:=fun b z=>absurd (show b ∈ ([]:List Addr) from z) (by simp)
  refine ⟨⟨e0.mod,S.kind,rfl,rfl,Nat.le_refl _,fun y z c h1 h2=>?_,fun y hy=>?_,fun y c _ h=>?_,fun _=>hd,Around.frames_deeper e0.frames,.inr ⟨rfl,rfl⟩,fun b z=>absurd z (noA b),e0.bs,e0.bsz,fun b _ _=>noA b,fun b z=>absurd z (noA b),e0.funs,e0.frf,e0.tb⟩,
    rfl,e0.bare,Un.kept hk,⟨_,x.toInCall.ns,fun i y v h1 h2 h3=>?_⟩,fun y c h=>⟨_,x.cell y c h⟩,e0.hok.fresh (Nat.le_refl _),fun y c h=>?_,fun p hp=>absurd (show p ∈ ([]:List (Addr × Obj)) from hp) (by simp),e0.hok.kept hk,?_⟩
  · exact name_of_addr x.apart (PySem.mem_of_lookup h1) (PySem.mem_of_lookup h2)
  · have hy:scope.names.lookup y=some .cell∨scope.names.lookup y=some .free:=hy
    rcases hy with hy | hy
    · exact zk8 hy
    · exact absurd rfl (S.nofree _ (PySem.mem_of_lookup hy))
  · exact Nat.le_of_lt (x.above y c (PySem.mem_of_lookup h))
  · have hi:i < vs.length:=by
      unfold start at h2
      by_cases hi:i < vs.length
      · exact hi
      · rw [List.getElem?_append_right (by simpa using hi)] at h2
        rw [List.getElem?_replicate] at h2
        split at h2 <;> cases h2
    have ha:vs[i]?=some v:=by
      unfold start at h2
      rw [List.getElem?_append_left (by simpa using hi),List.getElem?_map] at h2
      cases e:vs[i]? with
      | none=>rw [e] at h2; cases h2
      | some a=>rw [e] at h2; cases h2; rfl
    obtain ⟨u,hu,rv⟩:=r.get ha
    have hp:ps[i]?=some y:=by
      rw [← S.pre,List.getElem?_take_of_lt (by omega)]; exact h1
    have ndP:ps.Nodup:=by rw [← S.pre]; exact S.nd.sublist (List.take_sublist _ _)
    refine ⟨u,rv,?_⟩
    rcases S.par y (List.mem_of_getElem? hp) with k | k
    · exact .inl ⟨k,zjG ndP hp hu k⟩
    · obtain ⟨c,e⟩:=zk8 (n:=s.heap.objs.size + 1) k
      refine .inr ⟨.inl k,c,e,?_⟩
      have q:=x.cell y c e
      rw [zjw ndP hp hu (by show scope.names.lookup y ≠ _; rw [k]; decide)] at q
      exact q
  · exact e0.hok.fresh (Nat.le_of_lt (x.above y c (PySem.mem_of_lookup h)))
  · unfold start
    show _=N.length
    rw [List.length_append,List.length_map,List.length_replicate]
    omega
theorem zrc {CX:CXT} {P:Program} {w:World} {K:PySem.W.Frag} {mg:Str→Option Value} {base:Heap} {k:Nat} {f:Addr} {name qual:Str} {params:Arguments} {body:List Stmt} {scope:Scope} {dV kV doc pm cdv ct oc:Value} {an od:Option Addr}
    {osl:Array (Option Value)} {N ps:List Str} {sp:Sp} (lk:K.lookup f=some ⟨oc,od,.func (PySem.W.fnOf name qual params body scope dV kV doc pm an cdv ct),osl⟩) (hcd:PySem.W.codeIn K cdv qual=true) (S:FnScope N ps scope)
    (len:∀ vs H Q E,sp vs H Q E→vs.length=ps.length)
    (hbody:∀ (A:Around) (outer:List Env) (s:Shared) (H:Hp) (vs:List V) (Q:VK) (E:XK),Room k (A.deeper (envOfC qual scope s.heap.objs.size f cdv))→sp vs H Q E →
      ∃ t,PSs (cxOf CX P w K mg base N qual scope f cdv A outer s H E) body t∧t { nx:=fun _ H'=>Q .non H',rt:=Q } (start N vs) H) :
    FnOk P w K mg base CX (k + 1) f (PySem.W.fnOf name qual params body scope dV kV doc pm an cdv ct) ps sp:=by
  refine ⟨len,fun A outer s H args us vs Q E hr e0 hb r hsp=>?_⟩
  have hl:=len _ _ _ _ hsp
  have KX:K.In s.heap:=e0.mod.kin.keeps fun b o e=>(e0.bs b o e).1
  have lim:s.heap.NoLimit:=e0.mod.nolimit.keeps fun b o e=>(e0.bs b o e).1
  have hkind:∀ y ∈ ps.zip us,scope.names.lookup y.1=some .local∨(scope.names.lookup y.1=some .cell∧((cellsFrom (s.heap.objs.size + 1) scope.names []).lookup y.1).isSome=true):=fun ⟨n,v⟩ hy=>by
    rcases S.par n (List.of_mem_zip hy).1 with q | q
    · exact .inl q
    · exact .inr ⟨q,PySem.W.cellsFrom_some _ _ _ (.inl q)⟩
  refine codeAny_call_function hr.depth (KX _ _ lk) rfl S.co S.gen rfl (PySem.W.codeRec_of KX hcd) (hb _ _ _ _ ?_)
  refine wpAny_newFunctionEnv_cells S.kind hkind fun env he s1 x=>?_
  subst he
  refine ⟨lim.keeps x.toInCall.keep,codeAny_func ?_⟩
  obtain ⟨t,ht,hq⟩:=hbody A outer s H vs Q E (hr.deeper _) hsp
  have I:Inv (cxOf CX P w K mg base N qual scope f cdv A outer s H E) [] (start N vs) H s1:=znu S hr.hd e0 hl r x
  refine wpAny_mono (ht [] s1 (start N vs) H _ I hq) (fun fl s' hs=>?_) fun e s' hs=>hs
  have fin:∀ {σ':St} {H':Hp} {v:V} {u:Value},Inv (cxOf CX P w K mg base N qual scope f cdv A outer s H E) [] σ' H' s'→RelV v u→Q v H'→CE outer P w H s Q u s' :=
    fun {σ' H' v u} J rv q=>⟨v,H',J.os,J.bare,J.base,J.hok,rv,q⟩
  cases fl with
  | ret u =>
    obtain ⟨v,σ',H',J,rv,q⟩:=hs
    exact fin J rv q
  | next =>
    obtain ⟨σ',H',J,q⟩:=hs
    exact fin (v:=V.non) (u:=Value.none) J rfl q
  | brk =>
    obtain ⟨_,_,_,q⟩:=hs
    exact False.elim q
  | cont =>
    obtain ⟨_,_,_,q⟩:=hs
    exact False.elim q
end L2
namespace L2
open PySem PySem.Spec PyProof.Rows
section
variable {X:Cx} {x:Str} {p pos:Pos} {e:Expr} {es:List Expr} {t:TA} {id T:String} {r:List V→Hp→VK→Prop}
def tCB (r:List V→Hp→VK→Prop) (t:TA):TE:=fun σ H Q=>t σ H fun vs H1=>r vs H1 Q
theorem zaD (hc:zfP X (.builtin id) r) (hg:Gl X x) (hm:X.mg x=none) (hv:bootBuiltins x=some (.builtin id)) (ha:PA X (e :: es) t) (hn:x ≠ "__name__":=by decide) (hdb:(x == ("__debug__" : Str))=false:=by decide)
    (he:starEach (e :: es) X.env=(false,eval e X.env) :: starEach es X.env:=by rfl) (hpl:(backTo pos (starEach es X.env)).any (·.1)=false:=by rfl):PE X (.Call (.Name x p) (e :: es) [] pos) (tCB r t):=by
  intro pins s σ H Q I h
  refine wpAny_Call_Name_kw (zgS I hg hm hv ?_ hn hdb)
  exact PyProof.Rows.callWith_builtin1 (thn (ha pos pins s σ H _ I h) fun us s1 ⟨vs,H1,I1,r1,q1⟩=>hc pins s1 σ H1 vs us Q I1 r1 q1) he hpl
theorem zcv (hc:zfP X (.type T) r) (hg:Gl X x) (hm:X.mg x=none) (hv:bootBuiltins x=some (.type T)) (ha:PA X (e :: es) t) (hn:x ≠ "__name__":=by decide) (hdb:(x == ("__debug__" : Str))=false:=by decide)
    (he:starEach (e :: es) X.env=(false,eval e X.env) :: starEach es X.env:=by rfl) (hpl:(backTo pos (starEach es X.env)).any (·.1)=false:=by rfl):PE X (.Call (.Name x p) (e :: es) [] pos) (tCB r t):=by
  intro pins s σ H Q I h
  refine wpAny_Call_Name_kw (zgS I hg hm hv ?_ hn hdb)
  exact PyProof.Rows.callWith_type1 (thn (ha pos pins s σ H _ I h) fun us s1 ⟨vs,H1,I1,r1,q1⟩=>hc pins s1 σ H1 vs us Q I1 r1 q1) he hpl
end
end L2
namespace HT
open PySem PyProof.Rows
section
open PySem.SeqAt
open PySem.AutoSeq1 (wpAny_loadPart')
open PySem.MeetsSeq PySem.MeetsSeq2 PySem.MeetsSeq3
end
section
variable {prog:Program} {w:World} {A:Around} {E:Value→Shared→Prop} {s:Shared}
def sIx (n d:Nat):Option Int→Nat
  | none=>d
  | some v=>if v < 0 then (v + (n:Int)).toNat else min v.toNat n
end
end HT
namespace L2
open PySem PySem.Spec PyProof.Rows
abbrev TO:=St→Hp→(Option Int→Hp→Prop)→Prop
def PO (X:Cx) (e:Option Expr) (t:TO):Prop :=
  ∀ (pins:List (Addr × Obj)) (s:Shared) (σ:St) (H:Hp) (Q:Option Int→Hp→Prop),Inv X pins σ H s→t σ H Q →
    wpAny (model X.prog X.w) X.A (evalPart e X.env) (fun u s'=>∃ o H',Inv X pins σ H' s'∧IsPart u o∧Q o H') X.xe s
def zmz:TO:=fun _ H Q=>Q none H
def zqr (t:TE):TO:=fun σ H Q=>t σ H fun x H1=>∃ i,x = .int i∧Q (some i) H1
section
variable {X:Cx} {e:Expr} {te:TE} {lo hi:Option Expr} {tl th:TO} {pos p2:Pos}
theorem zb9:PO X none zmz:=by
  intro pins s σ H Q I h
  rw [evalPart_none]
  exact wpAny_pure ⟨none,H,I,.none,h⟩
theorem zbG (h:PE X e te):PO X (some e) (zqr te):=by
  intro pins s σ H Q I hw
  rw [evalPart_some]
  refine thn (h pins s σ H _ I hw) fun u s1 ⟨x,H1,I1,r1,q1⟩=>?_
  obtain ⟨i,rfl,q⟩:=q1
  obtain ⟨t,rfl⟩:=r1
  exact ⟨some i,H1,I1,.int i t,q⟩
def SlR (X:Cx) (r:V→Option Int→Option Int→Hp→VK→Prop):Prop :=
  ∀ (pins:List (Addr × Obj)) (s:Shared) (σ:St) (H:Hp) (x:V) (v vl vu:Value) (lo hi:Option Int) (sl:Addr) (Q:VK),Inv X pins σ H s→RelV x v→s.heap.IsSliceOf sl vl vu .none→IsPart vl lo→IsPart vu hi→r x lo hi H Q →
    ∃ T id,typeLookup (.type T) "__getitem__"=pure (some (.builtin id))∧s.TypeIs v T∧wpAny (model X.prog X.w) X.A (getItem v (.ref sl)) (EP X pins σ Q) X.xe s
def tSl (r:V→Option Int→Option Int→Hp→VK→Prop) (te:TE) (tl th:TO):TE:=fun σ H Q=>te σ H fun x H1=>tl σ H1 fun l H2=>th σ H2 fun u H3=>r x l u H3 Q
theorem zbr {r:V→Option Int→Option Int→Hp→VK→Prop} (hr:SlR X r) (he:PE X e te) (hl:PO X lo tl) (hu:PO X hi th):PE X (.Subscript e (.Slice lo hi none p2) pos) (tSl r te tl th):=by
  intro pins s σ H Q I h
  refine Subscript_ (thn (he pins s σ H _ I h) fun v s1 ⟨x,H1,I1,r1,q1⟩=>?_)
  refine wpAny_Slice (thn (hl pins s1 σ H1 _ I1 q1) fun vl s2 ⟨l,H2,I2,pl,q2⟩=>thn (hu pins s2 σ H2 _ I2 q2) fun vu s3 ⟨u,H3,I3,pu,q3⟩=>?_)
  rw [evalPart_none]
  refine wpAny_pure ?_
  have I4:Inv X pins σ H3 { s3 with heap:=s3.heap.push { cls:=.type "slice",data:=.fields #[vl,vu,.none] } }:=I3.kept (t':=s3.toks) fun b ob q=>Heap.get?_push_of_some _ q
  obtain ⟨T,id,hT,ht,hg⟩:=hr pins { s3 with heap:=s3.heap.push { cls:=.type "slice",data:=.fields #[vl,vu,.none] } } σ H3 x v vl vu l u s3.heap.objs.size Q I4 r1 (Heap.IsSliceOf.new ..) pl pu q3
  show wpAny (model X.prog X.w) X.A (subscriptTail e (.Slice lo hi none p2) v (.ref s3.heap.objs.size)) (EP X pins σ Q) X.xe { s3 with heap:=s3.heap.push { cls:=.type "slice",data:=.fields #[vl,vu,.none] } }
  exact tail_any (ops:=[.ref s3.heap.objs.size,v]) ht hT hg (by with_unfolding_all rfl)
def cutV (xs:List V) (lo hi:Option Int):List V:=(xs.drop (HT.sIx xs.length 0 lo)).take (HT.sIx xs.length xs.length hi - HT.sIx xs.length 0 lo)
theorem zki (xs:List V) (lo hi:Option Int):(cutV xs lo hi).length ≤ xs.length:=by
  unfold cutV
  rw [List.length_take,List.length_drop]
  omega
end
end L2
namespace L2
open PySem PySem.Spec PyProof.Rows
def ixN (n:Nat) (i:Int):Option Nat:=if 0 ≤ i then (if i < n then some i.toNat else none) else if -(n:Int) ≤ i then some (i + n).toNat else none
def atI {α:Type} (xs:List α) (i:Int):Option α:=(ixN xs.length i).bind fun j=>xs[j]?
theorem zmP {n:Nat} {i:Int} {j:Nat} (h:ixN n i=some j):seqIndex? i n=some j∧j < n∧-(n:Int) ≤ i∧i < n:=by
  unfold ixN at h
  by_cases h0:0 ≤ i
  · rw [if_pos h0] at h
    by_cases h1:i < n
    · rw [if_pos h1] at h
      have e:i.toNat=j:=Option.some.inj h
      exact ⟨by rw [seqIndex_of h0 h1,e],by omega,by omega,h1⟩
    · rw [if_neg h1] at h; cases h
  · rw [if_neg h0] at h
    by_cases h1 : -(n:Int) ≤ i
    · rw [if_pos h1] at h
      have e:(i + n).toNat=j:=Option.some.inj h
      exact ⟨by rw [seqIndex_neg (by omega) h1,e],by omega,h1,by omega⟩
    · rw [if_neg h1] at h; cases h
theorem zku {α:Type} {xs:List α} {i:Int} {v:α} (h:atI xs i=some v):∃ j,seqIndex? i xs.length=some j∧xs[j]?=some v∧j < xs.length∧-(xs.length:Int) ≤ i∧i < xs.length:=by
  unfold atI at h
  cases e:ixN xs.length i with
  | none=>rw [e] at h; cases h
  | some j =>
    rw [e] at h
    obtain ⟨h1,h2,h3,h4⟩:=zmP e
    exact ⟨j,h1,h,h2,h3,h4⟩
theorem atI_nat {α:Type} {xs:List α} {j:Nat} {v:α} (h:xs[j]?=some v):atI xs (j:Int)=some v:=by
  have hj:j < xs.length:=(List.getElem?_eq_some_iff.mp h).1
  have e:ixN xs.length (j:Int)=some j:=by
    unfold ixN
    rw [if_pos (by omega),if_pos (by omega)]; simp
  unfold atI; rw [e]; exact h
def zpi (b:Expr):Prop:=∀ o i,subscripted b false o i=operate [o,i] (getItem o i)
def IxR (X:Cx) (r:R2):Prop :=
  ∀ (value slice:Expr) (pins:List (Addr × Obj)) (s:Shared) (σ:St) (H:Hp) (x y:V) (v u:Value) (Q:VK),Inv X pins σ H s→RelV x v→RelV y u→r x y H Q →
    subscripted slice false v u=operate [v,u] (getItem v u)→wpAny (model X.prog X.w) X.A (subscriptTail value slice v u) (EP X pins σ Q) X.xe s
def MtR (X:Cx) (id:String) (r:V→List V→Hp→VK→Prop):Prop :=
  ∀ (pins:List (Addr × Obj)) (s:Shared) (σ:St) (H:Hp) (x:V) (xs:List V) (v:Value) (us:List Value) (Q:VK),Inv X pins σ H s→RelV x v→Vals xs us→r x xs H Q →
    wpAny (model X.prog X.w) X.A (call (.builtin id) (v :: us)) (EP X pins σ Q) X.xe s
section
variable {X:Cx} {a b:Expr} {ta tb:TE} {pos:Pos}
theorem za9 {r:R2} (hr:IxR X r) (ha:PE X a ta) (hb:PE X b tb) (hs:zpi b):PE X (.Subscript a b pos) (tOp r ta tb):=by
  intro pins s σ H Q I h
  exact Subscript_ (binT ha hb I h fun v u s2 x y H2 I2 rx ry q=>hr a b pins s2 σ H2 x y v u Q I2 rx ry q (hs _ _))
def rIxL (K:PySem.W.Frag):R2:=fun x y H Q=>∃ p xs i v,x = .ref p∧y = .int i∧SqL K H p xs∧atI xs i=some v∧Q v H
def rIxT (K:PySem.W.Frag):R2:=fun x y H Q=>∃ p xs i v,x = .ref p∧y = .int i∧SqT K H p xs∧atI xs i=some v∧Q v H
theorem zbz:IxR X (rIxL X.K):=by
  intro value slice pins s σ H x y v u Q I rx ry h hs
  obtain ⟨p,xs,i,z,rfl,rfl,hq,he,q⟩:=h
  cases rx
  obtain ⟨t,rfl⟩:=ry
  obtain ⟨its,r,pl,hz⟩:=I.list hq
  obtain ⟨j,h1,h2,h3,h4,h5⟩:=zku he
  obtain ⟨w,ew,rw'⟩:=r.get h2
  have hl:=r.length
  have hn:=zjo
  have fin:EP X pins σ Q w s:=⟨z,H,I,rw',q⟩
  by_cases h0:0 ≤ i
  · have hj:i.toNat=j:=by
      rw [seqIndex_of h0 h5] at h1
      exact Option.some.inj h1
    exact item_listR pl.isList h0 (by omega) (by rw [hj]; simpa using ew) fin hs
  · have hj:(i + (its.toArray.size:Int)).toNat=j:=by
      rw [seqIndex_neg (by omega) h4] at h1
      rw [List.size_toArray,← hl]
      exact Option.some.inj h1
    exact subscriptTail_builtinR (x:=w) pl.isList.typeIs slot_list_getitem.lookup
      (wpAny_getItem_list_neg (Q:=fun r s'=>r=w∧EP X pins σ Q r s') pl.isList (by omega) (by rw [List.size_toArray] <;> omega) (by omega) (by rw [hj]; simpa using ew) ⟨rfl,fin⟩) hs
theorem zba:IxR X (rIxT X.K):=by
  intro value slice pins s σ H x y v u Q I rx ry h hs
  obtain ⟨p,xs,i,z,rfl,rfl,hq,he,q⟩:=h
  cases rx
  obtain ⟨t,rfl⟩:=ry
  obtain ⟨its,r,pl,hz⟩:=I.tuple hq
  obtain ⟨j,h1,h2,h3,h4,h5⟩:=zku he
  obtain ⟨w,ew,rw'⟩:=r.get h2
  have hl:=r.length
  have hn:=zjo
  have fin:EP X pins σ Q w s:=⟨z,H,I,rw',q⟩
  exact subscriptTail_builtinR (x:=w) pl.typeIs slot_tuple_getitem.lookup
    (getItem_tuple (j:=j) (Q:=fun r s'=>r=w∧EP X pins σ Q r s') pl (by omega) (by omega) (by rw [List.size_toArray,← hl]; exact h1) (by simpa using ew) ⟨rfl,fin⟩) hs
theorem zlx (its:List Value) (n j:Nat) (u:Value):Obj.mapSeq (·.setIfInBounds j u) { cls:=.type "list",data:=.seq its.toArray n } = { cls:=.type "list",data:=.seq (its.set j u).toArray n }:=by
  simp [Obj.mapSeq]
theorem Inv.lst {pins:List (Addr × Obj)} {σ:St} {H:Hp} {s:Shared} {p:Addr} {xs:List V} (I:Inv X pins σ H s) (h:H p=some (.lst xs)) :
    ∃ (its:List Value) (n:Nat),Vals xs its∧s.heap.get? p=some { cls:=.type "list",data:=.seq its.toArray n }∧xs.length ≤ sizeLine:=by
  obtain ⟨z,its,n,r,e⟩:=I.hok p _ h
  exact ⟨its,n,r,e,z⟩
theorem Inv.lstUpd {pins:List (Addr × Obj)} {σ:St} {H:Hp} {s:Shared} {p:Addr} {xs ys:List V} {its its':List Value} {n n':Nat} {f:Obj→Obj} (I:Inv X pins σ H s) (h:H p=some (.lst xs))
    (ho:s.heap.get? p=some { cls:=.type "list",data:=.seq its.toArray n }) (hf:f { cls:=.type "list",data:=.seq its.toArray n } = { cls:=.type "list",data:=.seq its'.toArray n' }) (r:Vals ys its') (hz:ys.length ≤ sizeLine) (t:Nat) :
    Inv X pins σ (upd H p (.lst ys)) { s with heap:=s.heap.update p f,toks:=t }:=by
  have e:(s.heap.update p f).get? p=some { cls:=.type "list",data:=.seq its'.toArray n' }:=by
    rw [Heap.get?_update_self f ho (by rw [hf] <;> rfl),hf]
  refine I.write (x:=p) (e:=p) (by rw [h]; trivial) (.inl rfl) (fun b u hb q=>(Heap.get?_update_other _ _ (Ne.symm hb)).trans q) ⟨_,e⟩ ?_
  exact ⟨hz,its',n',r,e⟩
def zmk:V→V→V→Hp→(Hp→Prop)→Prop:=fun o i v H Q=>∃ p xs k j,o = .ref p∧i = .int k∧H p=some (.lst xs)∧ixN xs.length k=some j∧Q (upd H p (.lst (xs.set j v)))
theorem zgr:PSet X zmk:=by
  intro pins s σ H o i v ov iv u Q I ro ri rv h
  obtain ⟨p,xs,k,j,rfl,rfl,hp,hj,q⟩:=h
  cases ro
  obtain ⟨t,rfl⟩:=ri
  obtain ⟨its,n,r,ho,hz⟩:=I.lst hp
  obtain ⟨h1,h2,h3,h4⟩:=zmP hj
  have hl:=r.length
  have hn:=zjo
  have I':Inv X pins σ (upd H p (.lst (xs.set j v))) { s with heap:=s.heap.update p (Obj.mapSeq (·.setIfInBounds j u)) } :=
    I.lstUpd hp ho (zlx its n j u) (r.set rv j) (by rw [List.length_set]; exact hz) s.toks
  by_cases h0:0 ≤ k
  · have hk:k.toNat=j:=by
      rw [seqIndex_of h0 h4] at h1
      exact Option.some.inj h1
    exact PySem.W.ki_setAt ho h0 (by omega) (by rw [List.size_toArray,← hl]; exact h4) (by rw [hk]; exact ⟨_,I',q⟩)
  · have hk:(k + (its.toArray.size:Int)).toNat=j:=by
      rw [seqIndex_neg (by omega) h3] at h1
      rw [List.size_toArray,← hl]
      exact Option.some.inj h1
    exact PySem.W.ki_setBack ho (by omega) (by rw [List.size_toArray,← hl]; exact h3) (by omega) (by rw [hk]; exact ⟨_,I',q⟩)
theorem zjL (lo hi:Option Int) (n:Nat):(sliceBounds lo hi none n).1=((HT.sIx n 0 lo:Nat):Int)∧(sliceBounds lo hi none n).2.1=((HT.sIx n n hi:Nat):Int)∧(sliceBounds lo hi none n).2.2=1:=by
  refine ⟨?_,?_,rfl⟩
  · cases lo with
    | none=>simp [sliceBounds,HT.sIx]
    | some i =>
      simp only [sliceBounds,HT.sIx,Option.getD_none,show (1:Int) > 0 by decide,if_true]
      by_cases h:i < 0
      · simp only [h,if_true] <;> omega
      · simp only [h,if_false] <;> omega
  · cases hi with
    | none=>simp [sliceBounds,HT.sIx]
    | some i =>
      simp only [sliceBounds,HT.sIx,Option.getD_none,show (1:Int) > 0 by decide,if_true]
      by_cases h:i < 0
      · simp only [h,if_true] <;> omega
      · simp only [h,if_false] <;> omega
theorem ziL (its:List Value) (lo hi:Option Int):slicePick its.toArray lo hi none=((its.drop (HT.sIx its.length 0 lo)).take (HT.sIx its.length its.length hi - HT.sIx its.length 0 lo)).toArray:=by
  obtain ⟨h1,h2,h3⟩:=zjL lo hi its.toArray.size
  unfold slicePick
  rw [h1,h2,h3]
  simp only [sliceRange_one,pick_run,List.size_toArray] <;> rfl
def rSlL (K:PySem.W.Frag):V→Option Int→Option Int→Hp→VK→Prop:=fun x lo hi H Q=>∃ a xs,x = .ref a∧SqL K H a xs∧∀ p,H p=none→Q (.ref p) (upd H p (.lst (cutV xs lo hi)))
theorem zbR:SlR X (rSlL X.K):=by
  intro pins s σ H x v vl vu lo hi sl Q I rx hs pl pu h
  obtain ⟨a,xs,rfl,hx,q⟩:=h
  cases rx
  obtain ⟨its,r,ht,hz⟩:=I.list hx
  have hlen:=r.length
  refine ⟨"list",_,slot_list_getitem.lookup,ht.isList.typeIs,?_⟩
  refine wpAny_getItem_list_slice ht.isList hs pl pu .none (by simp) ?_ (by rw [List.size_toArray] <;> omega)
  rw [ziL,← hlen]
  refine ⟨.ref s.heap.objs.size,_,I.laid (t':=s.toks) (o:=.lst (cutV xs lo hi)) (fun b ob q=>Heap.get?_push_of_some _ q) (Nat.le_refl _) ?_,rfl,q _ (I.hok.fresh (Nat.le_refl _))⟩
  exact ⟨Nat.le_trans (zki xs lo hi) hz,_,0,(r.drop (HT.sIx xs.length 0 lo)).take (HT.sIx xs.length xs.length hi - HT.sIx xs.length 0 lo),Heap.get?_push_size _ rfl⟩
def ziY:V→Bool
  | .non=>true
  | .bl _=>true
  | .int _=>true
  | .str _=>true
  | _=>false
def eqV:V→V→Bool
  | .non,.non=>true
  | .bl a,.bl b=>a == b
  | .bl a,.int b=>(if a then 1 else 0) == b
  | .int a,.bl b=>a == (if b then 1 else 0)
  | .int a,.int b=>a == b
  | .str a,.str b=>a == b
  | _,_=>false
theorem zqA {A:Around} {s:Shared} {y x:V} {u v:Value} (ry:RelV y u) (rx:RelV x v) (fy:ziY y=true) (fx:ziY x=true):SeqAt.EqAt A s u v (eqV y x):=by
  cases y with
  | non =>
    cases ry
    cases x with
    | non=>cases rx; exact SeqAt.EqAt.same _
    | bl b=>cases rx; exact SeqAt.EqAt.none_bool b
    | int b=>obtain ⟨t,rfl⟩:=rx; exact SeqAt.EqAt.none_int b t
    | str b=>obtain ⟨t,rfl⟩:=rx; exact SeqAt.EqAt.none_str b t
    | _=>exact absurd (show false=true from fx) Bool.false_ne_true
  | bl a =>
    cases ry
    cases x with
    | non=>cases rx; exact SeqAt.EqAt.bool_none a
    | bl b=>cases rx; exact SeqAt.EqAt.bool_bool a b
    | int b=>obtain ⟨t,rfl⟩:=rx; exact SeqAt.EqAt.bool_int a b t
    | str b=>obtain ⟨t,rfl⟩:=rx; exact SeqAt.EqAt.bool_str a b t
    | _=>exact absurd (show false=true from fx) Bool.false_ne_true
  | int a =>
    obtain ⟨t',rfl⟩:=ry
    cases x with
    | non=>cases rx; exact SeqAt.EqAt.int_none a t'
    | bl b=>cases rx; exact SeqAt.EqAt.int_bool a t' b
    | int b=>obtain ⟨t,rfl⟩:=rx; exact SeqAt.EqAt.int_int a t' b t
    | str b=>obtain ⟨t,rfl⟩:=rx; exact SeqAt.EqAt.int_str a t' b t
    | _=>exact absurd (show false=true from fx) Bool.false_ne_true
  | str a =>
    obtain ⟨t',rfl⟩:=ry
    cases x with
    | non=>cases rx; exact SeqAt.EqAt.str_none a t'
    | bl b=>cases rx; exact SeqAt.EqAt.str_bool a t' b
    | int b=>obtain ⟨t,rfl⟩:=rx; exact SeqAt.EqAt.str_int a t' b t
    | str b=>obtain ⟨t,rfl⟩:=rx; exact SeqAt.EqAt.str_str a t' b t
    | _=>exact absurd (show false=true from fx) Bool.false_ne_true
  | _=>exact absurd (show false=true from fy) Bool.false_ne_true
def eqU (x:V) (u:Value):Bool:=match u with
  | .none=>eqV .non x
  | .bool b=>eqV (.bl b) x
  | .int i _=>eqV (.int i) x
  | .str z _=>eqV (.str z) x
  | _=>false
theorem zot {x y:V} {u:Value} (r:RelV y u) (f:ziY y=true):eqU x u=eqV y x:=by
  cases y with
  | non=>cases r; rfl
  | bl b=>cases r; rfl
  | int i=>obtain ⟨t,rfl⟩:=r; rfl
  | str z=>obtain ⟨t,rfl⟩:=r; rfl
  | _=>exact absurd (show false=true from f) Bool.false_ne_true
theorem zhH {x:V}:∀ {xs:List V} {us:List Value},Vals xs us→xs.all ziY=true→us.any (eqU x)=xs.any fun y=>eqV y x
  | _,_,.nil,_=>rfl
  | y :: xs,u :: us,.cons r t,f=>by
    rw [List.all_cons,Bool.and_eq_true] at f
    rw [List.any_cons,List.any_cons,zot r f.1,zhH t f.2]
theorem zgs {A:Around} {s:Shared} {x:V} {v:Value} (rx:RelV x v) (fx:ziY x=true):∀ {xs:List V} {us:List Value},Vals xs us→xs.all ziY=true→∀ u ∈ us,SeqAt.EqAt A s u v (eqU x u)
  | _,_,.nil,_=>fun u hu=>by cases hu
  | y :: xs,u :: us,.cons r t,f=>fun u' hu=>by
    rw [List.all_cons,Bool.and_eq_true] at f
    rcases List.mem_cons.mp hu with rfl | hu
    · rw [zot r f.1]; exact zqA r rx f.1 fx
    · exact zgs rx fx t f.2 u' hu
def inV (x:V) (xs:List V):Bool:=xs.any fun y=>eqV y x
def rIn (K:PySem.W.Frag) (neg:Bool):R2:=fun x y H Q=>∃ p xs,y = .ref p∧(SqL K H p xs∨SqT K H p xs)∧ziY x=true∧xs.all ziY=true∧Q (.bl (if neg then !inV x xs else inV x xs)) H
theorem zf6:OpR X (compareOp .In) (rIn X.K false):=by
  intro pins s σ H x y v u Q I rx ry h
  obtain ⟨p,xs,rfl,hq,fx,fs,q⟩:=h
  cases ry
  rcases hq with hq | hq
  · obtain ⟨its,r,pl,hz⟩:=I.list hq
    refine SeqAt.in_listAt (eqU x) pl.isList (fun w hw=>zgs rx fx r fs w (by simpa using hw)) ⟨.bl _,H,I,rfl,?_⟩
    rw [show its.toArray.any (eqU x)=its.any (eqU x) by simp,zhH r fs]
    exact q
  · obtain ⟨its,r,pl,hz⟩:=I.tuple hq
    refine SeqAt.in_tupleAt (eqU x) pl (fun w hw=>zgs rx fx r fs w (by simpa using hw)) ⟨.bl _,H,I,rfl,?_⟩
    rw [show its.toArray.any (eqU x)=its.any (eqU x) by simp,zhH r fs]
    exact q
theorem zdv:OpR X (compareOp .NotIn) (rIn X.K true):=by
  intro pins s σ H x y v u Q I rx ry h
  obtain ⟨p,xs,rfl,hq,fx,fs,q⟩:=h
  cases ry
  rcases hq with hq | hq
  · obtain ⟨its,r,pl,hz⟩:=I.list hq
    refine SeqAt.notIn_listAt (eqU x) pl.isList (fun w hw=>zgs rx fx r fs w (by simpa using hw)) ⟨.bl _,H,I,rfl,?_⟩
    rw [show its.toArray.any (eqU x)=its.any (eqU x) by simp,zhH r fs]
    exact q
  · obtain ⟨its,r,pl,hz⟩:=I.tuple hq
    refine SeqAt.notIn_tupleAt (eqU x) pl (fun w hw=>zgs rx fx r fs w (by simpa using hw)) ⟨.bl _,H,I,rfl,?_⟩
    rw [show its.toArray.any (eqU x)=its.any (eqU x) by simp,zhH r fs]
    exact q
theorem zaz:zfP X (.builtin "len") (fun xs H Q=>∃ p ys,xs = [.ref p]∧(SqL X.K H p ys∨SqT X.K H p ys)∧Q (.int ys.length) H):=by
  intro pins s σ H xs us Q I r h
  obtain ⟨p,ys,rfl,hq,q⟩:=h
  obtain ⟨u,rfl,rx⟩:=zgc r
  cases rx
  have hn:=zjo
  rcases hq with hq | hq
  · obtain ⟨its,r',pl,hz⟩:=I.list hq
    have hlen:=r'.length
    exact Calls.call_len_list pl.isList (by simp only [List.size_toArray] <;> omega) ⟨.int ys.length,H,I.tok _,⟨s.toks + 1,by rw [List.size_toArray,hlen]⟩,q⟩
  · obtain ⟨its,r',pl,hz⟩:=I.tuple hq
    have hlen:=r'.length
    exact len_tuple pl (by simp only [List.size_toArray] <;> omega) ⟨.int ys.length,H,I.tok _,⟨s.toks + 1,by rw [List.size_toArray,hlen]⟩,q⟩
theorem zb1:zfP X (.type "list") (fun xs H Q=>∃ p ys,xs = [.ref p]∧(SqL X.K H p ys∨SqT X.K H p ys)∧∀ l,H l=none→Q (.ref l) (upd H l (.lst ys))):=by
  intro pins s σ H xs us Q I r h
  obtain ⟨p,ys,rfl,hq,q⟩:=h
  obtain ⟨u,rfl,rx⟩:=zgc r
  cases rx
  have fin:∀ (its:List Value),Vals ys its→ys.length ≤ sizeLine→∀ (h':Heap) (c':Nat),(∀ b o',s.heap.get? b=some o'→h'.get? b=some o') →
      h'.get? s.heap.objs.size=some { cls:=.type "list",dict:=none,data:=.seq its.toArray c',slots:=#[] }→EP X pins σ Q (.ref s.heap.objs.size) { s with heap:=h' }:=fun its r' hz h' c' kp e =>
    ⟨.ref s.heap.objs.size,_,I.laid (t':=s.toks) kp (Nat.le_refl _) (show ObjOk X.prog X.w _ h' _ (.lst ys) from ⟨hz,its,c',r',e⟩),rfl,q _ (I.hok.fresh (Nat.le_refl _))⟩
  rcases hq with hq | hq
  · obtain ⟨its,r',pl,hz⟩:=I.list hq
    have hlen:=r'.length
    obtain ⟨o,ho,hc,n,hd⟩:=pl.isList
    exact call_list_seq p (.inl rfl) ho hc hd (fun h' c' kp e=>fin its r' hz h' c' kp e) (by simp only [List.size_toArray] <;> omega)
  · obtain ⟨its,r',pl,hz⟩:=I.tuple hq
    have hlen:=r'.length
    obtain ⟨o,ho,hc,n,hd⟩:=pl
    exact call_list_seq p (.inr rfl) ho hc hd (fun h' c' kp e=>fin its r' hz h' c' kp e) (by simp only [List.size_toArray] <;> omega)
def tyV (K:PySem.W.Frag) (T:String) (x:V) (H:Hp):Prop:=match x with
  | .str _=>T = "str"
  | .int _=>T = "int"
  | .ref p=>(T = "list"∧∃ xs,SqL K H p xs)∨(T = "tuple"∧∃ o,K.lookup p=some o∧o.cls = .type "tuple"∧o.dict=none) ∨
      (T = "dict"∧((∃ kvs,H p=some (.dK kvs))∨∃ kvs,H p=some (.dT kvs)))∨(T = "set"∧∃ S n,H p=some (.set S n))
  | _=>False
theorem zp3 {pins:List (Addr × Obj)} {σ:St} {H:Hp} {s:Shared} {T:String} {x:V} {v:Value} (I:Inv X pins σ H s) (r:RelV x v) (ty:tyV X.K T x H) :
    s.TypeIs v T∧∀ a,v = .ref a→∃ ob,s.heap.get? a=some ob∧ob.dict=none:=by
  cases x with
  | str z =>
    obtain ⟨t,rfl⟩:=r
    cases (show T = "str" from ty)
    exact ⟨typeIs_str s z t,fun _ e=>nomatch e⟩
  | int i =>
    obtain ⟨t,rfl⟩:=r
    cases (show T = "int" from ty)
    exact ⟨typeIs_int s i t,fun _ e=>nomatch e⟩
  | ref p =>
    cases r
    rcases ty with ⟨rfl,xs,hq⟩ | ⟨rfl,o,hk,hc,hd⟩ | ⟨rfl,hk⟩ | ⟨rfl,S,n,hk⟩
    · obtain ⟨its,_,pl,_⟩:=I.list hq
      refine ⟨pl.isList.typeIs,fun a e=>?_⟩
      cases e
      obtain ⟨o,n,e,c,hd,_⟩:=pl
      exact ⟨o,e,hd⟩
    · refine ⟨⟨o,I.kIn p o hk,hc⟩,fun a e=>?_⟩
      cases e
      exact ⟨o,I.kIn _ o hk,hd⟩
    · have z:∃ o,s.heap.get? p=some o∧o.ExactDict:=by
        rcases hk with ⟨kvs,hk⟩ | ⟨kvs,hk⟩
        · obtain ⟨_,_,_,_,o,_,_,e,ex,_⟩:=I.hok p _ hk
          exact ⟨o,e,ex⟩
        · obtain ⟨_,_,_,_,o,_,_,e,ex,_⟩:=I.hok p _ hk
          exact ⟨o,e,ex⟩
      obtain ⟨o,e,ex⟩:=z
      refine ⟨⟨o,e,ex.1⟩,fun a e2=>?_⟩
      cases e2
      exact ⟨o,e,ex.2.1⟩
    · obtain ⟨o,_,_,_,e,ex,_⟩:=I.hok p _ hk
      refine ⟨⟨o,e,ex.1⟩,fun a e2=>?_⟩
      cases e2
      exact ⟨o,e,ex.2.1⟩
  | _=>exact False.elim ty
def tBM (K:PySem.W.Frag) (T:String) (r:V→List V→Hp→VK→Prop) (to:TE) (t:TA):TE:=fun σ H Q=>to σ H fun x H1=>tyV K T x H1∧t σ H1 fun xs H2=>r x xs H2 Q
variable {o e:Expr} {es:List Expr} {to:TE} {t:TA} {name:Str} {apos cpos:Pos} {T id:String} {r:V→List V→Hp→VK→Prop}
theorem zkK (pa:PlainAttrs T) (slot:Slot T name id) (hty:typeOf (.builtin id)=pure (.type "method_descriptor")) (hm:MtR X id r) (ho:PE X o to) (ha:PA X (e :: es) t)
    (hbase:attributeBase o name X.env (eval o X.env)=eval o X.env:=by rfl)
    (hfew:((backTo cpos (starEach (e :: es) X.env)).all (fun x=>!x.1) && (backToKw cpos (keywordEach [] X.env)).all (fun x=>x.1.isSome)
      && decide ((e :: es).length + ([]:List Keyword).length + (if ([]:List Keyword).isEmpty then 0 else 1) < 30))=true:=by rfl)
    (hline:(apos.endLine == cpos.line)=true:=by rfl) (hs:starEach (e :: es) X.env=(false,eval e X.env) :: starEach es X.env:=by rfl) (hplain:(backTo cpos (starEach es X.env)).any (·.1)=false:=by rfl) :
    PE X (.Call (.Attribute o name apos) (e :: es) [] cpos) (tBM X.K T r to t):=by
  intro pins s σ H Q I h
  refine wpAny_Call_method_late hbase hfew hline rfl (thn (ho pins s σ H _ I h) fun v s1 ⟨x,H1,I1,r1,ty,q1⟩=>?_)
  obtain ⟨h1,h2⟩:=zp3 I1 r1 ty
  refine ⟨T,id,pa,slot,hty,h1,h2,?_⟩
  have hA:=ha cpos pins s1 σ H1 _ I1 q1
  rw [hs] at hA ⊢
  refine Calls.callWith_builtin (by show (false || (backTo cpos (starEach es X.env)).any (·.1))=false; rw [hplain] <;> rfl) (Calls.evalArgs_plain ?_)
  exact thn hA fun us s2 ⟨vs,H2,I2,r2,q2⟩=>hm pins s2 σ H2 x vs v us Q I2 r1 r2 q2
end
end L2
namespace L2
open PySem PySem.Spec PyProof.Rows
def MtM (X:Cx) (id:String) (r:V→List V→Hp→VK→Prop):Prop :=
  ∀ (pins:List (Addr × Obj)) (s:Shared) (σ:St) (H:Hp) (x:V) (xs:List V) (v:Value) (us:List Value) (Q:VK),Inv X pins σ H s→RelV x v→Vals xs us→r x xs H Q →
    wpAny (model X.prog X.w) X.A (call (.builtin id) (v :: us)) (EP X pins σ Q) X.xe s
theorem Vals.one:∀ {x:V} {us:List Value},Vals [x] us→∃ u,us = [u]∧RelV x u
  | _,_,.cons r .nil=>⟨_,rfl,r⟩
section
variable {X:Cx} {pins:List (Addr × Obj)} {σ:St} {H:Hp} {s:Shared} {l b:Addr} {xs ys zs:List V}
theorem Inv.lset {its its':List Value} {n:Nat} {f:Array Value→Array Value} {t':Nat} (I:Inv X pins σ H s) (hH:H l=some (.lst xs))
    (e:s.heap.get? l=some { cls:=.type "list",data:=.seq its.toArray n }) (hf:f its.toArray=its'.toArray) (hv:Vals ys its') (hz:ys.length ≤ sizeLine) :
    Inv X pins σ (upd H l (.lst ys)) { s with heap:=s.heap.update l (Obj.mapSeq f),toks:=t' }:=by
  have q:=PySem.IsL.update e f
  rw [hf] at q
  refine I.write (x:=l) (e:=l) (by rw [hH]; exact trivial) (.inl rfl) (fun b' u hb hu=>(Heap.get?_update_other s.heap (Obj.mapSeq f) (Ne.symm hb)).trans hu) ⟨_,q⟩ ?_
  exact ⟨hz,its',_,hv,q⟩
theorem Inv.lnew {its:List Value} {t':Nat} (I:Inv X pins σ H s) (hv:Vals ys its) (hz:ys.length ≤ sizeLine) :
    Inv X pins σ (upd H s.heap.objs.size (.lst ys)) { s with heap:=s.heap.push { cls:=.type "list",data:=.seq its.toArray },toks:=t' } :=
  I.laid (fun _ _ q=>Heap.get?_push_of_some _ q) (Nat.le_refl _) ⟨hz,its,0,hv,Heap.get?_push_size _ rfl⟩
theorem Inv.fresh (I:Inv X pins σ H s):H s.heap.objs.size=none:=I.hok.fresh (Nat.le_refl _)
theorem Inv.lstM (I:Inv X pins σ H s) (hH:H l=some (.lst xs)):xs.length ≤ sizeLine∧∃ (its:List Value) (n:Nat),Vals xs its∧xs.length=its.length∧s.heap.get? l=some { cls:=.type "list",data:=.seq its.toArray n }:=by
  obtain ⟨z,its,n,r,e⟩:=I.hok l _ hH
  exact ⟨z,its,n,r,r.length,e⟩
end
section
variable {X:Cx}
def zhn:V→List V→Hp→VK→Prop:=fun x vs H Q=>∃ l xs y,x = .ref l∧vs = [y]∧H l=some (.lst xs)∧xs.length < sizeLine∧Q .non (upd H l (.lst (xs ++ [y])))
theorem zdy:MtM X "list.append" zhn:=by
  intro pins s σ H x vs v us Q I rx rv h
  obtain ⟨l,xs,y,rfl,rfl,hH,hz,q⟩:=h
  cases rx
  obtain ⟨u,rfl,ru⟩:=rv.one
  obtain ⟨z,its,n,r,hl,e⟩:=I.lstM hH
  refine call_meets F.slot_list_append ⟨_,e,rfl⟩ F.entry_list_append (F.args_list_append_2 _ _) (PySem.list_append l its.toArray n u (by rw [List.size_toArray]; omega)) ⟨e,?_⟩
  refine ⟨.non,_,I.lset (its':=its ++ [u]) hH e (by simp) (r.append (.cons ru .nil)) ?_,rfl,q⟩
  rw [List.length_append,List.length_singleton]
  omega
end
section
variable {prog:Program} {w:World} {A:Around} {E:Value→Shared→Prop} {s:Shared}
end
section
variable {X:Cx}
end
end L2
namespace L2
open PySem PySem.Spec PyProof.Rows
section
variable {κ:Type} [DecidableEq κ]
def valV (kvs:List (κ × V)) (k:κ):Option V:=(kvs.find? fun kv=>decide (kv.1=k)).map (·.2)
def putK (kvs:List (κ × V)) (k:κ) (v:V):List (κ × V) :=
  if (kvs.any fun kv=>decide (kv.1=k))=true then kvs.map (fun kv=>if kv.1=k then (kv.1,v) else kv) else kvs ++ [(k,v)]
def zfY (kvs:List (κ × V)) (k:κ):List (κ × V):=kvs.filter fun kv=>decide (kv.1 ≠ k)
theorem zi2 {p:κ × V} {r:List (κ × V)} {k:κ} (e:p.1=k):valV (p :: r) k=some p.2:=by simp [valV,List.find?_cons,e]
theorem zjh {p:κ × V} {r:List (κ × V)} {k:κ} (e:¬ p.1=k):valV (p :: r) k=valV r k:=by simp [valV,List.find?_cons,e]
theorem zlj (k:κ):∀ kvs:List (κ × V),(kvs.any fun kv=>decide (kv.1=k))=(valV kvs k).isSome
  | []=>rfl
  | p :: r=>by
    rw [List.any_cons]
    by_cases e:p.1=k
    · simp only [zi2 e,decide_eq_true e,Bool.true_or,Option.isSome_some]
    · rw [zjh e,decide_eq_false e,Bool.false_or]; exact zlj k r
theorem zhv (kvs:List (κ × V)) (k:κ) (v:V):(putK kvs k v).length ≤ kvs.length + 1:=by
  unfold putK
  split
  · rw [List.length_map]; omega
  · rw [List.length_append,List.length_cons,List.length_nil]; omega
theorem RelO.isSome_eq {o:Option V} {u:Option Value} (r:RelO o u):o.isSome=u.isSome:=by
  cases o with
  | none=>cases u with
    | none=>rfl
    | some _=>exact (show False from r).elim
  | some _=>cases u with
    | none=>exact (show False from r).elim
    | some _=>rfl
theorem KV.val {kvs:List (κ × V)} {vs:List (κ × Value)} (r:KV kvs vs) (k:κ):RelO (valV kvs k) (valueAt vs k):=by
  unfold KV at r
  induction r with
  | nil=>exact True.intro
  | @cons p q ps qs h t ih =>
    obtain ⟨h1,h2⟩:=h
    by_cases e:p.1=k
    · have e':q.1=k:=h1.symm.trans e
      have b:valueAt (q :: qs) k=some q.2:=by simp [valueAt,List.find?_cons,e']
      rw [zi2 e,b]; exact h2
    · have e':¬ q.1=k:=fun z=>e (h1.trans z)
      have b:valueAt (q :: qs) k=valueAt qs k:=by simp [valueAt,List.find?_cons,e']
      rw [zjh e,b]; exact ih
theorem KV.any {kvs:List (κ × V)} {vs:List (κ × Value)} (r:KV kvs vs) (k:κ):(kvs.any fun kv=>decide (kv.1=k))=vs.any fun kv=>decide (kv.1=k):=by
  unfold KV at r
  induction r with
  | nil=>rfl
  | cons h t ih=>rw [List.any_cons,List.any_cons,ih,h.1]
theorem KV.repl {kvs:List (κ × V)} {vs:List (κ × Value)} (r:KV kvs vs) (k:κ) {y:V} {u:Value} (ry:RelV y u) :
    KV (kvs.map fun kv=>if kv.1=k then (kv.1,y) else kv) (vs.map fun kv=>if kv.1=k then (kv.1,u) else kv):=by
  unfold KV at r ⊢
  induction r with
  | nil=>exact .nil
  | @cons p q ps qs h t ih =>
    rw [List.map_cons,List.map_cons]
    refine .cons ?_ ih
    obtain ⟨h1,h2⟩:=h
    by_cases e:p.1=k
    · rw [if_pos e,if_pos (h1.symm.trans e)]; exact ⟨h1,ry⟩
    · rw [if_neg e,if_neg (fun z=>e (h1.trans z))]; exact ⟨h1,h2⟩
theorem KV.put {kvs:List (κ × V)} {vs:List (κ × Value)} (r:KV kvs vs) (k:κ) {y:V} {u:Value} (ry:RelV y u):KV (putK kvs k y) (stored vs k u):=by
  unfold putK stored
  rw [r.any k]
  by_cases e:(vs.any fun kv=>decide (kv.1=k))=true
  · rw [if_pos e,if_pos e]; exact r.repl k ry
  · rw [if_neg e,if_neg e]; exact Paired.snoc r ⟨rfl,ry⟩
theorem KV.drop {kvs:List (κ × V)} {vs:List (κ × Value)} (r:KV kvs vs) (k:κ):KV (zfY kvs k) (without vs k):=by
  unfold KV at r ⊢
  unfold zfY without
  induction r with
  | nil=>exact .nil
  | @cons p q ps qs h t ih =>
    obtain ⟨h1,h2⟩:=h
    rw [List.filter_cons,List.filter_cons]
    by_cases e:p.1=k
    · have a:¬ decide (p.1 ≠ k)=true:=by simp [e]
      have b:¬ decide (q.1 ≠ k)=true:=by simp [h1.symm.trans e]
      rw [if_neg a,if_neg b]; exact ih
    · have e':¬ q.1=k:=fun z=>e (h1.trans z)
      have a:decide (p.1 ≠ k)=true:=by simp [e]
      have b:decide (q.1 ≠ k)=true:=by simp [e']
      rw [if_pos a,if_pos b]; exact .cons ⟨h1,h2⟩ ih
theorem KV.length {kvs:List (κ × V)} {vs:List (κ × Value)} (r:KV kvs vs):kvs.length=vs.length:=Paired.length r
theorem znW (kvs:List (κ × V)) (k:κ):(zfY kvs k).length ≤ kvs.length:=List.length_filter_le _ _
end
theorem zna {P:Program} {w:World} {k:Key} {u:Value} (r:RelV (kV k) u):(zcV P w).is k u=true:=by
  cases k with
  | inl i=>obtain ⟨t,e⟩:=(show ∃ t,u=Value.int i t from r); subst e; exact zkn P w i t
  | inr x=>obtain ⟨t,e⟩:=(show ∃ t,u=Value.str x t from r); subst e; exact zkm P w x t
theorem zjV {P:Program} {w:World}:∀ {ks:List Key} {us:List Value},Vals (ks.map kV) us→ItemsAre (zcV P w) ks us
  | [],_,r=>by rw [List.map_nil] at r; cases r; exact .nil
  | k :: ks,_,r=>by
    rw [List.map_cons] at r
    cases r with
    | cons h t=>exact .cons (zna h) (zjV t)
abbrev KT (H:Hp):List (List Key × V)→List (List Key × Addr × Value)→Prop:=Paired fun p q=>p.1=q.1∧H q.2.1=some (.tup (p.1.map kV))∧RelV p.2 q.2.2
theorem KT.val {H:Hp} {kvs:List (List Key × V)} {xs:List (List Key × Addr × Value)} (r:KT H kvs xs) (k:List Key):RelO (valV kvs k) ((atKey xs k).map (·.2)):=by
  induction r with
  | nil=>exact True.intro
  | @cons p q ps qs h t ih =>
    obtain ⟨h1,_,h2⟩:=h
    by_cases e:p.1=k
    · have e':q.1=k:=h1.symm.trans e
      have b:atKey (q :: qs) k=some q.2:=by simp [atKey,List.find?_cons,e']
      rw [zi2 e,b]; exact h2
    · have e':¬ q.1=k:=fun z=>e (h1.trans z)
      have b:atKey (q :: qs) k=atKey qs k:=by simp [atKey,List.find?_cons,e']
      rw [zjh e,b]; exact ih
theorem KT.repl {H:Hp} {kvs:List (List Key × V)} {xs:List (List Key × Addr × Value)} (r:KT H kvs xs) (k:List Key) {y:V} {u:Value} (ry:RelV y u) :
    KT H (kvs.map fun kv=>if kv.1=k then (kv.1,y) else kv) (xs.map (putAt k u)):=by
  induction r with
  | nil=>exact .nil
  | @cons p q ps qs h t ih =>
    rw [List.map_cons,List.map_cons]
    refine .cons ?_ ih
    obtain ⟨h1,h2,h3⟩:=h
    unfold putAt
    by_cases e:p.1=k
    · rw [if_pos e,if_pos (h1.symm.trans e)]; exact ⟨h1,h2,ry⟩
    · rw [if_neg e,if_neg (fun z=>e (h1.trans z))]; exact ⟨h1,h2,h3⟩
theorem KT.put {H:Hp} {kvs:List (List Key × V)} {xs:List (List Key × Addr × Value)} (r:KT H kvs xs) (k:List Key) {b:Addr} {y:V} {u:Value} (hb:H b=some (.tup (k.map kV))) (ry:RelV y u) :
    KT H (putK kvs k y) (storedH xs k b u):=by
  have e:(kvs.any fun kv=>decide (kv.1=k))=(atKey xs k).isSome:=by
    rw [zlj,(r.val k).isSome_eq,Option.isSome_map]
  unfold putK storedH
  rw [e]
  by_cases q:(atKey xs k).isSome=true
  · rw [if_pos q,if_pos q]; exact r.repl k ry
  · rw [if_neg q,if_neg q]; exact Paired.snoc r ⟨rfl,hb,ry⟩
theorem KT.keeps {H H':Hp} {kvs:List (List Key × V)} {xs:List (List Key × Addr × Value)} (r:KT H kvs xs) (ht:∀ b ys,H b=some (.tup ys)→H' b=some (.tup ys)):KT H' kvs xs :=
  Paired.mapP r fun _ _ z=>⟨z.1,ht _ _ z.2.1,z.2.2⟩
section
variable {P:Program} {w:World} {H:Hp} {h:Heap} {a:Addr}
theorem zqU {u:HO} (ok:HOk P w H h) (e:Rd H a u):ObjOk P w H h a u:=e.ok ok
theorem zmV {kvs:List (Key × V)} (ok:HOk P w H h) (e:Rd H a (.dK kvs)):kvs.length ≤ sizeLine∧(a == sysModules)=false∧∃ vs,KV kvs vs∧h.DictOf (zcV P w) a vs :=
  show ObjOk P w H h a (.dK kvs) from zqU ok e
theorem zpZ {kvs:List (Key × V)} (ok:HOk P w H h) (e:H a=some (.dK kvs)):kvs.length ≤ sizeLine∧(a == sysModules)=false∧∃ vs,KV kvs vs∧h.DictOf (zcV P w) a vs:=zmV ok (.inl e)
theorem zk5 {ks:List Key} (ok:HOk P w H h) (e:H a=some (.tup (ks.map kV))):(tupleKind (zcV P w)).is h ks a:=by
  obtain ⟨_,its,r,o,h1,h2,n,h3⟩:=(show ObjOk P w H h a (.tup (ks.map kV)) from ok a _ e)
  exact ⟨o,its.toArray,n,h1,h2,h3,by simpa using zjV r⟩
theorem zn8 {kvs:List (List Key × V)} (ok:HOk P w H h) (e:Rd H a (.dT kvs)):kvs.length ≤ sizeLine∧(a == sysModules)=false ∧
    ∃ xs,KT H kvs xs∧h.DictOfH (tupleKind (zcV P w)) a xs:=by
  obtain ⟨z,y,xs,r,o,es,ep,h1,h2,h3,h4,h5⟩:=(show ObjOk P w H h a (.dT kvs) from zqU ok e)
  refine ⟨z,y,xs,r,o,es,ep,h1,h2,h3,h4,fun x hx=>?_,h5⟩
  have all:∀ {l:List (List Key × V)} {m:List (List Key × Addr × Value)},KT H l m→∀ x ∈ m,(tupleKind (zcV P w)).is h x.1 x.2.1:=by
    intro l m q
    induction q with
    | nil=>intro x hx; exact nomatch hx
    | @cons p q ps qs hq t ih =>
      intro x hx
      rcases List.mem_cons.mp hx with e | hx
      · subst e
        exact zk5 ok (by rw [← hq.1]; exact hq.2.1)
      · exact ih x hx
  exact all r x hx
theorem zrj {kvs:List (List Key × V)} (ok:HOk P w H h) (e:H a=some (.dT kvs)):kvs.length ≤ sizeLine∧(a == sysModules)=false ∧
    ∃ xs,KT H kvs xs∧h.DictOfH (tupleKind (zcV P w)) a xs:=zn8 ok (.inl e)
end
def DGet (H:Hp) (a:Addr) (y:V) (r:Option V):Prop :=
  (∃ kvs k,Rd H a (.dK kvs)∧y=kV k∧r=valV kvs k)∨∃ kvs k b,Rd H a (.dT kvs)∧y = .ref b∧H b=some (.tup (k.map kV))∧r=valV kvs k
def DPut (H:Hp) (a:Addr) (y v:V) (H':Hp):Prop :=
  (∃ kvs k,H a=some (.dK kvs)∧y=kV k∧kvs.length < sizeLine∧H'=upd H a (.dK (putK kvs k v))) ∨
  ∃ kvs k b,H a=some (.dT kvs)∧y = .ref b∧H b=some (.tup (k.map kV))∧kvs.length < sizeLine∧H'=upd H a (.dT (putK kvs k v))
theorem DGet.k {H:Hp} {a:Addr} {kvs:List (Key × V)} {k:Key} (e:H a=some (.dK kvs)):DGet H a (kV k) (valV kvs k):=.inl ⟨kvs,k,.inl e,rfl,rfl⟩
theorem DPut.k {H:Hp} {a:Addr} {kvs:List (Key × V)} {k:Key} {v:V} (e:H a=some (.dK kvs)) (hl:kvs.length < sizeLine):DPut H a (kV k) v (upd H a (.dK (putK kvs k v))):=.inl ⟨kvs,k,e,rfl,hl,rfl⟩
section
variable {X:Cx} {pins:List (Addr × Obj)} {σ:St} {H:Hp} {s:Shared} {a:Addr} {y v:V} {u r:Value} {o:Option V} {A:Around} {E:Value→Shared→Prop}
theorem Inv.big (I:Inv X pins σ H s):sysModules < s.heap.objs.size:=by
  have h:mainGlobals < s.heap.objs.size:=(I.mod.glob.keeps I.bk).lt
  exact Nat.lt_trans (by decide) h
theorem d_in {Q:Value→Shared→Prop} (hu:A.units + 1 < cLine) (I:Inv X pins σ H s) (g:DGet H a y o) (ry:RelV y u) (h:∀ s',Inv X pins σ H s'→Q (.bool o.isSome) s') :
    wpAny (model X.prog X.w) A (compareOp .In u (.ref a)) Q E s:=by
  rcases g with ⟨kvs,k,e,ey,l⟩ | ⟨kvs,k,b,e,ey,eb,l⟩
  · subst ey
    obtain ⟨z,hd,vs,rel,dd⟩:=zmV I.hok e
    refine wpAny_in_of (zna ry) hd dd.mapOf ?_
    rw [← (rel.val k).isSome_eq,← l]
    exact h _ (I.tok _)
  · subst ey
    cases (show u=Value.ref b from ry)
    obtain ⟨z,hd,xs,rel,dd⟩:=zn8 I.hok e
    refine wpAny_in_heap (tupleKind_room_in1 hu) (zk5 I.hok eb) hd dd ?_
    have q:=(rel.val k).isSome_eq
    rw [Option.isSome_map] at q
    rw [← q,← l]
    exact h _ (I.tok _)
theorem zph {Q:Value→Shared→Prop} (hu:A.units + 1 < cLine) (I:Inv X pins σ H s) (g:DGet H a y o) (ry:RelV y u) (h:∀ s',Inv X pins σ H s'→Q (.bool (!o.isSome)) s') :
    wpAny (model X.prog X.w) A (compareOp .NotIn u (.ref a)) Q E s:=by
  rcases g with ⟨kvs,k,e,ey,l⟩ | ⟨kvs,k,b,e,ey,eb,l⟩
  · subst ey
    obtain ⟨z,hd,vs,rel,dd⟩:=zmV I.hok e
    refine wpAny_notIn_of (zna ry) hd dd.mapOf ?_
    rw [← (rel.val k).isSome_eq,← l]
    exact h _ (I.tok _)
  · subst ey
    cases (show u=Value.ref b from ry)
    obtain ⟨z,hd,xs,rel,dd⟩:=zn8 I.hok e
    refine wpAny_notIn_heap (tupleKind_room_in1 hu) (zk5 I.hok eb) hd dd ?_
    have q:=(rel.val k).isSome_eq
    rw [Option.isSome_map] at q
    rw [← q,← l]
    exact h _ (I.tok _)
theorem zka {h':Heap} {t':Nat} {ob:HO} (I:Inv X pins σ H s) (mu:Mut (H a)) (hs:Heap.SameBut a s.heap h') (he:∃ q,h'.get? a=some q) (new:ObjOk X.prog X.w (upd H a ob) h' a ob) :
    Inv X pins σ (upd H a ob) { s with heap:=h',toks:=t' } :=
  I.write (x:=a) (e:=a) mu (.inl rfl) (fun b q hb z=>(hs.2 b hb).trans z) he new
theorem zoE {P:Program} {w:World} {H':Hp} {h':Heap} {kvs:List (Key × V)} {vs:List (Key × Value)} (z:kvs.length ≤ sizeLine) (hd:(a == sysModules)=false) (rel:KV kvs vs) (dd:h'.DictOf (zcV P w) a vs) :
    ObjOk P w H' h' a (.dK kvs):=⟨z,hd,vs,rel,dd⟩
theorem zmw {H':Hp} {Q:Unit→Shared→Prop} (hu:A.units + 1 < cLine) (I:Inv X pins σ H s) (g:DPut H a y v H') (ry:RelV y u) (rv:RelV v r) (h:∀ s',Inv X pins σ H' s'→Q () s') :
    wpAny (model X.prog X.w) A (setItem (.ref a) u r) Q E s:=by
  rcases g with ⟨kvs,k,e,ey,l,eH⟩ | ⟨kvs,k,b,e,ey,eb,l,eH⟩
  · subst ey eH
    obtain ⟨z,hd,vs,rel,dd⟩:=zpZ I.hok e
    have hz:vs.length ≤ sizeLine:=by rw [← rel.length]; exact z
    have hl:(putK kvs k v).length ≤ sizeLine:=by have:=zhv kvs k v; omega
    refine wpAny_setItem_pairs (hsz:=hz) (zna ry) dd fun h' dd' hs=>h _ ?_
    have he:∃ q,h'.get? a=some q:=let ⟨q,_,_,hq,_⟩:=dd'; ⟨q,hq⟩
    exact zka I (by rw [e]; exact True.intro) hs he (zoE hl hd (rel.put k rv) dd')
  · subst ey eH
    cases (show u=Value.ref b from ry)
    obtain ⟨z,hd,xs,rel,dd⟩:=zrj I.hok e
    have hz:xs.length ≤ sizeLine:=by rw [← Paired.length rel]; exact z
    have hl:(putK kvs k v).length ≤ sizeLine:=by have:=zhv kvs k v; omega
    refine wpAny_setItem_heap (hsz:=hz) (tupleKind_room_in1 hu) (zk5 I.hok eb) dd fun h' dd' hs=>h _ ?_
    obtain ⟨q,es,ep,hq,h2,h3,h4,_,h5⟩:=dd'
    refine zka I (by rw [e]; exact True.intro) hs ⟨q,hq⟩ ⟨hl,hd,_,(rel.put k eb rv).keeps fun c ys ec=>?_,q,es,ep,hq,h2,h3,h4,h5⟩
    rw [zaA (zq8 ec e (fun z=>nomatch z))]
    exact ec
end
section
variable {X:Cx} {pins:List (Addr × Obj)} {σ:St} {H:Hp} {s:Shared} {a:Addr} {kvs:List (Key × V)} {k:Key} {u:Value} {A:Around} {E:Value→Shared→Prop}
theorem zro {v:V} {more:List Value} {Q:Value→Shared→Prop} (I:Inv X pins σ H s) (e:H a=some (.dK kvs)) (ry:RelV (kV k) u) (l:valV kvs k=some v) (hm:more = []∨∃ x,more = [x])
    (h:∀ w' s',Inv X pins σ (upd H a (.dK (zfY kvs k))) s'→RelV v w'→Q w' s'):wpAny (model X.prog X.w) A (call (.builtin "dict.pop") (.ref a :: u :: more)) Q E s:=by
  obtain ⟨z,hd,vs,rel,dd⟩:=zpZ I.hok e
  obtain ⟨w',hw,rw'⟩:=RelO.some_of (v:=v) (o:=valueAt vs k) (by rw [← l]; exact rel.val k)
  have hp:(keyPart u).isSome=true:=by
    cases k with
    | inl i=>obtain ⟨t,q⟩:=(show ∃ t,u=Value.int i t from ry); subst q; rfl
    | inr x=>obtain ⟨t,q⟩:=(show ∃ t,u=Value.str x t from ry); subst q; rfl
  have ha:argsOk "dict.pop" ⟨.ref a :: u :: more,[]⟩:=by
    rcases hm with q | ⟨x,q⟩
    · subst q; exact PySem.F.args_dict_pop_2 _ _
    · subst q; exact PySem.F.args_dict_pop_3 _ _ _
  refine call_meetsIn PySem.F.slot_dict_pop dd.typeIs PySem.F.entry_dict_pop ha (meets_dict_pop_there (zcV X.prog X.w) a (zna ry) more hm hp)
    ⟨vs,w',dd,by rw [← rel.length]; exact z,hw,fun h' dd' hs=>h w' _ ?_ rw'⟩
  have he:∃ q,h'.get? a=some q:=let ⟨q,_,_,hq,_⟩:=dd'; ⟨q,hq⟩
  exact zka I (by rw [e]; exact True.intro) hs he (zoE (Nat.le_trans (znW kvs k) z) hd (rel.drop k) dd')
theorem zrk {Q:Value→Shared→Prop} (I:Inv X pins σ H s) (e:Rd H a (.dK kvs)) (h:∀ t s',Inv X pins σ H s'→Q (.int kvs.length t) s'):wpAny (model X.prog X.w) A (call (.builtin "len") [.ref a]) Q E s:=by
  obtain ⟨z,hd,vs,rel,dd⟩:=zmV I.hok e
  refine call_len_dict hd dd (by rw [← rel.length]; rw [sizeLine_eq] at z; omega) ?_
  rw [← rel.length]
  exact h _ _ (I.tok _)
end
def tDIn (ty td:TE):TE:=fun σ H Q=>ty σ H fun y H1=>td σ H1 fun x H2=>∃ a o,x = .ref a∧DGet H2 a y o∧Q (.bl o.isSome) H2
def zlX (ty td:TE):TE:=fun σ H Q=>ty σ H fun y H1=>td σ H1 fun x H2=>∃ a o,x = .ref a∧DGet H2 a y o∧Q (.bl (!o.isSome)) H2
def zqM (td ty tv:TE):TS:=fun D σ H=>tv σ H fun v H1=>td σ H1 fun x H2=>ty σ H2 fun y H3=>∃ a H4,x = .ref a∧DPut H3 a y v H4∧D.nx σ H4
section
variable {X:Cx} {o i e value:Expr} {pos pos' tpos:Pos} {td ty tv:TE}
theorem zoA (hu:X.A.units + 1 < cLine) (hi:PE X i ty) (ho:PE X o td):PC X .In i o (tDIn ty td):=by
  intro pins s σ H Q I h
  refine thn (hi pins s σ H _ I h) fun iv s1 ⟨y,H1,I1,ry,q1⟩=>thn (ho pins s1 σ H1 _ I1 q1) fun u s2 ⟨x,H2,I2,rx,a,ov,ex,g,q2⟩=>?_
  subst ex
  obtain rfl:u=Value.ref a:=rx
  exact d_in hu I2 g ry fun s3 I3=>⟨.bl ov.isSome,H2,I3,rfl,q2⟩
theorem zj2 (hu:X.A.units + 1 < cLine) (hi:PE X i ty) (ho:PE X o td):PC X .NotIn i o (zlX ty td):=by
  intro pins s σ H Q I h
  refine thn (hi pins s σ H _ I h) fun iv s1 ⟨y,H1,I1,ry,q1⟩=>thn (ho pins s1 σ H1 _ I1 q1) fun u s2 ⟨x,H2,I2,rx,a,ov,ex,g,q2⟩=>?_
  subst ex
  obtain rfl:u=Value.ref a:=rx
  exact zph hu I2 g ry fun s3 I3=>⟨.bl (!ov.isSome),H2,I3,rfl,q2⟩
theorem zhO (hu:X.A.units + 1 < cLine) (ho:PE X o td) (hi:PE X i ty) (hv:PE X value tv) (hs:swapsWith value (some (.Subscript o i pos')) pos.line X.env=pure false) :
    PS X (.Assign [.Subscript o i pos'] value pos) (zqM td ty tv):=by
  intro pins s σ H D I h
  refine wpAny_Assign_Subscript (thn (hv pins s σ H _ I h) fun r s1 ⟨v,H1,I1,rv,q1⟩=>thn (ho pins s1 σ H1 _ I1 q1) fun u s2 ⟨x,H2,I2,rx,q2⟩=>thn (hi pins s2 σ H2 _ I2 q2) fun iv s3 ⟨y,H3,I3,ry,a,H4,ex,g,q3⟩=>?_) hs
  subst ex
  obtain rfl:u=Value.ref a:=rx
  exact zmw hu I3 g ry rv fun s4 I4=>⟨σ,H4,I4,q3⟩
end
theorem znK {P:Program} {w:World} {H:Hp} (h:Heap) (hb:sysModules < h.objs.size):ObjOk P w H (h.push { cls:=.type "dict",data:=.dict #[] }) h.objs.size (.dK []) :=
  ⟨Nat.zero_le _,beq_eq_false_iff_ne.mpr (Ne.symm (Nat.ne_of_lt hb)),[],.nil,Heap.DictOf.new h⟩
def zom:TE:=fun _ H Q=>∀ p,H p=none→Q (.ref p) (upd H p (.dK []))
section
variable {X:Cx} {pos:Pos}
theorem zhd:PE X (.Dict [] [] pos) zom:=fun pins s σ H Q I h =>
  wpAny_Dict_empty ⟨.ref s.heap.objs.size,_,I.laid (a:=s.heap.objs.size) (o:=.dK []) (t':=s.toks) (fun _ _ q=>Heap.get?_push_of_some _ q) (Nat.le_refl _) (znK s.heap I.big),rfl,h _ (I.hok.fresh (Nat.le_refl _))⟩
end
structure M1 (X:Cx) (o:Expr) (m:Str) (apos:Pos) (e:Expr) (cpos:Pos):Prop where
  base:attributeBase o m X.env (eval o X.env)=eval o X.env
  few:((backTo cpos (starEach [e] X.env)).all (fun x=>!x.1) && (backToKw cpos (keywordEach [] X.env)).all (fun x=>x.1.isSome)
    && decide (([e]:List Expr).length + ([]:List Keyword).length + (if ([]:List Keyword).isEmpty then 0 else 1) < 30))=true
  line:(apos.endLine == cpos.line)=true
  trees:backTo cpos (starEach [e] X.env) = [(false,eval e X.env)]
def IsD (H:Hp) (a:Addr):Prop:=(∃ kvs,Rd H a (.dK kvs))∨∃ kvs,Rd H a (.dT kvs)
theorem zp1 {X:Cx} {pins:List (Addr × Obj)} {σ:St} {H:Hp} {s:Shared} {a:Addr} (I:Inv X pins σ H s) (d:IsD H a) :
    s.TypeIs (.ref a) "dict"∧(∀ b,Value.ref a = .ref b→∃ ob,s.heap.get? b=some ob∧ob.dict=none)∧(a == sysModules)=false:=by
  rcases d with ⟨kvs,e⟩ | ⟨kvs,e⟩
  · obtain ⟨_,hd,vs,_,dd⟩:=zmV I.hok e
    refine ⟨dd.typeIs,fun b q=>?_,hd⟩
    cases q
    obtain ⟨ob,_,_,h1,h2,_⟩:=dd
    exact ⟨ob,h1,h2.2.1⟩
  · obtain ⟨_,hd,xs,_,dd⟩:=zn8 I.hok e
    refine ⟨dd.typeIs,fun b q=>?_,hd⟩
    cases q
    obtain ⟨ob,_,_,h1,h2,_⟩:=dd
    exact ⟨ob,h1,h2.2.1⟩
section
variable {X:Cx} {pins:List (Addr × Obj)} {σ:St} {H:Hp} {s:Shared} {a:Addr} {y d:V} {u r:Value} {o:Option V} {A:Around} {E:Value→Shared→Prop}
end
def zou (td ty:TE):TE:=fun σ H Q=>td σ H fun x H1=>∃ a,x = .ref a∧IsD H1 a∧ty σ H1 fun y H2=>∃ kvs k v,H2 a=some (.dK kvs)∧y=kV k∧valV kvs k=some v∧Q v (upd H2 a (.dK (zfY kvs k)))
section
variable {X:Cx} {o e f:Expr} {apos cpos:Pos} {td ty tx:TE}
theorem znx (ho:PE X o td) (he:PE X e ty) (m:M1 X o "pop" apos e cpos):PE X (.Call (.Attribute o "pop" apos) [e] [] cpos) (zou td ty):=by
  intro pins s σ H Q I h
  refine wpAny_Call_method m.base m.few m.line PySem.F.plainAttrs_dict PySem.F.slot_dict_pop PySem.F.type_dict_pop (thn (ho pins s σ H _ I h) fun u s1 ⟨x,H1,I1,rx,a,ex,d,q1⟩=>?_)
  subst ex
  obtain rfl:u=Value.ref a:=rx
  obtain ⟨t1,t2,_⟩:=zp1 I1 d
  refine ⟨t1,t2,?_⟩
  rw [m.trees]
  refine Calls.callWith_builtin rfl (Calls.evalArgs_plain (Calls.spliced_cons (thn (he pins s1 σ H1 _ I1 q1) fun iv s2 ⟨y,H2,I2,ry,kvs,k,v,ea,ey,l,q2⟩=>Calls.spliced_nil ?_)))
  subst ey
  exact zro I2 ea ry l (.inl rfl) fun w' s3 I3 rw'=>⟨v,_,I3,rw',q2⟩
end
section
variable {X:Cx} {pins:List (Addr × Obj)} {σ:St} {H:Hp} {s:Shared} {a:Addr} {kvs:List (Key × V)} {A:Around} {E:Value→Shared→Prop}
end
section
variable {X:Cx} {pins:List (Addr × Obj)} {σ:St} {H:Hp} {s:Shared} {a:Addr} {y:V} {u:Value} {A:Around} {E:Value→Shared→Prop}
end
end L2
namespace Att
open PySem PySem.W PySem.Calls PyProof.Rows
theorem zhB {P:Params} {h:Heap}:∀ (ns:List Int) (vs:List Value),WellAll P h vs (ns.map WData.int)→IntsAre vs ns:=by
  intro ns
  induction ns with
  | nil =>
    intro vs w
    rw [List.map_nil] at w
    cases w
    exact .nil
  | cons n ns ih =>
    intro vs w
    rw [List.map_cons] at w
    cases w with
    | cons a b =>
      cases a
      exact .cons _ _ (ih _ b)
theorem zmo {l:OpenLaw} {n:Nat} (hn:l.most=some n) {P:Params} {h:Heap} {args:List WData} {vals:List Value}
    (hpre:l.row.toRowW.claim.pre args=true) (hwl:WellAll P h vals args) :
    ∃ a vs ns,vals = [Value.ref a]∧args = [WData.list (ns.map WData.int)]∧h.get? a=some { cls:=.type "list",data:=.seq vs.toArray }∧IntsAre vs ns∧ns.length ≤ n:=by
  have hsh:WShape.hasAll [] args [.list .int]=true:=(pre_splitW hpre).1
  have hc:l.pre.holds [] { args:=args }=true:=(pre_splitW hpre).2
  obtain ⟨d,r,rfl,h1,h2⟩:=hasAllW_cons hsh
  obtain rfl:=hasAllW_nil h2
  obtain ⟨xs,rfl,h3⟩:=hasW_list h1
  obtain ⟨ns,rfl⟩:=items_int h3
  have hlen:ns.length ≤ n:=by
    unfold OpenLaw.pre at hc
    have h4:(WTm.not (.lt (.lit (.int (n:Int))) (.len (.arg 0)))).holds [] { args:=[.list (ns.map .int)] }=true:=by
      have h4:=(holds_andW hc).1
      rw [hn] at h4
      exact h4
    have h5:=condW_of h4 (w_not (w_lt w_lit (w_len_list (w_arg rfl))))
    rw [List.length_map] at h5
    refine Nat.le_of_not_lt fun q=>?_
    have q':(n:Int) < ((ns.length:Nat):Int):=by omega
    first
      | (rw [decide_eq_true q'] at h5; exact absurd h5 (by decide))
      | (simp at h5; omega)
  cases hwl with
  | cons w1 w2 =>
    cases w2
    cases w1 with
    | list ho hall=>exact ⟨_,_,ns,rfl,rfl,ho,zhB ns _ hall,hlen⟩
theorem znk (l:OpenLaw) (args:List WData):l.row.toRowW.claim.post args (.bool true) args=true :=
  postW_of (r:=l.row.toRowW) (X:=(true == true))
    (show WShape.has [] (.bool true) .bool=true by first | rfl | decide | simp [WShape.has,WShape.arms,WShape.armsAll])
    (show (WTm.eq .res (.lit (.bool true))).value [] { args:=args,res:=some (.bool true),after:=args }=some (.bool (true == true)) from w_eq_bool (w_res rfl) w_lit) rfl
theorem attach_call {l:OpenLaw} {n:Nat} {q:Program} {loose:List Str} {XP:(Str→Option Value)→Heap→Prop} {YP:World→Heap→Prop} {d:DefRec}
    (hn:l.most=some n) (hdf:d.params.defaults = [])
    (call:∀ (w:World) (s₀ s₁:Shared) (mg mb:Str→Option Value) (fa:Addr) (o:Obj) (pm cd doc:Value) (a:Addr) (vs:List Value) (ns:List Int),
      Ground q loose [] XP w s₀ mg mb s₁.heap→YP w s₁.heap →
      s₁.heap.get? fa=some o→o.data = .func (docDef d.name d.params d.body d.scope pm cd doc)→s₁.heap.CodeRec cd d.name→mg d.name=some (.ref fa) →
      s₁.heap.get? a=some { cls:=.type "list",data:=.seq vs.toArray }→IntsAre vs ns→ns.length ≤ n→s₁.gens = #[] →
      codeAny (model l.prog w) callerA (.call (.ref fa) ⟨[.ref a],[]⟩) (fun r s'=>r = .ok (.ret (.bool true))∧OldK s₁.heap s'.heap∧s'.os=s₁.os∧AllBare s'.gens) s₁) :
    WalkO q loose XP YP l.row.toRowW d [] (fun f vs=>PySem.call f vs):=by
  intro w s₀ s₁ mg mb G Y fa o pm cd doc dV kV ho hd hcd hD hmg hg args vals as hpre hlay hrd hwl hlo
  obtain rfl:dV = .none:=Dflts.none hD hdf
  obtain rfl:kV = .none:=Dflts.noKw hD
  obtain ⟨a,vs,ns,rfl,rfl,hobj,hints,hlen⟩:=zmo hn hpre hwl
  refine enter_call (codeAny_mono (call w s₀ s₁ mg mb fa o pm cd doc a vs ns G Y ho (fd_plain hd) hcd hmg hobj hints hlen hg) fun r s' hq=>?_)
  obtain ⟨rfl,h2,h3,h4⟩:=hq
  exact ⟨.inl ⟨.bool true,.bool true,[],rfl,fun _=>rfl,.bool true,znk l _,fun _=>⟨List.Pairwise.nil,fun _ hm=>(nomatch hm)⟩⟩,h2,h3,h4⟩
section
variable {prog:Program} {w:World} {A:Around} {E:Value→Shared→Prop} {s:Shared} {K:Frag}
end
end Att
namespace L2
open PySem PySem.Spec PyProof.Rows
theorem zj5:∀ {vs:List Value} {ns:List Int},IntsAre vs ns→Vals (ns.map V.int) vs
  | _,_,.nil=>.nil
  | _,_,.cons n t h=>.cons ⟨t,rfl⟩ (zj5 h)
def Only (H:Hp):Prop:=∀ b,H b=none∨∃ o xs,H b=some (.frz o (.lst xs))
theorem znU {P:Program} {w:World} {K:PySem.W.Frag} {mg mb:Str→Option Value} {CX:CXT} {k:Nat} {fa a:Addr} {fd:FuncData} {x:Str} {sp:Sp} {s₁:Shared} {vs:List Value} {ns:List Int}
    (KX:K.In s₁.heap) (hT0:tabOf K=none) (hns:s₁.heap.Ns mainGlobals mg) (hb:s₁.heap.Ns builtinsNs mb) (hbb:∀ x:Str,x ≠ "__name__"→mb x=bootBuiltins x) (hlim:s₁.heap.NoLimit) (hg:s₁.gens = #[])
    (ha:s₁.heap.get? a=some { cls:=.type "list",data:=.seq vs.toArray }) (hi:IntsAre vs ns) (hl:ns.length ≤ sizeLine) (hr:Room k callerA)
    (F:∀ base:Heap,K.In base→base.Ns mainGlobals mg→FnOk P w K mg base CX k fa fd [x] sp) (hbind:∀ (s:Shared) (u:Value),BindsTo s fd ⟨[u],[]⟩ [(x,u)])
    (hsp:∀ H:Hp,Only H→SqL K H a (ns.map V.int)→sp [.ref a] H (fun v _=>v = .bl true) fun _ _ _=>False)
    (hCX:∀ H e s',CX [] H s₁ (fun _ _ _=>False) e s'→False) :
    codeAny (model P w) callerA (.call (.ref fa) ⟨[.ref a],[]⟩) (fun r s'=>r = .ok (.ret (.bool true))∧OldK s₁.heap s'.heap∧s'.os=s₁.os∧AllBare s'.gens) s₁:=by
  have rv:=zj5 hi
  have lenV:=hi.length
  -- from an abstract heap in which nothing but the script may be tracked
  have core:∀ H:Hp,Only H→SqL K H a (ns.map V.int)→HOk P w H s₁.heap→(∀ b,H b ≠ none→b=a)→(H a ≠ none→K.lookup a=none) →
      codeAny (model P w) callerA (.call (.ref fa) ⟨[.ref a],[]⟩) (fun r s'=>r = .ok (.ret (.bool true))∧OldK s₁.heap s'.heap∧s'.os=s₁.os∧AllBare s'.gens) s₁:=by
    intro H hO hS hok hA hK
    have base_of:∀ {b:Addr} {o:Obj},s₁.heap.get? b=some o→H b=none→(hidT s₁.heap H).get? b=some o:=fun e n=>zn4 e n
    have noA:∀ {b:Addr} {o:Obj} {es:Array DictEntry} {ep:Nat},s₁.heap.get? b=some o→o.data = .dict es ep→H b=none:=fun {b o es ep} e d=>by
      cases q:H b with
      | none=>rfl
      | some u =>
        have e':b=a:=hA b (by rw [q]; simp)
        subst e'
        rw [ha] at e; cases e
        have d':Data.seq vs.toArray _=Data.dict es ep:=d
        cases d'
    have nsK:∀ {b:Addr} {m:Str→Option Value},s₁.heap.Ns b m→(hidT s₁.heap H).Ns b m:=fun {b m} ⟨o,es,ep,e,d,r⟩=>⟨o,es,ep,base_of e (noA e d),d,r⟩
    have hKb:K.In (hidT s₁.heap H):=fun b o e=>base_of (KX b o e) (by
      cases q:H b with
      | none=>rfl
      | some u =>
        have e':b=a:=hA b (by rw [q]; simp)
        subst e'
        rw [hK (by rw [q]; simp)] at e; cases e)
    have hM:Mod K mg (hidT s₁.heap H):=⟨hKb,nsK hns,⟨mb,nsK hb,hbb⟩,let ⟨mc,h1,h2⟩:=hlim; ⟨mc,nsK h1,h2⟩⟩
    have e0:Env0 P w K mg (hidT s₁.heap H) callerA [] s₁ H:=⟨rfl,hM,fun b o e=>zpI e,Nat.le_of_eq (zmg _ _),trivial,fun b hb=>absurd (show b ∈ ([]:List Addr) from hb) (by simp),hok,.of_eq hg,.none hT0⟩
    refine codeAny_mono ((F _ hKb (nsK hns)).run callerA [] s₁ H ⟨[.ref a],[]⟩ [.ref a] [.ref a] _ _ hr e0 (hbind s₁ (.ref a)) (.cons rfl .nil) (hsp H hO hS)) fun r s' h=>?_
    cases r with
    | error e=>exact (hCX H e s' h).elim
    | ok fl =>
      cases fl with
      | next=>exact False.elim h
      | brk=>exact False.elim h
      | cont=>exact False.elim h
      | ret u =>
        obtain ⟨v,H',os,bare,un,hok',r',q⟩:=h
        have q':v = .bl true:=q
        subst q'
        obtain rfl:u=Value.bool true:=r'
        refine ⟨rfl,OldK.of_keep fun b o e=>?_,os,bare⟩
        cases q:H b with
        | none=>exact un.keep b o e q (by intro z; exact absurd (show b ∈ ([]:List Addr) from z) (by simp)) (by simp)
        | some u =>
          rcases hO b with z | ⟨ob,xs,z⟩
          · rw [q] at z; cases z
          · have z2:=un.frzs b ob _ z
            obtain ⟨e1,_⟩:=hok b _ z
            obtain ⟨e2,_⟩:=hok' b _ z2
            rw [e] at e1; cases e1
            exact e2
  cases hk:K.lookup a with
  | some o =>
    -- the script is one of the module's own objects
    have e:=KX a o hk
    rw [ha] at e
    cases e
    refine core (fun _=>none) (fun _=>.inl rfl) (.inr ⟨_,vs.toArray,_,hk,rfl,rfl,rfl,by rw [List.size_toArray,lenV]; exact hl,by simpa using rv⟩) (fun b u z=>by have z':(none:Option HO)=some u:=z; cases z') (fun b z=>absurd rfl z) fun z=>absurd rfl z
  | none =>
    refine core (fun b=>if b=a then some (.frz { cls:=.type "list",data:=.seq vs.toArray } (.lst (ns.map V.int))) else none) (fun b=>?_) (.inl (.inr ⟨{ cls:=.type "list",data:=.seq vs.toArray },if_pos rfl⟩)) (fun b u z=>?_) (fun b z=>?_) fun _=>hk
    · by_cases hb:b=a
      · exact .inr ⟨_,_,if_pos hb⟩
      · exact .inl (if_neg hb)
    · by_cases hb:b=a
      · have z':=(if_pos hb).symm.trans z
        cases z'
        subst hb
        exact ⟨ha,by rw [List.length_map]; exact hl,vs,_,rv,ha⟩
      · have z':=(if_neg hb).symm.trans z
        cases z'
    · by_cases hb:b=a
      · exact hb
      · exact absurd (if_neg hb) z
end L2
namespace L2
open PySem PySem.Spec PyProof.Rows
theorem walk_of {l:PySem.W.OpenLaw} {n k:Nat} {q:Program} {loose:List Str} {XP:(Str→Option Value)→Heap→Prop} {YP:World→Heap→Prop} {d:DefRec} {K:Params→PySem.W.Frag} {CX:World→CXT} {sp:World→Sp} {x:Str}
    (hn:l.most=some n) (hn2:n ≤ sizeLine) (hdf:d.params.defaults = []) (hr:Room k callerA)
    (hY:∀ (w:World) (h:Heap),YP w h→(K w.params).In h) (hT0:∀ w:World,tabOf (K w.params)=none)
    (F:∀ (w:World) (mg:Str→Option Value) (fa:Addr) (h:Heap),(K w.params).In h→h.Ns mainGlobals mg→mg d.name=some (.ref fa) →
      ∃ fd:FuncData,(∀ (s:Shared) (u:Value),BindsTo s fd ⟨[u],[]⟩ [(x,u)]) ∧
        ∀ base:Heap,(K w.params).In base→base.Ns mainGlobals mg→FnOk l.prog w (K w.params) mg base (CX w) k fa fd [x] (sp w))
    (hsp:∀ (w:World) (H:Hp) (a:Addr) (ns:List Int),ns.length ≤ n→Only H→SqL (K w.params) H a (ns.map V.int)→sp w [.ref a] H (fun v _=>v = .bl true) fun _ _ _=>False)
    (hCX:∀ (w:World) (H:Hp) (s:Shared) (e:Value) (s':Shared),CX w [] H s (fun _ _ _=>False) e s'→False) :
    PySem.W.WalkO q loose XP YP l.row.toRowW d [] (fun f vs=>PySem.call f vs):=by
  refine Att.attach_call hn hdf fun w s₀ s₁ mg mb fa o pm cd doc a vs ns G Y ho hd hcd hmg hobj hints hlen hg=>?_
  have KX:=hY w _ Y
  obtain ⟨fd,hb,hF⟩:=F w mg fa _ KX G.T.g hmg
  exact znU KX (hT0 w) G.T.g G.T.b G.T.builtins G.T.nolimit hg hobj hints (Nat.le_trans hlen hn2) hr hF hb (fun H hO hS=>hsp w H a ns hlen hO hS) fun H e s'=>hCX w H s₁ e s'
end L2
namespace L2
open PySem PySem.Spec PyProof.Rows
def zfR (s:Stmt):Arguments:=match s with
  | .FunctionDef _ a _ _ _ _ _ _ _ _=>a
  | _=>{ posonlyargs:=[],args:=[],vararg:=none,kwonlyargs:=[],kw_defaults:=[],kwarg:=none,defaults:=[] }
def ze9 (s:Stmt):List Stmt:=match s with
  | .FunctionDef _ _ b _ _ _ _ _ _ _=>b
  | _=>[]
def zar (s:Stmt):Scope:=match s with
  | .FunctionDef _ _ _ _ _ _ sc _ _ _=>sc
  | _=>{ kind:=.function,names:=[],isGenerator:=false,isCoroutine:=false }
abbrev CX0:CXT:=fun _ _ _ _ _ _=>False
abbrev E0:XK:=fun _ _ _=>False
theorem za4 {X:Cx}:zlh CX0 X E0:=fun _ _ _ _ _ _ _ h=>h.elim
structure Fun (K:PySem.W.Frag) (x qual:Str) (st:Stmt) (f:Addr) (fd:FuncData):Prop where
  ex:∃ (oc:Value) (od:Option Addr) (kV doc pm:Value) (an:Option Addr) (cdv ct:Value) (osl:Array (Option Value)),
    fd=PySem.W.fnOf x qual (zfR st) (ze9 st) (zar st) .none kV doc pm an cdv ct∧K.lookup f=some ⟨oc,od,.func fd,osl⟩∧PySem.W.codeIn K cdv qual=true
  kp:PySem.W.keepIn K (.ref f)=true
section
variable {P:Program} {w:World} {K:PySem.W.Frag} {mg:Str→Option Value} {base:Heap}
theorem Fun.ok {x qual:Str} {st:Stmt} {f:Addr} {fd:FuncData} {N ps:List Str} {k:Nat} {sp:Sp} (F:Fun K x qual st f fd) (S:FnScope N ps (zar st)) (len:∀ vs H Q E,sp vs H Q E→vs.length=ps.length)
    (hbody:∀ (cdv:Value) (A:Around) (outer:List Env) (s:Shared) (H:Hp) (vs:List V) (Q:VK) (E:XK),Room k (A.deeper (envOfC qual (zar st) s.heap.objs.size f cdv))→sp vs H Q E →
      ∃ t,PSs (cxOf CX0 P w K mg base N qual (zar st) f cdv A outer s H E).nox (ze9 st) t∧t { nx:=fun _ H'=>Q .non H',rt:=Q } (start N vs) H):FnOk P w K mg base CX0 (k + 1) f fd ps sp:=by
  obtain ⟨oc,od,kV,doc,pm,an,cdv,ct,osl,rfl,lk,hcd⟩:=F.ex
  refine zrc lk hcd S len fun A outer s H vs Q E hr hsp=>?_
  obtain ⟨t,h,q⟩:=hbody cdv A outer s H vs Q E hr hsp
  exact ⟨t,h.nox,q⟩
theorem Fun.binds {x qual:Str} {st:Stmt} {f:Addr} {fd:FuncData} {ps:List Str} (F:Fun K x qual st f fd)
    (h:∀ (kV doc pm:Value) (an:Option Addr) (cdv ct:Value) (us:List Value),us.length=ps.length→bindArgs (PySem.W.fnOf x qual (zfR st) (ze9 st) (zar st) .none kV doc pm an cdv ct) ⟨us,[]⟩=pure (ps.zip us)):Binds K fd ps []:=by
  obtain ⟨oc,od,kV,doc,pm,an,cdv,ct,osl,rfl,lk,hcd⟩:=F.ex
  exact .all (h kV doc pm an cdv ct)
theorem zok {x qual:Str} {st:Stmt} {f:Addr} {oc:Value} {od an:Option Addr} {osl:Array (Option Value)} {kV doc pm cdv ct:Value} (l:K.lookup f=some ⟨oc,od,.func (PySem.W.fnOf x qual (zfR st) (ze9 st) (zar st) .none kV doc pm an cdv ct),osl⟩)
    (c:PySem.W.codeIn K cdv qual=true) (k:PySem.W.keepIn K (.ref f)=true):Fun K x qual st f (PySem.W.fnOf x qual (zfR st) (ze9 st) (zar st) .none kV doc pm an cdv ct):=⟨⟨oc,od,kV,doc,pm,an,cdv,ct,osl,rfl,l,c⟩,k⟩
end
theorem zbP {A:Around} {k:Nat} (hr:Room k A):A.units + 1 < cLine:=Nat.lt_of_le_of_lt (Nat.add_le_add_left (by decide:1 ≤ 64) _) hr.units
section
variable {X:Cx}
theorem pv (i:Nat) {x:Str} {pos:Pos} (hN:X.N[i]?=some x:=by rfl) (hv:Vis X.env.scope x:=by first | exact Or.inl rfl | exact Or.inr (Or.inl rfl) | exact Or.inr (Or.inr rfl)) (hd:(x == ("__debug__" : Str))=false:=by decide)
    (hcd:(x == ("__classdict__" : Str))=false:=by decide):PE X (.Name x pos) (tVar i):=zqx hN hv hd hcd
theorem zm1:zfP X (.builtin "len") (fun xs H Q=>∃ a kvs,xs = [V.ref a]∧H a=some (.dK kvs)∧Q (.int kvs.length) H):=by
  intro pins s σ H xs us Q I r h
  obtain ⟨a,kvs,rfl,ha,q⟩:=h
  obtain ⟨u,rfl,ru⟩:=zgc r
  cases ru
  exact zrk I (.inl ha) fun t s' I'=>⟨.int kvs.length,H,I',⟨t,rfl⟩,q⟩
end
def Same (H H':Hp):Prop:=∀ b o,H b=some o→H' b=some o
theorem Same.refl (H:Hp):Same H H:=fun _ _ h=>h
theorem Same.trans {H H1 H2:Hp} (a:Same H H1) (b:Same H1 H2):Same H H2:=fun c o h=>b c o (a c o h)
theorem Same.free {H H':Hp} (e:Same H H') {l:Addr} (h:H' l=Option.none):H l=Option.none:=by
  cases q:H l with
  | none=>rfl
  | some o =>
    rw [e l o q] at h
    cases h
theorem Same.seq {K:PySem.W.Frag} {H H':Hp} {a:Addr} {xs:List V} (e:Same H H') (h:SqL K H a xs):SqL K H' a xs:=by
  rcases h with (h | ⟨o,h⟩) | h
  · exact .inl (.inl (e _ _ h))
  · exact .inl (.inr ⟨o,e _ _ h⟩)
  · exact .inr h
section
variable {κ:Type} [DecidableEq κ]
end
end L2
namespace L2
open PySem PySem.Spec PyProof.Rows
def Fit (i:Int):Prop:=i.natAbs < 2 ^ 8000
theorem log2_lt {n k:Nat} (hk:0 < k) (h:n < 2 ^ k):n.log2 < k:=by
  by_cases h0:n=0
  · subst h0; simpa using hk
  · exact (Nat.log2_lt h0).mpr h
theorem Fit.log {i:Int} (h:Fit i):i.natAbs.log2 < 8000:=log2_lt (by decide) h
theorem Fit.bits {i:Int} (h:Fit i):Builtin.Int.intBits i ≤ 2 ^ 20:=by
  have h1:=h.log
  have h2:(8000:Nat) ≤ 2 ^ 20:=by decide
  unfold Builtin.Int.intBits
  split <;> omega
section
variable {X:Cx}
theorem zbo:OpR X (binaryOp .Mult) (rI (fun i j=>Fit i∧Fit j) fun i j=>.int (i * j)):=opI fun _ _ _ _ _ _ _ hc q=>mul_int q (.of_bits hc.1.bits hc.2.bits)
theorem za0:OpR X (binaryOp .FloorDiv) (rI (fun _ j=>j ≠ 0∧Fit j) fun i j=>.int (i.fdiv j)):=opI fun _ _ _ _ _ _ _ hc q =>
  floordiv_int hc.1 q (.inl (PyProof.noPylong_of_log2 (Nat.lt_trans hc.2.log (by decide))))
end
def clsV:V→Option Value
  | .ty n=>some (.type n)
  | .ref a=>some (.ref a)
  | _=>none
section
variable {X:Cx}
theorem zny {c:V} {cv u:Value} (h:clsV c=some cv) (r:RelV c u):u=cv:=by
  cases c with
  | ty n=>cases h; exact r
  | ref a=>cases h; exact r
  | _=>cases h
def rIs (K:PySem.W.Frag):List V→Hp→VK→Prop:=fun xs H Q=>∃ x c cv t b,xs = [x,c]∧clsV c=some cv∧TyOf K H x t∧PySem.W.kitOne K t cv=some b∧Q (.bl b) H
theorem zhq:zfP X (.builtin "isinstance") (rIs X.K):=by
  intro pins s σ H xs us Q I r h
  obtain ⟨x,c,cv,t,b,rfl,hc,ty,hk,q⟩:=h
  obtain ⟨u,v,rfl,rx,ry⟩:=zn3 r
  cases zny hc ry
  exact zmW I rx ty hk fun tk=>⟨.bl b,H,I.tok _,rfl,q⟩
end
def Ite (K:PySem.W.Frag) (a:Addr):It :=
  ⟨fun i H=>∃ xs x,SqL K H a xs∧xs[i]?=some x,fun i H x H'=>∃ p y,x = .ref p∧H p=none∧H'=upd H p (.tup [.int i,y])∧∀ xs,SqL K H a xs→xs[i]?=some y,fun i H=>∃ xs,SqL K H a xs∧xs.length ≤ i⟩
theorem zmh {P:Program} {w:World} {K:PySem.W.Frag} {es:List Expr} {k} {pos:Pos} (a e it:Addr) (hne:e ≠ it) :
    Turn P w K (.Tuple es k pos) (Ite K a) [e,it] e (fun i h=>(∃ old,IsEnum h e it i old)∧h.IsListIter it a i) where
  mem:=by simp
  obj:=fun i h st b hb=>by
    obtain ⟨⟨old,h1⟩,o,h2,c,d⟩:=st
    rcases List.mem_cons.mp hb with rfl | hb
    · exact ⟨_,h1,fun v z=>by cases (show Data.fields _=Data.cell v from z)⟩
    · have e':b=it:=by simpa using hb
      subst e'
      exact ⟨o,h2,fun v z=>by rw [d] at z; cases z⟩
  keep:=fun i h h' st k=>by
    obtain ⟨⟨old,h1⟩,h2⟩:=st
    exact ⟨⟨old,k e (by simp) _ h1⟩,h2.at fun o q=>k it (by simp) o q⟩
  item:=by
    intro X hP hw hK hc i pins s σ H E I hf st hg
    subst hP hw hK
    obtain ⟨xs,x,hq,hx⟩:=hg
    obtain ⟨its,rv,p,hz⟩:=I.list hq
    obtain ⟨u,hu,ru⟩:=rv.get hx
    obtain ⟨⟨old,he⟩,hit⟩:=st
    obtain ⟨f0,f1,f2,f3,f4,f5⟩:=hf e (by simp)
    obtain ⟨g0,g1,g2,g3,g4,g5⟩:=hf it (by simp)
    have hT:H s.heap.objs.size=none:=I.hok.fresh (Nat.le_refl _)
    have eT:e ≠ s.heap.objs.size:=Nat.ne_of_lt (Heap.lt_size he)
    have iT:it ≠ s.heap.objs.size:=by obtain ⟨_,z,_⟩:=hit; exact Nat.ne_of_lt (Heap.lt_size z)
    refine wpAny_pyNext_enum_item he hit p.isList (x:=u) (by simpa using hu) hne fun h' ho hit' ht hsz hk=>⟨_,rfl,?_⟩
    refine wpAny_letOwnedTupleGo_enum ho fun h'' he'' hs''=>?_
    have hs2:Heap.SameBut e h' h'':=hs''
    have ht2:h''.get? s.heap.objs.size=some { cls:=.type "tuple",data:=.seq #[.int i s.toks,u] }:=(hs2.2 _ eT.symm).trans ht
    have hk2:∀ b o,b ≠ e→b ≠ it→s.heap.get? b=some o→h''.get? b=some o:=fun b o z1 z2 q=>(hs2.2 b z1).trans (hk b o z1 z2 q)
    have nH:∀ b o,H b=some o→b ≠ e∧b ≠ it:=fun b o q=>⟨(fun z=>by rw [z,f0] at q; cases q),(fun z=>by rw [z,g0] at q; cases q)⟩
    refine ⟨.ref s.heap.objs.size,upd H s.heap.objs.size (.tup [.int i,x]),?_,rfl,⟨_,x,rfl,hT,rfl,fun ys hy=>by rw [I.list_inj hy hq]; exact hx⟩,⟨⟨_,by simpa using he''⟩,hit'.at fun o q=>(hs2.2 it hne.symm).trans q⟩,fun b hb=>?_⟩
    · show Inv X pins σ (upd H s.heap.objs.size (.tup [.int i,x])) { s with heap:=h'',toks:=s.toks + 1 }
      refine I.step (h':=h'') (g':=s.gens) (d':=s.drawn) (t':=s.toks + 1) (ch:=[e,it]) (fun b hb=>?_) (fun b o _ _ hb q _=>?_) (fun b o _ _ hb q _=>⟨o.slots,?_⟩) (fun b o hb q n=>?_) (fun b o hb q=>⟨o,?_⟩) (fun b ys q=>?_) (fun b o ys q=>?_) (fun b ps q=>⟨#[],?_⟩) (fun m hm=>?_) ?_ I.bare
      · rcases List.mem_cons.mp hb with rfl | hb
        · exact ⟨f3,f1,f4,f5⟩
        · have z:b=it:=by simpa using hb
          subst z
          exact ⟨g3,g1,g4,g5⟩
      · exact hk2 b o (fun z=>hb (by simp [z])) (fun z=>hb (by simp [z])) q
      · exact hk2 b o (fun z=>hb (by simp [z])) (fun z=>hb (by simp [z])) q
      · rw [zaA (Nat.ne_of_lt (Heap.lt_size q))]; exact n
      · exact hk2 b o (fun z=>hb (by simp [z])) (fun z=>hb (by simp [z])) q
      · rw [zaA (zaI q hT)]; exact q
      · rw [zaA (zaI q hT)]; exact q
      · rw [zaA (zaI q hT),q]; simp
      · obtain ⟨o,es',ep,ho',r⟩:=hm
        exact ⟨o,es',ep,hk2 _ o (Ne.symm f1) (Ne.symm g1) ho',r⟩
      · intro b o q
        by_cases hb:b=s.heap.objs.size
        · subst hb
          rw [zaR] at q; cases q
          exact ⟨by show 2 ≤ sizeLine; decide,[.int i s.toks,u],.cons ⟨_,rfl⟩ (.cons ru .nil),⟨_,ht2,rfl,_,rfl⟩⟩
        · rw [zaA hb] at q
          refine (I.hok b o q).stay (fun c v hc' q'=>?_) (fun c q'=>by rw [zaA (zaI q' hT)]; exact q') fun c ys q'=>by rw [zaA (zaI q' hT)]; exact q'
          rcases hc' with rfl | hc'
          · exact hk2 _ v (nH _ _ q).1 (nH _ _ q).2 q'
          · exact hk2 _ v (nH _ _ hc').1 (nH _ _ hc').2 q'
    · rcases List.mem_cons.mp hb with rfl | hb
      · rw [zaA eT]; exact f0
      · have z:b=it:=by simpa using hb
        subst z
        rw [zaA iT]; exact g0
  done:=by
    intro X hP hw hK hc i pins s σ H E I hf st hg
    subst hP hw hK
    obtain ⟨xs,hq,hx⟩:=hg
    obtain ⟨its,rv,p,hz⟩:=I.list hq
    obtain ⟨⟨old,he⟩,hit⟩:=st
    obtain ⟨g0,g1,g2,g3,g4,g5⟩:=hf it (by simp)
    have hl:=rv.length
    exact wpAny_pyNext_enum_end (I.ok.hd hc) he hit p.isList (by simp; omega) fun h' eb=>⟨rfl,I.turned (t':=s.toks) (fun b o hb q=>eb b o hb q) g0 g1 g3 g4 g5⟩
  self:=fun _ _ _ _ _ st h=>by
    obtain ⟨⟨old,he⟩,_⟩:=st
    exact wpAny_pyIter_enum he h
section
variable {X:Cx}
def zqm (K:PySem.W.Frag) (ta:TA):TI:=fun σ H R=>ta σ H fun vs H1=>∃ a,vs = [.ref a]∧(∃ xs,SqL K H1 a xs)∧R (Ite K a) H1
theorem zhN {es:List Expr} {k} {tp:Pos} {l:Expr} {ta:TA} {p pos:Pos} (hg:Gl X "enumerate") (hm:X.mg "enumerate"=none) (ha:PA X [l] ta) (hs:starEach [l] X.env = [(false,eval l X.env)]:=by rfl) :
    PI X (.Tuple es k tp) (.Call (.Name "enumerate" p) [l] [] pos) (zqm X.K ta):=by
  intro pins s σ H R I h
  refine Call_ (zgS I hg hm boot_enumerate (PyProof.Rows.callWith_type1 (thn (ha pos pins s σ H _ I h) fun us s1 ⟨vs,H1,I1,r1,q1⟩=>?_) hs rfl))
  obtain ⟨a,e,⟨xs,hq⟩,q⟩:=q1
  subst e
  obtain ⟨u,rfl,rx⟩:=zgc r1
  cases rx
  obtain ⟨its,rv,pl,hz⟩:=I1.list hq
  refine call_enumerate_list pl.isList fun h' he hit hsz hk=>?_
  have I2:Inv X pins σ H1 { s1 with heap:=h' }:=I1.kept (t':=s1.toks) hk
  have hne:s1.heap.objs.size + 1 ≠ s1.heap.objs.size:=by omega
  refine wpAny_pyIter_enum he ⟨s1.heap.objs.size + 1,[s1.heap.objs.size + 1,s1.heap.objs.size],_,_,H1,rfl,I2,zmh a _ _ hne,⟨⟨_,he⟩,hit⟩,fun b hb=>?_,q⟩
  have hb':s1.heap.objs.size ≤ b:=by
    rcases List.mem_cons.mp hb with rfl | hb
    · omega
    · have z:b=s1.heap.objs.size:=by simpa using hb
      exact Nat.le_of_eq z.symm
  exact I1.fpOk hb' (I1.hok.fresh hb')
end
end L2
namespace L2
open PySem PySem.Spec PyProof.Rows
theorem zgt {env:Env}:∀ (names:List (Str × NameKind)) (acc:List (Str × Addr)),(∀ y ∈ names,y.2 = .free→∃ c,env.cells.lookup y.1=some c) →
    ∃ cl,(forIn (m:=Sem) names acc fun (x:Str × NameKind) (cs:List (Str × Addr))=>if (x.2 == NameKind.free)=true then do let c ← cellOf env x.1; pure (ForInStep.yield ((x.1,c) :: cs)) else pure (ForInStep.yield cs))=pure cl ∧
      (∀ p ∈ cl,p ∈ acc∨env.cells.lookup p.1=some p.2)∧(∀ p ∈ acc,p ∈ cl)∧∀ y ∈ names,y.2 = .free→∃ c,(y.1,c) ∈ cl
  | [],acc,_=>⟨acc,by simp,fun p hp=>.inl hp,fun p hp=>hp,fun y hy=>by cases hy⟩
  | (n,k) :: r,acc,h=>by
    by_cases hk:k = .free
    · subst hk
      obtain ⟨c,hc⟩:=h (n,.free) List.mem_cons_self rfl
      obtain ⟨cl,e,h1,h2,h3⟩:=zgt r ((n,c) :: acc) fun y hy=>h y (List.mem_cons_of_mem _ hy)
      refine ⟨cl,?_,fun p hp=>?_,fun p hp=>h2 p (List.mem_cons_of_mem _ hp),fun y hy hf=>?_⟩
      · have hco:cellOf env n=pure c:=by unfold cellOf; rw [hc]
        rw [List.forIn_cons]
        simp only [beq_self_eq_true,if_true,hco,pure_bind]
        exact e
      · rcases h1 p hp with z | z
        · rcases List.mem_cons.mp z with rfl | z
          · exact .inr hc
          · exact .inl z
        · exact .inr z
      · rcases List.mem_cons.mp hy with rfl | hy
        · exact ⟨c,h2 _ List.mem_cons_self⟩
        · exact h3 y hy hf
    · obtain ⟨cl,e,h1,h2,h3⟩:=zgt r acc fun y hy=>h y (List.mem_cons_of_mem _ hy)
      refine ⟨cl,?_,h1,h2,fun y hy hf=>?_⟩
      · have hb:(k == NameKind.free)=false:=by simpa using hk
        rw [List.forIn_cons]
        simp only [hb,Bool.false_eq_true,if_false,pure_bind]
        exact e
      · rcases List.mem_cons.mp hy with rfl | hy
        · exact absurd hf hk
        · exact h3 y hy hf
theorem zga {f:Str→Option Addr}:∀ {cl:List (Str × Addr)} {x:Str} {c:Addr},(∀ p ∈ cl,f p.1=some p.2)→(x,c) ∈ cl→cl.lookup x=some c
  | [],_,_,_,h=>by cases h
  | (n,d) :: r,x,c,h,hm=>by
    rw [List.lookup_cons]
    cases e:x == n with
    | true =>
      have e':x=n:=by simpa using e
      subst e'
      have z1:=h (x,d) List.mem_cons_self
      have z2:=h (x,c) hm
      rw [z1] at z2
      simpa using z2
    | false =>
      rcases List.mem_cons.mp hm with z | z
      · cases z; simp at e
      · exact zga (fun p hp=>h p (List.mem_cons_of_mem _ hp)) z
theorem zfV {scope:Scope} {env:Env} (h:∀ y ∈ scope.names,y.2 = .free→∃ c,env.cells.lookup y.1=some c) :
    ∃ cl,closureFor scope env=pure cl∧(∀ x c,cl.lookup x=some c→env.cells.lookup x=some c)∧∀ y ∈ scope.names,y.2 = .free→cl.lookup y.1=env.cells.lookup y.1:=by
  obtain ⟨cl,e,h1,_,h3⟩:=zgt scope.names [] h
  have all:∀ p ∈ cl,env.cells.lookup p.1=some p.2:=fun p hp=>(h1 p hp).elim (fun z=>by cases z) id
  refine ⟨cl,?_,fun x c z=>all (x,c) (PySem.mem_of_lookup z),fun y hy hf=>?_⟩
  · simp only [closureFor]
    rw [e]
    rfl
  · obtain ⟨c,hc⟩:=h3 y hy hf
    rw [all _ hc]
    exact zga (f:=fun x=>env.cells.lookup x) all hc
end L2
namespace L2
open PySem PySem.Spec PyProof.Rows
section
variable {prog:Program} {w:World} {A:Around} {R:Result→Shared→Prop} {s:Shared}
theorem zjU {elt target iter:Expr} {ifs:List Expr} {scope:Scope} {pos:Pos} {it acc:Value} {env:Env} (I:Nat→Shared→Prop)
    (turn:∀ n s,I n s→wpAny (model prog w) A (pyNext it) (fun r s₁=>match r with
      | none=>R (.ok .next) s₁
      | some v=>wpAny (model prog w) A (letOwnedTupleGo target it v) (fun _ s₁'=>wpAny (model prog w) A (assign target env v) (fun _ s₂ =>
          wpAny (model prog w) A (forIn ifs true fun c r=>if r=true then do let ok ← isTrue c env (eval c env); pure (ForInStep.yield ok) else pure (ForInStep.yield r)) (fun ok s₃ =>
            if ok=true then wpAny (model prog w) A (eval elt env) (fun x s₄ =>
              wpAny (model prog w) A (call (.builtin "list.append") [acc,x]) (fun _ s₅=>∃ m,m < n∧I m s₅) (fun _ _=>False) s₄) (fun _ _=>False) s₃
            else ∃ m,m < n∧I m s₃) (fun _ _=>False) s₂) (fun _ _=>False) s₁') (fun _ _=>False) s₁) (fun _ _=>False) s)
    (n:Nat) (h:I n s) :
    codeAny (model prog w) A (.compLoop (.ListComp elt [⟨target,iter,ifs,0⟩] scope pos) 0 it acc env) R s:=by
  refine codeAny_loop rfl I (fun n s hI=>?_) n h
  show wpAny _ A ((compTurn (.ListComp elt [⟨target,iter,ifs,0⟩] scope pos) 0 it acc env).onRaise (fun x=>do noteFrame x env; theTreesLotGoes x)) _ _ s
  refine wpAny_noted ?_
  rw [compTurn_list]
  refine wpAny_bind (wpAny_standAt (wpAny_bind (wpAny_mono (turn n s hI) (fun r s₁ h₁=>?_) fun _ _ h'=>h'.elim)))
  cases r with
  | none=>exact wpAny_pure h₁
  | some v =>
    refine wpAny_bind (wpAny_mono h₁ (fun _ s₁' h₁'=>?_) fun _ _ h'=>h'.elim)
    refine wpAny_bind (wpAny_mono h₁' (fun _ s₂ h₂=>wpAny_bind (wpAny_mono h₂ (fun ok s₃ h₃=>?_) fun _ _ h'=>h'.elim)) fun _ _ h'=>h'.elim)
    cases ok with
    | false=>exact wpAny_pure ⟨rfl,h₃⟩
    | true =>
      exact wpAny_bind (wpAny_bind (wpAny_mono h₃ (fun x s₄ h₄=>wpAny_bind (wpAny_mono h₄ (fun _ s₅ h₅=>wpAny_pure (wpAny_pure ⟨rfl,h₅⟩)) fun _ _ h'=>h'.elim)) fun _ _ h'=>h'.elim))
end
def Cx.comp (X:Cx) (scope:Scope) (cl:List (Str × Addr)) (C:Addr) (N':List Str) (s:Shared) (H:Hp) (fp:List Addr) (pins:List (Addr × Obj)):Cx :=
  { X with N:=N',s₀:=s,H₀:=H,env:=compEnvC scope cl C X.env,outer:=X.stack,stack:=X.stack,ex:=fp,fn:=fun x=>scope.names.lookup x == some .cell,pn:=X.pn ++ pins,xe:=fun _ _=>False }
def zdX (σ:St) (ix:List Nat) (n:Nat):St:=ix.map (fun i=>(σ[i]?).getD none) ++ List.replicate n none
def zoj:Option TT→TT
  | none=>fun _ H Q=>Q true H
  | some t=>t
def zqy (D:Addr) (J:It) (g:TG) (tc:Option TT) (te:TE) (Q:VK) (σ0:St) (H0:Hp):Prop :=
  ∃ W:Nat→Nat→List V→St→Hp→Prop,(∃ m,W 0 m [] σ0 H0)∧∀ i m ys σ2 H2,W i m ys σ2 H2→H2 D=some (.lst ys) ∧
    ((J.stop i H2∧Q (.ref D) H2)∨(J.go i H2∧∃ N:List V→St→Hp→Prop,(∀ ys' σ' H',N ys' σ' H'→∃ m',m' < m∧W (i + 1) m' ys' σ' H') ∧
      ∀ x H',J.yld i H2 x H'→g x σ2 H' fun σ3 H3=>zoj tc σ3 H3 fun b H4=>if b=true then te σ3 H4 fun y H5=>H5 D=some (.lst ys)∧ys.length < sizeLine∧N (ys ++ [y]) σ3 (upd H5 D (.lst (ys ++ [y]))) else N ys σ3 H4))
def zpu (wi:TI) (ix:List Nat) (n:Nat) (g:TG) (tc:Option TT) (te:TE):TE:=fun σ H Q=>wi σ H fun J H1=>∀ D,H1 D=none→zqy D J g tc te Q (zdX σ ix n) (upd H1 D (.lst []))
structure CompOk (X:Cx) (scope:Scope) (N':List Str) (ix:List Nat) (n:Nat) (tg elt:Expr) (ifs:List Expr) (g:TG) (tc:Option TT) (te:TE):Prop where
  kind:scope.kind = .function
  nocell:∀ y ∈ scope.names,y.2 = .free→(y.1,NameKind.cell) ∉ scope.names
  names:∀ y ∈ scope.names,y.2 = .local→scope.names.lookup y.1=some .local
  free:∀ y ∈ scope.names,y.2 = .free→X.env.kindOf y.1=some .cell∨X.env.kindOf y.1=some .free
  len:ix.length + n=N'.length
  take:∀ (j i:Nat),ix[j]?=some i→∃ x,N'[j]?=some x∧X.N[i]?=some x∧scope.names.lookup x=some .free
  tgt:∀ (cl:List (Str × Addr)) (C:Addr) (s:Shared) (H:Hp) (fp:List Addr) (pins:List (Addr × Obj)),PG (X.comp scope cl C N' s H fp pins) tg g
  elt:∀ (cl:List (Str × Addr)) (C:Addr) (s:Shared) (H:Hp) (fp:List Addr) (pins:List (Addr × Obj)),PE (X.comp scope cl C N' s H fp pins) elt te
  test:(ifs = []∧tc=none)∨∃ c t,ifs = [c]∧tc=some t∧∀ (cl:List (Str × Addr)) (C:Addr) (s:Shared) (H:Hp) (fp:List Addr) (pins:List (Addr × Obj)),PT (X.comp scope cl C N' s H fp pins) c t
theorem zd3 {env:Env}:∀ {names:List (Str × NameKind)} {x:Str},names.lookup x=some .free →
    (names.map fun (n,k)=>if (k == NameKind.free && env.scope.kind == .function && env.kindOf n == some .cell) then (n,NameKind.cell) else (n,k)).lookup x=some .cell ∨
    (names.map fun (n,k)=>if (k == NameKind.free && env.scope.kind == .function && env.kindOf n == some .cell) then (n,NameKind.cell) else (n,k)).lookup x=some .free
  | [],_,h=>by simp at h
  | (n,k) :: r,x,h=>by
    have ih:=@zd3 env r x
    show List.lookup x ((if (k == NameKind.free && env.scope.kind == .function && env.kindOf n == some .cell)=true then (n,NameKind.cell) else (n,k)) :: _)=_∨List.lookup x ((if (k == NameKind.free && env.scope.kind == .function && env.kindOf n == some .cell)=true then (n,NameKind.cell) else (n,k)) :: _)=_
    cases hx:x == n with
    | true =>
      simp only [List.lookup_cons,hx] at h
      cases h
      by_cases hc:(NameKind.free == NameKind.free && env.scope.kind == .function && env.kindOf n == some .cell)=true
      · rw [if_pos hc]; left; simp only [List.lookup_cons,hx]
      · rw [if_neg hc]; right; simp only [List.lookup_cons,hx]
    | false =>
      simp only [List.lookup_cons,hx] at h
      by_cases hc:(k == NameKind.free && env.scope.kind == .function && env.kindOf n == some .cell)=true
      · rw [if_pos hc]; simp only [List.lookup_cons,hx]; exact ih h
      · rw [if_neg hc]; simp only [List.lookup_cons,hx]; exact ih h
theorem zgK {env:Env}:∀ {names:List (Str × NameKind)} {x:Str},
    ((names.map fun (n,k)=>if (k == NameKind.free && env.scope.kind == .function && env.kindOf n == some .cell) then (n,NameKind.cell) else (n,k)).lookup x=some .cell ∨
    (names.map fun (n,k)=>if (k == NameKind.free && env.scope.kind == .function && env.kindOf n == some .cell) then (n,NameKind.cell) else (n,k)).lookup x=some .free)→(x,NameKind.free) ∈ names∨(names.lookup x=some .cell∧(x,NameKind.cell) ∈ names)
  | [],_,h=>by simp at h
  | (n,k) :: r,x,h=>by
    have ih:=@zgK env r x
    cases hx:x == n with
    | true =>
      have e:x=n:=by simpa using hx
      subst e
      by_cases hc:(k == NameKind.free && env.scope.kind == .function && env.kindOf x == some .cell)=true
      · have hk:k = .free:=by
          have:(k == NameKind.free)=true:=by
            simp only [Bool.and_eq_true] at hc
            exact hc.1.1
          simpa using this
        subst hk
        exact .inl List.mem_cons_self
      · rw [List.map_cons] at h
        have e2:(match (x,k) with | (n,k)=>if (k == NameKind.free && env.scope.kind == .function && env.kindOf n == some .cell)=true then (n,NameKind.cell) else (n,k))=(x,k):=if_neg hc
        rw [e2] at h
        simp only [List.lookup_cons,beq_self_eq_true] at h
        rcases h with h | h
        · cases h; exact .inr ⟨by simp only [List.lookup_cons,beq_self_eq_true],List.mem_cons_self⟩
        · cases h; exact .inl List.mem_cons_self
    | false =>
      refine (ih ?_).imp (List.mem_cons_of_mem _) fun z=>⟨by simp only [List.lookup_cons,hx]; exact z.1,List.mem_cons_of_mem _ z.2⟩
      rw [List.map_cons] at h
      by_cases hc:(k == NameKind.free && env.scope.kind == .function && env.kindOf n == some .cell)=true
      · have e2:(match (n,k) with | (n,k)=>if (k == NameKind.free && env.scope.kind == .function && env.kindOf n == some .cell)=true then (n,NameKind.cell) else (n,k))=(n,NameKind.cell):=if_pos hc
        rw [e2] at h
        simpa only [List.lookup_cons,hx] using h
      · have e2:(match (n,k) with | (n,k)=>if (k == NameKind.free && env.scope.kind == .function && env.kindOf n == some .cell)=true then (n,NameKind.cell) else (n,k))=(n,k):=if_neg hc
        rw [e2] at h
        simpa only [List.lookup_cons,hx] using h
theorem zeV {x:Str} {c:Addr}:∀ (names:List (Str × NameKind)) (n:Nat) (acc:List (Str × Addr)),(x,NameKind.cell) ∈ names→(cellsFrom n names acc).lookup x=some c→(∀ y,acc.lookup x=some y→n ≤ y∨True)→n ≤ c
  | [],_,_,h,_,_=>by cases h
  | (y,k) :: r,n,acc,h,e,_=>by
    unfold cellsFrom at e
    by_cases hr:(x,NameKind.cell) ∈ r
    · split at e
      · exact Nat.le_of_succ_le (zeV r (n + 1) _ hr e fun _ _=>.inr trivial)
      · exact zeV r n _ hr e fun _ _=>.inr trivial
    · rcases List.mem_cons.mp h with z | z
      · cases z
        rw [if_pos (by rfl)] at e
        have key:∀ (r:List (Str × NameKind)) (n':Nat) (acc:List (Str × Addr)),(x,NameKind.cell) ∉ r→(cellsFrom n' r acc).lookup x=acc.lookup x:=by
          intro r
          induction r with
          | nil=>intro _ _ _; rfl
          | cons p r ih =>
            intro n' acc hp
            obtain ⟨y',k'⟩:=p
            unfold cellsFrom
            split
            · rename_i hk
              have hk':k' = .cell:=by simpa using hk
              subst hk'
              have ne:¬ x=y':=fun z=>hp (by rw [z]; exact List.mem_cons_self)
              rw [ih _ _ fun z=>hp (List.mem_cons_of_mem _ z),List.lookup_cons,show (x == y')=false by simpa using ne]
            · exact ih _ _ fun z=>hp (List.mem_cons_of_mem _ z)
        rw [key r _ _ hr] at e
        simp only [List.lookup_cons,beq_self_eq_true] at e
        cases e; exact Nat.le_refl _
      · exact absurd z hr
theorem zdN {x:Str}:∀ (names:List (Str × NameKind)) (n:Nat) (acc:List (Str × Addr)),(x,NameKind.cell) ∉ names→(cellsFrom n names acc).lookup x=acc.lookup x
  | [],_,_,_=>rfl
  | (y,k) :: r,n,acc,h=>by
    unfold cellsFrom
    split
    · rename_i hk
      have hk':k = .cell:=by simpa using hk
      subst hk'
      have ne:¬ x=y:=fun z=>h (by rw [z]; exact List.mem_cons_self)
      rw [zdN r _ _ fun z=>h (List.mem_cons_of_mem _ z),List.lookup_cons,show (x == y)=false by simpa using ne]
    · exact zdN r _ _ fun z=>h (List.mem_cons_of_mem _ z)
theorem zeL:∀ (names:List (Str × NameKind)) (n:Nat) (acc:List (Str × Addr)),(∀ x c,acc.lookup x=some c→c < n)→(∀ x y c,acc.lookup x=some c→acc.lookup y=some c→x=y) →
    ∀ x y c,(cellsFrom n names acc).lookup x=some c→(cellsFrom n names acc).lookup y=some c→x=y
  | [],_,_,_,h=>h
  | (z,k) :: r,n,acc,h1,h2=>by
    unfold cellsFrom
    split
    · have lk:∀ x c,((z,n) :: acc).lookup x=some c→(x=z∧c=n)∨acc.lookup x=some c:=fun x c h=>by
        rw [List.lookup_cons] at h
        cases hb:x == z with
        | true=>rw [hb] at h; cases h; exact .inl ⟨by simpa using hb,rfl⟩
        | false=>rw [hb] at h; exact .inr h
      refine zeL r (n + 1) _ (fun x c h=>?_) fun x y c e1 e2=>?_
      · rcases lk x c h with ⟨_,z⟩ | z
        · rw [z]; exact Nat.lt_succ_self _
        · exact Nat.lt_succ_of_lt (h1 x c z)
      · rcases lk x c e1 with ⟨a1,a2⟩ | a <;> rcases lk y c e2 with ⟨b1,b2⟩ | b
        · rw [a1,b1]
        · have:=h1 y c b; rw [a2] at this; exact absurd this (Nat.lt_irrefl _)
        · have:=h1 x c a; rw [b2] at this; exact absurd this (Nat.lt_irrefl _)
        · exact h2 x y c a b
    · exact zeL r n acc h1 h2
theorem zkL {M:Model} {A:Around} {E:Value→Shared→Prop} {s:Shared} {scope:Scope} {globals:Addr} {cl:List (Str × Addr)} {qual:Str} {env:Env} {Q:Env→Shared→Prop}
    (hQ:Q (newEnv scope s.heap.objs.size globals (cellsFrom (s.heap.objs.size + 1) scope.names cl) qual none .none (some env) builtinsNs) { s with heap:=pushCells (s.heap.push { cls:=.type "dict",data:=.dict #[] }) scope.names }) :
    wpAny M A (newFunctionEnv scope globals cl [] qual none .none (some env)) Q E s:=by
  simp only [newFunctionEnv,Option.isSome_some,if_true]
  refine wpAny_bind (wpAny_alloc ?_)
  refine wpAny_bind (wpAny_layCells _ (fun name kind cells=>by cases hkc:kind == NameKind.cell <;> simp [hkc]) _ _ _ _ ?_)
  rw [show ({ s with heap:=s.heap.push { cls:=.type "dict",data:=.dict #[] } }:Shared).heap.objs.size=s.heap.objs.size + 1 from Heap.size_push ..]
  refine wpAny_bind ?_
  rw [List.forIn_nil]
  exact wpAny_pure (wpAny_pure hQ)
section
variable {X:Cx} {scope:Scope} {N':List Str} {ix:List Nat} {n:Nat} {tg elt iter:Expr} {ifs:List Expr} {g:TG} {tc:Option TT} {te:TE} {pos:Pos}
theorem zlI {pins:List (Addr × Obj)} {σ:St} {H:Hp} {s:Shared} {fp:List Addr} {cl:List (Str × Addr)} {h1:Heap} {tk:Nat} {m:Str→Option Value} (B:CompOk X scope N' ix n tg elt ifs g tc te) (I:Inv X pins σ H s)
    (hf:∀ b ∈ fp,FpOk X pins H b) (hfo:∀ b ∈ fp,∃ o,s.heap.get? b=some o) (hcl:∀ x c,cl.lookup x=some c→X.env.cells.lookup x=some c∨(s.heap.objs.size + 1 < c∧∃ v,h1.IsCell c v)) (hcf:∀ y ∈ scope.names,y.2 = .free→cl.lookup y.1=X.env.cells.lookup y.1)
    (hinj:∀ x y c,cl.lookup x=some c→cl.lookup y=some c→x=y) (hown:∀ x,scope.names.lookup x=some .cell→∃ c,cl.lookup x=some c) (hnew:∀ x c,scope.names.lookup x=some .cell→cl.lookup x=some c→s.heap.objs.size + 1 < c)
    (hk:∀ b o,s.heap.get? b=some o→h1.get? b=some o) (hD:h1.get? s.heap.objs.size=some { cls:=.type "list",data:=.seq #[] 0 }) (hC:h1.Ns (s.heap.objs.size + 1) m) :
    Inv (X.comp scope cl (s.heap.objs.size + 1) N' s H fp pins) [] (zdX σ ix n) (upd H s.heap.objs.size (.lst [])) { s with heap:=h1,toks:=tk }:=by
  have hn:H s.heap.objs.size=none:=I.hok.fresh (Nat.le_refl _)
  have lt:∀ {b:Addr} {o:Obj},s.heap.get? b=some o→b ≠ s.heap.objs.size∧b ≠ s.heap.objs.size + 1:=fun e=>⟨Nat.ne_of_lt (Heap.lt_size e),Nat.ne_of_lt (Nat.lt_succ_of_lt (Heap.lt_size e))⟩
  have cellLt:∀ x c,X.env.cells.lookup x=some c→c < s.heap.objs.size:=fun x c e=>by
    obtain ⟨v,o,ho,_⟩:=I.cell x c e
    exact Heap.lt_size ho
  have fpLt:∀ b ∈ fp,b ≠ s.heap.objs.size + 1:=fun b hb=>by
    obtain ⟨o,e⟩:=hfo b hb
    exact (lt e).2
  · have keep:Un (frs X.stack) fp H (upd H s.heap.objs.size (.lst [])) s.heap h1:=Un.laid hk (Nat.le_refl _) hn
    refine ⟨⟨I.ok.mod, ?_, I.ok.glob, I.ok.blt, Nat.le_succ _, hinj, fun x hx => ?_, fun x c z e => Nat.le_of_lt (Nat.lt_trans (Nat.lt_succ_self _) (hnew x c (by simpa using (show (scope.names.lookup x == some NameKind.cell) = true from z)) e)), I.ok.hd, I.ok.frames, .inl rfl, fun b hb => ⟨fpLt b hb, fun x c e => (hcl x c e).elim (fun z => (hf b hb).2.2.2.2.1 x c z) fun z w => by
          obtain ⟨o,ho⟩:=hfo b hb
          have:=Heap.lt_size ho
          rw [← w] at this; exact Nat.lt_irrefl _ (Nat.lt_trans (Nat.lt_trans (Nat.lt_succ_self _) z.1) this)⟩,
        I.bs,Nat.le_trans I.ok.bsz I.sz,fun b o e hb=>?_,fun b hb z=>?_,I.stack,I.stkFree,I.ok.tb.grown I.base.tbls⟩,
      rfl,I.bare,keep,⟨m,hC,fun i x v e1 e2 e3=>?_⟩,fun x c e=>?_,?_,fun x c e=>?_,fun p hp=>?_,?_,?_⟩
    · show (relabel scope X.env).kind = .function
      exact B.kind
    · show ∃ c,cl.lookup x=some c
      rcases zgK hx with hx' | hx'
      case inr=>exact hown x hx'.1
      have z:=hcf _ hx' rfl
      dsimp only at z
      rw [z]
      exact I.ok.has x (B.free _ hx' rfl)
    · obtain ⟨_,_,_,f3,_⟩:=hf b hb
      rcases f3 with z | z
      · exact I.ok.noex b o e z
      · exact absurd (Nat.lt_of_lt_of_le (Heap.lt_size e) (Nat.le_trans I.ok.bsz z)) (Nat.lt_irrefl _)
    · rcases List.mem_cons.mp (I.stkSub b z) with e | e
      · exact (hf b hb).2.1 e
      · exact (hf b hb).2.2.1 e
    · have hj:i < ix.length:=by
        unfold zdX at e2
        by_cases hj:i < ix.length
        · exact hj
        · rw [List.getElem?_append_right (by simpa using hj),List.getElem?_replicate] at e2
          split at e2 <;> cases e2
      obtain ⟨j,hj2⟩:∃ j,ix[i]?=some j:=⟨ix[i],by simp [hj]⟩
      obtain ⟨y,y1,y2,y3⟩:=B.take i j hj2
      have exy:x=y:=by
        have z:N'[i]?=some x:=e1
        rw [y1] at z
        exact (Option.some.inj z).symm
      subst exy
      have ev:σ[j]?=some (some v):=by
        unfold zdX at e2
        rw [List.getElem?_append_left (by simpa using hj),List.getElem?_map,hj2] at e2
        have z:(σ[j]?).getD none=some v:=Option.some.inj e2
        cases q:σ[j]? with
        | none=>rw [q] at z; cases z
        | some w=>rw [q] at z; exact congrArg some z
      obtain ⟨m0,hn0,hl⟩:=I.loc
      have hm:(x,NameKind.free) ∈ scope.names:=PySem.mem_of_lookup y3
      have kx:=B.free _ hm rfl
      have vis:Vis X.env.scope x:=kx.elim (fun z=>.inr (.inl z)) fun z=>.inr (.inr z)
      obtain ⟨u,ru,lu⟩:=hl j x v y2 ev vis
      refine ⟨u,ru,.inr ⟨?_,?_⟩⟩
      · exact zd3 y3
      · rcases lu with ⟨z,_⟩ | ⟨_,c,hc,hcell⟩
        · rcases kx with w | w <;> (rw [w] at z; cases z)
        · refine ⟨c,?_,?_⟩
          · show cl.lookup x=some c
            rw [hcf _ hm rfl]
            exact hc
          · obtain ⟨o,ho,hd⟩:=hcell
            exact ⟨o,hk c o ho,hd⟩
    · rcases hcl x c e with z | ⟨_,z⟩
      · obtain ⟨v,o,ho,hd⟩:=I.cell x c z
        exact ⟨v,o,hk c o ho,hd⟩
      · exact z
    · show upd H s.heap.objs.size (.lst []) (s.heap.objs.size + 1)=none
      rw [zaA (Nat.succ_ne_self _)]
      exact I.hok.fresh (Nat.le_succ _)
    · rcases hcl x c e with z | ⟨z,_⟩
      · have:=cellLt x c z
        rw [zaA (Nat.ne_of_lt this)]
        exact I.freeC x c z
      · rw [zaA (Nat.ne_of_gt (Nat.lt_trans (Nat.lt_succ_self _) z))]
        exact I.hok.fresh (Nat.le_of_lt (Nat.lt_trans (Nat.lt_succ_self _) z))
    · rw [List.append_nil] at hp
      obtain ⟨q1,q2,q3,q4,q5⟩:=I.pin p hp
      refine ⟨hk _ _ q1,by rw [zaA (lt q1).1]; exact q2,(lt q1).2,fun z=>?_,q5⟩
      rcases List.mem_cons.mp (I.stkSub _ z) with e | e
      · exact q3 e
      · exact q4 e
    · exact I.hok.laid hk (Nat.le_refl _) ⟨Nat.zero_le _,[],0,.nil,hD⟩
    · show (zdX σ ix n).length=N'.length
      unfold zdX
      rw [List.length_append,List.length_map,List.length_replicate]
      exact B.len
theorem zmH {pins:List (Addr × Obj)} {σ σ':St} {H H':Hp} {s s':Shared} {fp:List Addr} {cl:List (Str × Addr)} {C:Addr} (I:Inv X pins σ H s) (hf:∀ b ∈ fp,FpOk X pins H b)
    (J:Inv (X.comp scope cl C N' s H fp pins) [] σ' H' s'):Inv X pins σ H' s':=by
  obtain ⟨hh,g,d,t,os'⟩:=s'
  obtain rfl:os'=s.os:=J.os
  exact I.call (h':=hh) (g':=g) (d':=d) (t':=t) (ch:=fp) J.base J.hok J.bare fun b hb=>⟨(hf b hb).2.2.2.1,(hf b hb).2.1,(hf b hb).2.2.2.2.1,(hf b hb).2.2.2.2.2⟩
theorem zk9 {pins:List (Addr × Obj)} {σ:St} {H:Hp} {s:Shared} {Q:VK} {it:Addr} {fp:List Addr} {tn:Nat→Heap→Prop} {J:It} {cl:List (Str × Addr)} {RR:Value→Addr→Result→Shared→Prop} {E:Value→Shared→Prop}
    (B:CompOk X scope N' ix n tg elt ifs g tc te) (hc:X.calm=true) (I:Inv X pins σ H s) (T:Turn X.prog X.w X.K tg J fp it tn) (st:tn 0 s.heap) (hf:∀ b ∈ fp,FpOk X pins H b)
    (hcl:∀ x c,cl.lookup x=some c→X.env.cells.lookup x=some c) (hcf:∀ y ∈ scope.names,y.2 = .free→cl.lookup y.1=X.env.cells.lookup y.1)
    (body:∀ D,H D=none→zqy D J g tc te Q (zdX σ ix n) (upd H D (.lst [])))
    (hRR:∀ D C H' s' m,Inv X pins σ H' s'→s'.heap.Ns C m→FpOk X pins H' C→Q (.ref D) H'→RR (.ref D) C (.ok .next) s') :
    wpAny (model X.prog X.w) X.A (newList []) (fun acc s₃=>wpAny (model X.prog X.w) X.A (newFunctionEnv scope X.env.globals cl [] X.env.qual none .none (some X.env)) (fun cenv s₄ =>
      codeAny (model X.prog X.w) X.A (.compStart (.ListComp elt [⟨tg,iter,ifs,0⟩] scope pos) 0 (.ref it) acc { cenv with scope:=relabel scope X.env }) (RR acc cenv.locals) s₄) E s₃) E s:=by
  refine wpAny_newObj_type (zkL ?_)
  dsimp only
  generalize hH2:s.heap.push { cls:=.type "list",dict:=none,data:=.seq ([]:List Value).toArray }=H2
  have hC:H2.objs.size=s.heap.objs.size + 1:=by rw [← hH2,Heap.size_push]
  obtain ⟨cs,ecs⟩:∃ cs,cs=cellsFrom (H2.objs.size + 1) scope.names cl:=⟨_,rfl⟩
  rw [← ecs]
  obtain ⟨h₁,eh⟩:∃ h₁,h₁=pushCells (H2.push { cls:=.type "dict",data:=.dict #[] }) scope.names:=⟨_,rfl⟩
  rw [← eh]
  have kp:∀ b o,H2.get? b=some o→h₁.get? b=some o:=fun b o e=>by rw [eh]; exact pushCells_keeps _ _ b o (Heap.get?_push_of_some _ e)
  have hns₁:h₁.Ns H2.objs.size fun _=>none:=by rw [eh]; exact (Heap.Ns.new H2 (.type "dict")).keeps (pushCells_keeps _ _)
  have below:∀ b,b < s.heap.objs.size→b ≠ H2.objs.size:=fun b hb=>by rw [hC]; exact Nat.ne_of_lt (Nat.lt_succ_of_lt hb)
  have old:∀ b o,s.heap.get? b=some o→h₁.get? b=some o:=fun b o e=>kp b o (hH2 ▸ Heap.get?_push_of_some _ e)
  have hacc:h₁.get? s.heap.objs.size=some { cls:=.type "list",data:=.seq #[] 0 }:=kp _ _ (hH2 ▸ Heap.get?_push_size _ rfl)
  have clt:∀ x c,cl.lookup x=some c→c < s.heap.objs.size:=fun x c e=>by
    obtain ⟨v,o,ho,_⟩:=I.cell x c (hcl x c e)
    exact Heap.lt_size ho
  have own:∀ x c,(x,NameKind.cell) ∈ scope.names→cs.lookup x=some c→s.heap.objs.size + 1 < c:=fun x c h e=>by
    rw [ecs] at e
    have:=zeV scope.names _ cl h e fun _ _=>.inr trivial
    omega
  have hcl2:∀ x c,cs.lookup x=some c→X.env.cells.lookup x=some c∨(s.heap.objs.size + 1 < c∧∃ v,h₁.IsCell c v):=fun x c e=>by
    by_cases hx:(x,NameKind.cell) ∈ scope.names
    · refine .inr ⟨own x c hx e,none,?_⟩
      have okc:=cellsFrom_ok scope.names (H2.push { cls:=.type "dict",data:=.dict #[] }) 0 [] ⟨fun _ _ hm=>(nomatch hm),List.Pairwise.nil⟩ (Nat.zero_le _)
      have e2:(cellsFrom (H2.objs.size + 1) scope.names []).lookup x=some c:=by
        have gen:∀ (names:List (Str × NameKind)) (n:Nat) (acc:List (Str × Addr)),(x,NameKind.cell) ∈ names→(cellsFrom n names acc).lookup x=(cellsFrom n names []).lookup x:=by
          have gen2:∀ (names:List (Str × NameKind)) (n:Nat) (acc acc':List (Str × Addr)),(x,NameKind.cell) ∈ names∨acc.lookup x=acc'.lookup x→(cellsFrom n names acc).lookup x=(cellsFrom n names acc').lookup x:=by
            intro names
            induction names with
            | nil=>intro n acc acc' h; exact h.elim (fun z=>by cases z) id
            | cons p r ih =>
              intro n acc acc' h
              obtain ⟨y,k⟩:=p
              unfold cellsFrom
              split
              · rename_i hk
                have hk':k = .cell:=by simpa using hk
                subst hk'
                refine ih _ _ _ ?_
                by_cases exy:x=y
                · subst exy; exact .inr (by simp only [List.lookup_cons,beq_self_eq_true])
                · rcases h with z | z
                  · rcases List.mem_cons.mp z with w | w
                    · cases w; exact absurd rfl exy
                    · exact .inl w
                  · exact .inr (by simp only [List.lookup_cons,show (x == y)=false by simpa using exy]; exact z)
              · rename_i hk
                refine ih _ _ _ ?_
                rcases h with z | z
                · rcases List.mem_cons.mp z with w | w
                  · cases w; exact absurd rfl hk
                  · exact .inl w
                · exact .inr z
          exact fun names n acc h=>gen2 names n acc [] (.inl h)
        rw [← gen scope.names _ cl hx,← ecs]; exact e
      rw [Heap.size_push] at okc
      rw [eh]
      exact (okc.empty x c (PySem.mem_of_lookup e2)).1
    · rw [ecs,zdN _ _ _ hx] at e
      exact .inl (hcl x c e)
  have hcf2:∀ y ∈ scope.names,y.2 = .free→cs.lookup y.1=X.env.cells.lookup y.1:=fun y hy hf=>by
    rw [ecs,zdN _ _ _ (B.nocell y hy hf)]
    exact hcf y hy hf
  have hinj:∀ x y c,cs.lookup x=some c→cs.lookup y=some c→x=y:=by
    rw [ecs]
    exact zeL scope.names _ cl (fun x c e=>Nat.lt_of_lt_of_le (clt x c e) (by rw [hC]; omega)) fun x y c e1 e2=>I.ok.inj x y c (hcl x c e1) (hcl y c e2)
  have hown:∀ x,scope.names.lookup x=some .cell→∃ c,cs.lookup x=some c:=fun x h=>by
    rw [ecs]
    exact Option.isSome_iff_exists.mp (PySem.W.cellsFrom_some scope.names _ cl (.inl h))
  have hnew:∀ x c,scope.names.lookup x=some .cell→cs.lookup x=some c→s.heap.objs.size + 1 < c:=fun x c h e=>own x c (PySem.mem_of_lookup h) e
  have cne:∀ b,b < s.heap.objs.size→(∀ x c,X.env.cells.lookup x=some c→c ≠ b)→∀ x c,cs.lookup x=some c→c ≠ b:=fun b hb hold x c e z=>by
    rcases hcl2 x c e with w | ⟨w,_⟩
    · exact hold x c w z
    · rw [z] at w; exact Nat.lt_irrefl _ (Nat.lt_trans (Nat.lt_trans (Nat.lt_succ_self _) w) hb)
  have hfo:∀ b ∈ fp,∃ o,s.heap.get? b=some o:=fun b hb=>let ⟨o,e,_⟩:=T.obj 0 _ st b hb; ⟨o,e⟩
  have st1:tn 0 h₁:=T.keep 0 _ _ st fun b _ o e=>old b o e
  have hD0:H s.heap.objs.size=none:=I.hok.fresh (Nat.le_refl _)
  obtain ⟨W,⟨m0,w0⟩,turn⟩:=body _ hD0
  have J0:Inv (X.comp scope cs H2.objs.size N' s H fp pins) [] (zdX σ ix n) (upd H s.heap.objs.size (.lst [])) { s with heap:=h₁ }:=by
    rw [hC] at hns₁ ⊢
    exact zlI (tk:=s.toks) B I hf hfo hcl2 hcf2 hinj hown hnew old hacc hns₁
  have fpOk:∀ {H':Hp},(∀ b ∈ fp,H' b=none)→∀ b ∈ fp,FpOk (X.comp scope cs H2.objs.size N' s H fp pins) [] H' b:=fun hn b hb=>by
    obtain ⟨f0,f1,f2,f3,f4,f5⟩:=hf b hb
    obtain ⟨o,e⟩:=hfo b hb
    refine ⟨hn b hb,below b (Heap.lt_size e),fun z=>?_,.inl hb,cne b (Heap.lt_size e) f4,fun p hp=>f5 p ?_⟩
    · rcases List.mem_cons.mp (I.stkSub b z) with q | q
      · exact f1 q
      · exact f2 q
    · rw [List.append_nil] at hp
      exact hp
  have fp0:∀ b ∈ fp,upd H s.heap.objs.size (.lst []) b=none:=fun b hb=>by
    obtain ⟨o,e⟩:=hfo b hb
    rw [zaA (Nat.ne_of_lt (Heap.lt_size e))]
    exact (hf b hb).1
  have loop:∀ s₃:Shared,s₃ = { s with heap:=h₁ } →
      codeAny (model X.prog X.w) X.A (.compLoop (.ListComp elt [⟨tg,iter,ifs,0⟩] scope pos) 0 (.ref it) (.ref s.heap.objs.size) (compEnvC scope cs H2.objs.size X.env)) (RR (.ref s.heap.objs.size) H2.objs.size) s₃:=by
    rintro s₃ rfl
    refine zjU (fun k s'=>∃ i ys σ2 H3,Inv (X.comp scope cs H2.objs.size N' s H fp pins) [] σ2 H3 s'∧tn i s'.heap∧(∀ b ∈ fp,H3 b=none)∧W i k ys σ2 H3) ?_ m0 ⟨0,[],_,_,J0,st1,fp0,w0⟩
    rintro k s3 ⟨i,ys,σ3,H3,I3,st3,fr3,w3⟩
    obtain ⟨hD3,alt⟩:=turn i k ys σ3 H3 w3
    rcases alt with ⟨stop,q⟩ | ⟨go,N,hN,step⟩
    · refine thn (T.done (X.comp scope cs H2.objs.size N' s H fp pins) rfl rfl rfl hc i [] s3 σ3 H3 _ I3 (fpOk fr3) st3 stop) fun r s4 ⟨hr,I4⟩=>?_
      subst hr
      obtain ⟨m4,hn4,_⟩:=I4.loc
      refine hRR _ _ H3 s4 m4 (zmH I hf I4) hn4 ⟨I4.free,fun z=>?_,fun z=>?_,.inr (Nat.le_trans I.sz (by omega)),fun x c e z=>?_,fun p hp z=>?_⟩ q
      · have lt:=I.lt
        rw [← z,hC] at lt
        exact absurd lt (Nat.not_lt.mpr (Nat.le_succ _))
      · exact I.nofs (show s.heap.objs.size ≤ H2.objs.size by omega) z
      · obtain ⟨v,o,ho,_⟩:=I.cell x c e
        have lt:=Heap.lt_size ho
        rw [z,hC] at lt
        exact absurd lt (Nat.not_lt.mpr (Nat.le_succ _))
      · have lt:=Heap.lt_size (I.pin p hp).1
        rw [z,hC] at lt
        exact absurd lt (Nat.not_lt.mpr (Nat.le_succ _))
    · refine thn (T.item (X.comp scope cs H2.objs.size N' s H fp pins) rfl rfl rfl hc i [] s3 σ3 H3 _ I3 (fpOk fr3) st3 go) fun r s4 ⟨u,hr,h4⟩=>?_
      subst hr
      refine thn h4 fun _ s5 ⟨x,H5,I5,r5,y5,st5,fr5⟩=>?_
      have I5':=I5.pinned (fpOk fr5) (T.obj _ _ st5)
      have back:∀ {σ7:St} {H7:Hp} {s7:Shared} {ys':List V},Inv (X.comp scope cs H2.objs.size N' s H fp pins) ([] ++ ziz fp s5.heap) σ7 H7 s7→N ys' σ7 H7 →
          ∃ m,m < k∧∃ i ys σ2 H3,Inv (X.comp scope cs H2.objs.size N' s H fp pins) [] σ2 H3 s7∧tn i s7.heap∧(∀ b ∈ fp,H3 b=none)∧W i m ys σ2 H3:=fun {σ7 H7 s7 ys'} I7 n7=>by
        obtain ⟨m',hm,w7⟩:=hN ys' σ7 H7 n7
        refine ⟨m',hm,i + 1,ys',σ7,H7,I7.unpinned,T.keep _ _ _ st5 fun b hb o e=>(I7.pin (b,o) (List.mem_append_right _ (List.mem_append_right _ (zex hb e)))).1,fun b hb=>?_,w7⟩
        obtain ⟨o,e,d⟩:=T.obj _ _ st5 b hb
        exact (I7.pin (b,o) (List.mem_append_right _ (List.mem_append_right _ (zex hb e)))).2.1
      refine thn (B.tgt cs H2.objs.size s H fp pins _ s5 σ3 H5 x u _ I5' r5 (step x H5 y5)) fun _ s6 ⟨σ6,H6,I6,q6⟩=>?_
      have fin:∀ (b:Bool) (s7:Shared),TP (X.comp scope cs H2.objs.size N' s H fp pins) ([] ++ ziz fp s5.heap) σ6
          (fun b H4=>if b=true then te σ6 H4 fun y H5=>H5 s.heap.objs.size=some (.lst ys)∧ys.length < sizeLine∧N (ys ++ [y]) σ6 (upd H5 s.heap.objs.size (.lst (ys ++ [y]))) else N ys σ6 H4) b s7 →
          if b=true then wpAny (model X.prog X.w) X.A (eval elt (compEnvC scope cs H2.objs.size X.env)) (fun x s₄ =>
              wpAny (model X.prog X.w) X.A (call (.builtin "list.append") [.ref s.heap.objs.size,x]) (fun _ s₅=>∃ m,m < k∧∃ i ys σ2 H3,Inv (X.comp scope cs H2.objs.size N' s H fp pins) [] σ2 H3 s₅∧tn i s₅.heap∧(∀ b ∈ fp,H3 b=none)∧W i m ys σ2 H3) (fun _ _=>False) s₄) (fun _ _=>False) s7
            else ∃ m,m < k∧∃ i ys σ2 H3,Inv (X.comp scope cs H2.objs.size N' s H fp pins) [] σ2 H3 s7∧tn i s7.heap∧(∀ b ∈ fp,H3 b=none)∧W i m ys σ2 H3:=by
        rintro b s7 ⟨H7,I7,q7⟩
        cases b with
        | false =>
          rw [if_neg Bool.false_ne_true] at q7 ⊢
          exact back I7 q7
        | true =>
          rw [if_pos rfl] at q7 ⊢
          refine thn (B.elt cs H2.objs.size s H fp pins _ s7 σ6 H7 _ I7 q7) fun y s8 ⟨yv,H8,I8,r8,hD8,hz,n8⟩=>?_
          refine thn (zdy _ s8 σ6 H8 (.ref s.heap.objs.size) [yv] (.ref s.heap.objs.size) [y] (fun _ H9=>N (ys ++ [yv]) σ6 H9) I8 rfl (.cons r8 .nil) ⟨_,ys,yv,rfl,rfl,hD8,hz,n8⟩) fun _ s9 ⟨_,H9,I9,_,n9⟩=>?_
          exact back I9 n9
      rcases B.test with ⟨e1,e2⟩ | ⟨c,t,e1,e2,ht⟩
      · subst e1; subst e2
        exact wpAny_tests_nil (fin true s6 ⟨H6,I6,q6⟩)
      · subst e1; subst e2
        exact wpAny_tests_one (thn (ht cs H2.objs.size s H fp pins _ s6 σ6 H6 _ I6 q6) fun b s7 z=>fin b s7 z)
  exact codeAny_compStart_list (loop _ rfl) (T.self X.A 0 _ _ _ st1 (loop _ rfl))
theorem zbA {wi:TI} (hc:X.calm=true) (hi:PI X tg iter wi) (B:CompOk X scope N' ix n tg elt ifs g tc te) (hs:∀ x,foldedSetIterable iter X.env x=pure x:=by intro _; rfl) :
    PE X (.ListComp elt [⟨tg,iter,ifs,0⟩] scope pos) (zpu wi ix n g tc te):=by
  intro pins s σ H Q I h
  rw [eval_ListComp]
  obtain ⟨cl,hclos,hcl,hcf⟩:=zfV (scope:=scope) (env:=X.env) fun y hy hf=>I.ok.has _ (B.free y hy hf)
  refine wpAny_comprehension_free (use:=none) rfl hs hclos B.kind B.names (thn (hi pins s σ H _ I h) fun v s1 h1=>thn h1 fun itv s2 h2=>?_)
  obtain ⟨it,fp,tn,J,H2,rfl,I2,T,st2,f2,body⟩:=h2
  refine zk9 (RR:=fun acc C=>compPost (model X.prog X.w) X.A X.xe none (EP X pins σ Q) acc C) B hc I2 T st2 f2 hcl hcf body fun D C H' s' m I' hn hC q=>⟨m,hn,fun h' hs'=>?_⟩
  obtain ⟨f0,f1,f2',f3,f4,f5⟩:=hC
  exact ⟨.ref D,H',I'.turned (t':=s'.toks) (fun b o hb e=>(hs'.2 b hb).trans e) f0 f1 f3 f4 f5,rfl,q⟩
theorem zkp {wi:TI} {i:Nat} {y:Str} {py spos:Pos} (hN:X.N.Nodup) (hiN:X.N[i]?=some y) (hy:Loc X.env.scope y) (hc:X.calm=true) (hi:PI X tg iter wi) (B:CompOk X scope N' ix n tg elt ifs g tc te)
    (hsw:swapsWith (.ListComp elt [⟨tg,iter,ifs,0⟩] scope pos) (some (.Name y py)) spos.line X.env=pure true) (hf:X.fn y=true∨X.env.scope.names.lookup y=some .local:=by first | exact .inl rfl | exact .inr rfl | assumption)
    (hs:∀ x,foldedSetIterable iter X.env x=pure x:=by intro _; rfl) :
    PS X (.Assign [.Name y py] (.ListComp elt [⟨tg,iter,ifs,0⟩] scope pos) spos) (tAsg (zpu wi ix n g tc te) (zjv i)):=by
  intro pins s σ H D I h
  rw [exec_Assign_Name_used _ _ _ _ hsw]
  refine wpAny_bind (wpAny_standAt (wpAny_bind ?_))
  show wpAny _ X.A (do let _ ← comprehension (.ListComp elt [⟨tg,iter,ifs,0⟩] scope pos) scope X.env _ (newList []) false (eval iter X.env) (some (assign (.Name y py) X.env))) _ _ s
  obtain ⟨cl,hclos,hcl,hcf⟩:=zfV (scope:=scope) (env:=X.env) fun y hy hf=>I.ok.has _ (B.free y hy hf)
  refine wpAny_bind (wpAny_mono (wpAny_comprehension_free (use:=some (assign (.Name y py) X.env)) (Q:=fun _ s'=>SP X pins D .next s') rfl hs hclos B.kind B.names
    (thn (hi pins s σ H _ I h) fun v s1 h1=>thn h1 fun itv s2 h2=>?_)) (fun _ s' hq=>wpAny_pure (wpAny_pure hq)) fun _ _ e=>e)
  obtain ⟨it,fp,tn,J,H2,rfl,I2,T,st2,f2,body⟩:=h2
  refine zk9 (Q:=fun x H1=>zjv i x σ H1 D.nx) (RR:=fun acc C=>compPost (model X.prog X.w) X.A X.xe (some (assign (.Name y py) X.env)) (fun _ s'=>SP X pins D .next s') acc C) B hc I2 T st2 f2 hcl hcf body fun D' C H' s' m I' hn hC q=>?_
  obtain ⟨f0,f1,f2',f3,f4,f5⟩:=hC
  have Ip := I'.pinned (fp := [C]) (fun b hb => by have e : b = C := by simpa using hb
                                                   subst e; exact ⟨f0,f1,f2',f3,f4,f5⟩) (fun b hb=>by
    have e:b=C:=by simpa using hb
    subst e
    obtain ⟨o,es,ep,ho,hd,_⟩:=hn
    exact ⟨o,ho,fun v z=>by rw [hd] at z; cases z⟩)
  refine wpAny_assign_Name (zf0 Ip hN hiN hy (v:=.ref D') rfl (fun s'' I''=>?_) hf)
  obtain ⟨o,es,ep,ho,hd,hr⟩:=hn
  have pinC:=I''.pin (C,o) (List.mem_append_right _ (List.mem_append_right _ (zex (by simp) ho)))
  refine ⟨m,⟨o,es,ep,pinC.1,hd,hr⟩,fun h' hs'=>?_⟩
  exact ⟨_,H',(I''.unpinned).turned (t':=s''.toks) (fun b o hb e=>(hs'.2 b hb).trans e) pinC.2.1 f1 f3 f4 f5,q⟩
end
end L2
namespace L2
open PySem PySem.Spec PyProof.Rows
section
variable {X:Cx} {scope:Scope} {tg elt:Expr} {ifs:List Expr} {g:TG} {tc:Option TT} {te:TE}
theorem zbV (osc:Scope) (oN N':List Str) (ix:List Nat) (n:Nat) (hosc:X.env.scope=osc) (hoN:X.N=oN) (kind:scope.kind = .function) (nocell:(scope.names.all fun y=>y.2 != .free || scope.names.all fun z=>!(z.1 == y.1) || z.2 != .cell)=true) (names:∀ y ∈ scope.names,y.2 = .local→scope.names.lookup y.1=some .local)
    (free:(scope.names.all fun y=>y.2 != .free || (osc.names.lookup y.1 == some .cell || osc.names.lookup y.1 == some .free))=true) (len:ix.length + n=N'.length)
    (take:((List.range ix.length).all fun j=>match N'[j]?,oN[ix.getD j 0]? with | some x,some y=>x == y && scope.names.lookup x == some .free | _,_=>false)=true)
    (tgt:∀ (cl:List (Str × Addr)) (C:Addr) (s:Shared) (H:Hp) (fp:List Addr) (pins:List (Addr × Obj)),PG (X.comp scope cl C N' s H fp pins) tg g)
    (elt':∀ (cl:List (Str × Addr)) (C:Addr) (s:Shared) (H:Hp) (fp:List Addr) (pins:List (Addr × Obj)),PE (X.comp scope cl C N' s H fp pins) elt te)
    (test:(ifs = []∧tc=none)∨∃ c t,ifs = [c]∧tc=some t∧∀ (cl:List (Str × Addr)) (C:Addr) (s:Shared) (H:Hp) (fp:List Addr) (pins:List (Addr × Obj)),PT (X.comp scope cl C N' s H fp pins) c t) :
    CompOk X scope N' ix n tg elt ifs g tc te :=
  ⟨kind,fun y hy e hc=>by
    have z:=List.all_eq_true.mp nocell y hy
    rw [e] at z
    have z2:(scope.names.all fun w=>!(w.1 == y.1) || w.2 != .cell)=true:=by simpa using z
    have z3:=List.all_eq_true.mp z2 _ hc
    simp at z3,names,fun y hy e=>by
    have z:=List.all_eq_true.mp free y hy
    rw [e] at z
    have z':(osc.names.lookup y.1 == some .cell || osc.names.lookup y.1 == some .free)=true:=by simpa using z
    show X.env.scope.names.lookup y.1=_∨X.env.scope.names.lookup y.1=_
    rw [hosc]
    simpa using z',len,fun j i e=>by
    obtain ⟨hj,_⟩:=List.getElem?_eq_some_iff.mp e
    have e2:ix.getD j 0=i:=by
      rw [List.getD_eq_getElem?_getD,e]
      rfl
    have z:=List.all_eq_true.mp take j (List.mem_range.mpr hj)
    rw [e2] at z
    cases h1:N'[j]? with
    | none=>rw [h1] at z; cases z
    | some x =>
      cases h2:oN[i]? with
      | none=>rw [h1,h2] at z; cases z
      | some y =>
        rw [h1,h2] at z
        have z':x=y∧scope.names.lookup x=some .free:=by simpa using z
        obtain ⟨rfl,z2⟩:=z'
        exact ⟨x,rfl,by rw [hoN]; exact h2,z2⟩,tgt,elt',test⟩
end
structure Has (P:Program) (w:World) (K:PySem.W.Frag) (mg:Str→Option Value) (base:Heap) (CX:CXT) (k:Nat) (x:Str) (ps:List Str) (sp:Sp):Prop where
  ex:∃ (f:Addr) (fd:FuncData),FnOk P w K mg base CX k f fd ps sp∧mg x=some (.ref f)∧PySem.W.keepIn K (.ref f)=true∧Binds K fd ps []
section
variable {X:Cx} {CX:CXT} {k:Nat} {x:Str} {ps:List Str} {sp:Sp} {E:XK} {p pos:Pos} {e:Expr} {es:List Expr} {t:TA}
theorem zaK (G:Has X.prog X.w X.K X.mg X.base CX k x ps sp) (hr:Room k X.A) (hg:Gl X x) (hx:zlh CX X E)
    (ha:PA X (e :: es) t) (hdb:(x == ("__debug__" : Str))=false:=by decide) (he:starEach (e :: es) X.env=(false,eval e X.env) :: starEach es X.env:=by rfl) (hpl:(backTo pos (starEach es X.env)).any (·.1)=false:=by rfl) :
    PE X (.Call (.Name x p) (e :: es) [] pos) (zlF sp [] E t):=by
  obtain ⟨f,fd,F,hm,hk,hb⟩:=G.ex
  exact zpk F hr hg hm hk hb .nil hx ha hdb he hpl
end
structure DefAt (K:PySem.W.Frag) (x:Str) (st:Stmt) (f:Addr) (fd:FuncData):Prop where
  ns:PySem.W.nsIn K mainGlobals x=some (some (.ref f))
  fn:Fun K x x st f fd
theorem defAt_mk {K:PySem.W.Frag} {x:Str} {st:Stmt} {f:Addr} {oc:Value} {od an:Option Addr} {osl:Array (Option Value)} {kV doc pm cdv ct:Value} (a:PySem.W.nsIn K mainGlobals x=some (some (.ref f)))
    (l:K.lookup f=some ⟨oc,od,.func (PySem.W.fnOf x x (zfR st) (ze9 st) (zar st) .none kV doc pm an cdv ct),osl⟩) (c:PySem.W.codeIn K cdv x=true) (k:PySem.W.keepIn K (.ref f)=true):∃ f fd,DefAt K x st f fd :=
  ⟨f,_,a,zok l c k⟩
theorem DefAt.has {P:Program} {w:World} {K:PySem.W.Frag} {mg:Str→Option Value} {base h:Heap} {CX:CXT} {k:Nat} {x:Str} {st:Stmt} {f:Addr} {fd:FuncData} {ps:List Str} {sp:Sp} (D:DefAt K x st f fd) (X:K.In h) (G:h.Ns mainGlobals mg)
    (ok:FnOk P w K mg base CX k f fd ps sp) (b:Binds K fd ps []):Has P w K mg base CX k x ps sp:=⟨f,fd,ok,PySem.W.mg_of X G D.ns,D.fn.kp,b⟩
theorem zqH {H:Hp} {a b:Addr} {o u:HO} (hn:H b=none) (h:H a=some o):upd H b u a=some o:=(zaA (zaI h hn)).trans h
theorem Same.upd {H:Hp} {b:Addr} {u:HO} (hn:H b=none):Same H (upd H b u):=fun _ _ h=>zqH hn h
end L2
namespace L2
open PySem PySem.Spec PyProof.Rows
section
variable {X:Cx} {pos:Pos}
end
end L2
namespace L2
open PySem PySem.Spec PyProof.Rows
theorem kit_self {K:PySem.W.Frag} {T:String}:PySem.W.kitOne K (.type T) (.type T)=some true:=by
  unfold PySem.W.kitOne
  rw [if_pos (by simp)]
theorem kit_no {K:PySem.W.Frag} {S T:String} (h1:((Value.type S) == (Value.type T))=false) (h2:PySem.W.kitMeta T=true) (h3:(PySem.fastBuiltinMro S).map (·.contains (.type T))=some false):PySem.W.kitOne K (.type S) (.type T)=some false:=by
  unfold PySem.W.kitOne
  rw [h1,if_neg Bool.false_ne_true]
  show (if PySem.W.kitMeta T=true then PySem.W.subIn K (.type S) (.type T) else none)=some false
  rw [if_pos h2]
  exact h3
end L2
namespace L2
open PySem PySem.Spec PyProof.Rows
structure Tr (h:Heap) (e T:Addr) (cls:Value) (dct:Option Addr) (fl:Value):Prop where
  ex:∃ (oe:Obj) (vs:Array Value) (oT:Obj) (ts:Array Value),h.get? e=some oe∧oe.cls=cls∧oe.dict=dct∧oe.data = .fields vs∧vs[1]?=some (.ref T)∧h.get? T=some oT∧oT.data = .fields ts∧ts[3]?=some fl
  ne:T ≠ e
section
variable {M:Model} {A:Around} {E:Value→Shared→Prop} {s:Shared} {B:Heap} {env:Env} {outer l:List Env} {L e:Addr} {cls:Value} {dct:Option Addr} {Q:Unit→Shared→Prop}
end
end L2
namespace L2
open PySem PySem.Spec PyProof.Rows
section
variable {P:Program} {w:World} {K:PySem.W.Frag} {mg:Str→Option Value} {base:Heap} {N:List Str} {qual:Str} {scope:Scope} {f:Addr} {cd:Value} {A:Around} {outer:List Env} {s0:Shared} {H0:Hp} {E:XK}
end
section
variable {X:Cx} {x:Str} {np cpos pos:Pos} {e₀:Expr} {rest:List Expr} {C:Addr} {bmB bmN:List Value} {newId Bn B nid inN initId:String} {E:St→XK} {t:TA}
end
section
variable {X:Cx} {CX:CXT} {k:Nat} {x:Str} {ps:List Str} {sp:Sp} {E:St→XK} {p pos:Pos} {e:Expr} {es:List Expr} {t:TA}
end
def excO (C:Addr) (dct:Option Addr) (ea:Addr):HO:=.ext fun h=>∃ ob,h.get? ea=some ob∧ob.cls = .ref C∧ob.dict=dct∧∃ vs,ob.data = .fields vs
section
variable {P:Program} {w:World} {X:Cx} {x n:Str} {np hpos pos:Pos} {body:List Stmt} {b₀:Stmt} {suite:List Stmt} {D':Addr} {tb:(St→XK)→TS} {th:TS} {i:Nat}
end
end L2
namespace L2
open PySem PySem.Spec PyProof.Rows
section
variable {X:Cx}
end
section
variable {P:Program} {w:World} {K:PySem.W.Frag} {mg:Str→Option Value} {base:Heap} {N:List Str} {qual:Str} {scope:Scope} {f:Addr} {cd:Value} {A:Around} {outer:List Env} {s0:Shared} {H0:Hp} {E:XK}
end
end L2
namespace PM
open PySem L2
inductive D where
  | non | bl (b:Bool) | int (i:Int) | str (x:Str) | tup (l:List D) | lst (l:List D) | dct (ks:List Key) (l:List D) | scr (l:List Int) | exc (c:Nat) | fd (ks:List Key) (l:List D) | obj (c:Nat) (ks:List Str) (l:List D)
structure Kx where
  f:W.Frag
  ca:Nat→Addr
  an:Nat→Str
def XA (K:Kx) (F:Hp) (c:Nat) (dct:Option Addr):Prop:=if c < 16 then dct=none else ∃ dx,dct=some dx∧F dx=some (.xd [(K.an c,.int (((c / 16:Nat):Int) - 1))])
section
variable (K:Kx)
mutual
def Rep (F:Hp):D→V→Prop
  | .non,v=>v = .non
  | .bl b,v=>v = .bl b
  | .int i,v=>v = .int i
  | .str x,v=>v = .str x
  | .scr l,v=>∃ a,v = .ref a∧SqL K.f F a (l.map V.int)
  | .exc c,v=>∃ a dct,v = .ref a∧F a=some (excO (K.ca c) dct a)∧XA K F c dct
  | .tup l,v=>∃ a vs,v = .ref a∧F a=some (.tup vs)∧RepL F l vs
  | .fd ks l,v=>∃ a o kvs,v = .ref a∧F a=some (.frz o (.dK kvs))∧kvs.map (·.1)=ks∧RepL F l (kvs.map (·.2))
  | .obj c ks l,v=>∃ a dx fs,v = .ref a∧F a=some (.ins (K.ca c) dx fs)∧fs.map (·.1)=ks∧RepL F l (fs.map (·.2))
  | .lst l,v=>∃ a vs,v = .ref a∧Rd F a (.lst vs)∧RepL F l vs
  | .dct ks l,v=>∃ a kvs,v = .ref a∧F a=some (.dK kvs)∧kvs.map (·.1)=ks∧RepL F l (kvs.map (·.2))
def RepL (F:Hp):List D→List V→Prop
  | [],vs=>vs = []
  | d :: l,vs=>∃ v r,vs=v :: r∧Rep F d v∧RepL F l r
end
end
def ifC {α:Type} (p:Prop) (a b:α):α:=@ite α p (Classical.propDecidable p) a b
@[simp] theorem zbE {α:Type} {p:Prop} {a b:α} (h:p):ifC p a b=a:=if_pos h
theorem znh {α:Type} {p:Prop} {a b:α} (h:¬ p):ifC p a b=b:=if_neg h
structure Xc where
  c:Nat
inductive R (α:Type) where
  | no | ok (a:α) | ex (x:Xc)
namespace R
def bind {α β:Type}:R α→(α→R β)→R β
  | .no,_=>.no
  | .ok a,f=>f a
  | .ex x,_=>.ex x
@[simp] theorem bind_ok {α β:Type} (a:α) (f:α→R β):(R.ok a).bind f=f a:=rfl
@[simp] theorem zrh {α β:Type} (f:α→R β):(R.no:R α).bind f = .no:=rfl
@[simp] theorem zrn {α β:Type} (x:Xc) (f:α→R β):(R.ex x:R α).bind f = .ex x:=rfl
end R
inductive Tr where
  | d (x:D) | l (ts:List Tr) | t (ts:List Tr)
mutual
def trD:Tr→D
  | .d x=>x
  | .l ts=>.lst (trDL ts)
  | .t ts=>.tup (trDL ts)
def trDL:List Tr→List D
  | []=>[]
  | t :: ts=>trD t :: trDL ts
end
inductive Sl where
  | no | v (d:D) | o (d:D) | l (d:D) | p (T:Tr)
abbrev En:=List Sl
inductive O where
  | no | nx (δ:En) | rt (d:D) | ro (d:D) | bk (δ:En) | ct (δ:En) | ex (δ:En) (x:Xc)
structure Ext (F H F' H':Hp):Prop where
  ff:Same F F'
  hh:Same H H'
  fh:Same F' H'
  nw:∀ p o,F p=none→H p=some o→F' p=none
theorem Ext.refl {F H:Hp} (s:Same F H):Ext F H F H:=⟨.refl _,.refl _,s,fun _ _ h _=>h⟩
theorem Ext.trans {F H F1 H1 F2 H2:Hp} (a:Ext F H F1 H1) (b:Ext F1 H1 F2 H2):Ext F H F2 H2 :=
  ⟨a.ff.trans b.ff,a.hh.trans b.hh,b.fh,fun p o h1 h2=>b.nw p o (a.nw p o h1 h2) (a.hh p o h2)⟩
theorem Ext.new {F H:Hp} {p:Addr} {o:HO} (s:Same F H) (h:H p=none):Ext F H (upd F p o) (upd H p o):=by
  have hf:=s.free h
  refine ⟨Same.upd hf,Same.upd h,fun b u q=>?_,fun q u h1 h2=>?_⟩
  · by_cases e:b=p
    · subst e; rw [zaR] at q ⊢; exact q
    · rw [zaA e] at q ⊢; exact s _ _ q
  · rw [zaA (zaI h2 h)]; exact h1
theorem Ext.newO {F H:Hp} {p:Addr} {o:HO} (s:Same F H) (h:H p=none):Ext F H F (upd H p o):=by
  refine ⟨.refl _,Same.upd h,s.trans (Same.upd h),fun q u h1 h2=>h1⟩
theorem Same.rd {H H':Hp} {a:Addr} {u:HO} (e:Same H H') (h:Rd H a u):Rd H' a u:=h.elim (fun h=>.inl (e _ _ h)) fun ⟨o,h⟩=>.inr ⟨o,e _ _ h⟩
section
variable {K:Kx} {F F' H H':Hp}
theorem XA.mono {c:Nat} {dct:Option Addr} (h:XA K F c dct) (e:Same F F'):XA K F' c dct:=by
  unfold XA at h ⊢
  split
  · rename_i hc; rw [if_pos hc] at h; exact h
  · rename_i hc
    rw [if_neg hc] at h
    obtain ⟨dx,h1,h2⟩:=h
    exact ⟨dx,h1,e _ _ h2⟩
mutual
theorem Rep.mono (e:Same F F'):∀ (d:D) {v:V},Rep K F d v→Rep K F' d v
  | .non,v,h=>by simpa only [Rep] using h
  | .bl b,v,h=>by simpa only [Rep] using h
  | .int b,v,h=>by simpa only [Rep] using h
  | .str b,v,h=>by simpa only [Rep] using h
  | .exc c,v,h=>by
    simp only [Rep] at h ⊢
    obtain ⟨a,dct,h1,h2,h3⟩:=h
    exact ⟨a,dct,h1,e _ _ h2,h3.mono e⟩
  | .fd ks l,v,h=>by
    simp only [Rep] at h ⊢
    obtain ⟨a,o,vs,h1,h2,h0,h3⟩:=h
    exact ⟨a,o,vs,h1,e _ _ h2,h0,RepL.mono e l h3⟩
  | .obj c ks l,v,h=>by
    simp only [Rep] at h ⊢
    obtain ⟨a,o,vs,h1,h2,h0,h3⟩:=h
    exact ⟨a,o,vs,h1,e _ _ h2,h0,RepL.mono e l h3⟩
  | .scr l,v,h=>by
    simp only [Rep] at h ⊢
    obtain ⟨a,h1,h2⟩:=h
    exact ⟨a,h1,e.seq h2⟩
  | .tup l,v,h=>by
    simp only [Rep] at h ⊢
    obtain ⟨a,vs,h1,h2,h3⟩:=h
    exact ⟨a,vs,h1,e _ _ h2,RepL.mono e l h3⟩
  | .lst l,v,h=>by
    simp only [Rep] at h ⊢
    obtain ⟨a,vs,h1,h2,h3⟩:=h
    exact ⟨a,vs,h1,PM.Same.rd e h2,RepL.mono e l h3⟩
  | .dct ks l,v,h=>by
    simp only [Rep] at h ⊢
    obtain ⟨a,vs,h1,h2,h0,h3⟩:=h
    exact ⟨a,vs,h1,e _ _ h2,h0,RepL.mono e l h3⟩
theorem RepL.mono (e:Same F F'):∀ (l:List D) {vs:List V},RepL K F l vs→RepL K F' l vs
  | [],vs,h=>by simpa only [RepL] using h
  | d :: l,vs,h=>by
    simp only [RepL] at h ⊢
    obtain ⟨v,r,h1,h2,h3⟩:=h
    exact ⟨v,r,h1,Rep.mono e d h2,RepL.mono e l h3⟩
end
theorem RepL.length:∀ {l:List D} {vs:List V},RepL K F l vs→vs.length=l.length
  | [],vs,h=>by simp only [RepL] at h; subst h; rfl
  | d :: l,vs,h=>by
    simp only [RepL] at h
    obtain ⟨v,r,rfl,_,h3⟩:=h
    simp [RepL.length h3]
theorem RepL.get:∀ {l:List D} {vs:List V} {i:Nat} {d:D},RepL K F l vs→l[i]?=some d→∃ v,vs[i]?=some v∧Rep K F d v
  | [],vs,i,d,h,e=>by simp at e
  | x :: l,vs,0,d,h,e=>by
    simp only [RepL] at h
    obtain ⟨v,r,rfl,h2,h3⟩:=h
    simp at e; subst e
    exact ⟨v,rfl,h2⟩
  | x :: l,vs,i + 1,d,h,e=>by
    simp only [RepL] at h
    obtain ⟨v,r,rfl,h2,h3⟩:=h
    obtain ⟨u,h4,h5⟩:=RepL.get h3 (i:=i) (d:=d) (by simpa using e)
    exact ⟨u,by simpa using h4,h5⟩
theorem RepL.nil:RepL K F [] []:=by simp only [RepL]
theorem RepL.cons {d:D} {l:List D} {v:V} {vs:List V} (h1:Rep K F d v) (h2:RepL K F l vs):RepL K F (d :: l) (v :: vs):=by
  simp only [RepL]; exact ⟨v,vs,rfl,h1,h2⟩
theorem RepL.append:∀ {l:List D} {vs:List V} {l':List D} {vs':List V},RepL K F l vs→RepL K F l' vs'→RepL K F (l ++ l') (vs ++ vs')
  | [],vs,l',vs',h,h'=>by simp only [RepL] at h; subst h; exact h'
  | d :: l,vs,l',vs',h,h'=>by
    simp only [RepL] at h
    obtain ⟨v,r,rfl,h2,h3⟩:=h
    exact .cons h2 (RepL.append h3 h')
theorem RepL.drop:∀ {l:List D} {vs:List V} (n:Nat),RepL K F l vs→RepL K F (l.drop n) (vs.drop n)
  | l,vs,0,h=>h
  | [],vs,n + 1,h=>by simp only [RepL] at h; subst h; exact .nil
  | d :: l,vs,n + 1,h=>by
    simp only [RepL] at h
    obtain ⟨v,r,rfl,h2,h3⟩:=h
    exact RepL.drop n h3
theorem RepL.take:∀ {l:List D} {vs:List V} (n:Nat),RepL K F l vs→RepL K F (l.take n) (vs.take n)
  | l,vs,0,h=>by simpa using RepL.nil
  | [],vs,n + 1,h=>by simp only [RepL] at h; subst h; exact .nil
  | d :: l,vs,n + 1,h=>by
    simp only [RepL] at h
    obtain ⟨v,r,rfl,h2,h3⟩:=h
    exact .cons h2 (RepL.take n h3)
theorem RepL.set:∀ {l:List D} {vs:List V} {d:D} {v:V} (i:Nat),RepL K F l vs→Rep K F d v→RepL K F (l.set i d) (vs.set i v)
  | [],vs,d,v,i,h,_=>by simp only [RepL] at h; subst h; exact .nil
  | x :: l,vs,d,v,0,h,h'=>by
    simp only [RepL] at h
    obtain ⟨u,r,rfl,h2,h3⟩:=h
    exact .cons h' h3
  | x :: l,vs,d,v,i + 1,h,h'=>by
    simp only [RepL] at h
    obtain ⟨u,r,rfl,h2,h3⟩:=h
    exact .cons h2 (RepL.set i h3 h')
theorem RepL.ints {ns:List Int}:RepL K F (ns.map .int) (ns.map .int):=by
  induction ns with
  | nil=>exact .nil
  | cons a l ih=>exact .cons rfl ih
end
section
variable (K:Kx)
def Top (F H:Hp):D→V→Prop
  | .lst l,v=>∃ a vs,v = .ref a∧Rd H a (.lst vs)∧RepL K F l vs
  | .dct ks l,v=>∃ a kvs,v = .ref a∧H a=some (.dK kvs)∧kvs.map (·.1)=ks∧RepL K F l (kvs.map (·.2))
  | .obj c ks l,v=>∃ a dx fs,v = .ref a∧H a=some (.ins (K.ca c) dx fs)∧fs.map (·.1)=ks∧RepL K F l (fs.map (·.2))
  | d,v=>Rep K F d v
def Own (F H:Hp):D→Addr→Prop
  | .lst l,a=>∃ vs,H a=some (.lst vs)∧RepL K F l vs
  | .dct ks l,a=>∃ kvs,H a=some (.dK kvs)∧kvs.map (·.1)=ks∧RepL K F l (kvs.map (·.2))
  | .obj c ks l,a=>∃ dx fs,H a=some (.ins (K.ca c) dx fs)∧fs.map (·.1)=ks∧RepL K F l (fs.map (·.2))
  | _,_=>False
mutual
def TrOk (F H:Hp):Tr→V→List Addr→Prop
  | .d x,v,fp=>fp = []∧Rep K F x v
  | .l ts,v,fp=>∃ a vs fs,v = .ref a∧fp=a :: fs∧H a=some (.lst vs)∧TrOkL F H ts vs fs
  | .t ts,v,fp=>∃ a vs,v = .ref a∧F a=some (.tup vs)∧TrOkL F H ts vs fp
def TrOkL (F H:Hp):List Tr→List V→List Addr→Prop
  | [],vs,fp=>vs = []∧fp = []
  | t :: ts,vs,fp=>∃ v r f1 f2,vs=v :: r∧fp=f1 ++ f2∧TrOk F H t v f1∧TrOkL F H ts r f2
end
structure Tab (F H:Hp) (a:Addr) (bs:List Addr) (T:Tr):Prop where
  ok:TrOk K F H T (.ref a) (a :: bs)
  nd:(a :: bs).Nodup
def SlOk (H0 F H:Hp):Option Sl→Option (Option V)→Prop
  | some (.v d),s=>∃ u,s=some (some u)∧Rep K F d u
  | some (.o d),s=>∃ a,s=some (some (.ref a))∧H0 a=none∧F a=none∧Own K F H d a
  | some (.l d),s=>∃ a,s=some (some (.ref a))∧H0 a=none∧F a=none∧Own K F H d a
  | some (.p T),s=>∃ a bs,s=some (some (.ref a))∧Tab K F H a bs T∧∀ b ∈ a :: bs,H0 b=none∧F b=none
  | _,_=>True
end
def Sl.own:Option Sl→Bool
  | some (.o _)=>true
  | some (.l _)=>true
  | some (.p _)=>true
  | _=>false
structure EnvOk (K:Kx) (Λ:List (Nat × Addr × HO)) (F0 H0 F H:Hp) (σ:St) (δ:En):Prop where
  ext:Ext F0 H0 F H
  len:σ.length=δ.length
  slot:∀ i:Nat,SlOk K H0 F H δ[i]? σ[i]?
  dist:∀ (i j:Nat) (a:Addr),i ≠ j→Sl.own δ[i]?=true→Sl.own δ[j]?=true→σ[i]?=some (some (.ref a))→σ[j]?=some (some (.ref a))→False
  lent:∀ x ∈ Λ,(∃ d,δ[x.1]?=some (.l d))∧σ[x.1]?=some (some (.ref x.2.1))∧H x.2.1=some x.2.2
  tabs:∀ (i:Nat) (T:Tr),δ[i]?=some (.p T)→∃ a bs,σ[i]?=some (some (.ref a))∧Tab K F H a bs T∧(∀ b ∈ a :: bs,H0 b=none∧F b=none)∧(∀ (j:Nat) (b:Addr),j ≠ i→Sl.own δ[j]?=true→σ[j]?=some (some (.ref b))→b ∉ a :: bs)∧∀ (j:Nat) (T':Tr),δ[j]?=some (.p T')→j=i
section
variable {K:Kx} {Λ:List (Nat × Addr × HO)} {F0 H0 F H F' H' F1 H1:Hp} {σ:St} {δ:En}
theorem Own.mono (e1:Same F F') (e2:Same H H'):∀ {d:D} {a:Addr},Own K F H d a→Own K F' H' d a
  | .lst l,a,h=>let ⟨vs,h1,h2⟩:=h; ⟨vs,e2 _ _ h1,h2.mono e1⟩
  | .dct ks l,a,h=>let ⟨vs,h1,h0,h2⟩:=h; ⟨vs,e2 _ _ h1,h0,h2.mono e1⟩
  | .non,_,h=>h.elim
  | .bl _,_,h=>h.elim
  | .int _,_,h=>h.elim
  | .str _,_,h=>h.elim
  | .tup _,_,h=>h.elim
  | .scr _,_,h=>h.elim
  | .exc _,_,h=>h.elim
  | .fd _ _,_,h=>h.elim
  | .obj c ks l,a,h=>let ⟨dx,vs,h1,h0,h2⟩:=h; ⟨dx,vs,e2 _ _ h1,h0,h2.mono e1⟩
theorem Own.obj:∀ {d:D} {a:Addr},Own K F H d a→∃ o,H a=some o
  | .lst l,a,h=>let ⟨vs,h1,h2⟩:=h; ⟨_,h1⟩
  | .dct ks l,a,h=>let ⟨vs,h1,h2⟩:=h; ⟨_,h1⟩
  | .non,_,h=>h.elim
  | .bl _,_,h=>h.elim
  | .int _,_,h=>h.elim
  | .str _,_,h=>h.elim
  | .tup _,_,h=>h.elim
  | .scr _,_,h=>h.elim
  | .exc _,_,h=>h.elim
  | .fd _ _,_,h=>h.elim
  | .obj c ks l,a,h=>let ⟨dx,vs,h1,h2⟩:=h; ⟨_,h1⟩
theorem Own.at (e:H' a=H a):∀ {d:D},Own K F H d a→Own K F H' d a
  | .lst l,h=>let ⟨vs,h1,h2⟩:=h; ⟨vs,e.trans h1,h2⟩
  | .dct ks l,h=>let ⟨vs,h1,h0,h2⟩:=h; ⟨vs,e.trans h1,h0,h2⟩
  | .non,h=>h.elim
  | .bl _,h=>h.elim
  | .int _,h=>h.elim
  | .str _,h=>h.elim
  | .tup _,h=>h.elim
  | .scr _,h=>h.elim
  | .exc _,h=>h.elim
  | .fd _ _,h=>h.elim
  | .obj c ks l,h=>let ⟨dx,vs,h1,h0,h2⟩:=h; ⟨dx,vs,e.trans h1,h0,h2⟩
theorem Rep.top (s:Same F H):∀ {d:D} {v:V},Rep K F d v→Top K F H d v
  | .lst l,v,h=>by
    simp only [Rep] at h
    obtain ⟨a,vs,h1,h2,h3⟩:=h
    exact ⟨a,vs,h1,PM.Same.rd s h2,h3⟩
  | .dct ks l,v,h=>by
    simp only [Rep] at h
    obtain ⟨a,vs,h1,h2,h3⟩:=h
    exact ⟨a,vs,h1,s _ _ h2,h3⟩
  | .non,_,h=>h
  | .bl _,_,h=>h
  | .int _,_,h=>h
  | .str _,_,h=>h
  | .tup _,_,h=>h
  | .scr _,_,h=>h
  | .exc _,_,h=>h
  | .fd _ _,_,h=>h
  | .obj c ks l,v,h=>by
    simp only [Rep] at h
    obtain ⟨a,dx,vs,h1,h2,h3⟩:=h
    exact ⟨a,dx,vs,h1,s _ _ h2,h3⟩
theorem Own.top:∀ {d:D} {a:Addr},Own K F H d a→Top K F H d (.ref a)
  | .lst l,a,h=>let ⟨vs,h1,h2⟩:=h; ⟨a,vs,rfl,.inl h1,h2⟩
  | .dct ks l,a,h=>let ⟨vs,h1,h2⟩:=h; ⟨a,vs,rfl,h1,h2⟩
  | .non,_,h=>h.elim
  | .bl _,_,h=>h.elim
  | .int _,_,h=>h.elim
  | .str _,_,h=>h.elim
  | .tup _,_,h=>h.elim
  | .scr _,_,h=>h.elim
  | .exc _,_,h=>h.elim
  | .fd _ _,_,h=>h.elim
  | .obj c ks l,a,h=>let ⟨dx,vs,h1,h2⟩:=h; ⟨a,dx,vs,rfl,h1,h2⟩
theorem Top.mono (e1:Same F F') (e2:Same H H'):∀ {d:D} {v:V},Top K F H d v→Top K F' H' d v
  | .lst l,v,h=>let ⟨a,vs,h1,h2,h3⟩:=h; ⟨a,vs,h1,PM.Same.rd e2 h2,h3.mono e1⟩
  | .dct ks l,v,h=>let ⟨a,vs,h1,h2,h0,h3⟩:=h; ⟨a,vs,h1,e2 _ _ h2,h0,h3.mono e1⟩
  | .non,_,h=>h
  | .bl _,_,h=>h
  | .int _,_,h=>h
  | .str _,_,h=>h
  | .tup l,v,h=>Rep.mono e1 (.tup l) h
  | .scr l,v,h=>Rep.mono e1 (.scr l) h
  | .exc l,v,h=>Rep.mono e1 (.exc l) h
  | .fd ks l,v,h=>Rep.mono e1 (.fd ks l) h
  | .obj c ks l,v,h=>let ⟨a,dx,vs,h1,h2,h0,h3⟩:=h; ⟨a,dx,vs,h1,e2 _ _ h2,h0,h3.mono e1⟩
theorem Own.freeze {p:Addr} {d:D} (x:Ext F H F' H') (h0:F' p=none) (h1:H p=none) (o:Own K F' H' d p):∃ F'',Ext F H F'' H'∧Same F' F''∧Rep K F'' d (.ref p):=by
  obtain ⟨u,hu⟩:=o.obj
  have hs:Same F' (upd F' p u):=Same.upd h0
  refine ⟨upd F' p u,⟨x.ff.trans hs,x.hh,fun b w q=>?_,fun q w h2 h3=>?_⟩,hs,?_⟩
  · by_cases e:b=p
    · subst e; rw [zaR] at q; cases q; exact hu
    · rw [zaA e] at q; exact x.fh _ _ q
  · rw [zaA (zaI h3 h1)]; exact x.nw q w h2 h3
  · cases d with
    | lst l =>
      obtain ⟨vs,h2,h3⟩:=o
      rw [hu] at h2; cases h2
      simp only [Rep]
      exact ⟨p,vs,rfl,.inl zaR,h3.mono hs⟩
    | dct ks l =>
      obtain ⟨vs,h2,h3,h4⟩:=o
      rw [hu] at h2; cases h2
      simp only [Rep]
      exact ⟨p,vs,rfl,zaR,h3,h4.mono hs⟩
    | obj c ks l =>
      obtain ⟨dx,vs,h2,h3,h4⟩:=o
      rw [hu] at h2; cases h2
      simp only [Rep]
      exact ⟨p,dx,vs,rfl,zaR,h3,h4.mono hs⟩
    | _=>exact o.elim
mutual
theorem TrOk.mono (e:Same F F') (e2:Same H H'):∀ (T:Tr) {v:V} {fp:List Addr},TrOk K F H T v fp→TrOk K F' H' T v fp
  | .d x,v,fp,h=>by
    simp only [TrOk] at h ⊢
    exact ⟨h.1,Rep.mono e x h.2⟩
  | .l ts,v,fp,h=>by
    simp only [TrOk] at h ⊢
    obtain ⟨a,vs,fs,h1,h2,h3,h4⟩:=h
    exact ⟨a,vs,fs,h1,h2,e2 _ _ h3,TrOkL.mono e e2 ts h4⟩
  | .t ts,v,fp,h=>by
    simp only [TrOk] at h ⊢
    obtain ⟨a,vs,h1,h3,h4⟩:=h
    exact ⟨a,vs,h1,e _ _ h3,TrOkL.mono e e2 ts h4⟩
theorem TrOkL.mono (e:Same F F') (e2:Same H H'):∀ (ts:List Tr) {vs:List V} {fp:List Addr},TrOkL K F H ts vs fp→TrOkL K F' H' ts vs fp
  | [],vs,fp,h=>by simpa only [TrOkL] using h
  | t :: ts,vs,fp,h=>by
    simp only [TrOkL] at h ⊢
    obtain ⟨v,r,f1,f2,h1,h2,h3,h4⟩:=h
    exact ⟨v,r,f1,f2,h1,h2,TrOk.mono e e2 t h3,TrOkL.mono e e2 ts h4⟩
end
mutual
theorem TrOk.obj:∀ (T:Tr) {v:V} {fp:List Addr},TrOk K F H T v fp→∀ b ∈ fp,∃ o,H b=some o
  | .d x,v,fp,h,b,hb=>by
    simp only [TrOk] at h
    rw [h.1] at hb; cases hb
  | .l ts,v,fp,h,b,hb=>by
    simp only [TrOk] at h
    obtain ⟨a,vs,fs,h1,h2,h3,h4⟩:=h
    rw [h2] at hb
    rcases List.mem_cons.mp hb with e | hb
    · subst e; exact ⟨_,h3⟩
    · exact TrOkL.obj ts h4 b hb
  | .t ts,v,fp,h,b,hb=>by
    simp only [TrOk] at h
    obtain ⟨a,vs,h1,h3,h4⟩:=h
    exact TrOkL.obj ts h4 b hb
theorem TrOkL.obj:∀ (ts:List Tr) {vs:List V} {fp:List Addr},TrOkL K F H ts vs fp→∀ b ∈ fp,∃ o,H b=some o
  | [],vs,fp,h,b,hb=>by
    simp only [TrOkL] at h
    rw [h.2] at hb; cases hb
  | t :: ts,vs,fp,h,b,hb=>by
    simp only [TrOkL] at h
    obtain ⟨v,r,f1,f2,h1,h2,h3,h4⟩:=h
    rw [h2] at hb
    rcases List.mem_append.mp hb with hb | hb
    · exact TrOk.obj t h3 b hb
    · exact TrOkL.obj ts h4 b hb
end
mutual
theorem TrOk.at':∀ (T:Tr) {v:V} {fp:List Addr},TrOk K F H T v fp→(∀ b ∈ fp,H' b=H b)→TrOk K F H' T v fp
  | .d x,v,fp,h,_=>by simpa only [TrOk] using h
  | .l ts,v,fp,h,e=>by
    simp only [TrOk] at h ⊢
    obtain ⟨a,vs,fs,h1,h2,h3,h4⟩:=h
    subst h2
    exact ⟨a,vs,fs,h1,rfl,(e a (by simp)).trans h3,TrOkL.at' ts h4 fun b hb=>e b (List.mem_cons_of_mem _ hb)⟩
  | .t ts,v,fp,h,e=>by
    simp only [TrOk] at h ⊢
    obtain ⟨a,vs,h1,h3,h4⟩:=h
    exact ⟨a,vs,h1,h3,TrOkL.at' ts h4 e⟩
theorem TrOkL.at':∀ (ts:List Tr) {vs:List V} {fp:List Addr},TrOkL K F H ts vs fp→(∀ b ∈ fp,H' b=H b)→TrOkL K F H' ts vs fp
  | [],vs,fp,h,_=>by simpa only [TrOkL] using h
  | t :: ts,vs,fp,h,e=>by
    simp only [TrOkL] at h ⊢
    obtain ⟨v,r,f1,f2,h1,h2,h3,h4⟩:=h
    subst h2
    exact ⟨v,r,f1,f2,h1,rfl,TrOk.at' t h3 fun b hb=>e b (List.mem_append_left _ hb),TrOkL.at' ts h4 fun b hb=>e b (List.mem_append_right _ hb)⟩
end
theorem Tab.mono {a:Addr} {bs:List Addr} {T:Tr} (e1:Same F F') (e:Same H H') (t:Tab K F H a bs T):Tab K F' H' a bs T:=⟨TrOk.mono e1 e T t.ok,t.nd⟩
theorem Tab.obj {a:Addr} {bs:List Addr} {T:Tr} (t:Tab K F H a bs T):∀ b ∈ a :: bs,∃ o,H b=some o:=TrOk.obj T t.ok
theorem Tab.at' {a:Addr} {bs:List Addr} {T:Tr} (t:Tab K F H a bs T) (e:∀ b ∈ a :: bs,H' b=H b):Tab K F H' a bs T:=⟨TrOk.at' T t.ok e,t.nd⟩
theorem SlOk.mono (e:Ext F H F' H'):∀ {x:Option Sl} {s:Option (Option V)},SlOk K H0 F H x s→SlOk K H0 F' H' x s
  | some (.v d),s,h=>let ⟨u,h1,h2⟩:=h; ⟨u,h1,Rep.mono e.ff d h2⟩
  | some (.o d),s,h=>let ⟨a,h1,h2,h3,h4⟩:=h; let ⟨o,ho⟩:=h4.obj; ⟨a,h1,h2,e.nw a o h3 ho,h4.mono e.ff e.hh⟩
  | some (.l d),s,h=>let ⟨a,h1,h2,h3,h4⟩:=h; let ⟨o,ho⟩:=h4.obj; ⟨a,h1,h2,e.nw a o h3 ho,h4.mono e.ff e.hh⟩
  | some (.p T),s,h=>let ⟨a,bs,h1,h2,h3⟩:=h; ⟨a,bs,h1,h2.mono e.ff e.hh,fun b hb=>let ⟨o,ho⟩:=h2.obj b hb; ⟨(h3 b hb).1,e.nw b o (h3 b hb).2 ho⟩⟩
  | some .no,_,_=>trivial
  | none,_,_=>trivial
theorem EnvOk.tab (I:EnvOk K Λ F0 H0 F H σ δ) {i:Nat} {T:Tr} (hx:δ[i]?=some (.p T)):∃ a bs,σ[i]?=some (some (.ref a))∧Tab K F H a bs T∧(∀ b ∈ a :: bs,H0 b=none∧F b=none)∧(∀ (j:Nat) (b:Addr),j ≠ i→Sl.own δ[j]?=true→σ[j]?=some (some (.ref b))→b ∉ a :: bs)∧∀ (j:Nat) (T':Tr),δ[j]?=some (.p T')→j=i:=I.tabs i T hx
theorem EnvOk.tabsOf {δ':En} {σ':St} (I:EnvOk K Λ F0 H0 F H σ δ) (h1:∀ (i:Nat) (T:Tr),δ'[i]?=some (.p T)→δ[i]?=some (.p T)∧σ'[i]?=σ[i]?)
    (h2:∀ (i:Nat) (a:Addr) (bs:List Addr) (T:Tr),δ[i]?=some (.p T)→σ[i]?=some (some (.ref a))→Tab K F H a bs T→(∀ b ∈ a :: bs,H0 b=none∧F b=none)→(∀ (j:Nat) (b:Addr),j ≠ i→Sl.own δ[j]?=true→σ[j]?=some (some (.ref b))→b ∉ a :: bs)→Tab K F' H' a bs T∧∀ b ∈ a :: bs,F' b=none)
    (h3:∀ (i j:Nat) (T:Tr) (a b:Addr) (bs:List Addr),δ[i]?=some (.p T)→σ[i]?=some (some (.ref a))→Tab K F H a bs T→j ≠ i→Sl.own δ'[j]?=true→σ'[j]?=some (some (.ref b))→(Sl.own δ[j]?=true∧σ[j]?=some (some (.ref b)))∨b ∉ a :: bs) :
    ∀ (i:Nat) (T:Tr),δ'[i]?=some (.p T)→∃ a bs,σ'[i]?=some (some (.ref a))∧Tab K F' H' a bs T∧(∀ b ∈ a :: bs,H0 b=none∧F' b=none)∧(∀ (j:Nat) (b:Addr),j ≠ i→Sl.own δ'[j]?=true→σ'[j]?=some (some (.ref b))→b ∉ a :: bs)∧∀ (j:Nat) (T':Tr),δ'[j]?=some (.p T')→j=i:=by
  intro i T g1
  obtain ⟨d1,d2⟩:=h1 i T g1
  obtain ⟨a,bs,t1,t2,t3,t4,t5⟩:=I.tab d1
  obtain ⟨u1,u2⟩:=h2 i a bs T d1 t1 t2 t3 t4
  refine ⟨a,bs,d2.trans t1,u1,fun b hb=>⟨(t3 b hb).1,u2 b hb⟩,fun j b hj ho hs hb=>?_,fun j T' hj=>t5 j T' (h1 j T' hj).1⟩
  rcases h3 i j T a b bs d1 t1 t2 hj ho hs with ⟨o1,o2⟩ | o
  · exact t4 j b hj o1 o2 hb
  · exact o hb
theorem zk6 (e:Ext F H F' H') {a:Addr} {bs:List Addr} {T:Tr} (t:Tab K F H a bs T) (f:∀ b ∈ a :: bs,H0 b=none∧F b=none):Tab K F' H' a bs T∧∀ b ∈ a :: bs,F' b=none :=
  ⟨t.mono e.ff e.hh,fun b hb=>let ⟨o,ho⟩:=t.obj b hb; e.nw b o (f b hb).2 ho⟩
theorem EnvOk.grow (I:EnvOk K Λ F0 H0 F H σ δ) (e:Ext F H F' H'):EnvOk K Λ F0 H0 F' H' σ δ :=
  ⟨I.ext.trans e,I.len,fun i=>(I.slot i).mono e,I.dist,fun x hx=>let ⟨h1,h2,h3⟩:=I.lent x hx; ⟨h1,h2,e.hh _ _ h3⟩,I.tabsOf (fun i T h=>⟨h,rfl⟩) (fun i a bs T _ _ t f _=>zk6 e t f) fun i j T a b bs _ _ _ _ ho hs=>.inl ⟨ho,hs⟩⟩
theorem EnvOk.same (I:EnvOk K Λ F0 H0 F H σ δ):Same F H:=I.ext.fh
theorem Ext.base (a:Ext F0 H0 F1 H1) (b:Ext F1 H0 F' H'):Ext F0 H0 F' H' :=
  ⟨a.ff.trans b.ff,b.hh,b.fh,fun p o h1 h2=>b.nw p o (a.nw p o h1 h2) h2⟩
theorem EnvOk.up (I:EnvOk K Λ F0 H0 F H σ δ):EnvOk K Λ F H0 F H σ δ :=
  ⟨⟨.refl _,I.ext.hh,I.ext.fh,fun p o h1 h2=>h1⟩,I.len,I.slot,I.dist,I.lent,I.tabs⟩
theorem EnvOk.down (a:Ext F0 H0 F1 H1) (I:EnvOk K Λ F1 H0 F H σ δ):EnvOk K Λ F0 H0 F H σ δ :=
  ⟨a.base I.ext,I.len,I.slot,I.dist,I.lent,I.tabs⟩
theorem EnvOk.put {i:Nat} {d:D} {v:V} (I:EnvOk K Λ F0 H0 F H σ δ) (hl:∃ x,δ[i]?=some x∧∀ d,x ≠ .l d) (r:Rep K F d v):EnvOk K Λ F0 H0 F H (σ.set i (some v)) (δ.set i (.v d)):=by
  obtain ⟨x,hx,hn⟩:=hl
  have hi:i < δ.length:=(List.getElem?_eq_some_iff.mp hx).1
  have hi':i < σ.length:=by rw [I.len]; exact hi
  refine ⟨I.ext,by simp [I.len],fun j=>?_,fun j k a hjk h1 h2 h3 h4=>?_,fun y hy=>?_,I.tabsOf (fun k ll h=>by
      by_cases e:i=k
      · subst e; rw [List.getElem?_set_self hi] at h; cases h
      · rw [List.getElem?_set_ne e] at h; exact ⟨h,List.getElem?_set_ne e⟩) (fun _ _ _ _ _ _ t f _=>⟨t,fun b hb=>(f b hb).2⟩) fun k j ll a b bs _ _ _ _ ho hs=>.inl (by
      by_cases e:i=j
      · subst e; rw [List.getElem?_set_self hi] at ho; cases ho
      · rw [List.getElem?_set_ne e] at ho hs; exact ⟨ho,hs⟩)⟩
  · by_cases e:i=j
    · subst e
      rw [List.getElem?_set_self hi,List.getElem?_set_self hi']
      exact ⟨v,rfl,r⟩
    · rw [List.getElem?_set_ne e,List.getElem?_set_ne e]
      exact I.slot j
  · have ne:∀ k:Nat,Sl.own (δ.set i (.v d))[k]?=true→i ≠ k:=by
      rintro k h rfl
      rw [List.getElem?_set_self hi] at h
      cases h
    have n1:=ne j h1
    have n2:=ne k h2
    rw [List.getElem?_set_ne n1] at h1 h3
    rw [List.getElem?_set_ne n2] at h2 h4
    exact I.dist j k a hjk h1 h2 h3 h4
  · obtain ⟨⟨d',h1⟩,h2,h3⟩:=I.lent y hy
    have n:i ≠ y.1:=by
      intro e
      rw [← e,hx] at h1
      exact hn d' (Option.some.inj h1)
    exact ⟨⟨d',by rw [List.getElem?_set_ne n]; exact h1⟩,by rw [List.getElem?_set_ne n]; exact h2,h3⟩
theorem EnvOk.putO {i:Nat} {d:D} {p:Addr} (I:EnvOk K Λ F0 H0 F H σ δ) (hl:∃ x,δ[i]?=some x∧∀ d,x ≠ .l d) (e:Ext F H F' H') (h0:F' p=none) (h1:H p=none) (o:Own K F' H' d p) :
    EnvOk K Λ F0 H0 F' H' (σ.set i (some (.ref p))) (δ.set i (.o d)):=by
  obtain ⟨x,hx,hn⟩:=hl
  have hi:i < δ.length:=(List.getElem?_eq_some_iff.mp hx).1
  have hi':i < σ.length:=by rw [I.len]; exact hi
  have fresh:∀ k:Nat,Sl.own δ[k]?=true→σ[k]? ≠ some (some (V.ref p)):=fun k hk e=>by
    have z:=I.slot k
    cases q:δ[k]? with
    | none=>rw [q] at hk; cases hk
    | some y =>
      rw [q] at hk z
      cases y with
      | no=>cases hk
      | v d=>cases hk
      | o d =>
        obtain ⟨a,z1,_,_,z4⟩:=z
        rw [e] at z1; cases z1
        obtain ⟨u,hu⟩:=z4.obj
        rw [h1] at hu; cases hu
      | l d =>
        obtain ⟨a,z1,_,_,z4⟩:=z
        rw [e] at z1; cases z1
        obtain ⟨u,hu⟩:=z4.obj
        rw [h1] at hu; cases hu
      | p ll =>
        obtain ⟨a,bs,z1,z2,_⟩:=z
        rw [e] at z1; cases z1
        obtain ⟨u,hu⟩:=z2.obj p (by simp)
        rw [h1] at hu; cases hu
  have J:=I.grow e
  refine ⟨J.ext,by simp [I.len],fun j=>?_,fun j k a hjk g1 g2 g3 g4=>?_,fun y hy=>?_,I.tabsOf (fun k ll h=>by
      by_cases e:i=k
      · subst e; rw [List.getElem?_set_self hi] at h; cases h
      · rw [List.getElem?_set_ne e] at h; exact ⟨h,List.getElem?_set_ne e⟩) (fun k a bs T _ _ t f _=>zk6 e t f) fun k j ll a b bs _ _ t _ ho hs=>by
      by_cases e:i=j
      · subst e
        rw [List.getElem?_set_self hi'] at hs
        cases hs
        refine .inr fun hb=>?_
        obtain ⟨u,hu⟩:=t.obj p hb
        rw [h1] at hu; cases hu
      · rw [List.getElem?_set_ne e] at ho hs; exact .inl ⟨ho,hs⟩⟩
  · by_cases e:i=j
    · subst e
      rw [List.getElem?_set_self hi,List.getElem?_set_self hi']
      exact ⟨p,rfl,I.ext.hh.free h1,h0,o⟩
    · rw [List.getElem?_set_ne e,List.getElem?_set_ne e]
      exact J.slot j
  · by_cases e1:i=j
    · subst e1
      rw [List.getElem?_set_self hi'] at g3
      cases g3
      rw [List.getElem?_set_ne hjk] at g2 g4
      exact fresh k g2 g4
    · by_cases e2:i=k
      · subst e2
        rw [List.getElem?_set_self hi'] at g4
        cases g4
        rw [List.getElem?_set_ne e1] at g1 g3
        exact fresh j g1 g3
      · rw [List.getElem?_set_ne e1] at g1 g3
        rw [List.getElem?_set_ne e2] at g2 g4
        exact I.dist j k a hjk g1 g2 g3 g4
  · obtain ⟨⟨d',g1⟩,g2,g3⟩:=J.lent y hy
    have n:i ≠ y.1:=by
      intro e
      rw [← e,hx] at g1
      exact hn d' (Option.some.inj g1)
    exact ⟨⟨d',by rw [List.getElem?_set_ne n]; exact g1⟩,by rw [List.getElem?_set_ne n]; exact g2,g3⟩
theorem EnvOk.chg {i:Nat} {d d':D} {a:Addr} {u:HO} (I:EnvOk K Λ F0 H0 F H σ δ) (hx:δ[i]?=some (.o d)) (ha:σ[i]?=some (some (.ref a))) (o:Own K F (upd H a u) d' a) :
    EnvOk K Λ F0 H0 F (upd H a u) σ (δ.set i (.o d')):=by
  have hi:i < δ.length:=(List.getElem?_eq_some_iff.mp hx).1
  have z:=I.slot i
  rw [hx] at z
  obtain ⟨a',z1,z2,z3,z4⟩:=z
  rw [ha] at z1; cases z1
  have oth:∀ (k:Nat) (b:Addr),i ≠ k→Sl.own δ[k]?=true→σ[k]?=some (some (.ref b))→b ≠ a:=fun k b hk h1 h2 e=>by
    subst e
    exact I.dist i k b hk (by rw [hx]; rfl) h1 ha h2
  refine ⟨⟨I.ext.ff,fun b w q=>?_,fun b w q=>?_,I.ext.nw⟩,by simp [I.len],fun j=>?_,fun j k b hjk g1 g2 g3 g4=>?_,fun y hy=>?_,I.tabsOf (fun k ll h=>by
      by_cases e:i=k
      · subst e; rw [List.getElem?_set_self hi] at h; cases h
      · rw [List.getElem?_set_ne e] at h; exact ⟨h,rfl⟩) (fun k r bs T g1 g2 t f dj=>by
      have e:i ≠ k:=fun e=>by subst e; rw [hx] at g1; cases g1
      exact ⟨t.at' fun b hb=>zaA fun e'=>dj i a e (by rw [hx]; rfl) ha (e' ▸ hb),fun b hb=>(f b hb).2⟩) fun k j ll r b bs _ _ _ _ ho hs=>.inl (by
      by_cases e:i=j
      · subst e; exact ⟨by rw [hx]; rfl,hs⟩
      · rw [List.getElem?_set_ne e] at ho; exact ⟨ho,hs⟩)⟩
  · rw [zaA (zaI q z2)]; exact I.ext.hh b w q
  · rw [zaA (zaI q z3)]; exact I.ext.fh b w q
  · by_cases e:i=j
    · subst e
      rw [List.getElem?_set_self hi]
      exact ⟨a,ha,z2,z3,o⟩
    · rw [List.getElem?_set_ne e]
      have w:=I.slot j
      cases q:δ[j]? with
      | none=>trivial
      | some y =>
        rw [q] at w
        cases y with
        | no=>trivial
        | v d=>exact w
        | o d =>
          obtain ⟨b,w1,w2,w3,w4⟩:=w
          exact ⟨b,w1,w2,w3,w4.at (zaA (oth j b e (by rw [q]; rfl) w1))⟩
        | l d =>
          obtain ⟨b,w1,w2,w3,w4⟩:=w
          exact ⟨b,w1,w2,w3,w4.at (zaA (oth j b e (by rw [q]; rfl) w1))⟩
        | p ll =>
          obtain ⟨r,bs,t1,t2,t3,t4,t5⟩:=I.tab q
          exact ⟨r,bs,t1,t2.at' fun b hb=>zaA fun e'=>t4 i a e (by rw [hx]; rfl) ha (e' ▸ hb),t3⟩
  · have ow:∀ k:Nat,Sl.own (δ.set i (.o d'))[k]?=true→Sl.own δ[k]?=true:=by
      intro k h
      by_cases e:i=k
      · subst e; rw [hx]; rfl
      · rw [List.getElem?_set_ne e] at h; exact h
    exact I.dist j k b hjk (ow j g1) (ow k g2) g3 g4
  · obtain ⟨⟨d2,g1⟩,g2,g3⟩:=I.lent y hy
    have n:i ≠ y.1:=by
      intro e
      rw [← e,hx] at g1
      cases g1
    exact ⟨⟨d2,by rw [List.getElem?_set_ne n]; exact g1⟩,g2,by rw [zaA (oth y.1 y.2.1 n (by rw [g1]; rfl) g2)]; exact g3⟩
theorem EnvOk.frz {i:Nat} {d:D} (I:EnvOk K Λ F0 H0 F H σ δ) (hx:δ[i]?=some (.o d)):∃ F',Same F F'∧EnvOk K Λ F0 H0 F' H σ (δ.set i (.v d)):=by
  have hi:i < δ.length:=(List.getElem?_eq_some_iff.mp hx).1
  have z:=I.slot i
  rw [hx] at z
  obtain ⟨a,z1,z2,z3,z4⟩:=z
  obtain ⟨u,hu⟩:=z4.obj
  have hs:Same F (upd F a u):=Same.upd z3
  have sl:∀ j:Nat,i ≠ j→Sl.own δ[j]?=true→σ[j]? ≠ some (some (V.ref a)):=fun j hj h e=>I.dist i j a hj (by rw [hx]; rfl) h z1 e
  refine ⟨upd F a u,hs,⟨I.ext.ff.trans hs,I.ext.hh,fun b w q=>?_,fun p o h1 h2=>?_⟩,by simp [I.len],fun j=>?_,fun j k b hjk g1 g2 g3 g4=>?_,fun y hy=>?_,I.tabsOf (fun k ll h=>by
      by_cases e:i=k
      · subst e; rw [List.getElem?_set_self hi] at h; cases h
      · rw [List.getElem?_set_ne e] at h; exact ⟨h,rfl⟩) (fun k r bs T g1 g2 t f dj=>by
      have e:i ≠ k:=fun e=>by subst e; rw [hx] at g1; cases g1
      exact ⟨t.mono hs (.refl _),fun b hb=>by rw [zaA (show b ≠ a from fun e'=>dj i a e (by rw [hx]; rfl) z1 (e' ▸ hb))]; exact (f b hb).2⟩) fun k j ll r b bs _ _ _ _ ho hs=>.inl (by
      by_cases e:i=j
      · subst e; rw [List.getElem?_set_self hi] at ho; cases ho
      · rw [List.getElem?_set_ne e] at ho; exact ⟨ho,hs⟩)⟩
  · by_cases e:b=a
    · subst e; rw [zaR] at q; cases q; exact hu
    · rw [zaA e] at q; exact I.ext.fh _ _ q
  · rw [zaA (zaI h2 z2)]; exact I.ext.nw p o h1 h2
  · by_cases e:i=j
    · subst e
      rw [List.getElem?_set_self hi]
      refine ⟨.ref a,z1,?_⟩
      cases d with
      | lst l =>
        obtain ⟨vs,h2,h3⟩:=z4
        rw [hu] at h2; cases h2
        simp only [Rep]
        exact ⟨a,vs,rfl,.inl zaR,h3.mono hs⟩
      | dct ks l =>
        obtain ⟨vs,h2,h3,h4⟩:=z4
        rw [hu] at h2; cases h2
        simp only [Rep]
        exact ⟨a,vs,rfl,zaR,h3,h4.mono hs⟩
      | obj c ks l =>
        obtain ⟨dx,vs,h2,h3,h4⟩:=z4
        rw [hu] at h2; cases h2
        simp only [Rep]
        exact ⟨a,dx,vs,rfl,zaR,h3,h4.mono hs⟩
      | _=>exact z4.elim
    · rw [List.getElem?_set_ne e]
      have w:=I.slot j
      cases q:δ[j]? with
      | none=>trivial
      | some y =>
        rw [q] at w
        cases y with
        | no=>trivial
        | v d=>obtain ⟨v,w1,w2⟩:=w; exact ⟨v,w1,Rep.mono hs d w2⟩
        | o d =>
          obtain ⟨b,w1,w2,w3,w4⟩:=w
          exact ⟨b,w1,w2,by rw [zaA (show b ≠ a from fun e'=>sl j e (by rw [q]; rfl) (by rw [w1,e']))]; exact w3,w4.mono hs (.refl _)⟩
        | p ll =>
          obtain ⟨r,bs,t1,t2,t3,t4,t5⟩:=I.tab q
          exact ⟨r,bs,t1,t2.mono hs (.refl _),fun b hb=>⟨(t3 b hb).1,by rw [zaA (show b ≠ a from fun e'=>t4 i a e (by rw [hx]; rfl) z1 (e' ▸ hb))]; exact (t3 b hb).2⟩⟩
        | l d =>
          obtain ⟨b,w1,w2,w3,w4⟩:=w
          exact ⟨b,w1,w2,by rw [zaA (show b ≠ a from fun e'=>sl j e (by rw [q]; rfl) (by rw [w1,e']))]; exact w3,w4.mono hs (.refl _)⟩
  · have ow:∀ k:Nat,Sl.own (δ.set i (.v d))[k]?=true→Sl.own δ[k]?=true:=by
      intro k h
      by_cases e:i=k
      · subst e; rw [List.getElem?_set_self hi] at h; cases h
      · rw [List.getElem?_set_ne e] at h; exact h
    exact I.dist j k b hjk (ow j g1) (ow k g2) g3 g4
  · obtain ⟨⟨d2,g1⟩,g2,g3⟩:=I.lent y hy
    have n:i ≠ y.1:=by
      intro e
      rw [← e,hx] at g1
      cases g1
    exact ⟨⟨d2,by rw [List.getElem?_set_ne n]; exact g1⟩,g2,g3⟩
end
end PM
namespace PM
open PySem L2
abbrev XOT:=Xc→Hp→Hp→Value→Option Addr→Prop
def Aft {α:Type} (E:St→XK) (XO:XOT) (σ:St) (F H:Hp) (P:α→Hp→Hp→Prop):R α→Prop
  | .no=>False
  | .ok a=>∀ F' H',Ext F H F' H'→P a F' H'
  | .ex x=>∀ C dct F' H',Ext F H F' H'→XO x F' H' C dct→E σ C dct H'
section
variable {E:St→XK} {XO:XOT} {σ:St} {F H F1 H1:Hp} {α β:Type} {P P':α→Hp→Hp→Prop}
theorem Aft.mono (e:Ext F H F1 H1):∀ {r:R α},Aft E XO σ F H P r→Aft E XO σ F1 H1 P r
  | .no,h=>h
  | .ok _,h=>fun F' H' e'=>h F' H' (e.trans e')
  | .ex _,h=>fun C dct F' H' e' x=>h C dct F' H' (e.trans e') x
theorem Aft.imp (i:∀ a F1 H1,Ext F H F1 H1→P a F1 H1→P' a F1 H1):∀ {r:R α},Aft E XO σ F H P r→Aft E XO σ F H P' r
  | .no,h=>h
  | .ok _,h=>fun F' H' e'=>i _ F' H' e' (h F' H' e')
  | .ex _,h=>h
theorem Aft.bind {P:β→Hp→Hp→Prop} {f:α→R β}:∀ {r:R α},Aft E XO σ F H P (r.bind f)→Aft E XO σ F H (fun a F1 H1=>Aft E XO σ F1 H1 P (f a)) r
  | .no,h=>h
  | .ok _,h=>fun F' H' e'=>Aft.mono e' h
  | .ex _,h=>h
end
inductive Prd (T:D→V→Prop):List D→List V→Prop where
  | nil:Prd T [] []
  | cons {d:D} {v:V} {ds:List D} {vs:List V}:T d v→Prd T ds vs→Prd T (d :: ds) (v :: vs)
section
variable (K:Kx) (XO:XOT) (E:St→XK)
def SE (t:TE) (m:En→R D):Prop:=∀ Λ F0 H0 F H σ δ Q,EnvOk K Λ F0 H0 F H σ δ→Aft E XO σ F H (fun d F' H'=>∀ v,Rep K F' d v→Q v H') (m δ)→t σ H Q
def SEr (t:TE) (m:En→R D):Prop:=∀ Λ F0 H0 F H σ δ Q,EnvOk K Λ F0 H0 F H σ δ→Aft E XO σ F H (fun d F' H'=>∀ v,Top K F' H' d v→Q v H') (m δ)→t σ H Q
def SEo (t:TE) (m:En→R D):Prop:=∀ Λ F0 H0 F H σ δ Q,EnvOk K Λ F0 H0 F H σ δ→Aft E XO σ F H (fun d F' H'=>∀ p,F' p=none→H p=none→Own K F' H' d p→Q (.ref p) H') (m δ)→t σ H Q
def ST (t:TT) (m:En→R Bool):Prop:=∀ Λ F0 H0 F H σ δ Q,EnvOk K Λ F0 H0 F H σ δ→Aft E XO σ F H (fun b _ H'=>Q b H') (m δ)→t σ H Q
def SA (t:TA) (m:En→R (List D)):Prop:=∀ Λ F0 H0 F H σ δ Q,EnvOk K Λ F0 H0 F H σ δ→Aft E XO σ F H (fun ds F' H'=>∀ vs,RepL K F' ds vs→Q vs H') (m δ)→t σ H Q
def SAr (t:TA) (m:En→R (List D)):Prop:=∀ Λ F0 H0 F H σ δ Q,EnvOk K Λ F0 H0 F H σ δ→Aft E XO σ F H (fun ds F' H'=>∀ vs,Prd (Top K F' H') ds vs→Q vs H') (m δ)→t σ H Q
end
section
variable {K:Kx} {XO:XOT} {E:St→XK} {t ta tb te:TE} {m ma mb me:En→R D}
theorem SE.r (h:SE K XO E t m):SEr K XO E t m:=fun Λ F0 H0 F H σ δ Q I a=>h Λ F0 H0 F H σ δ Q I (a.imp fun d F1 H1 e p v r=>p v (r.top e.fh))
theorem SEo.e (h:SEo K XO E t m):SE K XO E t m:=fun Λ F0 H0 F H σ δ Q I a=>h Λ F0 H0 F H σ δ Q I (by
  cases q:m δ with
  | no=>rw [q] at a; exact a
  | ex x=>rw [q] at a; exact a
  | ok d =>
    rw [q] at a
    intro F1 H1 e p h0 h1 o
    obtain ⟨F2,e2,s2,r⟩:=o.freeze e h0 h1
    exact a F2 H1 e2 _ r)
def mVar (i:Nat) (δ:En):R D:=match δ[i]? with | some (.v d)=>.ok d | _=>.no
def mRd (i:Nat) (δ:En):R D:=match δ[i]? with | some (.v d)=>.ok d | some (.o d)=>.ok d | some (.l d)=>.ok d | _=>.no
theorem zaj {i:Nat}:SE K XO E (tVar i) (mVar i):=by
  intro Λ F0 H0 F H σ δ Q I a
  unfold mVar at a
  have z:=I.slot i
  split at a
  · rename_i d q
    rw [q] at z
    obtain ⟨u,h1,h2⟩:=z
    exact ⟨u,h1,a F H (.refl I.same) u h2⟩
  · exact a.elim
theorem zac {i:Nat}:SEr K XO E (tVar i) (mRd i):=by
  intro Λ F0 H0 F H σ δ Q I a
  unfold mRd at a
  have z:=I.slot i
  split at a
  · rename_i d q
    rw [q] at z
    obtain ⟨u,h1,h2⟩:=z
    exact ⟨u,h1,a F H (.refl I.same) u (h2.top I.same)⟩
  · rename_i d q
    rw [q] at z
    obtain ⟨u,h1,_,_,h2⟩:=z
    exact ⟨_,h1,a F H (.refl I.same) _ h2.top⟩
  · rename_i d q
    rw [q] at z
    obtain ⟨u,h1,_,_,h2⟩:=z
    exact ⟨_,h1,a F H (.refl I.same) _ h2.top⟩
  · exact a.elim
def mC (d:D) (_:En):R D:=.ok d
theorem zaf {i:Int}:SE K XO E (tC (.int i)) (mC (.int i)):=fun Λ F0 H0 F H σ δ Q I a=>a F H (.refl I.same) _ (by simp only [Rep])
theorem zg2 {i:Bool}:SE K XO E (tC (.bl i)) (mC (.bl i)):=fun Λ F0 H0 F H σ δ Q I a=>a F H (.refl I.same) _ (by simp only [Rep])
theorem zgl:SE K XO E (tC .non) (mC .non):=fun Λ F0 H0 F H σ δ Q I a=>a F H (.refl I.same) _ (by simp only [Rep])
theorem zcT {i:Str}:SE K XO E (tC (.str i)) (mC (.str i)):=fun Λ F0 H0 F H σ δ Q I a=>a F H (.refl I.same) _ (by simp only [Rep])
def R.of {α:Type}:Option α→R α
  | some a=>.ok a
  | none=>.no
@[simp] theorem R.of_some {α:Type} (a:α):R.of (some a) = .ok a:=rfl
@[simp] theorem R.of_none {α:Type}:R.of (none:Option α) = .no:=rfl
def m2 (f:D→D→Option D) (ma mb:En→R D) (δ:En):R D:=(ma δ).bind fun x=>(mb δ).bind fun y=>R.of (f x y)
def m1 (f:D→Option D) (ma:En→R D) (δ:En):R D:=(ma δ).bind fun x=>R.of (f x)
@[simp] theorem zcg {f:D→D→Option D} {ma mb:En→R D} {δ:En}:m2 f ma mb δ=(ma δ).bind fun x=>(mb δ).bind fun y=>R.of (f x y):=rfl
@[simp] theorem zrC {f:D→Option D} {ma:En→R D} {δ:En}:m1 f ma δ=(ma δ).bind fun x=>R.of (f x):=rfl
variable (K) in
def SR (r:R2) (f:D→D→Option D):Prop:=∀ F H x y dx dy d Q,Same F H→Top K F H dx x→Top K F H dy y→f dx dy=some d→(∀ v F' H',Ext F H F' H'→Rep K F' d v→Q v H')→r x y H Q
variable (K) in
def SRo (r:R2) (f:D→D→Option D):Prop:=∀ F H x y dx dy d Q,Same F H→Top K F H dx x→Top K F H dy y→f dx dy=some d→(∀ p F' H',Ext F H F' H'→F' p=none→H p=none→Own K F' H' d p→Q (.ref p) H')→r x y H Q
theorem zak {r:R2} {f:D→D→Option D} (hr:SR K r f) (ha:SEr K XO E ta ma) (hb:SEr K XO E tb mb):SE K XO E (tOp r ta tb) (m2 f ma mb):=by
  intro Λ F0 H0 F H σ δ Q I a
  refine ha Λ F0 H0 F H σ δ _ I (a.bind.imp fun dx F1 H1 e1 a1 x rx=>?_)
  refine hb Λ F0 H0 F1 H1 σ δ _ (I.grow e1) (a1.bind.imp fun dy F2 H2 e2 a2 y ry=>?_)
  cases q:f dx dy with
  | none=>rw [q] at a2; exact a2.elim
  | some d =>
    rw [q] at a2
    exact hr F2 H2 x y dx dy d Q e2.fh (rx.mono e2.ff e2.hh) ry q fun v F' H' e r=>a2 F' H' e v r
theorem zdF {r:R2} {f:D→D→Option D} (hr:SRo K r f) (ha:SEr K XO E ta ma) (hb:SEr K XO E tb mb):SEo K XO E (tOp r ta tb) (m2 f ma mb):=by
  intro Λ F0 H0 F H σ δ Q I a
  refine ha Λ F0 H0 F H σ δ _ I (a.bind.imp fun dx F1 H1 e1 a1 x rx=>?_)
  refine hb Λ F0 H0 F1 H1 σ δ _ (I.grow e1) (a1.bind.imp fun dy F2 H2 e2 a2 y ry=>?_)
  cases q:f dx dy with
  | none=>rw [q] at a2; exact a2.elim
  | some d =>
    rw [q] at a2
    exact hr F2 H2 x y dx dy d Q e2.fh (rx.mono e2.ff e2.hh) ry q fun p F' H' e h0 h1 o=>a2 F' H' e p h0 (e1.hh.free (e2.hh.free h1)) o
variable (K) in
def SU (r:V→Hp→VK→Prop) (f:D→Option D):Prop:=∀ F H x dx d Q,Same F H→Top K F H dx x→f dx=some d→(∀ v F' H',Ext F H F' H'→Rep K F' d v→Q v H')→r x H Q
theorem zoW {r:V→Hp→VK→Prop} {f:D→Option D} (hr:SU K r f) (ha:SEr K XO E ta ma):SE K XO E (tUn r ta) (m1 f ma):=by
  intro Λ F0 H0 F H σ δ Q I a
  refine ha Λ F0 H0 F H σ δ _ I (a.bind.imp fun dx F1 H1 e1 a1 x rx=>?_)
  cases q:f dx with
  | none=>rw [q] at a1; exact a1.elim
  | some d =>
    rw [q] at a1
    exact hr F1 H1 x dx d Q e1.fh rx q fun v F' H' e r=>a1 F' H' e v r
def mNil (_:En):R (List D):=.ok []
def zaa (ma:En→R D) (mr:En→R (List D)) (δ:En):R (List D):=(ma δ).bind fun x=>(mr δ).bind fun l=>.ok (x :: l)
theorem zas:SA K XO E tNil mNil:=fun Λ F0 H0 F H σ δ Q I a=>a F H (.refl I.same) _ .nil
theorem zad {tr:TA} {mr:En→R (List D)} (ha:SE K XO E ta ma) (hr:SA K XO E tr mr):SA K XO E (zeU ta tr) (zaa ma mr):=by
  intro Λ F0 H0 F H σ δ Q I a
  refine ha Λ F0 H0 F H σ δ _ I (a.bind.imp fun dx F1 H1 e1 a1 x rx=>?_)
  refine hr Λ F0 H0 F1 H1 σ δ _ (I.grow e1) (a1.bind.imp fun dy F2 H2 e2 a2 y ry=>?_)
  exact a2 F2 H2 (.refl e2.fh) _ (.cons (Rep.mono e2.ff _ rx) ry)
theorem zaB:SAr K XO E tNil mNil:=fun Λ F0 H0 F H σ δ Q I a=>a F H (.refl I.same) _ .nil
theorem zat {tr:TA} {mr:En→R (List D)} (ha:SEr K XO E ta ma) (hr:SAr K XO E tr mr):SAr K XO E (zeU ta tr) (zaa ma mr):=by
  intro Λ F0 H0 F H σ δ Q I a
  refine ha Λ F0 H0 F H σ δ _ I (a.bind.imp fun dx F1 H1 e1 a1 x rx=>?_)
  refine hr Λ F0 H0 F1 H1 σ δ _ (I.grow e1) (a1.bind.imp fun dy F2 H2 e2 a2 y ry=>?_)
  exact a2 F2 H2 (.refl e2.fh) _ (.cons (rx.mono e2.ff e2.hh) ry)
def mTup (ml:En→R (List D)) (δ:En):R D:=(ml δ).bind fun l=>ifC (l.length ≤ sizeLine) (.ok (.tup l)) .no
def mLst (ml:En→R (List D)) (δ:En):R D:=(ml δ).bind fun l=>ifC (l.length ≤ sizeLine) (.ok (.lst l)) .no
theorem zcF {tl:TA} {ml:En→R (List D)} (h:SA K XO E tl ml):SE K XO E (tTup tl) (mTup ml):=by
  intro Λ F0 H0 F H σ δ Q I a
  refine h Λ F0 H0 F H σ δ _ I (a.bind.imp fun ds F1 H1 e1 a1 vs r=>?_)
  unfold ifC at a1
  split at a1
  · rename_i hl
    refine ⟨by rw [r.length]; exact hl,fun p hp=>a1 _ _ (.new e1.fh hp) _ ?_⟩
    simp only [Rep]
    exact ⟨p,vs,rfl,zaR,r.mono (Same.upd (e1.fh.free hp))⟩
  · exact a1.elim
theorem zbF {tl:TA} {ml:En→R (List D)} (h:SA K XO E tl ml):SEo K XO E (tLst tl) (mLst ml):=by
  intro Λ F0 H0 F H σ δ Q I a
  refine h Λ F0 H0 F H σ δ _ I (a.bind.imp fun ds F1 H1 e1 a1 vs r=>?_)
  unfold ifC at a1
  split at a1
  · rename_i hl
    refine ⟨by rw [r.length]; exact hl,fun p hp=>a1 _ _ (.newO e1.fh hp) _ (e1.fh.free hp) (e1.hh.free hp) ⟨vs,zaR,r⟩⟩
  · exact a1.elim
theorem zg8:SEo K XO E zom (mC (.dct [] [])):=fun Λ F0 H0 F H σ δ Q I a p hp=>a F _ (.newO I.same hp) p (I.same.free hp) hp ⟨[],zaR,rfl,.nil⟩
def asB:D→Option Bool
  | .bl b=>some b
  | _=>none
def zan (me:En→R D) (δ:En):R Bool:=(me δ).bind fun d=>R.of (asB d)
theorem zay (h:SE K XO E te me):ST K XO E (zqS te) (zan me):=by
  intro Λ F0 H0 F H σ δ Q I a
  refine h Λ F0 H0 F H σ δ _ I (a.bind.imp fun d F1 H1 e1 a1 v r=>?_)
  cases d with
  | bl b=>simp only [Rep] at r; exact ⟨b,r,a1 F1 H1 (.refl e1.fh)⟩
  | _=>exact a1.elim
theorem st_b (h:SE K XO E te me):ST K XO E (tB te) (zan me):=zay h
variable {tA tB':TT} {nA nB:En→R Bool}
def mAnd (nA nB:En→R Bool) (δ:En):R Bool:=(nA δ).bind fun b=>if b=true then nB δ else .ok false
def mOr (nA nB:En→R Bool) (δ:En):R Bool:=(nA δ).bind fun b=>if b=true then .ok true else nB δ
def mNot (nA:En→R Bool) (δ:En):R Bool:=(nA δ).bind fun b=>.ok (!b)
theorem zk1 (h:ST K XO E tA nA) (h':ST K XO E tB' nB):ST K XO E (tAnd tA tB') (mAnd nA nB):=by
  intro Λ F0 H0 F H σ δ Q I a
  refine h Λ F0 H0 F H σ δ _ I (a.bind.imp fun b F1 H1 e1 a1=>?_)
  cases b with
  | true=>exact h' Λ F0 H0 F1 H1 σ δ _ (I.grow e1) a1
  | false=>exact a1 F1 H1 (.refl e1.fh)
theorem ziK (h:ST K XO E tA nA) (h':ST K XO E tB' nB):ST K XO E (tOr tA tB') (mOr nA nB):=by
  intro Λ F0 H0 F H σ δ Q I a
  refine h Λ F0 H0 F H σ δ _ I (a.bind.imp fun b F1 H1 e1 a1=>?_)
  cases b with
  | false=>exact h' Λ F0 H0 F1 H1 σ δ _ (I.grow e1) a1
  | true=>exact a1 F1 H1 (.refl e1.fh)
theorem zio (h:ST K XO E tA nA):ST K XO E (tNot tA) (mNot nA):=by
  intro Λ F0 H0 F H σ δ Q I a
  exact h Λ F0 H0 F H σ δ _ I (a.bind.imp fun b F1 H1 e1 a1=>a1 F1 H1 (.refl e1.fh))
def ziJ (ma mb:En→R D) (δ:En):R D:=(ma δ).bind fun d=>(R.of (asB d)).bind fun b=>if b=true then mb δ else .ok (.bl false)
theorem znc (h:SE K XO E ta ma) (h':SE K XO E tb mb):SE K XO E (zqo ta tb) (ziJ ma mb):=by
  intro Λ F0 H0 F H σ δ Q I a
  refine h Λ F0 H0 F H σ δ _ I (a.bind.imp fun d F1 H1 e1 a1 v r=>?_)
  cases d with
  | bl b =>
    simp only [Rep] at r
    refine ⟨b,r,?_⟩
    cases b with
    | true=>exact h' Λ F0 H0 F1 H1 σ δ _ (I.grow e1) a1
    | false=>exact a1 F1 H1 (.refl e1.fh) _ (by simp only [Rep])
  | _=>exact a1.elim
def spM (K:Kx) (XO:XOT) (f:List D→R D):Sp:=fun vs H Q E=>∃ F ds,Same F H∧RepL K F ds vs∧Aft (fun _=>E) XO [] F H (fun d F' H'=>∀ v,Rep K F' d v→Q v H') (f ds)
def R.nev {α:Type}:R α→R α
  | .ex _=>.no
  | r=>r
@[simp] theorem R.nev_ok {α:Type} (a:α):(R.ok a).nev = .ok a:=rfl
def zai (f:List D→R D) (ml:En→R (List D)) (δ:En):R D:=(ml δ).bind fun l=>(f l).nev
theorem Aft.any {α:Type} {E E':St→XK} {σ σ':St} {F H:Hp} {P:α→Hp→Hp→Prop} {r:R α} (h:Aft E XO σ F H P r.nev):Aft E' XO σ' F H P r:=by
  cases r with
  | no=>exact h
  | ok a=>exact h
  | ex x=>exact h.elim
theorem zaw {f:List D→R D} {tl:TA} {ml:En→R (List D)} {E':XK} (h:SA K XO E tl ml):SE K XO E (zlF (spM K XO f) [] E' tl) (zai f ml):=by
  intro Λ F0 H0 F H σ δ Q I a
  refine h Λ F0 H0 F H σ δ _ I (a.bind.imp fun ds F1 H1 e1 a1 vs r=>⟨F1,ds,e1.fh,by rw [List.append_nil]; exact r,a1.any⟩)
variable (K) in
def SG (g:TG) (b:D→En→Option En):Prop:=∀ Λ F0 H0 F H σ δ d v δ' Q,EnvOk K Λ F0 H0 F H σ δ→Rep K F d v→b d δ=some δ'→(∀ σ',EnvOk K Λ F0 H0 F H σ' δ'→Q σ' H)→g v σ H Q
variable (K) in
def SGs (g:TGs) (b:List D→En→Option En):Prop:=∀ Λ F0 H0 F H σ δ d v δ' Q,EnvOk K Λ F0 H0 F H σ δ→RepL K F d v→b d δ=some δ'→(∀ σ',EnvOk K Λ F0 H0 F H σ' δ'→Q σ' H)→g v σ H Q
def zao (i:Nat) (d:D) (δ:En):Option En:=match δ[i]? with | none=>none | some (.l _)=>none | some _=>some (δ.set i (.v d))
def zaJ (i:Nat) (d:D) (δ:En):Option En:=match δ[i]? with | some .no=>some (δ.set i (.v d)) | _=>none
def bNil (l:List D) (δ:En):Option En:=match l with | []=>some δ | _=>none
def zaS (b:D→En→Option En) (c:List D→En→Option En) (l:List D) (δ:En):Option En:=match l with | d :: r=>(b d δ).bind (c r) | []=>none
def bTup (n:Nat) (c:List D→En→Option En) (d:D) (δ:En):Option En:=match d with | .tup l=>if l.length=n then c l δ else none | _=>none
theorem zap {i:Nat}:SG K (zjv i) (zao i):=by
  intro Λ F0 H0 F H σ δ d v δ' Q I r e q
  unfold zao at e
  split at e
  · cases e
  · cases e
  · rename_i x h2 h1
    cases e
    exact q _ (I.put ⟨x,h1,fun d' z=>h2 d' (by rw [z])⟩ r)
theorem zaW {i:Nat}:SG K (zjv i) (zaJ i):=by
  intro Λ F0 H0 F H σ δ d v δ' Q I r e q
  unfold zaJ at e
  split at e
  · rename_i h1
    cases e
    exact q _ (I.put ⟨_,h1,fun d' z=>by cases z⟩ r)
  · cases e
theorem zb4:SGs K gNil bNil:=by
  intro Λ F0 H0 F H σ δ d v δ' Q I r e q
  cases d with
  | nil=>simp only [RepL] at r; cases e; exact ⟨r,q _ I⟩
  | cons x l=>cases e
theorem zaP {g:TG} {h:TGs} {b:D→En→Option En} {c:List D→En→Option En} (hg:SG K g b) (hh:SGs K h c):SGs K (znv g h) (zaS b c):=by
  intro Λ F0 H0 F H σ δ d v δ' Q I r e q
  cases d with
  | nil=>cases e
  | cons x l =>
    simp only [RepL] at r
    obtain ⟨u,w,rfl,r1,r2⟩:=r
    change (b x δ).bind (c l)=some δ' at e
    cases z:b x δ with
    | none=>rw [z] at e; cases e
    | some δ1 =>
      rw [z] at e
      exact ⟨u,w,rfl,hg Λ F0 H0 F H σ δ x u δ1 _ I r1 z fun σ1 I1=>hh Λ F0 H0 F H σ1 δ1 l w δ' Q I1 r2 e q⟩
theorem zcL {n:Nat} {h:TGs} {c:List D→En→Option En} (hh:SGs K h c):SG K (gTup K.f n h) (bTup n c):=by
  intro Λ F0 H0 F H σ δ d v δ' Q I r e q
  cases d with
  | tup l =>
    simp only [Rep] at r
    obtain ⟨a,vs,rfl,h1,h2⟩:=r
    simp only [bTup] at e
    split at e
    · rename_i hn
      exact ⟨a,vs,rfl,.inl (.inl (I.same _ _ h1)),by rw [h2.length]; exact hn,hh Λ F0 H0 F H σ δ l vs δ' Q I h2 e q⟩
    · cases e
  | _=>cases e
def Weak (δ δ':En):Prop:=δ.length=δ'.length∧∀ i:Nat,δ[i]?=some .no∨δ[i]?=δ'[i]?
theorem Weak.refl (δ:En):Weak δ δ:=⟨rfl,fun _=>.inr rfl⟩
theorem Weak.trans {a b c:En} (h:Weak a b) (h':Weak b c):Weak a c:=⟨h.1.trans h'.1,fun i=>by
  rcases h.2 i with z | z
  · exact .inl z
  · rcases h'.2 i with y | y
    · exact .inl (z.trans y)
    · exact .inr (z.trans y)⟩
def BW (b:D→En→Option En):Prop:=∀ d δ δ',b d δ=some δ'→Weak δ δ'
def BWs (b:List D→En→Option En):Prop:=∀ d δ δ',b d δ=some δ'→Weak δ δ'
theorem zbc {i:Nat}:BW (zaJ i):=by
  intro d δ δ' e
  unfold zaJ at e
  split at e
  · rename_i h1
    cases e
    refine ⟨by simp,fun j=>?_⟩
    by_cases h:i=j
    · subst h; exact .inl h1
    · exact .inr (by rw [List.getElem?_set_ne h])
  · cases e
theorem zfj:BWs bNil:=by
  intro d δ δ' e
  cases d with
  | nil=>cases e; exact .refl _
  | cons x l=>cases e
theorem zb8 {b:D→En→Option En} {c:List D→En→Option En} (h:BW b) (h':BWs c):BWs (zaS b c):=by
  intro d δ δ' e
  cases d with
  | nil=>cases e
  | cons x l =>
    change (b x δ).bind (c l)=some δ' at e
    cases z:b x δ with
    | none=>rw [z] at e; cases e
    | some δ1=>rw [z] at e; exact (h _ _ _ z).trans (h' _ _ _ e)
theorem zgY {n:Nat} {c:List D→En→Option En} (h:BWs c):BW (bTup n c):=by
  intro d δ δ' e
  cases d with
  | tup l =>
    simp only [bTup] at e
    split at e
    · exact h _ _ _ e
    · cases e
  | _=>cases e
variable (K) in
def IsIt (J:It) (P:Hp→Hp→Prop) (ds:List D):Prop:=∀ F2 H2,P F2 H2→∀ i:Nat,(∀ d,ds[i]?=some d→J.go i H2∧∀ x H',J.yld i H2 x H'→∃ F3,Ext F2 H2 F3 H'∧Rep K F3 d x)∧(ds[i]?=none→J.stop i H2)
variable (K XO E) in
def SI (wi:TI) (m:En→R (List D)):Prop:=∀ Λ F0 H0 F H σ δ R,EnvOk K Λ F0 H0 F H σ δ→Aft E XO σ F H (fun ds F1 H1=>∀ J,IsIt K J (fun F2 H2=>Same F1 F2∧Same F2 H2) ds→R J H1) (m δ)→wi σ H R
variable (K XO E) in
def SIc (wi:TI) (m:En→R (List D)):Prop:=∀ Λ F0 H0 F H σ δ R,EnvOk K Λ F0 H0 F H σ δ→Aft E XO σ F H (fun ds F1 H1=>∀ J,IsIt K J (fun F2 H2=>Ext F1 H1 F2 H2) ds→R J H1) (m δ)→wi σ H R
theorem SI.c {wi:TI} {m:En→R (List D)} (h:SI K XO E wi m):SIc K XO E wi m:=fun Λ F0 H0 F H σ δ R I a=>h Λ F0 H0 F H σ δ R I (a.imp fun ds F1 H1 e p J hJ=>p J fun F2 H2 x=>hJ F2 H2 ⟨x.ff,x.fh⟩)
def asL:D→Option (List D)
  | .lst l=>some l
  | .scr l=>some (l.map .int)
  | _=>none
def mItL (ml:En→R D) (δ:En):R (List D):=(ml δ).bind fun d=>R.of (asL d)
theorem zgn {a:Addr} {ds:List D} {vs:List V} {F1:Hp} {P:Hp→Hp→Prop} (r:RepL K F1 ds vs) (h:∀ F2 H2,P F2 H2→Same F1 F2∧Same F2 H2∧SqL K.f H2 a vs):IsIt K (Itl K.f a) P ds:=by
  intro F2 H2 p i
  obtain ⟨s1,s2,q⟩:=h F2 H2 p
  refine ⟨fun d hd=>?_,fun hn=>?_⟩
  · obtain ⟨v,hv,rv⟩:=r.get hd
    refine ⟨⟨vs,v,q,hv⟩,fun x H' y=>?_⟩
    obtain ⟨rfl,y⟩:=y
    have z:=y vs q
    rw [hv] at z; cases z
    exact ⟨F2,.refl s2,Rep.mono s1 _ rv⟩
  · exact ⟨vs,q,by rw [r.length]; exact List.getElem?_eq_none_iff.mp hn⟩
theorem zcH (h:SE K XO E te me):SI K XO E (zpq K.f te) (mItL me):=by
  intro Λ F0 H0 F H σ δ R I a
  refine h Λ F0 H0 F H σ δ _ I (a.bind.imp fun d F1 H1 e1 a1 v r=>?_)
  cases d with
  | lst l =>
    simp only [Rep] at r
    obtain ⟨a,vs,rfl,h1,h2⟩:=r
    exact ⟨a,rfl,⟨vs,.inl (PM.Same.rd e1.fh h1)⟩,a1 F1 H1 (.refl e1.fh) _ (zgn h2 fun F2 H2 x=>⟨x.1,x.2,.inl (PM.Same.rd x.2 (PM.Same.rd x.1 h1))⟩)⟩
  | scr l =>
    simp only [Rep] at r
    obtain ⟨a,rfl,h1⟩:=r
    exact ⟨a,rfl,⟨_,e1.fh.seq h1⟩,a1 F1 H1 (.refl e1.fh) _ (zgn .ints fun F2 H2 x=>⟨x.1,x.2,x.2.seq (x.1.seq h1)⟩)⟩
  | _=>exact a1.elim
theorem zbw (h:SEr K XO E te me):SIc K XO E (zpq K.f te) (mItL me):=by
  intro Λ F0 H0 F H σ δ R I a
  refine h Λ F0 H0 F H σ δ _ I (a.bind.imp fun d F1 H1 e1 a1 v r=>?_)
  cases d with
  | lst l =>
    obtain ⟨a,vs,rfl,h1,h2⟩:=r
    exact ⟨a,rfl,⟨vs,.inl h1⟩,a1 F1 H1 (.refl e1.fh) _ (zgn h2 fun F2 H2 x=>⟨x.ff,x.fh,.inl (PM.Same.rd x.hh h1)⟩)⟩
  | scr l =>
    simp only [Top,Rep] at r
    obtain ⟨a,rfl,h1⟩:=r
    exact ⟨a,rfl,⟨_,e1.fh.seq h1⟩,a1 F1 H1 (.refl e1.fh) _ (zgn .ints fun F2 H2 x=>⟨x.ff,x.fh,x.fh.seq (x.ff.seq h1)⟩)⟩
  | _=>exact a1.elim
def zgb (lo:Int) (n:Nat):List D:=(List.range n).map fun (k:Nat)=>D.int (lo + (k:Int))
theorem ziv {lo:Int} {n:Nat} {P:Hp→Hp→Prop} (h:∀ F2 H2,P F2 H2→Same F2 H2):IsIt K (Itr lo n) P (zgb lo n):=by
  intro F2 H2 p i
  unfold zgb
  rw [List.getElem?_map]
  have er:(List.range n)[i]?=if i < n then some i else none:=by
    by_cases hi:i < n
    · rw [if_pos hi,List.getElem?_range hi]
    · rw [if_neg hi,List.getElem?_eq_none_iff]; simpa using hi
  rw [er]
  refine ⟨fun d hd=>?_,fun hn=>?_⟩
  · by_cases hi:i < n
    · rw [if_pos hi] at hd
      cases hd
      refine ⟨hi,fun x H' y=>?_⟩
      obtain ⟨rfl,rfl⟩:=y
      exact ⟨F2,.refl (h F2 _ p),by simp only [Rep]⟩
    · rw [if_neg hi] at hd; cases hd
  · by_cases hi:i < n
    · rw [if_pos hi] at hn; cases hn
    · exact Nat.le_of_not_lt hi
def rng (l:List D):Option (List D):=match l with
  | [.int j]=>ifC (-(2 ^ 62) ≤ j∧j < 2 ^ 62) (some (zgb 0 j.toNat)) none
  | [.int i,.int j]=>ifC (-(2 ^ 62) ≤ i∧i < 2 ^ 62∧-(2 ^ 62) ≤ j∧j < 2 ^ 62) (some (zgb i (j - i).toNat)) none
  | _=>none
def mRng (ml:En→R (List D)) (δ:En):R (List D):=(ml δ).bind fun l=>R.of (rng l)
theorem RepL.one {F:Hp} {d:D} {vs:List V} (r:RepL K F [d] vs):∃ v,vs = [v]∧Rep K F d v:=by
  simp only [RepL] at r
  obtain ⟨v,r',rfl,h,rfl⟩:=r
  exact ⟨v,rfl,h⟩
theorem RepL.two {F:Hp} {d e:D} {vs:List V} (r:RepL K F [d,e] vs):∃ v u,vs = [v,u]∧Rep K F d v∧Rep K F e u:=by
  simp only [RepL] at r
  obtain ⟨v,r',rfl,h,v2,r2,rfl,h2,rfl⟩:=r
  exact ⟨v,v2,rfl,h,h2⟩
theorem zcp {tl:TA} {ml:En→R (List D)} (hn:∀ δ l,ml δ = .ok l→l.length=1) (h:SA K XO E tl ml):SI K XO E (zqh tl) (mRng ml):=by
  intro Λ F0 H0 F H σ δ R I a
  unfold mRng at a
  cases hm:ml δ with
  | no=>rw [hm] at a; exact a.elim
  | ex x=>refine h Λ F0 H0 F H σ δ _ I ?_; rw [hm] at a ⊢; exact a
  | ok l =>
    refine h Λ F0 H0 F H σ δ _ I ?_
    rw [hm] at a ⊢
    intro F1 H1 e1 vs r
    have h1:=hn δ l hm
    match l,h1 with
    | [d],_ =>
      obtain ⟨v,rfl,rv⟩:=r.one
      have a1:=Aft.mono e1 a
      cases d with
      | int j =>
        simp only [Rep] at rv
        subst rv
        change Aft E XO σ F1 H1 _ (PM.R.of (ifC (-(2 ^ 62) ≤ j∧j < 2 ^ 62) _ _)) at a1
        by_cases hj : -(2 ^ 62) ≤ j∧j < 2 ^ 62
        · rw [zbE hj] at a1
          exact ⟨j,rfl,hj.1,hj.2,a1 F1 H1 (.refl e1.fh) _ (ziv fun F2 H2 x=>x.2)⟩
        · rw [znh hj] at a1; exact a1.elim
      | _=>exact a1.elim
theorem zhi {tl:TA} {ml:En→R (List D)} (hn:∀ δ l,ml δ = .ok l→l.length=2) (h:SA K XO E tl ml):SI K XO E (zqQ tl) (mRng ml):=by
  intro Λ F0 H0 F H σ δ R I a
  unfold mRng at a
  cases hm:ml δ with
  | no=>rw [hm] at a; exact a.elim
  | ex x=>refine h Λ F0 H0 F H σ δ _ I ?_; rw [hm] at a ⊢; exact a
  | ok l =>
    refine h Λ F0 H0 F H σ δ _ I ?_
    rw [hm] at a ⊢
    intro F1 H1 e1 vs r
    have h1:=hn δ l hm
    match l,h1 with
    | [d,d'],_ =>
      obtain ⟨v,u,rfl,rv,ru⟩:=r.two
      have a1:=Aft.mono e1 a
      cases d with
      | int i =>
        cases d' with
        | int j =>
          simp only [Rep] at rv ru
          subst rv ru
          change Aft E XO σ F1 H1 _ (PM.R.of (ifC (-(2 ^ 62) ≤ i∧i < 2 ^ 62∧-(2 ^ 62) ≤ j∧j < 2 ^ 62) _ _)) at a1
          by_cases hj : -(2 ^ 62) ≤ i∧i < 2 ^ 62∧-(2 ^ 62) ≤ j∧j < 2 ^ 62
          · rw [zbE hj] at a1
            exact ⟨i,j,rfl,hj,a1 F1 H1 (.refl e1.fh) _ (ziv fun F2 H2 x=>x.2)⟩
          · rw [znh hj] at a1; exact a1.elim
        | _=>exact a1.elim
      | _=>exact a1.elim
theorem len1 {ma:En→R D}:∀ δ l,zaa ma mNil δ = .ok l→l.length=1:=by
  intro δ l h
  unfold zaa mNil at h
  cases e:ma δ with
  | ok d=>rw [e] at h; cases h; rfl
  | no=>rw [e] at h; cases h
  | ex x=>rw [e] at h; cases h
theorem len2 {ma mb:En→R D}:∀ δ l,zaa ma (zaa mb mNil) δ = .ok l→l.length=2:=by
  intro δ l h
  unfold zaa mNil at h
  cases e:ma δ with
  | ok d =>
    rw [e] at h
    cases e2:mb δ with
    | ok d=>rw [R.bind_ok,e2] at h; cases h; rfl
    | no=>rw [R.bind_ok,e2] at h; cases h
    | ex x=>rw [R.bind_ok,e2] at h; cases h
  | no=>rw [e] at h; cases h
  | ex x=>rw [e] at h; cases h
def zi9 (l:List D):List D:=l.mapIdx fun i d=>.tup [.int i,d]
theorem zmG {a:Addr} {ds:List D} {vs:List V} {F1:Hp} {P:Hp→Hp→Prop} (r:RepL K F1 ds vs) (h:∀ F2 H2,P F2 H2→Same F1 F2∧Same F2 H2∧SqL K.f H2 a vs):IsIt K (Ite K.f a) P (zi9 ds):=by
  intro F2 H2 p i
  obtain ⟨s1,s2,q⟩:=h F2 H2 p
  unfold zi9
  rw [List.getElem?_mapIdx]
  refine ⟨fun d hd=>?_,fun hn=>?_⟩
  · cases e:ds[i]? with
    | none=>rw [e] at hd; cases hd
    | some x =>
      rw [e] at hd
      cases hd
      obtain ⟨v,hv,rv⟩:=r.get e
      refine ⟨⟨vs,v,q,hv⟩,fun x' H' y=>?_⟩
      obtain ⟨p',y',rfl,hp,rfl,y⟩:=y
      have z:=y vs q
      rw [hv] at z; cases z
      refine ⟨_,.new s2 hp,?_⟩
      simp only [Rep]
      exact ⟨p',_,rfl,zaR,.cons (by simp only [Rep]) (.cons (Rep.mono (s1.trans (Same.upd (s2.free hp))) _ rv) .nil)⟩
  · cases e:ds[i]? with
    | none=>exact ⟨vs,q,by rw [r.length]; exact List.getElem?_eq_none_iff.mp e⟩
    | some x=>rw [e] at hn; cases hn
def asL':D→Option (List D)
  | .lst l=>some l
  | _=>none
def znZ:List D→Option (List D)
  | [d]=>(asL' d).map zi9
  | _=>none
def zi4 (ml:En→R (List D)) (δ:En):R (List D):=(ml δ).bind fun l=>R.of (znZ l)
theorem zlu {l r:List D} (h:znZ l=some r):∃ x,l = [.lst x]∧r=zi9 x:=by
  cases l with
  | nil=>cases h
  | cons d t =>
    cases t with
    | cons _ _=>cases h
    | nil =>
      cases d with
      | lst x=>cases h; exact ⟨x,rfl,rfl⟩
      | _=>cases h
theorem zhA {tl:TA} {ml:En→R (List D)} (h:SA K XO E tl ml):SI K XO E (zqm K.f tl) (zi4 ml):=by
  intro Λ F0 H0 F H σ δ R I a
  refine h Λ F0 H0 F H σ δ _ I (a.bind.imp fun ds F1 H1 e1 a1 vs r=>?_)
  cases q:znZ ds with
  | none=>rw [q] at a1; exact a1.elim
  | some z =>
    rw [q] at a1
    obtain ⟨l,rfl,rfl⟩:=zlu q
    obtain ⟨v,rfl,r'⟩:=RepL.one r
    simp only [Rep] at r'
    obtain ⟨a,vs,rfl,h1,h2⟩:=r'
    exact ⟨a,rfl,⟨vs,.inl (PM.Same.rd e1.fh h1)⟩,a1 F1 H1 (.refl e1.fh) _ (zmG h2 fun F2 H2 x=>⟨x.1,x.2,.inl (PM.Same.rd x.2 (PM.Same.rd x.1 h1))⟩)⟩
end
end PM
namespace PM
open PySem L2
section
variable (K:Kx) (XO:XOT) (E:St→XK)
def AftS (Λ:List (Nat × Addr × HO)) (F0 H0:Hp) (Dn:Ends):O→Prop
  | .no=>False
  | .nx δ=>∀ σ F H,EnvOk K Λ F0 H0 F H σ δ→Dn.nx σ H
  | .bk δ=>∀ σ F H,EnvOk K Λ F0 H0 F H σ δ→Dn.bk σ H
  | .ct δ=>∀ σ F H,EnvOk K Λ F0 H0 F H σ δ→Dn.ct σ H
  | .rt d=>∀ v F H,Ext F0 H0 F H→Rep K F d v→Dn.rt v H
  | .ro d=>∀ p F H,Ext F0 H0 F H→F p=none→H0 p=none→Own K F H d p→Dn.rt (.ref p) H
  | .ex δ x=>∀ σ F H C dct,EnvOk K Λ F0 H0 F H σ δ→XO x F H C dct→E σ C dct H
def SS (t:TS) (m:En→O):Prop:=∀ Λ F0 H0 F H σ δ Dn,EnvOk K Λ F0 H0 F H σ δ→AftS K XO E Λ F0 H0 Dn (m δ)→t Dn σ H
end
def R.toO {α:Type} (r:R α) (δ:En) (f:α→O):O:=match r with | .no=>.no | .ok a=>f a | .ex x=>.ex δ x
@[simp] theorem R.toO_ok {α:Type} (a:α) (δ:En) (f:α→O):(R.ok a).toO δ f=f a:=rfl
@[simp] theorem R.toO_no {α:Type} (δ:En) (f:α→O):(R.no:R α).toO δ f = .no:=rfl
@[simp] theorem R.toO_ex {α:Type} (x:Xc) (δ:En) (f:α→O):(R.ex x:R α).toO δ f = .ex δ x:=rfl
section
variable {K:Kx} {XO:XOT} {E:St→XK} {ta tb te:TE} {ma mb me:En→R D} {t u:TS} {m n:En→O} {Λ:List (Nat × Addr × HO)} {F0 H0 F H F1 H1:Hp} {σ:St} {δ:En} {Dn:Ends}
theorem AftS.of {α:Type} {r:R α} {f:α→O} (I:EnvOk K Λ F0 H0 F H σ δ) (a:AftS K XO E Λ F0 H0 Dn (r.toO δ f)):Aft E XO σ F H (fun a _ _=>AftS K XO E Λ F0 H0 Dn (f a)) r:=by
  cases r with
  | no=>exact a
  | ok b=>exact fun _ _ _=>a
  | ex x=>exact fun C dct F' H' e h=>a σ F' H' C dct (I.grow e) h
theorem AftS.up (e:Ext F0 H0 F1 H1):∀ {o:O},AftS K XO E Λ F0 H0 Dn o→AftS K XO E Λ F1 H0 Dn o
  | .no,h=>h
  | .nx _,h=>fun σ F H I=>h σ F H (I.down e)
  | .bk _,h=>fun σ F H I=>h σ F H (I.down e)
  | .ct _,h=>fun σ F H I=>h σ F H (I.down e)
  | .rt _,h=>fun v F H x=>h v F H (e.base x)
  | .ro _,h=>fun p F H x=>h p F H (e.base x)
  | .ex _ _,h=>fun σ F H C d I=>h σ F H C d (I.down e)
def zaX (δ:En):O:=.nx δ
def mSeq (m n:En→O) (δ:En):O:=match m δ with | .nx δ'=>n δ' | r=>r
theorem zaN:SS K XO E zq4 zaX:=fun Λ F0 H0 F H σ δ Dn I a=>a σ F H I
theorem zaq (h:SS K XO E t m) (h':SS K XO E u n):SS K XO E (tSeq t u) (mSeq m n):=by
  intro Λ F0 H0 F H σ δ Dn I a
  refine h Λ F0 H0 F H σ δ _ I ?_
  unfold mSeq at a
  cases q:m δ with
  | no=>rw [q] at a; exact a
  | nx δ'=>rw [q] at a; exact fun σ' F' H' I'=>h' Λ F0 H0 F' H' σ' δ' Dn I' a
  | rt d=>rw [q] at a; exact a
  | ro d=>rw [q] at a; exact a
  | bk δ'=>rw [q] at a; exact a
  | ct δ'=>rw [q] at a; exact a
  | ex δ' x=>rw [q] at a; exact a
theorem zlf:SS K XO E zow (fun _=>.no):=fun Λ F0 H0 F H σ δ Dn I a=>a
def mRet (me:En→R D) (δ:En):O:=(me δ).toO δ .rt
theorem zaV (h:SE K XO E te me):SS K XO E (tRet te) (mRet me):=by
  intro Λ F0 H0 F H σ δ Dn I a
  exact h Λ F0 H0 F H σ δ _ I ((AftS.of I a).imp fun d F1 H1 e p v r=>p v F1 H1 (I.ext.trans e) r)
def zcP (me:En→R D) (δ:En):O:=(me δ).toO δ .ro
theorem zcu (h:SEo K XO E te me):SS K XO E (tRet te) (zcP me):=by
  intro Λ F0 H0 F H σ δ Dn I a
  exact h Λ F0 H0 F H σ δ _ I ((AftS.of I a).imp fun d F1 H1 e p v h0 h1 o=>p v F1 H1 (I.ext.trans e) h0 (I.ext.hh.free h1) o)
def zkH (i:Nat) (δ:En):O:=match δ[i]? with | some (.o d)=>.ro d | _=>.no
theorem zjm {i:Nat}:SS K XO E (tRet (tVar i)) (zkH i):=by
  intro Λ F0 H0 F H σ δ Dn I a
  unfold zkH at a
  split at a
  · rename_i d q
    have z:=I.slot i
    rw [q] at z
    obtain ⟨p,z1,z2,z3,z4⟩:=z
    exact ⟨_,z1,a p F H I.ext z3 z2 z4⟩
  · exact a.elim
def mDo (me:En→R D) (δ:En):O:=(me δ).toO δ fun _=>.nx δ
theorem zo1 (h:SE K XO E te me):SS K XO E (zkD te) (mDo me):=by
  intro Λ F0 H0 F H σ δ Dn I a
  exact h Λ F0 H0 F H σ δ _ I ((AftS.of I a).imp fun d F1 H1 e p v r=>p σ F1 H1 (I.grow e))
def mIfS (n:En→R Bool) (m m':En→O) (δ:En):O:=(n δ).toO δ fun b=>if b=true then m δ else m' δ
theorem zbu {tc:TT} {nc:En→R Bool} (h:ST K XO E tc nc) (ha:SS K XO E t m) (hb:SS K XO E u n):SS K XO E (tIfS tc t u) (mIfS nc m n):=by
  intro Λ F0 H0 F H σ δ Dn I a
  refine h Λ F0 H0 F H σ δ _ I ((AftS.of I a).imp fun b F1 H1 e p=>?_)
  cases b with
  | true=>exact ha Λ F0 H0 F1 H1 σ δ Dn (I.grow e) p
  | false=>exact hb Λ F0 H0 F1 H1 σ δ Dn (I.grow e) p
def O.of:Option En→O
  | some δ=>.nx δ
  | none=>.no
@[simp] theorem O.of_some (δ:En):O.of (some δ) = .nx δ:=rfl
@[simp] theorem O.of_none:O.of none = .no:=rfl
def mAsg (me:En→R D) (b:D→En→Option En) (δ:En):O:=(me δ).toO δ fun d=>O.of (b d δ)
theorem zaQ {g:TG} {b:D→En→Option En} (h:SE K XO E te me) (hg:SG K g b):SS K XO E (tAsg te g) (mAsg me b):=by
  intro Λ F0 H0 F H σ δ Dn I a
  refine h Λ F0 H0 F H σ δ _ I ((AftS.of I a).imp fun d F1 H1 e p v r=>?_)
  cases q:b d δ with
  | none=>rw [q] at p; exact p.elim
  | some δ'=>rw [q] at p; exact hg Λ F0 H0 F1 H1 σ δ d v δ' _ (I.grow e) r q fun σ' I'=>p σ' F1 H1 I'
def bNew (i:Nat) (d:D) (δ:En):Option En:=match δ[i]? with | none=>none | some (.l _)=>none | some _=>some (δ.set i (.o d))
theorem ze3 {i:Nat} (h:SEo K XO E te me):SS K XO E (tAsg te (zjv i)) (mAsg me (bNew i)):=by
  intro Λ F0 H0 F H σ δ Dn I a
  refine h Λ F0 H0 F H σ δ _ I ((AftS.of I a).imp fun d F1 H1 e p v h0 h1 o=>?_)
  unfold bNew at p
  split at p
  · exact p.elim
  · exact p.elim
  · rename_i x h3 h2
    exact p _ F1 H1 (I.putO ⟨x,h2,fun d' z=>h3 d' (by rw [z])⟩ e h0 h1 o)
def mPar (i j:Nat) (ml:En→R (List D)) (δ:En):O:=(ml δ).toO δ fun l=>match l with | [x,y]=>O.of ((zao i x δ).bind (zao j y)) | _=>.no
theorem znb {i j:Nat} {tl:TA} {ml:En→R (List D)} (h:SA K XO E tl ml):SS K XO E (tPar i j tl) (mPar i j ml):=by
  intro Λ F0 H0 F H σ δ Dn I a
  refine h Λ F0 H0 F H σ δ _ I ((AftS.of I a).imp fun l F1 H1 e p vs r=>?_)
  match l,p,r with
  | [],p,_=>exact p.elim
  | [_],p,_=>exact p.elim
  | _ :: _ :: _ :: _,p,_=>exact p.elim
  | [x,y],p,r =>
    obtain ⟨v,w,rfl,r1,r2⟩:=RepL.two r
    refine ⟨v,w,rfl,?_⟩
    cases q:zao i x δ with
    | none=>simp only [q] at p; exact p.elim
    | some δ1 =>
      cases q2:zao j y δ1 with
      | none=>simp only [q,Option.bind_some,q2] at p; exact p.elim
      | some δ2 =>
        simp only [q,Option.bind_some,q2] at p
        exact zap Λ F0 H0 F1 H1 σ δ x v δ1 (fun σ1 H=>Dn.nx (σ1.set j (some w)) H) (I.grow e) r1 q fun σ1 I1 =>
          zap Λ F0 H0 F1 H1 σ1 δ1 y w δ2 Dn.nx I1 r2 q2 fun σ2 I2=>p σ2 F1 H1 I2
def mFrz (i:Nat) (m:En→O) (δ:En):O:=match δ[i]? with | some (.o d)=>m (δ.set i (.v d)) | some (.v _)=>m δ | _=>.no
theorem zoI {i:Nat} (h:SS K XO E t m):SS K XO E t (mFrz i m):=by
  intro Λ F0 H0 F H σ δ Dn I a
  unfold mFrz at a
  split at a
  · rename_i d q
    obtain ⟨F',_,I'⟩:=I.frz q
    exact h Λ F0 H0 F' H σ _ Dn I' a
  · exact h Λ F0 H0 F H σ _ Dn I a
  · exact a.elim
def zcI (b:D→En→Option En) (m:En→O):List D→En→O
  | [],δ=>.nx δ
  | d :: l,δ=>match b d δ with
    | none=>.no
    | some δ1=>match m δ1 with
      | .nx δ2=>zcI b m l δ2
      | .ct δ2=>zcI b m l δ2
      | .bk δ2=>.nx δ2
      | r=>r
def mFor (mi:En→R (List D)) (b:D→En→Option En) (m:En→O) (δ:En):O:=(mi δ).toO δ fun l=>zcI b m l δ
theorem zoY {J:It} {P:Hp→Hp→Prop} {g:TG} {b:D→En→Option En} {ds:List D} (hJ:IsIt K J P ds) (hP:∀ σ δ F H,EnvOk K Λ F0 H0 F H σ δ→P F H) (hg:SG K g b) (hb:SS K XO E t m) (I:EnvOk K Λ F0 H0 F H σ δ)
    (a:AftS K XO E Λ F0 H0 Dn (zcI b m ds δ)):∃ W:Nat→Nat→St→Hp→Prop,(∃ k,W 0 k σ H)∧∀ i k σ H,W i k σ H →
      (J.stop i H∧Dn.nx σ H)∨(J.go i H∧∃ N:St→Hp→Prop,(∀ σ' H',N σ' H'→∃ k',k' < k∧W (i + 1) k' σ' H')∧∀ x H',J.yld i H x H'→g x σ H' fun σ2 H2=>t { Dn with nx:=N,ct:=N,bk:=Dn.nx } σ2 H2):=by
  let W:Nat→Nat→St→Hp→Prop:=fun i k σ H=>∃ F δ,EnvOk K Λ F0 H0 F H σ δ∧k=ds.length - i∧i ≤ ds.length∧AftS K XO E Λ F0 H0 Dn (zcI b m (ds.drop i) δ)
  refine ⟨W,⟨ds.length,F,δ,I,rfl,Nat.zero_le _,a⟩,?_⟩
  rintro i k σ H ⟨F,δ,I,rfl,hi,a⟩
  have hP':=hP σ δ F H I
  by_cases hlt:i < ds.length
  · have e:ds.drop i=ds[i] :: ds.drop (i + 1):=List.drop_eq_getElem_cons hlt
    obtain ⟨h1,h2⟩:=(hJ F H hP' i).1 ds[i] (by simp [hlt])
    refine .inr ⟨h1,W (i + 1) (ds.length - (i + 1)),fun σ' H' w=>⟨_,by omega,w⟩,fun x H' y=>?_⟩
    obtain ⟨F3,e3,r⟩:=h2 x H' y
    rw [e] at a
    unfold zcI at a
    cases q:b ds[i] δ with
    | none=>rw [q] at a; exact a.elim
    | some δ1 =>
      rw [q] at a
      refine hg Λ F0 H0 F3 H' σ δ _ x δ1 _ (I.grow e3) r q fun σ1 I1=>hb Λ F0 H0 F3 H' σ1 δ1 _ I1 ?_
      cases q2:m δ1 with
      | no=>simp only [q2] at a; exact a
      | nx δ2=>simp only [q2] at a; exact fun σ' F' H' I'=>⟨F',δ2,I',rfl,hlt,a⟩
      | ct δ2=>simp only [q2] at a; exact fun σ' F' H' I'=>⟨F',δ2,I',rfl,hlt,a⟩
      | bk δ2=>simp only [q2] at a; exact a
      | rt d=>simp only [q2] at a; exact a
      | ro d=>simp only [q2] at a; exact a
      | ex δ' x=>simp only [q2] at a; exact a
  · have e:i=ds.length:=by omega
    subst e
    rw [List.drop_length] at a
    exact .inl ⟨(hJ F H hP' _).2 (by simp),a σ F H I⟩
theorem zbW {wi:TI} {mi:En→R (List D)} {g:TG} {b:D→En→Option En} (hi:SI K XO E wi mi) (hg:SG K g b) (hb:SS K XO E t m):SS K XO E (tFor wi g t) (mFor mi b m):=by
  intro Λ F0 H0 F H σ δ Dn I a
  refine hi Λ F0 H0 F H σ δ _ I ((AftS.of I a).imp fun ds F1 H1 e p J hJ=>?_)
  have I1:=I.grow e
  exact zoY (F0:=F1) hJ (fun σ δ F H I=>⟨I.ext.ff,I.ext.fh⟩) hg hb I1.up (p.up I1.ext)
def zd7 (c:En→R Bool) (m:En→O):Nat→En→O
  | 0,_=>.no
  | n + 1,δ=>(c δ).toO δ fun b=>if b=true then (match m δ with | .nx δ2=>zd7 c m n δ2 | .ct δ2=>zd7 c m n δ2 | .bk δ2=>.nx δ2 | r=>r) else .nx δ
open Classical in
def zgP (c:En→R Bool) (m:En→O) (δ:En):O:=if h:∃ n,zd7 c m n δ ≠ .no then zd7 c m (choose h) δ else .no
theorem ziP {tc:TT} {nc:En→R Bool} (hc:ST K XO E tc nc) (hb:SS K XO E t m):SS K XO E (zoJ tc t) (zgP nc m):=by
  intro Λ F0 H0 F H σ δ Dn I a
  unfold zgP at a
  split at a
  · rename_i h
    refine ⟨fun k σ H=>∃ F δ,EnvOk K Λ F0 H0 F H σ δ∧AftS K XO E Λ F0 H0 Dn (zd7 nc m k δ),⟨_,F,δ,I,a⟩,?_⟩
    rintro k σ H ⟨F,δ,I,a⟩
    cases k with
    | zero=>exact a.elim
    | succ k =>
      unfold zd7 at a
      refine hc Λ F0 H0 F H σ δ _ I ((AftS.of I a).imp fun b F1 H1 e p=>?_)
      cases b with
      | false=>exact p σ F1 H1 (I.grow e)
      | true =>
        refine ⟨fun σ H=>∃ F δ,EnvOk K Λ F0 H0 F H σ δ∧AftS K XO E Λ F0 H0 Dn (zd7 nc m k δ),fun σ' H' w=>⟨k,Nat.lt_succ_self _,w⟩,hb Λ F0 H0 F1 H1 σ δ _ (I.grow e) ?_⟩
        rw [if_pos rfl] at p
        cases q2:m δ with
        | no=>simp only [q2] at p; exact p
        | nx δ2=>simp only [q2] at p; exact fun σ' F' H' I'=>⟨F',δ2,I',p⟩
        | ct δ2=>simp only [q2] at p; exact fun σ' F' H' I'=>⟨F',δ2,I',p⟩
        | bk δ2=>simp only [q2] at p; exact p
        | rt d=>simp only [q2] at p; exact p
        | ro d=>simp only [q2] at p; exact p
        | ex δ' x=>simp only [q2] at p; exact p
  · exact a.elim
end
end PM
namespace PM
open PySem L2
def asK:D→Option Key
  | .int i=>some (.inl i)
  | .str x=>some (.inr x)
  | _=>none
def getK (ks:List Key) (l:List D) (k:Key):Option D:=match ks,l with
  | a :: r,d :: t=>if a=k then some d else getK r t k
  | _,_=>none
def putL (ks:List Key) (l:List D) (k:Key) (x:D):List D:=match ks,l with
  | a :: r,d :: t=>(if a=k then x else d) :: putL r t k x
  | _,t=>t
def putD (ks:List Key) (l:List D) (k:Key) (x:D):D:=if ks.any (fun a=>decide (a=k))=true then .dct ks (putL ks l k x) else .dct (ks ++ [k]) (l ++ [x])
def zkI (ks:List Key) (l:List D) (k:Key):List D:=match ks,l with
  | a :: r,d :: t=>if a=k then zkI r t k else d :: zkI r t k
  | _,t=>t
def zn7 (ks:List Key) (l:List D) (k:Key):D:=.dct (ks.filter fun a=>decide (a ≠ k)) (zkI ks l k)
section
variable {K:Kx} {F H:Hp}
theorem ziS {d:D} {v:V} {k:Key} (h:asK d=some k) (r:Rep K F d v):v=kV k:=by
  cases d with
  | int i=>cases h; simp only [Rep] at r; exact r
  | str i=>cases h; simp only [Rep] at r; exact r
  | _=>cases h
theorem zm4 {k:Key}:∀ {kvs:List (Key × V)} {ks:List Key} {l:List D},kvs.map (·.1)=ks→RepL K F l (kvs.map (·.2)) →
    (∀ d,getK ks l k=some d→∃ v,valV kvs k=some v∧Rep K F d v)∧(getK ks l k=none→valV kvs k=none)
  | [],ks,l,h1,h2=>by
    subst h1
    refine ⟨fun d h=>?_,fun _=>rfl⟩
    simp [getK] at h
  | (a,v) :: kvs,ks,l,h1,h2=>by
    subst h1
    cases l with
    | nil=>simp [RepL] at h2
    | cons d t =>
      simp only [List.map_cons,RepL] at h2
      obtain ⟨v',r,e,h3,h4⟩:=h2
      cases e
      have ih:=zm4 (k:=k) (kvs:=kvs) rfl h4
      simp only [List.map_cons,getK]
      by_cases hk:a=k
      · rw [if_pos hk]
        refine ⟨fun d' e=>?_,fun e=>by cases e⟩
        cases e
        exact ⟨v,by simp [valV,hk],h3⟩
      · rw [if_neg hk]
        have e:valV ((a,v) :: kvs) k=valV kvs k:=by simp [valV,hk]
        rw [e]
        exact ih
theorem zqv {kvs:List (Key × V)} {ks:List Key} (h:kvs.map (·.1)=ks):kvs.length=ks.length:=by rw [← h,List.length_map]
theorem zlY {k:Key} {x:D} {u:V} (hu:Rep K F x u):∀ {kvs:List (Key × V)} {ks:List Key} {l:List D},kvs.map (·.1)=ks→RepL K F l (kvs.map (·.2)) →
    RepL K F (putL ks l k x) ((kvs.map (fun kv=>if kv.1=k then (kv.1,u) else kv)).map (·.2))
  | [],ks,l,h1,h2=>by
    subst h1
    cases l with
    | nil=>exact .nil
    | cons d t=>simp [RepL] at h2
  | (a,v) :: kvs,ks,l,h1,h2=>by
    subst h1
    cases l with
    | nil=>simp [RepL] at h2
    | cons d t =>
      simp only [List.map_cons,RepL] at h2
      obtain ⟨v',r,e,h3,h4⟩:=h2
      cases e
      have ih:=zlY (k:=k) hu (kvs:=kvs) rfl h4
      simp only [List.map_cons,putL]
      refine .cons ?_ ih
      by_cases hk:a=k
      · rw [if_pos hk,if_pos hk]; exact hu
      · rw [if_neg hk,if_neg hk]; exact h3
theorem zpR {k:Key} {x:D} {u:V} {a:Addr} (hu:Rep K F x u) {kvs:List (Key × V)} {ks:List Key} {l:List D} (h1:kvs.map (·.1)=ks) (h2:RepL K F l (kvs.map (·.2))):Own K F (upd H a (.dK (putK kvs k u))) (putD ks l k x) a:=by
  have e:ks.any (fun a=>decide (a=k))=kvs.any (fun kv=>decide (kv.1=k)):=by rw [← h1,List.any_map]; rfl
  unfold putD putK
  rw [e]
  split
  · refine ⟨_,zaR,?_,zlY hu h1 h2⟩
    rw [← h1,List.map_map]
    refine List.map_congr_left fun kv _=>?_
    simp only [Function.comp]
    split <;> rfl
  · exact ⟨_,zaR,by rw [List.map_append,h1]; rfl,by rw [List.map_append]; exact h2.append (.cons hu .nil)⟩
theorem zkV {k:Key}:∀ {kvs:List (Key × V)} {ks:List Key} {l:List D},kvs.map (·.1)=ks→RepL K F l (kvs.map (·.2))→RepL K F (zkI ks l k) ((zfY kvs k).map (·.2))∧(zfY kvs k).map (·.1)=ks.filter fun a=>decide (a ≠ k)
  | [],ks,l,h1,h2=>by
    subst h1
    cases l with
    | nil=>exact ⟨.nil,rfl⟩
    | cons d t=>simp [RepL] at h2
  | (a,v) :: kvs,ks,l,h1,h2=>by
    subst h1
    cases l with
    | nil=>simp [RepL] at h2
    | cons d t =>
      simp only [List.map_cons,RepL] at h2
      obtain ⟨v',r,e,h3,h4⟩:=h2
      cases e
      obtain ⟨i1,i2⟩:=zkV (k:=k) (kvs:=kvs) rfl h4
      by_cases hk:a=k
      · have e:zfY ((a,v) :: kvs) k=zfY kvs k:=by simp [zfY,hk]
        rw [e]
        simp only [List.map_cons,zkI,if_pos hk]
        refine ⟨i1,?_⟩
        rw [i2,List.filter_cons_of_neg (by simp [hk])]
      · have e:zfY ((a,v) :: kvs) k=(a,v) :: zfY kvs k:=by simp [zfY,hk]
        rw [e]
        simp only [List.map_cons,zkI,if_neg hk]
        refine ⟨.cons h3 i1,?_⟩
        rw [i2,List.filter_cons_of_pos (by simp [hk])]
theorem zpo {k:Key} {a:Addr} {kvs:List (Key × V)} {ks:List Key} {l:List D} (h1:kvs.map (·.1)=ks) (h2:RepL K F l (kvs.map (·.2))):Own K F (upd H a (.dK (zfY kvs k))) (zn7 ks l k) a :=
  let ⟨i1,i2⟩:=zkV (k:=k) h1 h2; ⟨_,zaR,i2,i1⟩
end
section
variable {K:Kx} {XO:XOT} {E:St→XK} {ta tb te ty td:TE} {ma mb me my md:En→R D} {t u:TS} {m n:En→O} {Λ:List (Nat × Addr × HO)} {F0 H0 F H F1 H1:Hp} {σ:St} {δ:En} {Dn:Ends}
theorem EnvOk.own {i:Nat} {d:D} (I:EnvOk K Λ F0 H0 F H σ δ) (hx:δ[i]?=some (.o d)):∃ a,σ[i]?=some (some (.ref a))∧Own K F H d a:=by
  have z:=I.slot i
  rw [hx] at z
  obtain ⟨a,z1,z2,z3,z4⟩:=z
  exact ⟨a,z1,z4⟩
def zdh (i:Nat) (me:En→R D) (δ:En):O:=match δ[i]? with
  | some (.o (.lst l))=>(me δ).toO δ fun d=>ifC (l.length < sizeLine) (.nx (δ.set i (.o (.lst (l ++ [d]))))) .no
  | _=>.no
theorem zfT {i:Nat} (h:SE K XO E te me):SS K XO E (zkD (tBM K.f "list" zhn (tVar i) (zeU te tNil))) (zdh i me):=by
  intro Λ F0 H0 F H σ δ Dn I a
  unfold zdh at a
  split at a
  · rename_i l q
    obtain ⟨p,s1,vs,s2,s3⟩:=I.own q
    refine ⟨_,s1,.inl ⟨rfl,vs,.inl (.inl s2)⟩,?_⟩
    refine h Λ F0 H0 F H σ δ _ I ((AftS.of I a).imp fun d F1 H1 e c v r=>?_)
    unfold ifC at c
    split at c
    · rename_i hl
      refine ⟨p,vs,v,rfl,rfl,e.hh _ _ s2,by rw [s3.length]; exact hl,?_⟩
      exact c σ F1 _ ((I.grow e).chg q s1 ⟨_,zaR,(s3.mono e.ff).append (.cons r .nil)⟩)
    · exact c.elim
  · exact a.elim
def zn9 (i:Nat) (mi me:En→R D) (δ:En):O:=match δ[i]? with
  | some (.o (.lst l))=>(me δ).toO δ fun d=>(mi δ).toO δ fun k=>match k with
    | .int k=>(match ixN l.length k with | some j=>.nx (δ.set i (.o (.lst (l.set j d)))) | none=>.no)
    | _=>.no
  | _=>.no
theorem zoZ {i:Nat} {ti:TE} {mi:En→R D} (hi:SE K XO E ti mi) (h:SE K XO E te me):SS K XO E (tAsg te (gSub (tVar i) ti zmk)) (zn9 i mi me):=by
  intro Λ F0 H0 F H σ δ Dn I a
  unfold zn9 at a
  split at a
  · rename_i l q
    obtain ⟨p,s1,vs,s2,s3⟩:=I.own q
    refine h Λ F0 H0 F H σ δ _ I ((AftS.of I a).imp fun d F1 H1 e c v r=>⟨_,s1,?_⟩)
    refine hi Λ F0 H0 F1 H1 σ δ _ (I.grow e) ((AftS.of (I.grow e) c).imp fun k F2 H2 e2 c2 v2 r2=>?_)
    cases k with
    | int k =>
      simp only [Rep] at r2
      subst r2
      dsimp only at c2
      cases z:ixN l.length k with
      | none=>rw [z] at c2; exact c2.elim
      | some j =>
        rw [z] at c2
        refine ⟨p,vs,k,j,rfl,rfl,e2.hh _ _ (e.hh _ _ s2),by rw [s3.length]; exact z,?_⟩
        exact c2 σ F2 _ (((I.grow e).grow e2).chg q s1 ⟨_,zaR,((s3.mono e.ff).mono e2.ff).set j (Rep.mono e2.ff _ r)⟩)
    | _=>exact c2.elim
  · exact a.elim
def zlA (f:Int→Int→Int) (i:Nat) (mi me:En→R D) (δ:En):O:=match δ[i]? with
  | some (.o (.lst l))=>(mi δ).toO δ fun k=>(match k with
    | .int k=>(match ixN l.length k with
      | some j=>(match l[j]? with
        | some (.int x)=>(me δ).toO δ fun y=>(match y with | .int y=>.nx (δ.set i (.o (.lst (l.set j (.int (f x y)))))) | _=>.no)
        | _=>.no)
      | none=>.no)
    | _=>.no)
  | _=>.no
theorem zmc {f:Int→Int→Int} {i:Nat} {ti:TE} {mi:En→R D} (hi:SE K XO E ti mi) (h:SE K XO E te me):SS K XO E (zp0 (tVar i) ti te (rIxL K.f) (ipI f) zmk) (zlA f i mi me):=by
  intro Λ F0 H0 F H σ δ Dn I a
  unfold zlA at a
  split at a
  · rename_i l q
    obtain ⟨p,s1,vs,s2,s3⟩:=I.own q
    refine ⟨_,s1,?_⟩
    refine hi Λ F0 H0 F H σ δ _ I ((AftS.of I a).imp fun k F1 H1 e c v r=>?_)
    cases k with
    | int k =>
      simp only [Rep] at r
      subst r
      dsimp only at c
      cases z:ixN l.length k with
      | none=>rw [z] at c; exact c.elim
      | some j =>
        rw [z] at c
        dsimp only at c
        cases z2:l[j]? with
        | none=>rw [z2] at c; exact c.elim
        | some d =>
          rw [z2] at c
          cases d with
          | int x =>
            obtain ⟨w,w1,w2⟩:=s3.get z2
            simp only [Rep] at w2
            subst w2
            have h1:=e.hh _ _ s2
            refine ⟨p,vs,k,_,rfl,rfl,.inl (.inl h1),by unfold atI; rw [s3.length,z]; exact w1,?_⟩
            refine h Λ F0 H0 F1 H1 σ δ _ (I.grow e) ((AftS.of (I.grow e) c).imp fun y F2 H2 e2 c2 v2 r2=>?_)
            cases y with
            | int y =>
              simp only [Rep] at r2
              subst r2
              refine ⟨x,y,rfl,rfl,p,vs,k,j,rfl,rfl,e2.hh _ _ h1,by rw [s3.length]; exact z,?_⟩
              exact c2 σ F2 _ (((I.grow e).grow e2).chg q s1 ⟨_,zaR,((s3.mono e.ff).mono e2.ff).set j (by simp only [Rep])⟩)
            | _=>exact c2.elim
          | _=>exact c.elim
    | _=>exact c.elim
  · exact a.elim
def zhr (i:Nat) (mk me:En→R D) (δ:En):O:=match δ[i]? with
  | some (.o (.dct ks l))=>(me δ).toO δ fun d=>(mk δ).toO δ fun k=>match asK k with
    | some k=>ifC (ks.length < sizeLine) (.nx (δ.set i (.o (putD ks l k d)))) .no
    | none=>.no
  | _=>.no
theorem zhu {i:Nat} {tk:TE} {mk:En→R D} (hk:SE K XO E tk mk) (h:SE K XO E te me):SS K XO E (zqM (tVar i) tk te) (zhr i mk me):=by
  intro Λ F0 H0 F H σ δ Dn I a
  unfold zhr at a
  split at a
  · rename_i ks l q
    obtain ⟨p,s1,vs,s2,s0,s3⟩:=I.own q
    refine h Λ F0 H0 F H σ δ _ I ((AftS.of I a).imp fun d F1 H1 e c v r=>⟨_,s1,?_⟩)
    refine hk Λ F0 H0 F1 H1 σ δ _ (I.grow e) ((AftS.of (I.grow e) c).imp fun k F2 H2 e2 c2 v2 r2=>?_)
    cases z:asK k with
    | none=>rw [z] at c2; exact c2.elim
    | some k =>
      rw [z] at c2
      dsimp only at c2
      unfold ifC at c2
      split at c2
      · rename_i hl
        cases ziS z r2
        refine ⟨p,_,rfl,DPut.k (e2.hh _ _ (e.hh _ _ s2)) (by rw [zqv s0]; exact hl),?_⟩
        exact c2 σ F2 _ (((I.grow e).grow e2).chg q s1 (zpR (Rep.mono e2.ff _ r) s0 ((s3.mono e.ff).mono e2.ff)))
      · exact c2.elim
  · exact a.elim
def zlS (i:Nat) (mk:En→R D) (δ:En):O:=match δ[i]? with
  | some (.o (.dct ks l))=>(mk δ).toO δ fun k=>match asK k with
    | some k=>(match getK ks l k with | some _=>.nx (δ.set i (.o (zn7 ks l k))) | none=>.no)
    | none=>.no
  | _=>.no
theorem zoT {i:Nat} {tk:TE} {mk:En→R D} (hk:SE K XO E tk mk):SS K XO E (zkD (zou (tVar i) tk)) (zlS i mk):=by
  intro Λ F0 H0 F H σ δ Dn I a
  unfold zlS at a
  split at a
  · rename_i ks l q
    obtain ⟨p,s1,vs,s2,s0,s3⟩:=I.own q
    refine ⟨_,s1,p,rfl,.inl ⟨vs,.inl s2⟩,?_⟩
    refine hk Λ F0 H0 F H σ δ _ I ((AftS.of I a).imp fun k F2 H2 e c2 v2 r2=>?_)
    cases z:asK k with
    | none=>rw [z] at c2; exact c2.elim
    | some k =>
      rw [z] at c2
      dsimp only at c2
      cases g:getK ks l k with
      | none=>rw [g] at c2; exact c2.elim
      | some d =>
        rw [g] at c2
        obtain ⟨v,g1,g2⟩:=(zm4 (k:=k) s0 s3).1 d g
        refine ⟨vs,k,v,e.hh _ _ s2,ziS z r2,g1,?_⟩
        exact c2 σ F2 _ ((I.grow e).chg q s1 (zpo s0 (s3.mono e.ff)))
  · exact a.elim
def dIn (k d:D):Option D:=match asK k,d with | some k,.dct ks l=>some (.bl (getK ks l k).isSome) | _,_=>none
def zik (k d:D):Option D:=match asK k,d with | some k,.dct ks l=>some (.bl (!(getK ks l k).isSome)) | _,_=>none
theorem zlo {ks:List Key} {l:List D} {x:V} {k:Key} (h:Top K F H (.dct ks l) x):∃ p o,x = .ref p∧DGet H p (kV k) o∧(∀ d,getK ks l k=some d→∃ v,o=some v∧Rep K F d v)∧(getK ks l k=none→o=none):=by
  obtain ⟨a,kvs,rfl,h1,h2,h3⟩:=h
  exact ⟨a,_,rfl,.k h1,zm4 h2 h3⟩
theorem zoi (hy:SE K XO E ty my) (hd:SEr K XO E td md):SE K XO E (tDIn ty td) (m2 dIn my md):=by
  intro Λ F0 H0 F H σ δ Q I a
  refine hy Λ F0 H0 F H σ δ _ I (a.bind.imp fun dk F1 H1 e1 a1 y ry=>?_)
  refine hd Λ F0 H0 F1 H1 σ δ _ (I.grow e1) (a1.bind.imp fun dd F2 H2 e2 a2 x rx=>?_)
  unfold dIn at a2
  cases z:asK dk with
  | none=>rw [z] at a2; exact a2.elim
  | some k =>
    rw [z] at a2
    cases dd with
    | dct ks l =>
      obtain ⟨p,o,rfl,g,g1,g2⟩:=zlo (k:=k) rx
      cases ziS z ry
      refine ⟨p,o,rfl,g,a2 F2 H2 (.refl e2.fh) _ ?_⟩
      cases q:getK ks l k with
      | none=>rw [g2 q]; simp only [Rep]; rfl
      | some d=>obtain ⟨v,rfl,_⟩:=g1 d q; simp only [Rep]; rfl
    | _=>exact a2.elim
theorem zjN (hy:SE K XO E ty my) (hd:SEr K XO E td md):SE K XO E (zlX ty td) (m2 zik my md):=by
  intro Λ F0 H0 F H σ δ Q I a
  refine hy Λ F0 H0 F H σ δ _ I (a.bind.imp fun dk F1 H1 e1 a1 y ry=>?_)
  refine hd Λ F0 H0 F1 H1 σ δ _ (I.grow e1) (a1.bind.imp fun dd F2 H2 e2 a2 x rx=>?_)
  unfold zik at a2
  cases z:asK dk with
  | none=>rw [z] at a2; exact a2.elim
  | some k =>
    rw [z] at a2
    cases dd with
    | dct ks l =>
      obtain ⟨p,o,rfl,g,g1,g2⟩:=zlo (k:=k) rx
      cases ziS z ry
      refine ⟨p,o,rfl,g,a2 F2 H2 (.refl e2.fh) _ ?_⟩
      cases q:getK ks l k with
      | none=>rw [g2 q]; simp only [Rep]; rfl
      | some d=>obtain ⟨v,rfl,_⟩:=g1 d q; simp only [Rep]; rfl
    | _=>exact a2.elim
def i2 (f:Int→Int→D) (x y:D):Option D:=match x,y with | .int i,.int j=>some (f i j) | _,_=>none
def i2c (C:Int→Int→Prop) (f:Int→Int→D) (x y:D):Option D:=match x,y with | .int i,.int j=>ifC (C i j) (some (f i j)) none | _,_=>none
theorem zlM {g:Int→Int→V} {f:Int→Int→D} (h:∀ i j F,Rep K F (f i j) (g i j)):SR K (rI0 g) (i2 f):=by
  intro F H x y dx dy d Q s hx hy e q
  cases dx with
  | int i =>
    cases dy with
    | int j =>
      cases e
      simp only [Top,Rep] at hx hy
      exact ⟨i,j,hx,hy,q _ F H (.refl s) (h i j F)⟩
    | _=>cases e
  | _=>cases e
theorem zkS {C:Int→Int→Prop} {g:Int→Int→V} {f:Int→Int→D} (h:∀ i j F,Rep K F (f i j) (g i j)):SR K (rI C g) (i2c C f):=by
  intro F H x y dx dy d Q s hx hy e q
  cases dx with
  | int i =>
    cases dy with
    | int j =>
      simp only [Top,Rep] at hx hy
      simp only [i2c] at e
      unfold ifC at e
      split at e
      · rename_i hc
        cases e
        exact ⟨i,j,hx,hy,hc,q _ F H (.refl s) (h i j F)⟩
      · cases e
    | _=>cases e
  | _=>cases e
def oAdd:D→D→Option D:=i2 fun i j=>.int (i + j)
def oSub:D→D→Option D:=i2 fun i j=>.int (i - j)
def oMul:D→D→Option D:=i2c (fun i j=>Fit i∧Fit j) fun i j=>.int (i * j)
def oDiv:D→D→Option D:=i2c (fun _ j=>j ≠ 0∧Fit j) fun i j=>.int (i.fdiv j)
def oMod:D→D→Option D:=i2c (fun _ j=>0 < j) fun i j=>.int (i % j)
def oPow:D→D→Option D:=i2c CPow fun i j=>.int (i ^ j.toNat)
def oLt:D→D→Option D:=i2 fun i j=>.bl (decide (i < j))
def oLe:D→D→Option D:=i2 fun i j=>.bl (decide (i ≤ j))
def oGt:D→D→Option D:=i2 fun i j=>.bl (decide (j < i))
def oGe:D→D→Option D:=i2 fun i j=>.bl (decide (j ≤ i))
theorem zbO:SR K (rI0 fun i j=>.int (i + j)) oAdd:=zlM fun _ _ _=>by simp only [Rep]
theorem zgp:SR K (rI0 fun i j=>.int (i - j)) oSub:=zlM fun _ _ _=>by simp only [Rep]
theorem zb0:SR K (rI (fun i j=>Fit i∧Fit j) fun i j=>.int (i * j)) oMul:=zkS fun _ _ _=>by simp only [Rep]
theorem zbL:SR K (rI (fun _ j=>j ≠ 0∧Fit j) fun i j=>.int (i.fdiv j)) oDiv:=zkS fun _ _ _=>by simp only [Rep]
theorem za3:SR K (rI (fun _ j=>0 < j) fun i j=>.int (i % j)) oMod:=zkS fun _ _ _=>by simp only [Rep]
theorem zmX:SR K (rI CPow fun i j=>.int (i ^ j.toNat)) oPow:=zkS fun _ _ _=>by simp only [Rep]
theorem zhJ:SR K (rI0 fun i j=>.bl (decide (i < j))) oLt:=zlM fun _ _ _=>by simp only [Rep]
theorem zrl:SR K (rI0 fun i j=>.bl (decide (i ≤ j))) oLe:=zlM fun _ _ _=>by simp only [Rep]
theorem zfn:SR K (rI0 fun i j=>.bl (decide (j < i))) oGt:=zlM fun _ _ _=>by simp only [Rep]
theorem zrm:SR K (rI0 fun i j=>.bl (decide (j ≤ i))) oGe:=zlM fun _ _ _=>by simp only [Rep]
def oNeg:D→Option D
  | .int i=>some (.int (-i))
  | _=>none
theorem zml:SU K (rU fun i=>.int (-i)) oNeg:=by
  intro F H x dx d Q s hx e q
  cases dx with
  | int i=>cases e; simp only [Top,Rep] at hx; exact ⟨i,hx,q _ F H (.refl s) (by simp only [Rep])⟩
  | _=>cases e
def fl:D→Option V
  | .non=>some .non
  | .bl b=>some (.bl b)
  | .int i=>some (.int i)
  | .str x=>some (.str x)
  | _=>none
theorem zlg {d:D} {v x:V} (h:fl d=some v) (r:Top K F H d x):x=v:=by
  cases d with
  | non=>cases h; simpa only [Top,Rep] using r
  | bl _=>cases h; simpa only [Top,Rep] using r
  | int _=>cases h; simpa only [Top,Rep] using r
  | str _=>cases h; simpa only [Top,Rep] using r
  | _=>cases h
def oEq (x y:D):Option D:=match fl x,fl y with | some a,some b=>if scal a b=true then some (.bl (decide (a=b))) else none | _,_=>none
def oNe (x y:D):Option D:=match fl x,fl y with | some a,some b=>if scal a b=true then some (.bl (!decide (a=b))) else none | _,_=>none
theorem zdL:SR K rEq oEq:=by
  intro F H x y dx dy d Q s hx hy e q
  unfold oEq at e
  split at e
  · rename_i a b h1 h2
    split at e
    · rename_i hs
      cases e
      cases zlg h1 hx; cases zlg h2 hy
      exact ⟨hs,q _ F H (.refl s) (by simp only [Rep])⟩
    · cases e
  · cases e
theorem znV:SR K rNe oNe:=by
  intro F H x y dx dy d Q s hx hy e q
  unfold oNe at e
  split at e
  · rename_i a b h1 h2
    split at e
    · rename_i hs
      cases e
      cases zlg h1 hx; cases zlg h2 hy
      exact ⟨hs,q _ F H (.refl s) (by simp only [Rep])⟩
    · cases e
  · cases e
def isN:D→Bool
  | .non=>true
  | _=>false
theorem zoV {d:D} {x:V} (r:Top K F H d x):decide (x = .non)=isN d:=by
  cases d with
  | non=>simp only [Top,Rep] at r; subst r; rfl
  | bl _=>simp only [Top,Rep] at r; subst r; rfl
  | int _=>simp only [Top,Rep] at r; subst r; rfl
  | str _=>simp only [Top,Rep] at r; subst r; rfl
  | tup _=>simp only [Top,Rep] at r; obtain ⟨a,_,rfl,_⟩:=r; rfl
  | lst _=>obtain ⟨a,_,rfl,_⟩:=r; rfl
  | dct _ _=>obtain ⟨a,_,rfl,_⟩:=r; rfl
  | scr _=>simp only [Top,Rep] at r; obtain ⟨a,rfl,_⟩:=r; rfl
  | exc _=>simp only [Top,Rep] at r; obtain ⟨a,_,rfl,_⟩:=r; rfl
  | fd _ _=>simp only [Top,Rep] at r; obtain ⟨a,_,_,rfl,_⟩:=r; rfl
  | obj _ _ _=>simp only [Top,Rep] at r; obtain ⟨a,_,_,rfl,_⟩:=r; rfl
def oIs (x y:D):Option D:=match y with | .non=>some (.bl (isN x)) | _=>none
theorem zpF:SR K (fun x y H Q=>y = .non∧Q (.bl (decide (x = .non))) H) oIs:=by
  intro F H x y dx dy d Q s hx hy e q
  cases dy with
  | non=>cases e; simp only [Top,Rep] at hy; exact ⟨hy,q _ F H (.refl s) (by simp only [Rep]; rw [zoV hx])⟩
  | _=>cases e
def oIxL (x y:D):Option D:=match x,y with | .lst l,.int i=>atI l i | .scr l,.int i=>(atI l i).map .int | _,_=>none
def oIxT (x y:D):Option D:=match x,y with | .tup l,.int i=>atI l i | _,_=>none
theorem zkx {l:List D} {vs:List V} {i:Int} {d:D} (r:RepL K F l vs) (h:atI l i=some d):∃ v,atI vs i=some v∧Rep K F d v:=by
  unfold atI at h ⊢
  rw [r.length]
  cases q:ixN l.length i with
  | none=>rw [q] at h; cases h
  | some j=>rw [q] at h; exact r.get h
theorem zch:SR K (rIxL K.f) oIxL:=by
  intro F H x y dx dy d Q s hx hy e q
  cases dx with
  | lst l =>
    cases dy with
    | int i =>
      obtain ⟨a,vs,rfl,h1,h2⟩:=hx
      simp only [Top,Rep] at hy
      obtain ⟨v,g1,g2⟩:=zkx h2 e
      exact ⟨a,vs,i,v,rfl,hy,.inl h1,g1,q _ F H (.refl s) g2⟩
    | _=>cases e
  | scr l =>
    cases dy with
    | int i =>
      simp only [Top,Rep] at hx hy
      obtain ⟨a,rfl,h1⟩:=hx
      simp only [oIxL] at e
      cases z:atI l i with
      | none=>rw [z] at e; cases e
      | some n =>
        rw [z] at e; cases e
        obtain ⟨v,g1,g2⟩:=zkx (F:=F) (K:=K) (l:=l.map .int) (vs:=l.map V.int) (i:=i) (d:=.int n) .ints (by
          unfold atI at z ⊢
          rw [List.length_map]
          cases q:ixN l.length i with
          | none=>rw [q] at z; cases z
          | some j =>
            rw [q] at z
            change l[j]?=some n at z
            show (l.map D.int)[j]?=_
            rw [List.getElem?_map,z]; rfl)
        exact ⟨a,_,i,v,rfl,hy,s.seq h1,g1,q _ F H (.refl s) g2⟩
    | _=>cases e
  | _=>cases e
theorem zbe:SR K (rIxT K.f) oIxT:=by
  intro F H x y dx dy d Q s hx hy e q
  cases dx with
  | tup l =>
    cases dy with
    | int i =>
      simp only [Top,Rep] at hx hy
      obtain ⟨a,vs,rfl,h1,h2⟩:=hx
      obtain ⟨v,g1,g2⟩:=zkx h2 e
      exact ⟨a,vs,i,v,rfl,hy,.inl (.inl (s _ _ h1)),g1,q _ F H (.refl s) g2⟩
    | _=>cases e
  | _=>cases e
end
end PM
namespace PM
open PySem L2
section
variable {K:Kx} {XO:XOT} {E:St→XK} {ta tb te ty td:TE} {ma mb me my md:En→R D} {t u:TS} {m n:En→O} {Λ:List (Nat × Addr × HO)} {F0 H0 F H F1 H1:Hp} {σ:St} {δ:En} {Dn:Ends}
abbrev EN:St→XK:=fun _ _ _ _=>False
def zkk:Sl→Sl
  | .o d=>.l d
  | .p _=>.no
  | s=>s
def za1 (δ:En) (ix:List Nat) (n:Nat):En:=ix.map (fun i=>zkk (δ[i]?.getD .no)) ++ List.replicate n .no
def zdu (f:D→R (Option D)):List D→R (List D)
  | []=>.ok []
  | d :: l=>(f d).bind fun o=>(zdu f l).bind fun r=>.ok (o.toList ++ r)
def zcc (b:D→En→Option En) (nc:Option (En→R Bool)) (me:En→R D) (δ:En) (d:D):R (Option D):=match b d δ with
  | none=>.no
  | some δ1=>(match nc with
    | none=>(me δ1).nev.bind fun x=>.ok (some x)
    | some c=>(c δ1).nev.bind fun k=>if k=true then (me δ1).nev.bind fun x=>.ok (some x) else .ok none)
def zcM (mi:En→R (List D)) (ix:List Nat) (n:Nat) (b:D→En→Option En) (nc:Option (En→R Bool)) (me:En→R D) (δ:En):R D :=
  (mi δ).bind fun ds=>ifC (ds.length ≤ sizeLine) ((zdu (zcc b nc me (za1 δ ix n)) ds).nev.bind fun l=>.ok (.lst l)) .no
theorem zm3 {ix:List Nat} {n:Nat} (I:EnvOk K Λ F0 H0 F H σ δ) (hix:ix.Nodup) :
    ∃ Λc,EnvOk K Λc F0 H0 F H (zdX σ ix n) (za1 δ ix n)∧(∀ i:Nat,Sl.own (za1 δ ix n)[i]?=true→∃ x ∈ Λc,x.1=i)∧∀ x ∈ Λc,∃ o,H x.2.1=some o:=by
  have gd:∀ j:Nat,j < ix.length→(za1 δ ix n)[j]?=some (zkk (δ[ix.getD j 0]?.getD .no)):=fun j hj=>by
    unfold za1
    rw [List.getElem?_append_left (by simpa using hj),List.getElem?_map,List.getElem?_eq_getElem hj]
    simp [List.getD_eq_getElem?_getD,List.getElem?_eq_getElem hj]
  have gs:∀ j:Nat,j < ix.length→(zdX σ ix n)[j]?=some ((σ[ix.getD j 0]?).getD none):=fun j hj=>by
    unfold zdX
    rw [List.getElem?_append_left (by simpa using hj),List.getElem?_map,List.getElem?_eq_getElem hj]
    simp [List.getD_eq_getElem?_getD,List.getElem?_eq_getElem hj]
  have gn:∀ j:Nat,¬ j < ix.length→(za1 δ ix n)[j]?=some .no∨(za1 δ ix n)[j]?=none:=fun j hj=>by
    unfold za1
    rw [List.getElem?_append_right (by simpa using hj),List.getElem?_replicate]
    split
    · exact .inl rfl
    · exact .inr rfl
  have own:∀ j:Nat,Sl.own (za1 δ ix n)[j]?=true→j < ix.length∧∃ d a o,δ[ix.getD j 0]?=some d∧Sl.own (some d)=true∧(za1 δ ix n)[j]?=some (zkk d)∧(∃ e,zkk d = .l e)∧σ[ix.getD j 0]?=some (some (.ref a))∧(zdX σ ix n)[j]?=some (some (.ref a))∧H a=some o∧H0 a=none∧F a=none:=fun j h=>by
    by_cases hj:j < ix.length
    · refine ⟨hj,?_⟩
      rw [gd j hj] at h
      have z:=I.slot (ix.getD j 0)
      cases q:δ[ix.getD j 0]? with
      | none=>rw [q] at h; cases h
      | some s =>
        rw [q] at h z
        cases s with
        | no=>cases h
        | v d=>cases h
        | o d =>
          obtain ⟨a,z1,z2,z3,z4⟩:=z
          obtain ⟨o,ho⟩:=z4.obj
          exact ⟨_,a,o,rfl,rfl,by rw [gd j hj,q]; rfl,⟨d,rfl⟩,z1,by rw [gs j hj,z1]; rfl,ho,z2,z3⟩
        | l d =>
          obtain ⟨a,z1,z2,z3,z4⟩:=z
          obtain ⟨o,ho⟩:=z4.obj
          exact ⟨_,a,o,rfl,rfl,by rw [gd j hj,q]; rfl,⟨d,rfl⟩,z1,by rw [gs j hj,z1]; rfl,ho,z2,z3⟩
        | p ll=>cases h
    · rcases gn j hj with z | z <;> (rw [z] at h; cases h)
  let Λc:List (Nat × Addr × HO):=(List.range ix.length).filterMap fun (j:Nat)=>match (zdX σ ix n)[j]? with
    | some (some (V.ref a))=>if Sl.own (za1 δ ix n)[j]?=true then (H a).map fun o=>(j,a,o) else none
    | _=>none
  have mem:∀ x ∈ Λc,(zdX σ ix n)[x.1]?=some (some (.ref x.2.1))∧Sl.own (za1 δ ix n)[x.1]?=true∧H x.2.1=some x.2.2:=fun x hx=>by
    obtain ⟨j,_,h⟩:=List.mem_filterMap.mp hx
    split at h
    · rename_i a q
      split at h
      · rename_i ow
        cases q2:H a with
        | none=>rw [q2] at h; cases h
        | some o=>rw [q2] at h; cases h; exact ⟨q,ow,q2⟩
      · cases h
    · cases h
  have zkf:∀ (j:Nat) (ll:Tr),(za1 δ ix n)[j]? ≠ some (.p ll):=fun j ll h=>by
    by_cases hj:j < ix.length
    · rw [gd j hj] at h
      cases q:δ[ix.getD j 0]? with
      | none=>rw [q] at h; cases h
      | some s=>rw [q] at h; cases s <;> cases h
    · rcases gn j hj with z | z <;> (rw [z] at h; cases h)
  refine ⟨Λc,⟨I.ext,?_,fun j=>?_,fun i j a hij h1 h2 h3 h4=>?_,fun x hx=>?_,fun j ll h=>absurd h (zkf j ll)⟩,fun j h=>?_,fun x hx=>⟨_,(mem x hx).2.2⟩⟩
  · unfold zdX za1
    simp
  · by_cases hj:j < ix.length
    · rw [gd j hj,gs j hj]
      have z:=I.slot (ix.getD j 0)
      cases q:δ[ix.getD j 0]? with
      | none=>trivial
      | some s =>
        rw [q] at z
        cases s with
        | no=>trivial
        | v d=>obtain ⟨u,z1,z2⟩:=z; exact ⟨u,by rw [z1]; rfl,z2⟩
        | o d=>obtain ⟨a,z1,z2⟩:=z; exact ⟨a,by rw [z1]; rfl,z2⟩
        | l d=>obtain ⟨a,z1,z2⟩:=z; exact ⟨a,by rw [z1]; rfl,z2⟩
        | p ll=>trivial
    · rcases gn j hj with z | z <;> (rw [z]; trivial)
  · obtain ⟨i1,d1,a1,o1,i2,i3,i4,i5,i6,i7,i8⟩:=own i h1
    obtain ⟨j1,d2,a2,o2,j2,j3,j4,j5,j6,j7,j8⟩:=own j h2
    rw [i7] at h3; cases h3
    rw [j7] at h4; cases h4
    refine I.dist (ix.getD i 0) (ix.getD j 0) a (fun e=>hij ?_) (by rw [i2]; exact i3) (by rw [j2]; exact j3) i6 j6
    rw [List.getD_eq_getElem?_getD,List.getD_eq_getElem?_getD,List.getElem?_eq_getElem i1,List.getElem?_eq_getElem j1] at e
    exact ((List.getElem?_inj i1 hix).mp (by rw [List.getElem?_eq_getElem i1,List.getElem?_eq_getElem j1]; exact congrArg some e))
  · obtain ⟨m1,m2,m3⟩:=mem x hx
    obtain ⟨_,d,_,_,_,_,h4,⟨e,h5⟩,_⟩:=own x.1 m2
    exact ⟨⟨e,by rw [h4,h5]⟩,m1,m3⟩
  · obtain ⟨i1,d1,a1,o1,i2,i3,i4,i5,i6,i7,i8,_⟩:=own j h
    refine ⟨(j,a1,o1),List.mem_filterMap.mpr ⟨j,List.mem_range.mpr i1,?_⟩,rfl⟩
    rw [i7]
    show (if Sl.own (za1 δ ix n)[j]?=true then (H a1).map fun o=>(j,a1,o) else none)=_
    rw [if_pos h,i8]
    rfl
theorem EnvOk.side {p:Addr} {w:HO} (I:EnvOk K Λ F0 H0 F H σ δ) (ho:∀ i:Nat,Sl.own δ[i]?=true→∃ x ∈ Λ,x.1=i) (hp:∀ x ∈ Λ,x.2.1 ≠ p) (h0:H0 p=none) (h1:F p=none):EnvOk K Λ F0 H0 F (upd H p w) σ δ:=by
  have ne:∀ (i:Nat) (a:Addr),Sl.own δ[i]?=true→σ[i]?=some (some (.ref a))→a ≠ p:=fun i a h h'=>by
    obtain ⟨x,hx,e⟩:=ho i h
    have z:=(I.lent x hx).2.1
    rw [e,h'] at z
    cases z
    exact hp x hx
  have zkf:∀ (j:Nat) (ll:Tr),δ[j]? ≠ some (.p ll):=fun j ll h=>by
    obtain ⟨x,hx,e⟩:=ho j (by rw [h]; rfl)
    obtain ⟨d,hd⟩:=(I.lent x hx).1
    rw [e,h] at hd; cases hd
  refine ⟨⟨I.ext.ff,fun b o q=>?_,fun b o q=>?_,I.ext.nw⟩,I.len,fun i=>?_,I.dist,fun x hx=>?_,fun j ll h=>absurd h (zkf j ll)⟩
  · rw [zaA (zaI q h0)]; exact I.ext.hh b o q
  · rw [zaA (zaI q h1)]; exact I.ext.fh b o q
  · have z:=I.slot i
    cases q:δ[i]? with
    | none=>trivial
    | some s =>
      rw [q] at z
      cases s with
      | no=>trivial
      | v d=>exact z
      | o d=>obtain ⟨a,z1,z2,z3,z4⟩:=z; exact ⟨a,z1,z2,z3,z4.at (zaA (ne i a (by rw [q]; rfl) z1))⟩
      | l d=>obtain ⟨a,z1,z2,z3,z4⟩:=z; exact ⟨a,z1,z2,z3,z4.at (zaA (ne i a (by rw [q]; rfl) z1))⟩
      | p ll=>exact absurd q (zkf i ll)
  · obtain ⟨z1,z2,z3⟩:=I.lent x hx
    exact ⟨z1,z2,by rw [zaA (hp x hx)]; exact z3⟩
theorem EnvOk.weakL {δ':En} (w:Weak δ δ') (hl:∀ x ∈ Λ,∃ d,δ[x.1]?=some (.l d)) (I:EnvOk K Λ F0 H0 F H σ δ'):EnvOk K Λ F0 H0 F H σ δ:=by
  refine ⟨I.ext,I.len.trans w.1.symm,fun i=>?_,fun i j a hij h1 h2 h3 h4=>?_,fun x hx=>⟨hl x hx,(I.lent x hx).2⟩,I.tabsOf (fun k ll h=>⟨(w.2 k).elim (fun z=>by rw [z] at h; cases h) fun z=>by rw [← z]; exact h,rfl⟩) (fun _ _ _ _ _ _ t f _=>⟨t,fun b hb=>(f b hb).2⟩) fun k j ll r b bs _ _ _ _ ho hs=>.inl ⟨(w.2 j).elim (fun z=>by rw [z] at ho; cases ho) fun z=>by rw [← z]; exact ho,hs⟩⟩
  · rcases w.2 i with z | z
    · rw [z]; trivial
    · rw [z]; exact I.slot i
  · have ow:∀ k:Nat,Sl.own δ[k]?=true→Sl.own δ'[k]?=true:=fun k h=>by
      rcases w.2 k with z | z
      · rw [z] at h; cases h
      · rw [← z]; exact h
    exact I.dist i j a hij (ow i h1) (ow j h2) h3 h4
theorem zkl {f:D→R (Option D)} {d:D} {l r:List D} (h:(zdu f (d :: l)).nev = .ok r):∃ o r',f d = .ok o∧(zdu f l).nev = .ok r'∧r=o.toList ++ r':=by
  unfold zdu at h
  cases q:f d with
  | no=>rw [q] at h; cases h
  | ex x=>rw [q] at h; cases h
  | ok o =>
    rw [q] at h
    cases q2:zdu f l with
    | no=>rw [R.bind_ok,q2] at h; cases h
    | ex x=>rw [R.bind_ok,q2] at h; cases h
    | ok r'=>rw [R.bind_ok,q2] at h; cases h; exact ⟨o,r',rfl,rfl,rfl⟩
theorem nev_ok {α:Type} {r:R α} {a:α} (h:r.nev = .ok a):r = .ok a:=by
  cases r with
  | no=>cases h
  | ok b=>cases h; rfl
  | ex x=>cases h
theorem zbf {wi:TI} {mi:En→R (List D)} {ix:List Nat} {n:Nat} {g:TG} {b:D→En→Option En} {tc:Option TT} {nc:Option (En→R Bool)}
    (hi:SIc K XO E wi mi) (hix:ix.Nodup) (hg:SG K g b) (hw:BW b) (hc:(tc=none∧nc=none)∨∃ c k,tc=some c∧nc=some k∧ST K XO EN c k) (he:SE K XO EN te me):SEo K XO E (zpu wi ix n g tc te) (zcM mi ix n b nc me):=by
  intro Λ F0 H0 F H σ δ Q I a
  refine hi Λ F0 H0 F H σ δ _ I (a.bind.imp fun ds F1 H1 e1 a1 J hJ p hp=>?_)
  unfold ifC at a1
  split at a1
  case isFalse=>exact a1.elim
  rename_i hsz
  have I1:=I.grow e1
  obtain ⟨Λc,Ic,hown,hall⟩:=zm3 (n:=n) I1 hix
  cases qg:(zdu (zcc b nc me (za1 δ ix n)) ds).nev with
  | no=>rw [qg] at a1; exact a1.elim
  | ex x=>cases q2:zdu (zcc b nc me (za1 δ ix n)) ds <;> (rw [q2] at qg; cases qg)
  | ok l =>
  rw [qg] at a1
  have hlent:∀ x ∈ Λc,∃ d,(za1 δ ix n)[x.1]?=some (.l d):=fun x hx=>(Ic.lent x hx).1
  have hpn:∀ x ∈ Λc,x.2.1 ≠ p:=fun x hx e=>by
    obtain ⟨o,ho⟩:=hall x hx
    rw [e,hp] at ho; cases ho
  have p0:H0 p=none:=I1.ext.hh.free hp
  have f1:F1 p=none:=e1.fh.free hp
  refine ⟨fun i k ys σ2 H2=>∃ F2 l1 l2,EnvOk K Λc F0 H0 F2 H2 σ2 (za1 δ ix n)∧Ext F1 H1 F2 H2∧H2 p=some (.lst ys)∧F2 p=none∧RepL K F2 l1 ys∧(zdu (zcc b nc me (za1 δ ix n)) (ds.drop i)).nev = .ok l2∧l=l1 ++ l2∧k=ds.length - i∧i ≤ ds.length∧ys.length ≤ i,
    ⟨_,F1,[],l,?_,.newO e1.fh hp,zaR,f1,.nil,qg,rfl,rfl,Nat.zero_le _,Nat.le_refl _⟩,?_⟩
  · exact Ic.grow (.newO e1.fh hp)
  rintro i k ys σ2 H2 ⟨F2,l1,l2,I2,x2,hD,hF,r,qd,rfl,rfl,hil,hys⟩
  refine ⟨hD,?_⟩
  by_cases hlt:i < ds.length
  · have e:ds.drop i=ds[i] :: ds.drop (i + 1):=List.drop_eq_getElem_cons hlt
    rw [e] at qd
    obtain ⟨o,l3,q1,q3,rfl⟩:=zkl qd
    obtain ⟨h1,h2⟩:=(hJ F2 H2 x2 i).1 ds[i] (by simp [hlt])
    refine .inr ⟨h1,fun ys' σ' H'=>∃ F' l1',EnvOk K Λc F0 H0 F' H' σ' (za1 δ ix n)∧Ext F1 H1 F' H'∧H' p=some (.lst ys')∧F' p=none∧RepL K F' l1' ys'∧l1 ++ (o.toList ++ l3)=l1' ++ l3∧ys'.length ≤ i + 1,
      fun ys' σ' H' ⟨F',l1',w1,w2,w3,w4,w5,w6,w7⟩=>⟨_,by omega,F',l1',l3,w1,w2,w3,w4,w5,q3,w6,rfl,hlt,w7⟩,fun x H' y=>?_⟩
    obtain ⟨F3,e3,rx⟩:=h2 x H' y
    have hp2:∀ {F5 H5:Hp},Ext F2 H2 F5 H5→H5 p=some (.lst ys)∧F5 p=none:=fun z=>⟨z.hh _ _ hD,z.nw p _ hF hD⟩
    unfold zcc at q1
    cases qb:b ds[i] (za1 δ ix n) with
    | none=>rw [qb] at q1; cases q1
    | some δ1 =>
      rw [qb] at q1
      have hwk:=hw _ _ _ qb
      refine hg Λc F0 H0 F3 H' σ2 _ _ x δ1 _ (I2.grow e3) rx qb fun σ3 I3=>?_
      have fin:∀ F4 H4,Ext F3 H' F4 H4→(me δ1).nev.bind (fun x=>R.ok (some x)) = .ok o→te σ3 H4 fun y H5=>H5 p=some (.lst ys)∧ys.length < sizeLine ∧
          ∃ F' l1',EnvOk K Λc F0 H0 F' (upd H5 p (.lst (ys ++ [y]))) σ3 (za1 δ ix n)∧Ext F1 H1 F' (upd H5 p (.lst (ys ++ [y])))∧upd H5 p (.lst (ys ++ [y])) p=some (.lst (ys ++ [y]))∧F' p=none∧RepL K F' l1' (ys ++ [y])∧l1 ++ (o.toList ++ l3)=l1' ++ l3∧(ys ++ [y]).length ≤ i + 1:=by
        intro F4 H4 e4 qe
        cases qm:me δ1 with
        | no=>rw [qm] at qe; cases qe
        | ex x=>rw [qm] at qe; cases qe
        | ok d =>
          rw [qm] at qe
          cases qe
          refine he Λc F0 H0 F4 H4 σ3 δ1 _ (I3.grow e4) ?_
          rw [qm]
          intro F5 H5 e5 v rv
          have z:=e3.trans (e4.trans e5)
          obtain ⟨z1,z2⟩:=hp2 z
          refine ⟨z1,by omega,F5,l1 ++ [d],(((I3.grow e4).grow e5).weakL hwk hlent).side hown hpn p0 z2,?_,zaR,z2,(r.mono z.ff).append (.cons rv .nil),by simp,by simpa using hys⟩
          have w:=x2.trans z
          exact ⟨w.ff,fun c o q=>by rw [zaA (zaI q hp)]; exact w.hh c o q,fun c o q=>by rw [zaA (zaI q z2)]; exact w.fh c o q,w.nw⟩
      rcases hc with ⟨rfl,rfl⟩ | ⟨c,kc,rfl,rfl,hcc⟩
      · have z:=fin F3 H' (.refl e3.fh) q1
        unfold zoj
        simp only [if_true]
        exact z
      · simp only at q1
        refine hcc Λc F0 H0 F3 H' σ3 δ1 _ I3 ?_
        cases qk:kc δ1 with
        | no=>rw [qk] at q1; cases q1
        | ex x=>rw [qk] at q1; cases q1
        | ok bb =>
          rw [qk] at q1
          intro F4 H4 e4
          cases bb with
          | true=>rw [if_pos rfl]; exact fin F4 H4 e4 q1
          | false =>
            rw [if_neg Bool.false_ne_true]
            have eo:o=none:=by
              rw [R.nev_ok,R.bind_ok,if_neg Bool.false_ne_true] at q1
              cases q1; rfl
            subst eo
            have z:=e3.trans e4
            obtain ⟨z1,z2⟩:=hp2 z
            exact ⟨F4,l1,(I3.grow e4).weakL hwk hlent,x2.trans z,z1,z2,r.mono z.ff,rfl,by omega⟩
  · have e:i=ds.length:=by omega
    subst e
    rw [List.drop_length] at qd
    cases qd
    refine .inl ⟨(hJ F2 H2 x2 _).2 (by simp),a1 F2 H2 x2 p hF (e1.hh.free hp) ⟨ys,hD,?_⟩⟩
    rw [List.append_nil]
    exact r
def zcY (n:Nat) (ds:List D):En:=ds.map .v ++ List.replicate n .no
def runF (np nv:Nat) (m:En→O) (ds:List D):R D:=if ds.length=np then (match m (zcY nv ds) with | .rt d=>.ok d | .nx _=>.ok .non | .ex _ x=>.ex x | _=>.no) else .no
theorem zla {np nv:Nat} {N:List Str} {ds:List D} {vs:List V} (s:Same F H) (r:RepL K F ds vs) (hn:N.length=np + nv) (hl:ds.length=np):EnvOk K [] F H F H (L2.start N vs) (zcY nv ds):=by
  have hv:=r.length
  unfold L2.start zcY
  have en:N.length - vs.length=nv:=by omega
  rw [en]
  refine ⟨.refl s,by simp [hv],fun i=>?_,fun i j a _ h1 _ _ _=>?_,fun x hx=>(by cases hx),fun i ll h1=>(by
    by_cases hi:i < ds.length
    · rw [List.getElem?_append_left (by simpa using hi),List.getElem?_map,List.getElem?_eq_getElem hi] at h1
      cases h1
    · rw [List.getElem?_append_right (by simpa using hi),List.getElem?_replicate] at h1
      split at h1 <;> cases h1)⟩
  · by_cases hi:i < ds.length
    · rw [List.getElem?_append_left (by simpa using hi),List.getElem?_append_left (by simp; omega),List.getElem?_map,List.getElem?_map,List.getElem?_eq_getElem hi]
      obtain ⟨v,h1,h2⟩:=r.get (List.getElem?_eq_getElem hi)
      rw [h1]
      exact ⟨v,rfl,h2⟩
    · rw [List.getElem?_append_right (by simpa using hi),List.getElem?_replicate]
      split <;> trivial
  · by_cases hi:i < ds.length
    · rw [List.getElem?_append_left (by simpa using hi),List.getElem?_map,List.getElem?_eq_getElem hi] at h1
      cases h1
    · rw [List.getElem?_append_right (by simpa using hi),List.getElem?_replicate] at h1
      split at h1 <;> cases h1
theorem zco {np nv:Nat} {N:List Str} {vs:List V} {Q:VK} {E:XK} (h:SS K XO (fun _=>E) t m) (hn:N.length=np + nv) (sp:spM K XO (runF np nv m) vs H Q E):t { nx:=fun _ H'=>Q .non H',rt:=Q } (L2.start N vs) H:=by
  obtain ⟨F,ds,s,r,a⟩:=sp
  unfold runF at a
  split at a
  · rename_i hl
    refine h [] F H F H _ _ _ (zla s r hn hl) ?_
    cases q:m (zcY nv ds) with
    | no=>rw [q] at a; exact a
    | nx δ=>rw [q] at a; exact fun σ F' H' I=>a F' H' I.ext _ (by simp only [Rep])
    | rt d=>rw [q] at a; exact fun v F' H' e r=>a F' H' e v r
    | ro d=>rw [q] at a; exact a.elim
    | bk δ=>rw [q] at a; exact a.elim
    | ct δ=>rw [q] at a; exact a.elim
    | ex δ x=>rw [q] at a; exact fun σ F' H' C dct I w=>a C dct F' H' I.ext w
  · exact a.elim
def runO (np nv:Nat) (m:En→O) (ds:List D):R D:=if ds.length=np then (match m (zcY nv ds) with | .ro d=>.ok d | .ex _ x=>.ex x | _=>.no) else .no
def spO (K:Kx) (XO:XOT) (f:List D→R D):Sp:=fun vs H Q E=>∃ F ds,Same F H∧RepL K F ds vs∧Aft (fun _=>E) XO [] F H (fun d F' H'=>∀ p,F' p=none→H p=none→Own K F' H' d p→Q (.ref p) H') (f ds)
theorem ze2 {np nv:Nat} {N:List Str} {vs:List V} {Q:VK} {E:XK} (h:SS K XO (fun _=>E) t m) (hn:N.length=np + nv) (sp:spO K XO (runO np nv m) vs H Q E):t { nx:=fun _ H'=>Q .non H',rt:=Q } (L2.start N vs) H:=by
  obtain ⟨F,ds,s,r,a⟩:=sp
  unfold runO at a
  split at a
  · rename_i hl
    refine h [] F H F H _ _ _ (zla s r hn hl) ?_
    cases q:m (zcY nv ds) with
    | no=>rw [q] at a; exact a
    | nx δ=>rw [q] at a; exact a.elim
    | rt d=>rw [q] at a; exact a.elim
    | ro d=>rw [q] at a; exact fun p F' H' e h0 h1 o=>a F' H' e p h0 h1 o
    | bk δ=>rw [q] at a; exact a.elim
    | ct δ=>rw [q] at a; exact a.elim
    | ex δ x=>rw [q] at a; exact fun σ F' H' C dct I w=>a C dct F' H' I.ext w
  · exact a.elim
theorem zdA {np nv:Nat} {vs:List V} {Q:VK} {E:XK} (sp:spO K XO (runO np nv m) vs H Q E):vs.length=np:=by
  obtain ⟨F,ds,s,r,a⟩:=sp
  unfold runO at a
  split at a
  · rename_i hl; rw [r.length]; exact hl
  · exact a.elim
theorem zbg {np nv:Nat} {vs:List V} {Q:VK} {E:XK} (sp:spM K XO (runF np nv m) vs H Q E):vs.length=np:=by
  obtain ⟨F,ds,s,r,a⟩:=sp
  unfold runF at a
  split at a
  · rename_i hl; rw [r.length]; exact hl
  · exact a.elim
theorem zpM {f:List D→R D} {ns:List Int} {a:Addr} {Q:VK} {E:XK} (hf:f [.scr ns] = .ok (.bl true)) (h:SqL K.f H a (ns.map V.int)) (q:∀ H',Q (.bl true) H'):spM K XO f [.ref a] H Q E:=by
  refine ⟨fun b=>if b=a then H b else none,[.scr ns],fun b o e=>?_,.cons ?_ .nil,?_⟩
  · dsimp only at e
    split at e
    · exact e
    · cases e
  · simp only [Rep]
    refine ⟨a,rfl,?_⟩
    rcases h with (h | ⟨o,h⟩) | h
    · exact .inl (.inl (by dsimp only; rw [if_pos rfl]; exact h))
    · exact .inl (.inr ⟨o,by dsimp only; rw [if_pos rfl]; exact h⟩)
    · exact .inr h
  · rw [hf]
    intro F' H' _ v r
    simp only [Rep] at r
    subst r
    exact q H'
theorem zbZ {f:List D→R D} {tl:TA} {ml:En→R (List D)} {E':XK} (h:SA K XO E tl ml):SEo K XO E (zlF (spO K XO f) [] E' tl) (zai f ml):=by
  intro Λ F0 H0 F H σ δ Q I a
  refine h Λ F0 H0 F H σ δ _ I (a.bind.imp fun ds F1 H1 e1 a1 vs r=>⟨F1,ds,e1.fh,by rw [List.append_nil]; exact r,?_⟩)
  exact Aft.imp (fun d F2 H2 e2 p q h0 h1 o=>p q h0 (e1.hh.free h1) o) (Aft.any a1)
mutual
def zgI:D→Bool
  | .tup l=>zgN l
  | .lst _=>false
  | .dct _ _=>false
  | .scr _=>false
  | .exc _=>false
  | .fd _ _=>false
  | .obj _ _ _=>false
  | _=>true
def zgN:List D→Bool
  | []=>true
  | d :: l=>zgI d && zgN l
end
def zoK:D→Bool
  | .lst l=>zgN l
  | .dct _ l=>zgN l
  | _=>false
variable (K) in
def Bor (F H:Hp) (d:D) (v:V):Prop:=Rep K F d v∨(∃ a,v = .ref a∧Own K F H d a)∨∃ T fp,d=trD T∧TrOk K F H T v fp
variable (K XO E) in
def SAb (t:TA) (m:En→R (List D)):Prop:=∀ Λ F0 H0 F H σ δ Q,EnvOk K Λ F0 H0 F H σ δ→Aft E XO σ F H (fun ds F' H'=>∀ vs,Prd (Bor K F' H') ds vs→Q vs H') (m δ)→t σ H Q
theorem Bor.mono {F H F' H':Hp} (e:Ext F H F' H') {d:D} {v:V}:Bor K F H d v→Bor K F' H' d v
  | .inl h=>.inl (Rep.mono e.ff _ h)
  | .inr (.inl ⟨a,h1,h2⟩)=>.inr (.inl ⟨a,h1,h2.mono e.ff e.hh⟩)
  | .inr (.inr ⟨T,fp,h1,h2⟩)=>.inr (.inr ⟨T,fp,h1,TrOk.mono e.ff e.hh T h2⟩)
theorem zm0:SAb K XO E tNil mNil:=fun Λ F0 H0 F H σ δ Q I a=>a F H (.refl I.same) _ .nil
theorem zkU {tr:TA} {mr:En→R (List D)} (ha:SE K XO E ta ma) (hr:SAb K XO E tr mr):SAb K XO E (zeU ta tr) (zaa ma mr):=by
  intro Λ F0 H0 F H σ δ Q I a
  refine ha Λ F0 H0 F H σ δ _ I (a.bind.imp fun dx F1 H1 e1 a1 x rx=>?_)
  refine hr Λ F0 H0 F1 H1 σ δ _ (I.grow e1) (a1.bind.imp fun dy F2 H2 e2 a2 y ry=>?_)
  exact a2 F2 H2 (.refl e2.fh) _ (.cons (.inl (Rep.mono e2.ff _ rx)) ry)
theorem zmf {i:Nat} {tr:TA} {mr:En→R (List D)} (hr:SAb K XO E tr mr):SAb K XO E (zeU (tVar i) tr) (zaa (mRd i) mr):=by
  intro Λ F0 H0 F H σ δ Q I a
  have key:∀ d v,mRd i δ = .ok d→σ[i]?=some (some v)→Bor K F H d v→zeU (tVar i) tr σ H Q:=fun d v hm hs b=>by
    unfold zaa at a
    rw [hm] at a
    refine ⟨v,hs,hr Λ F0 H0 F H σ δ _ I (Aft.imp (fun dy F2 H2 e2 a2 y ry=>?_) (Aft.bind a))⟩
    exact a2 F2 H2 (.refl e2.fh) _ (.cons (b.mono e2) ry)
  have z:=I.slot i
  unfold zaa at a
  cases q:δ[i]? with
  | none =>
    have e:mRd i δ = .no:=by unfold mRd; rw [q]
    rw [e] at a; exact a.elim
  | some s =>
    rw [q] at z
    cases s with
    | no =>
      have e:mRd i δ = .no:=by unfold mRd; rw [q]
      rw [e] at a; exact a.elim
    | v d=>obtain ⟨u,z1,z2⟩:=z; exact key d u (by unfold mRd; rw [q]) z1 (.inl z2)
    | o d=>obtain ⟨u,z1,_,_,z2⟩:=z; exact key d _ (by unfold mRd; rw [q]) z1 (.inr (.inl ⟨u,rfl,z2⟩))
    | l d=>obtain ⟨u,z1,_,_,z2⟩:=z; exact key d _ (by unfold mRd; rw [q]) z1 (.inr (.inl ⟨u,rfl,z2⟩))
    | p ll =>
      have e:mRd i δ = .no:=by unfold mRd; rw [q]
      rw [e] at a; exact a.elim
def zdm (F H:Hp):Hp:=fun b=>match F b with
  | some o=>some o
  | none=>match H b with
    | some (.lst vs)=>some (.lst vs)
    | some (.dK kvs)=>some (.dK kvs)
    | some (.frz o u)=>some (.frz o u)
    | some (.ins C dx fs)=>some (.ins C dx fs)
    | _=>none
theorem zem {F H:Hp}:Same F (zdm F H):=fun b o h=>by unfold zdm; rw [h]
theorem zjl {F H:Hp} (s:Same F H):Same (zdm F H) H:=fun b o h=>by
  unfold zdm at h
  cases q:F b with
  | some u=>rw [q] at h; cases h; exact s _ _ q
  | none =>
    simp only [q] at h
    cases q2:H b with
    | none=>rw [q2] at h; cases h
    | some u=>cases u <;> simp only [q2] at h <;> cases h <;> rfl
theorem zoU {a:Addr} {vs:List V} (s:Same F H) (h:H a=some (.lst vs)):zdm F H a=some (.lst vs):=by
  unfold zdm
  cases q:F a with
  | some u=>rw [s _ _ q] at h; exact h
  | none=>simp only [h]
mutual
theorem ziI (s:Same F H):∀ (T:Tr) {v:V} {fp:List Addr},TrOk K F H T v fp→Rep K (zdm F H) (trD T) v
  | .d x,v,fp,h=>by
    simp only [TrOk] at h
    simp only [trD]
    exact Rep.mono zem x h.2
  | .l ts,v,fp,h=>by
    simp only [TrOk] at h
    obtain ⟨a,vs,fs,rfl,h2,h3,h4⟩:=h
    simp only [trD,Rep]
    exact ⟨a,vs,rfl,.inl (zoU s h3),zho s ts h4⟩
  | .t ts,v,fp,h=>by
    simp only [TrOk] at h
    obtain ⟨a,vs,rfl,h3,h4⟩:=h
    simp only [trD,Rep]
    exact ⟨a,vs,rfl,zem _ _ h3,zho s ts h4⟩
theorem zho (s:Same F H):∀ (ts:List Tr) {vs:List V} {fp:List Addr},TrOkL K F H ts vs fp→RepL K (zdm F H) (trDL ts) vs
  | [],vs,fp,h=>by
    simp only [TrOkL] at h
    rw [h.1]
    simp only [trDL]
    exact .nil
  | t :: ts,vs,fp,h=>by
    simp only [TrOkL] at h
    obtain ⟨v,r,f1,f2,rfl,h2,h3,h4⟩:=h
    simp only [trDL]
    exact .cons (ziI s t h3) (zho s ts h4)
end
theorem ziD {F H:Hp} (s:Same F H):∀ {d:D} {v:V},Bor K F H d v→Rep K (zdm F H) d v:=by
  intro d v h
  rcases h with h | ⟨a,rfl,h⟩ | ⟨T,fp,rfl,h⟩
  · exact Rep.mono zem _ h
  · cases d with
    | lst l =>
      obtain ⟨vs,h1,h2⟩:=h
      simp only [Rep]
      refine ⟨a,vs,rfl,.inl ?_,h2.mono zem⟩
      unfold zdm
      cases q:F a with
      | some u=>rw [s _ _ q] at h1; exact h1
      | none=>simp only [h1]
    | dct ks l =>
      obtain ⟨vs,h1,h0,h2⟩:=h
      simp only [Rep]
      refine ⟨a,vs,rfl,?_,h0,h2.mono zem⟩
      unfold zdm
      cases q:F a with
      | some u=>rw [s _ _ q] at h1; exact h1
      | none=>simp only [h1]
    | obj c ks l =>
      obtain ⟨dx,vs,h1,h0,h2⟩:=h
      simp only [Rep]
      refine ⟨a,dx,vs,rfl,?_,h0,h2.mono zem⟩
      unfold zdm
      cases q:F a with
      | some u=>rw [s _ _ q] at h1; exact h1
      | none=>simp only [h1]
    | _=>exact h.elim
  · exact ziI s T h
theorem ziZ {F H:Hp} (s:Same F H):∀ {ds:List D} {vs:List V},Prd (Bor K F H) ds vs→RepL K (zdm F H) ds vs
  | _,_,.nil=>.nil
  | _,_,.cons h t=>.cons (ziD s h) (ziZ s t)
open Classical in
def minH (F H F':Hp):Hp:=fun b=>if F b=none∧H b ≠ none then none else F' b
theorem zqE {F H F' H':Hp} (e:Ext (zdm F H) H F' H') {a:Addr} {o:HO} (h:F' a=some o) (h1:∀ vs,o ≠ .lst vs) (h2:∀ kvs,o ≠ .dK kvs) (h3:∀ q u,o ≠ .frz q u) (h4:∀ C dx fs,o ≠ .ins C dx fs):minH F H F' a=some o:=by
  unfold minH
  split
  · rename_i hc
    exfalso
    cases qh:H a with
    | none=>exact hc.2 qh
    | some u =>
      have np:zdm F H a=match H a with | some (.lst vs)=>some (.lst vs) | some (.dK kvs)=>some (.dK kvs) | some (.frz o u)=>some (.frz o u) | some (.ins C dx fs)=>some (.ins C dx fs) | _=>none:=by
        unfold zdm; rw [hc.1]
      cases u with
      | lst vs=>rw [qh] at np; have z:=e.ff a _ np; rw [h] at z; cases z; exact h1 vs rfl
      | dK vs=>rw [qh] at np; have z:=e.ff a _ np; rw [h] at z; cases z; exact h2 vs rfl
      | frz q w=>rw [qh] at np; have z:=e.ff a _ np; rw [h] at z; cases z; exact h3 q w rfl
      | ins C dx fs=>rw [qh] at np; have z:=e.ff a _ np; rw [h] at z; cases z; exact h4 C dx fs rfl
      | _=>rw [qh] at np; have z:=e.nw a _ np qh; rw [h] at z; cases z
  · exact h
mutual
theorem zkt {F H F' H':Hp} (e:Ext (zdm F H) H F' H'):∀ (d:D) {v:V},zgI d=true→Rep K F' d v→Rep K (minH F H F') d v
  | .non,v,_,h=>by simp only [Rep] at h ⊢; exact h
  | .bl _,v,_,h=>by simp only [Rep] at h ⊢; exact h
  | .int _,v,_,h=>by simp only [Rep] at h ⊢; exact h
  | .str _,v,_,h=>by simp only [Rep] at h ⊢; exact h
  | .lst _,v,c,h=>by simp only [zgI] at c; cases c
  | .dct _ _,v,c,h=>by simp only [zgI] at c; cases c
  | .scr _,v,c,h=>by simp only [zgI] at c; cases c
  | .exc _,v,c,h=>by simp only [zgI] at c; cases c
  | .fd _ _,v,c,h=>by simp only [zgI] at c; cases c
  | .obj _ _ _,v,c,h=>by simp only [zgI] at c; cases c
  | .tup l,v,c,h=>by
    simp only [zgI] at c
    simp only [Rep] at h ⊢
    obtain ⟨a,vs,h1,h2,h3⟩:=h
    exact ⟨a,vs,h1,zqE e h2 (fun _ z=>by cases z) (fun _ z=>by cases z) (fun _ _ z=>by cases z) (fun _ _ _ z=>by cases z),zg7 e l c h3⟩
theorem zg7 {F H F' H':Hp} (e:Ext (zdm F H) H F' H'):∀ (l:List D) {vs:List V},zgN l=true→RepL K F' l vs→RepL K (minH F H F') l vs
  | [],vs,_,h=>by simp only [RepL] at h ⊢; exact h
  | d :: l,vs,c,h=>by
    simp only [zgN,Bool.and_eq_true] at c
    simp only [RepL] at h ⊢
    obtain ⟨v,r,h1,h2,h3⟩:=h
    exact ⟨v,r,h1,zkt e d c.1 h2,zg7 e l c.2 h3⟩
end
theorem zkv {F H F' H':Hp} (e:Ext (zdm F H) H F' H'):Ext F H (minH F H F') H':=by
  refine ⟨fun b o h=>?_,e.hh,fun b o h=>?_,fun p o h1 h2=>?_⟩
  · unfold minH
    rw [if_neg (fun hc=>by rw [h] at hc; cases hc.1)]
    exact e.ff b o (zem b o h)
  · unfold minH at h
    split at h
    · cases h
    · exact e.fh b o h
  · unfold minH
    rw [if_pos ⟨h1,by rw [h2]; intro z; cases z⟩]
def zll (f:List D→R D) (ml:En→R (List D)) (δ:En):R D:=(ml δ).bind fun l=>(f l).nev.bind fun d=>if zgI d=true then .ok d else .no
def zjc (f:List D→R D) (ml:En→R (List D)) (δ:En):R D:=(ml δ).bind fun l=>(f l).nev.bind fun d=>if zoK d=true then .ok d else .no
theorem znI {f:List D→R D} {tl:TA} {ml:En→R (List D)} {E':XK} (h:SAb K XO E tl ml):SE K XO E (zlF (spM K XO f) [] E' tl) (zll f ml):=by
  intro Λ F0 H0 F H σ δ Q I a
  refine h Λ F0 H0 F H σ δ _ I (a.bind.imp fun ds F1 H1 e1 a1 vs r=>⟨zdm F1 H1,ds,zjl e1.fh,by rw [List.append_nil]; exact ziZ e1.fh r,?_⟩)
  cases q:f ds with
  | no=>rw [q] at a1; exact a1.elim
  | ex x=>rw [q] at a1; exact a1.elim
  | ok d =>
    rw [q] at a1
    intro F2 H2 e2 v rv
    simp only [R.nev_ok,R.bind_ok] at a1
    split at a1
    · rename_i hc
      exact a1 _ H2 (zkv e2) v (zkt e2 d hc rv)
    · exact a1.elim
theorem zmD {f:List D→R D} {tl:TA} {ml:En→R (List D)} {E':XK} (h:SAb K XO E tl ml):SEo K XO E (zlF (spO K XO f) [] E' tl) (zjc f ml):=by
  intro Λ F0 H0 F H σ δ Q I a
  refine h Λ F0 H0 F H σ δ _ I (a.bind.imp fun ds F1 H1 e1 a1 vs r=>⟨zdm F1 H1,ds,zjl e1.fh,by rw [List.append_nil]; exact ziZ e1.fh r,?_⟩)
  cases q:f ds with
  | no=>rw [q] at a1; exact a1.elim
  | ex x=>rw [q] at a1; exact a1.elim
  | ok d =>
    rw [q] at a1
    intro F2 H2 e2 p h0 h1 o
    simp only [R.nev_ok,R.bind_ok] at a1
    split at a1
    · rename_i hc
      refine a1 _ H2 (zkv e2) p ?_ (e1.hh.free h1) ?_
      · unfold minH
        split
        · rfl
        · exact h0
      · cases d with
        | lst l=>obtain ⟨ws,g1,g2⟩:=o; exact ⟨ws,g1,zg7 e2 l hc g2⟩
        | dct ks l=>obtain ⟨ws,g1,g0,g2⟩:=o; exact ⟨ws,g1,g0,zg7 e2 l hc g2⟩
        | obj c ks l=>cases hc
        | _=>exact o.elim
    · exact a1.elim
variable (K) in
def SC (r:List V→Hp→VK→Prop) (f:List D→Option D):Prop:=∀ F H vs ds d Q,Same F H→Prd (Top K F H) ds vs→f ds=some d→(∀ v F' H',Ext F H F' H'→Rep K F' d v→Q v H')→r vs H Q
variable (K) in
def SCo (r:List V→Hp→VK→Prop) (f:List D→Option D):Prop:=∀ F H vs ds d Q,Same F H→Prd (Top K F H) ds vs→f ds=some d→(∀ p F' H',Ext F H F' H'→F' p=none→H p=none→Own K F' H' d p→Q (.ref p) H')→r vs H Q
def mCB (f:List D→Option D) (ml:En→R (List D)) (δ:En):R D:=(ml δ).bind fun l=>R.of (f l)
theorem zbD {r:List V→Hp→VK→Prop} {f:List D→Option D} {tl:TA} {ml:En→R (List D)} (hr:SC K r f) (h:SAr K XO E tl ml):SE K XO E (tCB r tl) (mCB f ml):=by
  intro Λ F0 H0 F H σ δ Q I a
  refine h Λ F0 H0 F H σ δ _ I (a.bind.imp fun ds F1 H1 e1 a1 vs rv=>?_)
  cases q:f ds with
  | none=>rw [q] at a1; exact a1.elim
  | some d=>rw [q] at a1; exact hr F1 H1 vs ds d Q e1.fh rv q fun v F' H' e r=>a1 F' H' e v r
theorem zgf {r:List V→Hp→VK→Prop} {f:List D→Option D} {tl:TA} {ml:En→R (List D)} (hr:SCo K r f) (h:SAr K XO E tl ml):SEo K XO E (tCB r tl) (mCB f ml):=by
  intro Λ F0 H0 F H σ δ Q I a
  refine h Λ F0 H0 F H σ δ _ I (a.bind.imp fun ds F1 H1 e1 a1 vs rv=>?_)
  cases q:f ds with
  | none=>rw [q] at a1; exact a1.elim
  | some d=>rw [q] at a1; exact hr F1 H1 vs ds d Q e1.fh rv q fun p F' H' e h0 h1 o=>a1 F' H' e p h0 (e1.hh.free h1) o
def fLen:List D→Option D
  | [.lst l]=>some (.int l.length)
  | [.scr l]=>some (.int l.length)
  | [.tup l]=>some (.int l.length)
  | _=>none
theorem zb5:SC K (fun xs H Q=>∃ p ys,xs = [.ref p]∧(SqL K.f H p ys∨SqT K.f H p ys)∧Q (.int ys.length) H) fLen:=by
  intro F H vs ds d Q s r e q
  unfold fLen at e
  split at e
  · cases e
    cases r with
    | cons r r' =>
      cases r'
      obtain ⟨a,xs,rfl,h1,h2⟩:=r
      exact ⟨a,xs,rfl,.inl (.inl h1),q _ F H (.refl s) (by simp only [Rep]; rw [h2.length])⟩
  · cases e
    cases r with
    | cons r r' =>
      cases r'
      simp only [Top,Rep] at r
      obtain ⟨a,rfl,h1⟩:=r
      exact ⟨a,_,rfl,.inl (s.seq h1),q _ F H (.refl s) (by simp only [Rep]; rw [List.length_map])⟩
  · cases e
    cases r with
    | cons r r' =>
      cases r'
      simp only [Top,Rep] at r
      obtain ⟨a,xs,rfl,h1,h2⟩:=r
      exact ⟨a,xs,rfl,.inr (.inl (.inl (s _ _ h1))),q _ F H (.refl s) (by simp only [Rep]; rw [h2.length])⟩
  · cases e
def znp:List D→Option D
  | [.dct ks _]=>some (.int ks.length)
  | _=>none
theorem zo2:SC K (fun xs H Q=>∃ a kvs,xs = [V.ref a]∧H a=some (.dK kvs)∧Q (.int kvs.length) H) znp:=by
  intro F H vs ds d Q s r e q
  unfold znp at e
  split at e
  · cases e
    cases r with
    | cons r r' =>
      cases r'
      obtain ⟨a,xs,rfl,h1,h2,h3⟩:=r
      exact ⟨a,xs,rfl,h1,q _ F H (.refl s) (by simp only [Rep]; rw [zqv h2])⟩
  · cases e
def fAbs:List D→Option D
  | [.int i]=>some (.int (if i < 0 then -i else i))
  | _=>none
theorem zmm:SC K (fun xs H Q=>∃ i,xs = [.int i]∧Q (.int (if i < 0 then -i else i)) H) fAbs:=by
  intro F H vs ds d Q s r e q
  unfold fAbs at e
  split at e
  · rename_i i
    cases e
    cases r with
    | cons r r' =>
      cases r'
      simp only [Top,Rep] at r
      subst r
      exact ⟨i,rfl,q _ F H (.refl s) (by simp only [Rep])⟩
  · cases e
def zdI:List D→Option D
  | [.lst l]=>some (.lst l)
  | [.tup l]=>some (.lst l)
  | _=>none
theorem zeR:SCo K (fun xs H Q=>∃ p ys,xs = [.ref p]∧(SqL K.f H p ys∨SqT K.f H p ys)∧∀ l,H l=none→Q (.ref l) (upd H l (.lst ys))) zdI:=by
  intro F H vs ds d Q s r e q
  unfold zdI at e
  split at e
  · cases e
    cases r with
    | cons r r' =>
      cases r'
      obtain ⟨a,xs,rfl,h1,h2⟩:=r
      exact ⟨a,xs,rfl,.inl (.inl h1),fun p hp=>q _ F _ (.newO s hp) (s.free hp) hp ⟨xs,zaR,h2⟩⟩
  · cases e
    cases r with
    | cons r r' =>
      cases r'
      simp only [Top,Rep] at r
      obtain ⟨a,xs,rfl,h1,h2⟩:=r
      exact ⟨a,xs,rfl,.inr (.inl (.inl (s _ _ h1))),fun p hp=>q _ F _ (.newO s hp) (s.free hp) hp ⟨xs,zaR,h2⟩⟩
  · cases e
def asI:D→Option Int
  | .int i=>some i
  | _=>none
def mNoP (_:En):R (Option Int):=.ok none
def za2 (me:En→R D) (δ:En):R (Option Int):=(me δ).bind fun d=>(R.of (asI d)).bind fun i=>.ok (some i)
variable (K XO E) in
def SO (t:TO) (m:En→R (Option Int)):Prop:=∀ Λ F0 H0 F H σ δ Q,EnvOk K Λ F0 H0 F H σ δ→Aft E XO σ F H (fun o _ H'=>Q o H') (m δ)→t σ H Q
theorem zeE:SO K XO E zmz mNoP:=fun Λ F0 H0 F H σ δ Q I a=>a F H (.refl I.same)
theorem zbI (h:SE K XO E te me):SO K XO E (zqr te) (za2 me):=by
  intro Λ F0 H0 F H σ δ Q I a
  refine h Λ F0 H0 F H σ δ _ I (a.bind.imp fun d F1 H1 e1 a1 v r=>?_)
  cases d with
  | int i=>simp only [Rep] at r; exact ⟨i,r,a1 F1 H1 (.refl e1.fh)⟩
  | _=>exact a1.elim
def cutD (xs:List D) (lo hi:Option Int):List D:=(xs.drop (HT.sIx xs.length 0 lo)).take (HT.sIx xs.length xs.length hi - HT.sIx xs.length 0 lo)
def mSl (me:En→R D) (ml mh:En→R (Option Int)) (δ:En):R D:=(me δ).bind fun d=>(ml δ).bind fun lo=>(mh δ).bind fun hi=>(R.of (asL d)).bind fun l=>.ok (.lst (cutD l lo hi))
theorem zbh {tl th:TO} {ml mh:En→R (Option Int)} (h:SEr K XO E te me) (hl:SO K XO E tl ml) (hh:SO K XO E th mh):SEo K XO E (tSl (rSlL K.f) te tl th) (mSl me ml mh):=by
  intro Λ F0 H0 F H σ δ Q I a
  refine h Λ F0 H0 F H σ δ _ I (a.bind.imp fun d F1 H1 e1 a1 v r=>?_)
  refine hl Λ F0 H0 F1 H1 σ δ _ (I.grow e1) (a1.bind.imp fun lo F2 H2 e2 a2=>?_)
  refine hh Λ F0 H0 F2 H2 σ δ _ ((I.grow e1).grow e2) (a2.bind.imp fun hi F3 H3 e3 a3=>?_)
  cases d with
  | lst l =>
    obtain ⟨p,vs,rfl,h1,h2⟩:=r
    refine ⟨p,vs,rfl,.inl (PM.Same.rd e3.hh (PM.Same.rd e2.hh h1)),fun q hq=>a3 F3 _ (.newO e3.fh hq) q (e3.fh.free hq) (e1.hh.free (e2.hh.free (e3.hh.free hq))) ⟨_,zaR,?_⟩⟩
    unfold cutD cutV
    rw [← h2.length]
    exact (((h2.mono e2.ff).mono e3.ff).drop _).take _
  | scr l =>
    simp only [Top,Rep] at r
    obtain ⟨p,rfl,h1⟩:=r
    refine ⟨p,_,rfl,e3.hh.seq (e2.hh.seq (e1.fh.seq h1)),fun q hq=>a3 F3 _ (.newO e3.fh hq) q (e3.fh.free hq) (e1.hh.free (e2.hh.free (e3.hh.free hq))) ⟨_,zaR,?_⟩⟩
    unfold cutD cutV
    rw [List.length_map,List.length_map]
    exact (RepL.ints.drop _).take _
  | _=>exact a3.elim
end
end PM
namespace PM
open PySem L2
def oCat (x y:D):Option D:=match x,y with | .lst l,.lst r=>ifC (l.length + r.length ≤ sizeLine) (some (.lst (l ++ r))) none | _,_=>none
def zbm:Nat→D→Bool
  | _,.non=>true
  | _,.int _=>true
  | n + 1,.tup l=>l.all (zbm n)
  | n + 1,.lst l=>l.all (zbm n)
  | _,_=>false
open Classical in
def oEqD (x y:D):Option D:=ifC (zbm 8 x=true∧zbm 8 y=true) (some (.bl (decide (x=y)))) none
open Classical in
def oNeD (x y:D):Option D:=ifC (zbm 8 x=true∧zbm 8 y=true) (some (.bl (!decide (x=y)))) none
def isiB:String→D→Bool
  | "int",.int _=>true
  | "int",.bl _=>true
  | "bool",.bl _=>true
  | "list",.lst _=>true
  | "tuple",.tup _=>true
  | "str",.str _=>true
  | _,_=>false
def okI:D→Bool
  | .scr _=>false
  | .exc _=>false
  | .fd _ _=>false
  | .obj _ _ _=>false
  | _=>true
def oIsi (c:String) (d:D):Option D:=match d with | .scr _=>none | .exc _=>none | .fd _ _=>none | .obj _ _ _=>none | d=>some (.bl (isiB c d))
def asIs:List D→Option (List Int)
  | []=>some []
  | .int i :: l=>(asIs l).map (i :: ·)
  | _=>none
theorem zeh (ns:List Int):asIs (ns.map .int)=some ns:=by
  induction ns with
  | nil=>rfl
  | cons a l ih=>simp [asIs,ih]
theorem zdS {l:List D} {ns:List Int} (h:asIs l=some ns):l=ns.map .int:=by
  induction l generalizing ns with
  | nil=>cases h; rfl
  | cons d l ih =>
    cases d with
    | int i =>
      simp only [asIs] at h
      cases q:asIs l with
      | none=>rw [q] at h; cases h
      | some m=>rw [q] at h; cases h; rw [ih q]; rfl
    | _=>cases h
def fSum:List D→Option D
  | [.lst l]=>(asIs l).map fun ns=>.int ns.sum
  | _=>none
def maxI:List Int→Int→Int
  | [],m=>m
  | a :: l,m=>maxI l (if a > m then a else m)
def zkh (l:List D) (d:D):Option D:=match l with
  | [.lst []]=>some d
  | [.lst (.int a :: l)]=>(asIs l).map fun ns=>.int (maxI ns a)
  | _=>none
def ziU (ml:En→R (List D)) (md:En→R D) (δ:En):R D:=(ml δ).bind fun l=>(md δ).bind fun d=>R.of (zkh l d)
theorem zjC {c:En→R Bool} {m:En→O} {δ:En} {n:Nat} {o:O} (h:zd7 c m n δ=o) (ho:o ≠ .no):zgP c m δ=o:=by
  have mono:∀ k n δ,zd7 c m n δ ≠ .no→zd7 c m (n + k) δ=zd7 c m n δ:=by
    intro k n
    induction n with
    | zero=>intro δ h; exact absurd rfl h
    | succ n ih =>
      intro δ h
      have e:n + 1 + k=(n + k) + 1:=by omega
      rw [e]
      unfold zd7 at h ⊢
      cases q:c δ with
      | no=>rfl
      | ex x=>rfl
      | ok b =>
        rw [q] at h
        cases b with
        | false=>rfl
        | true =>
          simp only [R.toO_ok,if_true] at h ⊢
          cases q2:m δ <;> simp only [q2] at h ⊢ <;> exact ih _ h
  have hex:∃ n,zd7 c m n δ ≠ .no:=⟨n,by rw [h]; exact ho⟩
  unfold zgP
  rw [dif_pos hex]
  have h1:=mono n (Classical.choose hex) δ (Classical.choose_spec hex)
  have h2:=mono (Classical.choose hex) n δ (by rw [h]; exact ho)
  rw [← h1,Nat.add_comm,h2,h]
theorem zjz {c:En→R Bool} {m:En→O} {α:Type} (env:α→En) (go:α→Bool) (nxt:α→α) (P:α→Prop) (μ:α→Nat) (hc:∀ a,P a→c (env a) = .ok (go a)) (hs:∀ a,P a→go a=true→m (env a) = .nx (env (nxt a))∧P (nxt a)∧μ (nxt a) < μ a)
    (a:α) (h:P a):∃ b,P b∧go b=false∧zgP c m (env a) = .nx (env b)∧∃ k,b=Nat.repeat nxt k a:=by
  have key:∀ n a,P a→μ a < n→∃ b,P b∧go b=false∧zd7 c m n (env a) = .nx (env b)∧∃ k,b=Nat.repeat nxt k a:=by
    intro n
    induction n with
    | zero=>intro a _ h; omega
    | succ n ih =>
      intro a hp hm
      cases g:go a with
      | false=>exact ⟨a,hp,g,by unfold zd7; rw [hc a hp,g]; rfl,0,rfl⟩
      | true =>
        obtain ⟨h1,h2,h3⟩:=hs a hp g
        obtain ⟨b,b1,b2,b3,k,b4⟩:=ih (nxt a) h2 (by omega)
        refine ⟨b,b1,b2,?_,k + 1,?_⟩
        · unfold zd7
          rw [hc a hp,g]
          simp only [R.toO_ok,if_true,h1]
          exact b3
        · rw [b4]
          clear b4 b3 b2 b1 b h3 h2 h1 hm hp ih
          induction k with
          | zero=>rfl
          | succ k ih=>show nxt (Nat.repeat nxt k (nxt a))=nxt (Nat.repeat nxt (k + 1) a); rw [ih]
  obtain ⟨b,b1,b2,b3,k⟩:=key (μ a + 1) a h (Nat.lt_succ_self _)
  exact ⟨b,b1,b2,zjC b3 (by intro z; cases z),k⟩
theorem zgB {β:Type} {f:D→R (Option D)} (enc:β→D) (g:β→Option D):∀ (l:List β),(∀ x ∈ l,f (enc x) = .ok (g x))→zdu f (l.map enc) = .ok (l.filterMap g)
  | [],_=>rfl
  | x :: l,h=>by
    rw [List.map_cons]
    unfold zdu
    rw [h x List.mem_cons_self,R.bind_ok,zgB enc g l fun y hy=>h y (List.mem_cons_of_mem _ hy)]
    cases q:g x with
    | none=>rw [List.filterMap_cons_none q]; rfl
    | some d=>rw [List.filterMap_cons_some q]; rfl
theorem small {n:Nat} (h:n ≤ 100000):n ≤ sizeLine:=Nat.le_trans h (by decide)
theorem zmJ {n:Nat} (h:n ≤ 100000):n < sizeLine:=Nat.lt_of_le_of_lt h (by decide)
end PM
namespace PM
open PySem L2
theorem fitN {i:Int} (n:Nat) (h:i.natAbs ≤ n) (h2:n < 2 ^ 8000:=by decide +kernel):Fit i:=Nat.lt_of_le_of_lt h h2
@[simp] theorem zle (i j:Int):oAdd (.int i) (.int j)=some (.int (i + j)):=rfl
@[simp] theorem zrv (i j:Int):oSub (.int i) (.int j)=some (.int (i - j)):=rfl
theorem zcd {i j:Int} (h:Fit i) (h':Fit j):oMul (.int i) (.int j)=some (.int (i * j)):=zbE (p:=Fit i∧Fit j) ⟨h,h'⟩
theorem zqu {i j:Int} (h:j ≠ 0) (h':Fit j):oDiv (.int i) (.int j)=some (.int (i.fdiv j)):=zbE (p:=j ≠ 0∧Fit j) ⟨h,h'⟩
theorem zca {i j:Int} (h:0 < j) (h':Fit j):oDiv (.int i) (.int j)=some (.int (i / j)):=by
  rw [zqu (by omega) h',Int.fdiv_eq_ediv_of_nonneg _ (by omega)]
theorem zbn {i j:Int} (h:0 < j):oMod (.int i) (.int j)=some (.int (i % j)):=zbE (p:=0 < j) h
theorem zoy {i j:Int} (h:CPow i j):oPow (.int i) (.int j)=some (.int (i ^ j.toNat)):=zbE (p:=CPow i j) h
@[simp] theorem zrF (i j:Int):oLt (.int i) (.int j)=some (.bl (decide (i < j))):=rfl
@[simp] theorem zrA (i j:Int):oLe (.int i) (.int j)=some (.bl (decide (i ≤ j))):=rfl
@[simp] theorem zlL (i j:Int):oGt (.int i) (.int j)=some (.bl (decide (j < i))):=rfl
@[simp] theorem zrB (i j:Int):oGe (.int i) (.int j)=some (.bl (decide (j ≤ i))):=rfl
@[simp] theorem zrw (i:Int):oNeg (.int i)=some (.int (-i)):=rfl
@[simp] theorem zpT (i j:Int):oEq (.int i) (.int j)=some (.bl (decide (i=j))):=by simp [oEq,fl,scal]
@[simp] theorem zrz (i j:Int):oNe (.int i) (.int j)=some (.bl (!decide (i=j))):=by simp [oNe,fl,scal]
@[simp] theorem zrD (d:D):oIs d .non=some (.bl (isN d)):=rfl
@[simp] theorem zff (b:Bool):asB (.bl b)=some b:=rfl
@[simp] theorem zqp (l:List D):asL (.lst l)=some l:=rfl
@[simp] theorem zqa (i:Int):asI (.int i)=some i:=rfl
@[simp] theorem zop (l:List D):fLen [.lst l]=some (.int l.length):=rfl
@[simp] theorem zru (l:List D):fLen [.tup l]=some (.int l.length):=rfl
@[simp] theorem zra (k:List Key) (l:List D):znp [.dct k l]=some (.int k.length):=rfl
@[simp] theorem zri (l:List D):zdI [.lst l]=some (.lst l):=rfl
@[simp] theorem zrb (a b:D):oIxT (.tup [a,b]) (.int 0)=some a:=rfl
@[simp] theorem zrp (a b:D):oIxT (.tup [a,b]) (.int 1)=some b:=rfl
theorem atI_nat {α:Type} {l:List α} {k:Nat} {d:α} (h:l[k]?=some d):atI l (k:Int)=some d:=by
  have hk:=(List.getElem?_eq_some_iff.mp h).1
  unfold atI ixN
  rw [if_pos (by omega),if_pos (by omega)]
  exact h
theorem zng {l:List D} {k:Nat} {d:D} (h:l[k]?=some d):oIxL (.lst l) (.int (k:Int))=some d:=atI_nat h
theorem zdC {l:List D} {i:Int} {d:D} (h0:0 ≤ i) (h:l[i.toNat]?=some d):oIxL (.lst l) (.int i)=some d:=by
  have e:i=((i.toNat:Nat):Int):=by omega
  rw [e]
  exact zng h
theorem rng1 {n:Int} (h0:0 ≤ n) (h:n ≤ 100000):rng [.int n]=some (zgb 0 n.toNat):=by
  show ifC _ _ _=_
  rw [zbE (by omega)]
theorem rng2 {a b:Int} (h0 : -100000 ≤ a∧a ≤ 100000) (h : -100000 ≤ b∧b ≤ 100000):rng [.int a,.int b]=some (zgb a (b - a).toNat):=by
  show ifC _ _ _=_
  rw [zbE (by omega)]
theorem zkd (n:Nat):zgb 0 n=(List.range n).map fun (k:Nat)=>D.int (k:Int):=by
  unfold zgb
  exact List.map_congr_left fun k _=>by simp
theorem zlp (l:List D):zi9 l=(l.zipIdx).map fun p=>D.tup [.int (p.2:Int),p.1]:=by
  unfold zi9
  rw [List.mapIdx_eq_zipIdx_map]
@[simp] theorem zrE (a b:α):([a,b].length ≤ sizeLine)=True:=by simp [sizeLine]
end PM
namespace PM
open PySem L2
def sv:Option D→Sl
  | none=>.no
  | some d=>.v d
theorem za7 {i:Nat} {d:D} {δ:En} {o:Option D} (h:δ[i]?=some (sv o)):zao i d δ=some (δ.set i (.v d)):=by
  unfold zao
  rw [h]
  cases o <;> rfl
@[simp] theorem zre:sv none = .no:=rfl
@[simp] theorem zrf (d:D):sv (some d) = .v d:=rfl
def dk (L:List Int):D:=.dct (L.map .inl) (L.map fun _=>.bl true)
theorem zmB (L:List Int) (t:Int):getK (L.map .inl) (L.map fun _=>.bl true) (.inl t)=if t ∈ L then some (.bl true) else none:=by
  induction L with
  | nil=>rfl
  | cons a l ih =>
    simp only [List.map_cons,getK,ih]
    by_cases h:a=t
    · subst h; simp
    · have h':¬ (Sum.inl a:Key)=Sum.inl t:=fun e=>h (Sum.inl.inj e)
      rw [if_neg h']
      have e:(t ∈ a :: l)=(t ∈ l):=by
        rw [List.mem_cons]
        exact propext ⟨fun z=>z.resolve_left (fun e=>h e.symm),.inr⟩
      simp only [e]
theorem zqd (L:List Int) (t:Int):(L.map (.inl:Int→Key)).any (fun a=>decide (a = .inl t))=decide (t ∈ L):=by
  rw [Bool.eq_iff_iff]
  simp only [List.any_eq_true,List.mem_map,decide_eq_true_eq]
  constructor
  · rintro ⟨x,⟨a,h1,rfl⟩,h2⟩
    cases h2; exact h1
  · intro h
    exact ⟨_,⟨t,h,rfl⟩,rfl⟩
theorem zpC (L:List Int) (t:Int):putL (L.map .inl) (L.map fun _=>.bl true) (.inl t) (.bl true)=L.map fun _=>.bl true:=by
  induction L with
  | nil=>rfl
  | cons a l ih=>simp only [List.map_cons,putL,ih,ite_self]
theorem zqe (L:List Int) (t:Int):putD (L.map .inl) (L.map fun _=>.bl true) (.inl t) (.bl true)=dk (if t ∈ L then L else L ++ [t]):=by
  unfold putD
  rw [zqd]
  by_cases h:t ∈ L
  · rw [if_pos (by simpa using h),if_pos h,zpC]; rfl
  · rw [if_neg (by simpa using h),if_neg h]
    simp [dk]
theorem zpe (L:List Int) (t:Int):zn7 (L.map .inl) (L.map fun _=>.bl true) (.inl t)=dk (L.filter fun a=>decide (a ≠ t)):=by
  unfold zn7 dk
  congr 1
  · induction L with
    | nil=>rfl
    | cons a l ih =>
      simp only [List.map_cons,List.filter_cons]
      by_cases h:a=t
      · subst h; simpa using ih
      · have h':¬ (Sum.inl a:Key)=Sum.inl t:=fun e=>h (Sum.inl.inj e)
        simp only [h,h',ne_eq,not_false_eq_true,decide_true,if_true,List.map_cons,ih]
  · induction L with
    | nil=>rfl
    | cons a l ih =>
      simp only [List.map_cons,zkI,List.filter_cons]
      by_cases h:a=t
      · subst h; simpa using ih
      · have h':¬ (Sum.inl a:Key)=Sum.inl t:=fun e=>h (Sum.inl.inj e)
        rw [if_neg h',ih]
        simp [h]
@[simp] theorem zrx (L:List Int) (t:Int):dIn (.int t) (dk L)=some (.bl (decide (t ∈ L))):=by
  simp only [dIn,asK,dk,zmB]
  by_cases h:t ∈ L <;> simp [h]
@[simp] theorem zqk (L:List Int) (t:Int):zik (.int t) (dk L)=some (.bl (!decide (t ∈ L))):=by
  simp only [zik,asK,dk,zmB]
  by_cases h:t ∈ L <;> simp [h]
@[simp] theorem zq5 (L:List Int):znp [dk L]=some (.int L.length):=by simp [dk]
theorem ziO {i:Nat} {mk me:En→R D} {δ:En} {L:List Int} {t:Int} (h:δ[i]?=some (.o (dk L))) (h1:mk δ = .ok (.int t)) (h2:me δ = .ok (.bl true)) (hl:L.length ≤ 100000) :
    zhr i mk me δ = .nx (δ.set i (.o (dk (if t ∈ L then L else L ++ [t])))):=by
  unfold zhr
  rw [h]
  simp only [dk,h2,h1,R.toO_ok,asK]
  rw [zbE (by rw [List.length_map]; exact zmJ hl),zqe]
  rfl
theorem znG {i:Nat} {mk:En→R D} {δ:En} {L:List Int} {t:Int} (h:δ[i]?=some (.o (dk L))) (h1:mk δ = .ok (.int t)) (ht:t ∈ L) :
    zlS i mk δ = .nx (δ.set i (.o (dk (L.filter fun a=>decide (a ≠ t))))):=by
  unfold zlS
  rw [h]
  simp only [dk,h1,R.toO_ok,asK,zmB,if_pos ht]
  rw [zpe]
  rfl
def iL (l:List Int):D:=.lst (l.map .int)
theorem zeW {α:Type} {f:D→R (Option D)} (enc:α→D) (p:α→Bool) (l:List α) (h:∀ x ∈ l,f (enc x) = .ok (if p x=true then some (enc x) else none)):zdu f (l.map enc) = .ok ((l.filter p).map enc):=by
  rw [zgB enc (fun x=>if p x=true then some (enc x) else none) l h]
  congr 1
  induction l with
  | nil=>rfl
  | cons a l ih =>
    have ih':=ih fun x hx=>h x (List.mem_cons_of_mem _ hx)
    by_cases hp:p a=true
    · rw [List.filterMap_cons_some (b:=enc a) (by simp [hp]),ih',List.filter_cons_of_pos hp,List.map_cons]
    · rw [List.filterMap_cons_none (by simp [hp]),ih',List.filter_cons_of_neg hp]
theorem zaZ {α:Type} {f:D→R (Option D)} (enc:α→D) (g:α→D) (l:List α) (h:∀ x ∈ l,f (enc x) = .ok (some (g x))):zdu f (l.map enc) = .ok (l.map g):=by
  rw [zgB enc (fun x=>some (g x)) l h,List.filterMap_eq_map']
end PM
namespace PM
open PySem L2
theorem za8 {mi:En→R (List D)} {ix:List Nat} {n:Nat} {b:D→En→Option En} {nc:Option (En→R Bool)} {me:En→R D} {δ:En} {l r:List D} (h1:mi δ = .ok l) (hl:l.length ≤ 100000)
    (h2:zdu (zcc b nc me (za1 δ ix n)) l = .ok r):zcM mi ix n b nc me δ = .ok (.lst r):=by
  unfold zcM
  rw [h1,R.bind_ok,zbE (small hl),h2]
  rfl
theorem zbp {mi:En→R (List D)} {b:D→En→Option En} {m:En→O} {δ:En} {l:List D} (h:mi δ = .ok l):mFor mi b m δ=zcI b m l δ:=by
  unfold mFor
  rw [h]
  rfl
theorem zbl {np nv:Nat} {m:En→O} {ds:List D} {d:D} (h:m (zcY nv ds) = .rt d) (hl:ds.length=np:=by rfl):runF np nv m ds = .ok d:=by
  unfold runF
  rw [if_pos hl,h]
theorem zo7 {np nv:Nat} {m:En→O} {ds:List D} {δ:En} (h:m (zcY nv ds) = .nx δ) (hl:ds.length=np:=by rfl):runF np nv m ds = .ok .non:=by
  unfold runF
  rw [if_pos hl,h]
theorem zcJ {np nv:Nat} {m:En→O} {ds:List D} {d:D} (h:m (zcY nv ds) = .ro d) (hl:ds.length=np:=by rfl):runO np nv m ds = .ok d:=by
  unfold runO
  rw [if_pos hl,h]
theorem zal {m n:En→O} {δ δ':En} (h:m δ = .nx δ'):mSeq m n δ=n δ':=by unfold mSeq; rw [h]
theorem zaE {me:En→R D} {b:D→En→Option En} {δ δ':En} {d:D} (h:me δ = .ok d) (h2:b d δ=some δ'):mAsg me b δ = .nx δ':=by unfold mAsg; rw [h,R.toO_ok,h2]; rfl
theorem zbj {n:En→R Bool} {m m':En→O} {δ:En} (h:n δ = .ok true):mIfS n m m' δ=m δ:=by unfold mIfS; rw [h]; rfl
theorem zbb {n:En→R Bool} {m m':En→O} {δ:En} (h:n δ = .ok false):mIfS n m m' δ=m' δ:=by unfold mIfS; rw [h]; rfl
theorem zb6 {β:Type} {b:D→En→Option En} {m:En→O} (enc:β→D) (P:List β→En→Prop) (all:List β)
    (step:∀ pre x post δ,all=pre ++ x :: post→P pre δ→∃ δ1 δ2,b (enc x) δ=some δ1∧(m δ1 = .nx δ2∨m δ1 = .ct δ2)∧P (pre ++ [x]) δ2) (δ:En) (h:P [] δ):∃ δ2,zcI b m (all.map enc) δ = .nx δ2∧P all δ2:=by
  have key:∀ (post pre:List β) (δ:En),all=pre ++ post→P pre δ→∃ δ2,zcI b m (post.map enc) δ = .nx δ2∧P all δ2:=by
    intro post
    induction post with
    | nil=>intro pre δ e h; exact ⟨δ,rfl,by rw [e,List.append_nil]; exact h⟩
    | cons x post ih =>
      intro pre δ e h
      obtain ⟨δ1,δ2,h1,h2,h3⟩:=step pre x post δ e h
      obtain ⟨δ3,h4,h5⟩:=ih (pre ++ [x]) δ2 (by rw [e]; simp) h3
      refine ⟨δ3,?_,h5⟩
      rw [List.map_cons]
      unfold zcI
      rw [h1]
      rcases h2 with h2 | h2 <;> (simp only [h2]; exact h4)
  exact key all [] δ rfl h
end PM
namespace PM
open PySem L2
@[simp] theorem zkO (l:List Int):fLen [iL l]=some (.int l.length):=by simp [iL]
@[simp] theorem zry (l:List Int):asL (iL l)=some (l.map .int):=rfl
theorem zfr {α:Type} {l:List α} {pre post:List (α × Nat)} {x:α × Nat} (h:l.zipIdx=pre ++ x :: post):x.2=pre.length∧l[x.2]?=some x.1∧∀ q ∈ pre,q.2 < x.2:=by
  have at':∀ (k:Nat) (y:α × Nat),(pre ++ x :: post)[k]?=some y→l[k]?=some y.1∧y.2=k:=by
    intro k y hk
    rw [← h,List.getElem?_zipIdx] at hk
    cases e:l[k]? with
    | none=>rw [e] at hk; cases hk
    | some a=>rw [e] at hk; cases hk; exact ⟨rfl,by simp⟩
  obtain ⟨h1,h2⟩:=at' pre.length x (by simp)
  refine ⟨h2,by rw [h2]; exact h1,fun q hq=>?_⟩
  obtain ⟨k,hk,e⟩:=List.getElem_of_mem hq
  obtain ⟨_,h3⟩:=at' k q (by rw [List.getElem?_append_left hk,List.getElem?_eq_getElem hk,e])
  omega
end PM
namespace PM
open PySem L2
theorem zoq {l r:List D} (h:l.length + r.length ≤ 100000):oCat (.lst l) (.lst r)=some (.lst (l ++ r)):=by
  show ifC _ _ _=_
  rw [zbE (small h)]
theorem zkb {x y:D} (hx:zbm 8 x=true) (hy:zbm 8 y=true) (h:x=y):oEqD x y=some (.bl true):=by
  unfold oEqD
  rw [zbE ⟨hx,hy⟩]
  simp [h]
theorem zmT {x y:D} (hx:zbm 8 x=true) (hy:zbm 8 y=true) (h:x=y):oNeD x y=some (.bl false):=by
  unfold oNeD
  rw [zbE ⟨hx,hy⟩]
  simp [h]
theorem zdq (l:List Int):zbm 8 (iL l)=true:=by
  show (l.map D.int).all (zbm 7)=true
  rw [List.all_map,List.all_eq_true]
  intro x _; rfl
end PM
namespace PM
open PySem L2 PyProof.Rows
section
variable {K:Kx} {ca:Nat→Addr} {an:Nat→Str} {XO:XOT} {E:L2.St→XK} {ta tb te:TE} {ma mb me:En→R D} {X:Cx}
def zqj:R2:=fun x y H Q=>∃ l b xs zs,x = .ref l∧y = .ref b∧Rd H l (.lst xs)∧Rd H b (.lst zs)∧xs.length + zs.length ≤ sizeLine∧∀ p,H p=none→Q (.ref p) (upd H p (.lst (xs ++ zs)))
theorem zcG:OpR X (binaryOp .Add) zqj:=by
  intro pins s σ H x y v u Q I rx ry h
  obtain ⟨l,b,xs,zs,rfl,rfl,hH,hB,hz,q⟩:=h
  cases rx
  cases ry
  obtain ⟨z,its,n,r,e⟩:=hH.ok I.hok
  obtain ⟨z2,its2,n2,r2,e2⟩:=hB.ok I.hok
  have hl:=r.length
  have hl2:=r2.length
  refine PySem.P.add_list e e2 ?_ (by rw [List.size_toArray,List.size_toArray]; omega)
  have ea:its.toArray ++ its2.toArray=(its ++ its2).toArray:=by simp
  rw [ea]
  exact ⟨.ref _,_,I.lnew (t':=s.toks) (r.append r2) (by rw [List.length_append]; omega),rfl,q _ I.fresh⟩
theorem zdG:SRo K zqj oCat:=by
  intro F H x y dx dy d Q s hx hy e q
  cases dx with
  | lst l =>
    cases dy with
    | lst r =>
      simp only [oCat] at e
      unfold ifC at e
      split at e
      · rename_i hc
        cases e
        obtain ⟨a,vs,rfl,h1,h2⟩:=hx
        obtain ⟨b,ws,rfl,g1,g2⟩:=hy
        exact ⟨a,b,vs,ws,rfl,rfl,h1,g1,by rw [h2.length,g2.length]; exact hc,fun p hp=>q p F _ (.newO s hp) (s.free hp) hp ⟨_,zaR,h2.append g2⟩⟩
      · cases e
    | _=>cases e
  | _=>cases e
theorem zdx {F:Hp}:∀ {ns:List Int} {xs:List V},RepL K F (ns.map .int) xs→xs=ns.map V.int
  | [],xs,h=>by simpa only [List.map_nil,RepL] using h
  | n :: ns,xs,h=>by
    simp only [List.map_cons,RepL,Rep] at h
    obtain ⟨v,r,rfl,rfl,h3⟩:=h
    rw [zdx h3]; rfl
def rSum:List V→Hp→VK→Prop:=fun xs H Q=>∃ (p:Addr) (ns:List Int),xs = [.ref p]∧Rd H p (.lst (ns.map V.int))∧Q (.int ns.sum) H
theorem zmO {ds:List D} {d:D} (h:fSum ds=some d):∃ ns:List Int,ds = [.lst (ns.map .int)]∧d = .int ns.sum:=by
  unfold fSum at h
  split at h
  · rename_i l
    cases z:asIs l with
    | none=>rw [z] at h; cases h
    | some ns=>rw [z] at h; cases h; exact ⟨ns,by rw [zdS z],rfl⟩
  · cases h
theorem zfD:SC K rSum fSum:=by
  intro F H vs ds d Q s r e q
  obtain ⟨ns,rfl,rfl⟩:=zmO e
  cases r with
  | cons r r' =>
    cases r'
    obtain ⟨a,xs,rfl,h1,h2⟩:=r
    have ex:=zdx h2
    subst ex
    exact ⟨a,ns,rfl,h1,q _ F H (.refl s) (by simp only [Rep])⟩
theorem zbx (hc:X.calm=true):zfP X (.builtin "sum") rSum:=by
  intro pins s σ H xs us Q I r h
  obtain ⟨p,ns,rfl,hq,q⟩:=h
  obtain ⟨u,rfl,rx⟩:=zgc r
  cases rx
  obtain ⟨z,its,n,rv,e⟩:=hq.ok I.hok
  obtain ⟨ts,rfl,htl⟩:∃ ts:List Tok,its=(ns.zip ts).map (fun p=>Value.int p.1 p.2)∧ts.length=ns.length:=by
    clear e hq q z
    induction ns generalizing its with
    | nil=>cases rv; exact ⟨[],rfl,rfl⟩
    | cons a l ih =>
      cases rv with
      | cons h t =>
        obtain ⟨tk,rfl⟩:=h
        obtain ⟨ts,rfl,hl⟩:=ih _ t
        exact ⟨tk :: ts,rfl,by simp [hl]⟩
  have ei:((ns.zip ts).map (fun p=>Value.int p.1 p.2)).toArray=intItems (ns.zip ts).toArray:=by simp [intItems]
  rw [ei] at e
  refine sum_intListG (I.ok.hd hc) ⟨_,e,rfl,n,rfl⟩ fun h' tk t' hk=>?_
  have es:preSum (numAt (ns.zip ts).toArray) (ns.zip ts).toArray.size=ns.sum:=by
    rw [preSum_eq,List.take_of_length_le (by simp)]
    have:(ns.zip ts).map (·.1)=ns:=List.map_fst_zip (by omega)
    show ((ns.zip ts).map (·.1)).sum=_
    rw [this]
  rw [es]
  exact ⟨.int ns.sum,H,I.kept (t':=tk) hk,⟨_,rfl⟩,q⟩
def zno:D→String
  | .non=>"NoneType"
  | .bl _=>"bool"
  | .int _=>"int"
  | .str _=>"str"
  | .tup _=>"tuple"
  | .lst _=>"list"
  | .dct _ _=>"dict"
  | .scr _=>"list"
  | .exc _=>"object"
  | .fd _ _=>"object"
  | .obj _ _ _=>"object"
theorem zg3 {K:W.Frag}:PySem.W.kitOne K (.type "NoneType") (.type "str")=some false:=L2.kit_no (by decide +kernel) (by decide +kernel) (by decide +kernel)
theorem zj7 {K:W.Frag}:PySem.W.kitOne K (.type "bool") (.type "str")=some false:=L2.kit_no (by decide +kernel) (by decide +kernel) (by decide +kernel)
theorem zkC {K:W.Frag}:PySem.W.kitOne K (.type "int") (.type "str")=some false:=L2.kit_no (by decide +kernel) (by decide +kernel) (by decide +kernel)
theorem zkz {K:W.Frag}:PySem.W.kitOne K (.type "str") (.type "str")=some true:=L2.kit_self
theorem ziR {K:W.Frag}:PySem.W.kitOne K (.type "tuple") (.type "str")=some false:=L2.kit_no (by decide +kernel) (by decide +kernel) (by decide +kernel)
theorem zj3 {K:W.Frag}:PySem.W.kitOne K (.type "list") (.type "str")=some false:=L2.kit_no (by decide +kernel) (by decide +kernel) (by decide +kernel)
theorem zjI {K:W.Frag}:PySem.W.kitOne K (.type "dict") (.type "str")=some false:=L2.kit_no (by decide +kernel) (by decide +kernel) (by decide +kernel)
theorem zob {K:W.Frag} (d:D) (h:okI d=true):PySem.W.kitOne K (.type (zno d)) (.type "str")=some (isiB "str" d):=by
  cases d with
  | non=>exact zg3
  | bl b=>exact zj7
  | int b=>exact zkC
  | str b=>exact zkz
  | tup b=>exact ziR
  | lst b=>exact zj3
  | dct b b'=>exact zjI
  | scr b=>cases h
  | exc b=>cases h
  | fd b b'=>cases h
  | obj b b' b''=>cases h
theorem zpS {c:String} (hk:∀ d,okI d=true→PySem.W.kitOne K.f (.type (zno d)) (.type c)=some (isiB c d)) (ha:SEr K XO E ta ma):SE K XO E (tCB (rIs K.f) (zeU ta (zeU (tC (.ty c)) tNil))) (m1 (oIsi c) ma):=by
  intro Λ F0 H0 F H σ δ Q I a
  refine ha Λ F0 H0 F H σ δ _ I (a.bind.imp fun d F1 H1 e1 a1 x rx=>?_)
  by_cases hs':okI d=true
  case neg =>
    cases d with
    | scr _=>exact a1.elim
    | exc _=>exact a1.elim
    | fd _ _=>exact a1.elim
    | obj _ _ _=>exact a1.elim
    | _=>exact absurd rfl hs'
  have a2:Aft E XO σ F1 H1 (fun d F' H'=>∀ v,Rep K F' d v→Q v H') (.ok (.bl (isiB c d))):=by
    cases d with
    | scr l=>cases hs'
    | exc l=>cases hs'
    | fd _ _=>cases hs'
    | obj _ _ _=>cases hs'
    | _=>exact a1
  have fin:=a2 F1 H1 (.refl e1.fh) (.bl (isiB c d)) (by simp only [Rep])
  suffices h:TyOf K.f H1 x (.type (zno d)) from ⟨x,.ty c,.type c,_,_,rfl,rfl,h,hk d hs',fin⟩
  cases d with
  | non=>simp only [Top,Rep] at rx; subst rx; exact .non
  | bl b=>simp only [Top,Rep] at rx; subst rx; exact .bl _
  | int b=>simp only [Top,Rep] at rx; subst rx; exact .int _
  | str b=>simp only [Top,Rep] at rx; subst rx; exact .str _
  | tup l =>
    simp only [Top,Rep] at rx
    obtain ⟨p,vs,rfl,h1,h2⟩:=rx
    exact .tup (e1.fh _ _ h1)
  | lst l =>
    obtain ⟨p,vs,rfl,h1,h2⟩:=rx
    rcases h1 with h | ⟨o,h⟩
    · exact .lst h
    · exact .frz h
  | dct ks l=>obtain ⟨p,kvs,rfl,h1,h2⟩:=rx; exact .dK h1
  | scr l=>cases hs'
  | exc l=>cases hs'
  | fd _ _=>cases hs'
  | obj _ _ _=>cases hs'
def toPy:Nat→D→PyData
  | _,.non=>.none
  | _,.int i=>.int i
  | n + 1,.tup l=>.tuple (l.map (toPy n))
  | n + 1,.lst l=>.list (l.map (toPy n))
  | _,_=>.none
theorem zhe:∀ (n:Nat) (d:D),zbm n d=true→(toPy n d).canLay0=true∧(toPy n d).depth ≤ n:=by
  intro n
  induction n with
  | zero =>
    intro d h
    cases d with
    | non=>exact ⟨rfl,Nat.le_refl _⟩
    | int i=>exact ⟨rfl,Nat.le_refl _⟩
    | _=>cases h
  | succ n ih =>
    have all:∀ l:List D,l.all (zbm n)=true→PyData.canLayAll0 (l.map (toPy n))=true∧PyData.depthAll (l.map (toPy n)) ≤ n:=by
      intro l
      induction l with
      | nil=>intro _; exact ⟨rfl,Nat.zero_le _⟩
      | cons a l ih2 =>
        intro h
        rw [List.all_cons,Bool.and_eq_true] at h
        obtain ⟨h1,h2⟩:=ih a h.1
        obtain ⟨h3,h4⟩:=ih2 h.2
        refine ⟨?_,?_⟩
        · simp only [List.map_cons,PyData.canLayAll0,h1,h3,Bool.and_self]
        · simp only [List.map_cons,PyData.depthAll]; omega
    intro d h
    cases d with
    | non=>exact ⟨rfl,Nat.zero_le _⟩
    | int i=>exact ⟨rfl,Nat.zero_le _⟩
    | tup l=>obtain ⟨h1,h2⟩:=all l h; exact ⟨by simpa only [toPy,PyData.canLay0] using h1,by simp only [toPy,PyData.depth]; omega⟩
    | lst l=>obtain ⟨h1,h2⟩:=all l h; exact ⟨by simpa only [toPy,PyData.canLay0] using h1,by simp only [toPy,PyData.depth]; omega⟩
    | _=>cases h
open Classical in
theorem zmN:∀ (n:Nat) (d d':D),zbm n d=true→zbm n d'=true→PyData.eqv (toPy n d) (toPy n d')=decide (d=d'):=by
  intro n
  induction n with
  | zero =>
    intro d d' h h'
    cases d with
    | non=>cases d' <;> first | (simp [toPy,PyData.eqv]; done) | cases h'
    | int i =>
      cases d' with
      | int j=>simp only [toPy,PyData.eqv]; by_cases e:i=j <;> simp [e]
      | _=>first | (simp [toPy,PyData.eqv]; done) | cases h'
    | _=>cases h
  | succ n ih =>
    have all:∀ l l':List D,l.all (zbm n)=true→l'.all (zbm n)=true→PyData.eqvAll (l.map (toPy n)) (l'.map (toPy n))=decide (l=l'):=by
      intro l
      induction l with
      | nil=>intro l' _ _; cases l' <;> simp [PyData.eqvAll]
      | cons a l ih2 =>
        intro l' h h'
        cases l' with
        | nil=>simp [PyData.eqvAll]
        | cons b l' =>
          rw [List.all_cons,Bool.and_eq_true] at h h'
          simp only [List.map_cons,PyData.eqvAll,ih a b h.1 h'.1,ih2 l' h.2 h'.2]
          by_cases e1:a=b <;> by_cases e2:l=l' <;> simp [e1,e2]
    intro d d' h h'
    cases d with
    | non=>cases d' <;> first | (simp [toPy,PyData.eqv]; done) | cases h'
    | int i =>
      cases d' with
      | int j=>simp only [toPy,PyData.eqv]; by_cases e:i=j <;> simp [e]
      | _=>first | (simp [toPy,PyData.eqv]; done) | cases h'
    | tup l =>
      cases d' with
      | tup l'=>simp only [toPy,PyData.eqv,all l l' h h']; simp
      | _=>first | (simp [toPy,PyData.eqv]; done) | cases h'
    | lst l =>
      cases d' with
      | lst l'=>simp only [toPy,PyData.eqv,all l l' h h']; simp
      | _=>first | (simp [toPy,PyData.eqv]; done) | cases h'
    | _=>cases h
theorem zn0 {pins:List (Addr × Obj)} {σ:L2.St} {H F:Hp} {s:Shared} (I:Inv X pins σ H s) (sm:Same F H):∀ (n:Nat) (d:D) (v:V) (u:Value),zbm n d=true→Rep ⟨X.K,ca,an⟩ F d v→RelV v u→∃ as,Reads s.heap u (toPy n d) as:=by
  intro n
  induction n with
  | zero =>
    intro d v u h r ru
    cases d with
    | non=>simp only [Rep] at r; subst r; cases ru; exact ⟨_,.none⟩
    | int i=>simp only [Rep] at r; subst r; obtain ⟨t,rfl⟩:=ru; exact ⟨_,.int i t⟩
    | _=>cases h
  | succ n ih =>
    have all:∀ (l:List D) (vs:List V) (us:List Value),l.all (zbm n)=true→RepL ⟨X.K,ca,an⟩ F l vs→Vals vs us→∃ as,ReadsAll s.heap us (l.map (toPy n)) as:=by
      intro l
      induction l with
      | nil=>intro vs us _ r ru; simp only [RepL] at r; subst r; cases ru; exact ⟨_,.nil⟩
      | cons a l ih2 =>
        intro vs us h r ru
        rw [List.all_cons,Bool.and_eq_true] at h
        simp only [RepL] at r
        obtain ⟨v,r',rfl,r1,r2⟩:=r
        cases ru with
        | cons ru ru' =>
          obtain ⟨as,h1⟩:=ih a v _ h.1 r1 ru
          obtain ⟨bs,h2⟩:=ih2 r' _ h.2 r2 ru'
          exact ⟨_,.cons h1 h2⟩
    intro d v u h r ru
    cases d with
    | non=>simp only [Rep] at r; subst r; cases ru; exact ⟨_,.none⟩
    | int i=>simp only [Rep] at r; subst r; obtain ⟨t,rfl⟩:=ru; exact ⟨_,.int i t⟩
    | tup l =>
      simp only [Rep] at r
      obtain ⟨a,vs,rfl,h1,h2⟩:=r
      cases ru
      obtain ⟨its,rv,⟨o,e,c,k,dd⟩,_⟩:=I.tuple (show SqT X.K H a vs from .inl (.inl (sm _ _ h1)))
      obtain ⟨as,h3⟩:=all l vs its h h2 rv
      exact ⟨_,.tuple e c dd (by simpa using h3)⟩
    | lst l =>
      simp only [Rep] at r
      obtain ⟨a,vs,rfl,h1,h2⟩:=r
      cases ru
      obtain ⟨its,rv,⟨o,k,e,c,_,dd⟩,_⟩:=I.list (show SqL X.K H a vs from .inl (PM.Same.rd sm h1))
      obtain ⟨as,h3⟩:=all l vs its h h2 rv
      exact ⟨_,.list e c dd (by simpa using h3)⟩
    | _=>cases h
theorem zf2 {pins:List (Addr × Obj)} {σ:L2.St} {H F:Hp} {s:Shared} (I:Inv X pins σ H s) (sm:Same F H) {n:Nat} {d:D} {v:V} {u:Value} (h:zbm n d=true) (r:Top ⟨X.K,ca,an⟩ F H d v) (ru:RelV v u):∃ as,Reads s.heap u (toPy n d) as:=by
  have r':Rep ⟨X.K,ca,an⟩ (zdm F H) d v:=by
    cases d with
    | lst l =>
      obtain ⟨a,vs,rfl,h1,h2⟩:=r
      rcases h1 with h1 | ⟨o,h1⟩
      · exact ziD sm (.inr (.inl ⟨a,rfl,vs,h1,h2⟩))
      · simp only [Rep]
        refine ⟨a,vs,rfl,.inr ⟨o,?_⟩,h2.mono zem⟩
        unfold zdm
        cases q:F a with
        | some u=>rw [sm _ _ q] at h1; exact h1
        | none=>simp only [h1]
    | dct ks l=>cases n <;> cases h
    | obj c ks l=>cases n <;> cases h
    | _=>exact Rep.mono zem _ r
  exact zn0 I (zjl sm) n d v u h r' ru
open Classical in
def rEqD (K:Kx) (neg:Bool):R2:=fun x y H Q=>∃ (F:Hp) (dx dy:D),Same F H∧Top K F H dx x∧Top K F H dy y∧zbm 8 dx=true∧zbm 8 dy=true∧Q (.bl (if neg=true then !decide (dx=dy) else decide (dx=dy))) H
theorem zmQ (hu:X.A.units + 64 < cLine):OpR X (compareOp .Eq) (rEqD ⟨X.K,ca,an⟩ false):=by
  intro pins s σ H x y v u Q I rx ry h
  obtain ⟨F,dx,dy,sm,tx,ty,px,py,q⟩:=h
  obtain ⟨as,ra⟩:=zf2 I sm px tx rx
  obtain ⟨bs,rb⟩:=zf2 I sm py ty ry
  obtain ⟨l1,l2⟩:=zhe 8 dx px
  obtain ⟨m1,m2⟩:=zhe 8 dy py
  refine SeqAt.compareEq_reads ra rb l1 m1 (by omega) ?_
  rw [zmN 8 dx dy px py]
  exact ⟨.bl _,H,I,rfl,q⟩
theorem zmZ (hu:X.A.units + 64 < cLine):OpR X (compareOp .NotEq) (rEqD ⟨X.K,ca,an⟩ true):=by
  intro pins s σ H x y v u Q I rx ry h
  obtain ⟨F,dx,dy,sm,tx,ty,px,py,q⟩:=h
  obtain ⟨as,ra⟩:=zf2 I sm px tx rx
  obtain ⟨bs,rb⟩:=zf2 I sm py ty ry
  obtain ⟨l1,l2⟩:=zhe 8 dx px
  obtain ⟨m1,m2⟩:=zhe 8 dy py
  refine SeqAt.compareNe_reads ra rb l1 m1 (by omega) ?_
  rw [zmN 8 dx dy px py]
  exact ⟨.bl _,H,I,rfl,q⟩
theorem zl4:SR K (rEqD K false) oEqD:=by
  intro F H x y dx dy d Q s hx hy e q
  unfold oEqD ifC at e
  split at e
  · rename_i h
    cases e
    exact ⟨F,dx,dy,s,hx,hy,h.1,h.2,q _ F H (.refl s) (by simp only [Rep]; rfl)⟩
  · cases e
theorem zmC:SR K (rEqD K true) oNeD:=by
  intro F H x y dx dy d Q s hx hy e q
  unfold oNeD ifC at e
  split at e
  · rename_i h
    cases e
    exact ⟨F,dx,dy,s,hx,hy,h.1,h.2,q _ F H (.refl s) (by simp only [Rep]; rfl)⟩
  · cases e
end
end PM
namespace L2
open PySem PySem.Spec PyProof.Rows
section
variable {X:Cx}
theorem zrs {o:Expr} {m:Str} {apos:Pos} {e:Expr} {cpos:Pos} (h1:attributeBase o m X.env (eval o X.env)=eval o X.env:=by rfl)
    (h2:((backTo cpos (starEach [e] X.env)).all (fun x=>!x.1) && (backToKw cpos (keywordEach [] X.env)).all (fun x=>x.1.isSome) && decide (([e]:List Expr).length + ([]:List Keyword).length + (if ([]:List Keyword).isEmpty then 0 else 1) < 30))=true:=by rfl)
    (h3:(apos.endLine == cpos.line)=true:=by rfl) (h4:backTo cpos (starEach [e] X.env) = [(false,eval e X.env)]:=by rfl):M1 X o m apos e cpos:=⟨h1,h2,h3,h4⟩
end
end L2
namespace PM
open PySem L2
section
variable {K:Kx} {XO:XOT} {E:L2.St→XK}
end
end PM
namespace PM
open PySem L2
section
variable {K:Kx} {E:L2.St→XK} {ta:TE} {ma:En→R D} {t u:TS} {m n:En→O} {Λ:List (Nat × Addr × HO)} {F0 H0 F H:Hp} {σ:L2.St} {δ:En}
end
end PM
namespace L2
open PySem PySem.Spec PyProof.Rows
section
variable {P:Program} {w:World} {B:Around} {Z:Result→Shared→Prop} {J S:Addr} {fp wr:List Addr} {n:Nat} {Pv:Nat→Value→Prop} {Sn:Nat→Heap→Prop}
theorem zjd:(toString "max" ++ toString ".loop" : String) = "max.loop":=by decide
theorem zrr (W:Walks P w B.in1 J fp wr n Pv Sn) (bt:Nat→Nat→Bool) (cmp:CmpOf P w B.in1 .Gt Pv bt) (nS:S ∉ fp) (df:Value):∀ (r i:Nat) (s:Shared) (best:Value) (c:Nat),i + 1 + r=n→Sn (i + 1) s.heap→Pv (argBest bt i) best →
    s.heap.get? S=some { cls:=.type "list",dict:=none,data:=.seq #[best,best] c,slots:=#[] } →
    (∀ v h' tk,Pv (argBest bt (n - 1)) v→(∀ b o,b ∉ wr→b ≠ S→s.heap.get? b=some o→h'.get? b=some o)→Z (.ok (.ret v)) { s with heap:=h',toks:=tk }) →
    codeAny (model P w) B (.builtin "max.loop" ⟨[.ref J,.none,.ref S],[("default",df)]⟩) Z s:=by
  have nw:S ∉ wr:=fun z=>nS (W.sub _ z)
  intro r
  induction r with
  | zero =>
    intro i s best c hr st pb atS fin
    have ei:i + 1=n:=hr
    refine codeAny_builtin F.entry_max_loop ((Around.under_plainId F.plain_max_loop (A:=B) _).symm ▸ ?_)
    refine wpAny_bind (wpAny_seqItems atS rfl (wpAny_bind (wpAny_tryCatch (W.done s _ _ (ei ▸ st) fun h1 tk kp=>?_))))
    have atS1:=kp S _ nw atS
    refine wpAny_bind (wpAny_updateSeq atS1 rfl (wpAny_bind (wpAny_letGo (wpAny_pure (fin best _ tk ?_ fun b o g1 g2 e=>?_)))))
    · rw [← ei]; exact pb
    · exact (Heap.get?_update_other _ _ (Ne.symm g2)).trans (kp b o g1 e)
  | succ r ih =>
    intro i s best c hr st pb atS fin
    have lt:i + 1 < n:=by omega
    refine codeAny_builtin F.entry_max_loop ((Around.under_plainId F.plain_max_loop (A:=B) _).symm ▸ ?_)
    refine wpAny_bind (wpAny_seqItems atS rfl (wpAny_bind (wpAny_tryCatch (W.item (i + 1) s _ _ lt st fun v h1 tk pv st1 kp=>?_))))
    have atS1:=kp S _ nw atS
    refine wpAny_bind (wpAny_pure (wpAny_bind (wpAny_tryCatch (wpAny_holding (wpAny_bind (cmp (i + 1) (argBest bt i) v best _ _ _ pv pb (wpAny_bind (wpAny_holding (wpAny_truthy_bool (wpAny_bind (wpAny_letGo (wpAny_pure ?_))))))))))))
    cases hb:bt (i + 1) (argBest bt i) with
    | true =>
      simp only [if_true]
      refine wpAny_bind (wpAny_updateSeq atS1 rfl (wpAny_bind (wpAny_letGo ?_)))
      rw [zjd]
      refine wpAny_pure ⟨plainId_quiet F.plain_max_loop _,ih (i + 1) _ v _ (by omega) (W.frame _ _ _ st1 fun b g o e=>(Heap.get?_update_other _ _ (fun z:S=b=>nS (z ▸ g))).trans e) ?_ (Heap.get?_update_self _ atS1 rfl) fun v2 h2 tk2 p2 k2=>?_⟩
      · simp only [argBest,hb,if_true]; exact pv
      · exact fin v2 h2 tk2 p2 fun b o g1 g2 e=>k2 b o g1 g2 ((Heap.get?_update_other _ _ (Ne.symm g2)).trans (kp b o g1 e))
    | false =>
      simp only [Bool.false_eq_true,if_false]
      refine wpAny_bind (wpAny_letGo ?_)
      rw [zjd]
      refine wpAny_pure ⟨plainId_quiet F.plain_max_loop _,ih (i + 1) _ best c (by omega) st1 ?_ atS1 fun v2 h2 tk2 p2 k2=>?_⟩
      · simp only [argBest,hb,Bool.false_eq_true,if_false]; exact pb
      · exact fin v2 h2 tk2 p2 fun b o g1 g2 e=>k2 b o g1 g2 (kp b o g1 e)
theorem znQ (W:Walks P w B.in1 J fp wr n Pv Sn) (bt:Nat→Nat→Bool) (cmp:CmpOf P w B.in1 .Gt Pv bt) (nS:S ∉ fp) (df:Value) {s:Shared} {c:Nat} (st:Sn 0 s.heap) (atS:s.heap.get? S=some { cls:=.type "list",dict:=none,data:=.seq #[] c,slots:=#[] })
    (f0:n=0→∀ h' tk,(∀ b o,b ∉ wr→b ≠ S→s.heap.get? b=some o→h'.get? b=some o)→Z (.ok (.ret df)) { s with heap:=h',toks:=tk })
    (fin:0 < n→∀ v h' tk,Pv (argBest bt (n - 1)) v→(∀ b o,b ∉ wr→b ≠ S→s.heap.get? b=some o→h'.get? b=some o)→Z (.ok (.ret v)) { s with heap:=h',toks:=tk }) :
    codeAny (model P w) B (.builtin "max.loop" ⟨[.ref J,.none,.ref S],[("default",df)]⟩) Z s:=by
  have nw:S ∉ wr:=fun z=>nS (W.sub _ z)
  refine codeAny_builtin F.entry_max_loop ((Around.under_plainId F.plain_max_loop (A:=B) _).symm ▸ ?_)
  refine wpAny_bind (wpAny_seqItems atS rfl ?_)
  by_cases h0:n=0
  · refine wpAny_bind (wpAny_tryCatch (W.done s _ _ (h0 ▸ st) fun h1 tk kp=>?_))
    exact wpAny_bind (wpAny_rule (wpAny_pure (f0 h0 h1 tk fun b o g1 _ e=>kp b o g1 e)))
  · have hp:0 < n:=by omega
    refine wpAny_bind (wpAny_tryCatch (W.item 0 s _ _ hp st fun v h1 tk pv st1 kp=>?_))
    have atS1:=kp S _ nw atS
    refine wpAny_bind (wpAny_pure (wpAny_bind (wpAny_updateSeq atS1 rfl ?_)))
    rw [zjd]
    refine wpAny_pure ⟨plainId_quiet F.plain_max_loop _,zrr W bt cmp nS df (n - 1) 0 _ v _ (by omega) (W.frame _ _ _ st1 fun b g o e=>(Heap.get?_update_other _ _ (fun z:S=b=>nS (z ▸ g))).trans e) pv (Heap.get?_update_self _ atS1 rfl) fun v2 h2 tk2 p2 k2=>?_⟩
    exact fin hp v2 h2 tk2 p2 fun b o g1 g2 e=>k2 b o g1 g2 ((Heap.get?_update_other _ _ (Ne.symm g2)).trans (kp b o g1 e))
end
section
variable {P:Program} {w:World} {B:Around} {E:Value→Shared→Prop} {s:Shared} {Q:Value→Shared→Prop} {l:Addr} {xs:Array (Int × Tok)} {df:Value}
theorem zpp (a b:Value):argsOk "max" ⟨[a],[("default",b)]⟩:=by
  unfold argsOk
  kernel_rfl
theorem zo6 (hh:B.handled=none) (hl:s.heap.IsList l (intItems xs)) (f0:xs.size=0→∀ h' tk,(∀ b o,s.heap.get? b=some o→h'.get? b=some o)→Q df { s with heap:=h',toks:=tk })
    (fin:0 < xs.size→∀ v h' tk,(intItems xs)[argBest (fun i j=>decide (numAt xs i > numAt xs j)) (xs.size - 1)]?=some v→(∀ b o,s.heap.get? b=some o→h'.get? b=some o)→Q v { s with heap:=h',toks:=tk }) :
    wpAny (model P w) B (call (.builtin "max") [.ref l] [("default",df)]) Q E s:=by
  have main:wpAny (model P w) B.in1 (Builtin.«max» ⟨[.ref l],[("default",df)]⟩) (fun r s'=>match r with
      | .done f=>(match (Except.ok f:Result) with | .ok (.ret v)=>Q v s' | .ok _=>False | .error e=>E e s')
      | .again c'=>c'.quiet=true∧codeAny (model P w) B c' (fun r s'=>match r with | .ok (.ret v)=>Q v s' | .ok _=>False | .error e=>E e s') s') E s:=by
    show wpAny _ B.in1 (Builtin.Builtins.bindParams "max" ["key","default"] 0 ⟨[],[("default",df)]⟩ >>= _) _ _ s
    refine wpAny_bind (wpAny_of_eq (show Builtin.Builtins.bindParams "max" ["key","default"] 0 ⟨[],[("default",df)]⟩=pure [none,some df] from rfl) (wpAny_bind (wpAny_pure (wpAny_bind (iter_intList hl fun s2 e st below ne=>?_)))))
    subst e
    refine wpAny_bind (wpAny_newObj_type ?_)
    rw [zjd]
    have out:∀ b ∈ [s.heap.objs.size,l],b ≠ (s.heap.push { cls:=.type "list_iterator",data:=.fields #[.ref l,.int 0 0] }).objs.size:=fun b hb z=>absurd (below b hb) (by rw [z]; exact Nat.lt_irrefl _)
    have W:=Walks.list (prog:=P) (w:=w) (A:=B.in1) hh s.heap.objs.size l ne (intItems xs)
    refine wpAny_pure ⟨plainId_quiet F.plain_max_loop _,znQ W _ (CmpOf.ints_gt (numAt xs) (fun _ _=>intItems_at)) (fun z=>out _ z rfl) df (W.frame _ _ _ st fun b _ o e=>Heap.get?_push_of_some _ e) (Heap.get?_push_size _ rfl) (fun h0 h' tk kp=>?_) fun hp v h' tk pv kp=>?_⟩
    · refine f0 (by simpa [intItems] using h0) h' tk fun b o e=>?_
      have e1:=Heap.get?_push_of_some { cls:=.type "list_iterator",data:=.fields #[.ref l,.int 0 0] } e
      exact kp b o (fun z => by have : b = s.heap.objs.size := by simpa using z
                                exact Nat.lt_irrefl _ (this ▸ Heap.lt_size e)) (Nat.ne_of_lt (Heap.lt_size e1)) (Heap.get?_push_of_some _ e1)
    · refine fin (by simpa [intItems] using hp) v h' tk (by simpa [intItems] using pv) fun b o e=>?_
      have e1:=Heap.get?_push_of_some { cls:=.type "list_iterator",data:=.fields #[.ref l,.int 0 0] } e
      exact kp b o (fun z => by have : b = s.heap.objs.size := by simpa using z
                                exact Nat.lt_irrefl _ (this ▸ Heap.lt_size e)) (Nat.ne_of_lt (Heap.lt_size e1)) (Heap.get?_push_of_some _ e1)
  refine wpAny_call (codeAny_call_builtin F.plain_max F.entry_max ?_)
  simp only [checkBuiltinCall,F.kind_max]
  cases sg:Manifest.signature? "max" with
  | none=>exact wpAny_pure main
  | some q =>
    have ok:=zpp (.ref l) df
    simp only [argsOk,sg] at ok
    show wpAny _ B.in1 (Bind.checkArgs "max" q ⟨[.ref l],[("default",df)]⟩) _ _ s
    rw [show Bind.checkArgs "max" q ⟨[.ref l],[("default",df)]⟩=pure () from ok]
    exact wpAny_pure main
end
end L2
namespace L2
open PySem PySem.Spec PyProof.Rows
def zpN (ta:TA) (td:TE):TE:=fun σ H Q=>ta σ H fun vs H1=>(zeU td tNil) σ H1 fun zs H2=>∃ (y:V) (a:Addr) (ns:List Int),zs = [y]∧vs = [.ref a]∧Rd H2 a (.lst (ns.map V.int))∧Q (match ns with | []=>y | n :: l=>.int (PM.maxI l n)) H2
theorem zmy:∀ (l:List Int) (m:Int),m ≤ PM.maxI l m∧(∀ a ∈ l,a ≤ PM.maxI l m)∧(PM.maxI l m=m∨PM.maxI l m ∈ l)
  | [],m=>⟨Int.le_refl _,fun _ h=>(by cases h),.inl rfl⟩
  | a :: l,m=>by
    obtain ⟨h1,h2,h3⟩:=zmy l (if a > m then a else m)
    unfold PM.maxI
    have e:(if a > m then a else m)=a∧a > m∨(if a > m then a else m)=m∧¬ a > m:=by split <;> simp_all
    refine ⟨by omega,fun b hb=>?_,?_⟩
    · rcases List.mem_cons.mp hb with rfl | hb
      · omega
      · exact h2 b hb
    · rcases h3 with h3 | h3
      · rcases e with ⟨e,_⟩ | ⟨e,_⟩
        · exact .inr (by rw [h3,e]; exact List.mem_cons_self)
        · exact .inl (by rw [h3,e])
      · exact .inr (List.mem_cons_of_mem _ h3)
section
variable {X:Cx}
theorem zmp {e d:Expr} {ta:TA} {td:TE} {p pos kp:Pos} (hc:X.calm=true) (hg:Gl X "max") (hm:X.mg "max"=none) (ha:PA X [e] ta) (hd:PE X d td)
    (he:backTo pos (starEach [e] X.env)=(false,eval e X.env) :: backTo pos (starEach [] X.env):=by rfl) (hpl:(backTo pos (starEach [e] X.env)).any (·.1)=false:=by rfl):PE X (.Call (.Name "max" p) [e] [⟨some "default",d,kp⟩] pos) (zpN ta td):=by
  intro pins s σ H Q I h
  refine wpAny_Call_Name_kw (zgS I hg hm boot_max ?_)
  refine callWith_kw (thn (ha pos pins s σ H _ I h) fun us s1 ⟨vs,H1,I1,r1,q1⟩=>?_) he hpl
  refine thn (zpg hd zp9 pos pins s1 σ H1 _ I1 q1) fun ws s2 ⟨zs,H2,I2,rz,y,a,ns,e1,e2,hq,q⟩=>?_
  subst e1 e2
  obtain ⟨u,rfl,rx⟩:=zgc r1
  cases rx
  obtain ⟨df,rfl,ry⟩:=zgc rz
  obtain ⟨z,its,n,rv,eh⟩:=hq.ok I2.hok
  obtain ⟨ts,rfl,htl⟩:∃ ts:List Tok,its=(ns.zip ts).map (fun p=>Value.int p.1 p.2)∧ts.length=ns.length:=by
    clear eh hq q z
    induction ns generalizing its with
    | nil=>cases rv; exact ⟨[],rfl,rfl⟩
    | cons a l ih =>
      cases rv with
      | cons h t =>
        obtain ⟨tk,rfl⟩:=h
        obtain ⟨ts,rfl,hl⟩:=ih _ t
        exact ⟨tk :: ts,rfl,by simp [hl]⟩
  have ei:((ns.zip ts).map (fun p=>Value.int p.1 p.2)).toArray=intItems (ns.zip ts).toArray:=by simp [intItems]
  rw [ei] at eh
  have en:∀ j,numAt (ns.zip ts).toArray j=ns.getD j 0:=fun j=>by
    rw [numAt_eq]
    have:(ns.zip ts).map (·.1)=ns:=List.map_fst_zip (by omega)
    show ((ns.zip ts).map (·.1)).getD j 0=_
    rw [this]
  have esz:(ns.zip ts).toArray.size=ns.length:=by simp; omega
  show wpAny _ _ (call (.builtin "max") [.ref a] [("default",df)]) _ _ s2
  refine zo6 (I2.ok.hd hc) ⟨_,eh,rfl,n,rfl⟩ (fun h0 h' tk hk=>?_) fun hp v h' tk hv hk=>?_
  · rw [esz] at h0
    have:ns = []:=List.length_eq_zero_iff.mp h0
    subst this
    exact ⟨y,H2,I2.kept (t':=tk) hk,ry,q⟩
  · rw [esz] at hp
    cases ns with
    | nil=>simp at hp
    | cons m l =>
      obtain ⟨t,rfl⟩:=intItems_at hv
      refine ⟨.int (PM.maxI l m),H2,I2.kept (t':=tk) hk,⟨t,?_⟩,q⟩
      congr 1
      obtain ⟨g1,g2⟩:=argBest_gt (numAt ((m :: l).zip ts).toArray) (((m :: l).zip ts).toArray.size - 1)
      obtain ⟨k1,k2,k3⟩:=zmy l m
      have lb:∀ a ∈ m :: l,a ≤ numAt ((m :: l).zip ts).toArray (argBest (fun i j=>decide (numAt ((m :: l).zip ts).toArray i > numAt ((m :: l).zip ts).toArray j)) (((m :: l).zip ts).toArray.size - 1)):=fun a ha=>by
        obtain ⟨j,hj,ej⟩:=List.getElem_of_mem ha
        have:=g2 j (by rw [esz]; omega)
        rw [en j,List.getD_eq_getElem?_getD,List.getElem?_eq_getElem hj,ej] at this
        exact this
      have ub:numAt ((m :: l).zip ts).toArray (argBest (fun i j=>decide (numAt ((m :: l).zip ts).toArray i > numAt ((m :: l).zip ts).toArray j)) (((m :: l).zip ts).toArray.size - 1)) ≤ PM.maxI l m:=by
        generalize argBest (fun i j=>decide (numAt ((m :: l).zip ts).toArray i > numAt ((m :: l).zip ts).toArray j)) (((m :: l).zip ts).toArray.size - 1)=j at g1
        rw [en j]
        rw [esz] at g1
        have hj:j < (m :: l).length:=by omega
        have hm:(m :: l).getD j 0 ∈ m :: l:=by rw [List.getD_eq_getElem?_getD,List.getElem?_eq_getElem hj]; exact List.getElem_mem hj
        rcases List.mem_cons.mp hm with z | z
        · rw [z]; exact k1
        · exact k2 _ z
      have hm:PM.maxI l m ∈ m :: l:=k3.elim (fun z=>by rw [z]; exact List.mem_cons_self) fun z=>List.mem_cons_of_mem _ z
      exact Int.le_antisymm ub (lb _ hm)
end
end L2
namespace PM
open PySem L2
section
variable {K:Kx} {XO:XOT} {E:L2.St→XK} {td te:TE} {md me:En→R D}
theorem zlJ {ds:List D} {d r:D} (h:zkh ds d=some r):∃ ns:List Int,ds = [.lst (ns.map .int)]∧r=match ns with | []=>d | n :: l=>.int (maxI l n):=by
  unfold zkh at h
  split at h
  · cases h; exact ⟨[],rfl,rfl⟩
  · rename_i a l
    cases z:asIs l with
    | none=>rw [z] at h; cases h
    | some ns=>rw [z] at h; cases h; exact ⟨a :: ns,by rw [zdS z]; rfl,rfl⟩
  · cases h
theorem zmS {tl:TA} {ml:En→R (List D)} (hl:SAr K XO E tl ml) (hd:SE K XO E td md):SE K XO E (zpN tl td) (ziU ml md):=by
  intro Λ F0 H0 F H σ δ Q I a
  refine hl Λ F0 H0 F H σ δ _ I (a.bind.imp fun ds F1 H1 e1 a1 vs r=>?_)
  refine hd Λ F0 H0 F1 H1 σ δ _ (I.grow e1) (a1.bind.imp fun d F2 H2 e2 a2 y ry=>?_)
  cases q:zkh ds d with
  | none=>rw [q] at a2; exact a2.elim
  | some z =>
    rw [q] at a2
    obtain ⟨ns,rfl,rfl⟩:=zlJ q
    cases r with
    | cons r r' =>
      cases r'
      obtain ⟨p,xs,rfl,h1,h2⟩:=r
      have ex:=zdx h2
      subst ex
      refine ⟨y,p,ns,rfl,rfl,PM.Same.rd e2.hh h1,a2 F2 H2 (.refl e2.fh) _ ?_⟩
      cases ns with
      | nil=>exact ry
      | cons n l=>simp only [Rep]
end
end PM
namespace L2
open PySem PySem.Spec PyProof.Rows
section
variable {X:Cx}
end
end L2
namespace PM
open PySem L2
section
variable {K:Kx} {XO:XOT} {E:L2.St→XK} {td ty tx:TE} {md my mx:En→R D}
def oIn (x y:D):Option D:=match x,y with | .int i,.lst l=>(asIs l).map fun ns=>.bl (decide (i ∈ ns)) | .int i,.tup l=>(asIs l).map fun ns=>.bl (decide (i ∈ ns)) | _,_=>none
def zea (x y:D):Option D:=match x,y with | .int i,.lst l=>(asIs l).map fun ns=>.bl (!decide (i ∈ ns)) | .int i,.tup l=>(asIs l).map fun ns=>.bl (!decide (i ∈ ns)) | _,_=>none
theorem zg6 {i:Int} {ns:List Int}:inV (.int i) (ns.map V.int)=decide (i ∈ ns):=by
  rw [Bool.eq_iff_iff]
  unfold inV
  simp only [List.any_map,List.any_eq_true,Function.comp,decide_eq_true_eq]
  constructor
  · rintro ⟨a,h1,h2⟩
    have:a=i:=by simpa [eqV] using h2
    subst this; exact h1
  · intro h
    exact ⟨i,h,by simp [eqV]⟩
theorem zgj {ns:List Int}:(ns.map V.int).all ziY=true:=by
  rw [List.all_map,List.all_eq_true]
  intro x _; rfl
theorem zn6:SR K (rIn K.f false) oIn:=by
  intro F H x y dx dy d Q s hx hy e q
  cases dx with
  | int i =>
    simp only [Top,Rep] at hx
    subst hx
    cases dy with
    | lst l =>
      obtain ⟨a,vs,rfl,h1,h2⟩:=hy
      simp only [oIn] at e
      cases z:asIs l with
      | none=>rw [z] at e; cases e
      | some ns =>
        rw [z] at e; cases e
        have el:=zdS z; subst el
        have ev:=zdx h2; subst ev
        exact ⟨a,_,rfl,.inl (.inl h1),rfl,zgj,q _ F H (.refl s) (by simp only [Rep]; rw [zg6]; rfl)⟩
    | tup l =>
      simp only [Top,Rep] at hy
      obtain ⟨a,vs,rfl,h1,h2⟩:=hy
      simp only [oIn] at e
      cases z:asIs l with
      | none=>rw [z] at e; cases e
      | some ns =>
        rw [z] at e; cases e
        have el:=zdS z; subst el
        have ev:=zdx h2; subst ev
        exact ⟨a,_,rfl,.inr (.inl (.inl (s _ _ h1))),rfl,zgj,q _ F H (.refl s) (by simp only [Rep]; rw [zg6]; rfl)⟩
    | _=>cases e
  | _=>cases e
theorem zf1:SR K (rIn K.f true) zea:=by
  intro F H x y dx dy d Q s hx hy e q
  cases dx with
  | int i =>
    simp only [Top,Rep] at hx
    subst hx
    cases dy with
    | lst l =>
      obtain ⟨a,vs,rfl,h1,h2⟩:=hy
      simp only [zea] at e
      cases z:asIs l with
      | none=>rw [z] at e; cases e
      | some ns =>
        rw [z] at e; cases e
        have el:=zdS z; subst el
        have ev:=zdx h2; subst ev
        exact ⟨a,_,rfl,.inl (.inl h1),rfl,zgj,q _ F H (.refl s) (by simp only [Rep]; rw [zg6]; rfl)⟩
    | tup l =>
      simp only [Top,Rep] at hy
      obtain ⟨a,vs,rfl,h1,h2⟩:=hy
      simp only [zea] at e
      cases z:asIs l with
      | none=>rw [z] at e; cases e
      | some ns =>
        rw [z] at e; cases e
        have el:=zdS z; subst el
        have ev:=zdx h2; subst ev
        exact ⟨a,_,rfl,.inr (.inl (.inl (s _ _ h1))),rfl,zgj,q _ F H (.refl s) (by simp only [Rep]; rw [zg6]; rfl)⟩
    | _=>cases e
  | _=>cases e
end
end PM
namespace L2
open PySem PySem.Spec PyProof.Rows
section
variable {X:Cx}
end
end L2
namespace PM
open PySem L2
section
variable {K:Kx} {XO:XOT} {E:L2.St→XK}
end
end PM
namespace L2
open PySem PySem.Spec PyProof.Rows
theorem Inv.turnedL {X:Cx} {pins:List (Addr × Obj)} {σ:St} {H:Hp} {s:Shared} {h':Heap} {t':Nat} (ch:List Addr) (I:Inv X pins σ H s) (hf:∀ b ∈ ch,FpOk X pins H b) (k:∀ b o,b ∉ ch→s.heap.get? b=some o→h'.get? b=some o):Inv X pins σ H { s with heap:=h',toks:=t' }:=by
  have nit:∀ b u,H b=some u→b ∉ ch:=fun b u e z=>by
    obtain ⟨f0,_⟩:=hf b z
    rw [f0] at e; cases e
  refine I.step (g':=s.gens) (d':=s.drawn) (ch:=ch) (fun b hb=>?_) (fun b o _ _ hc e _=>k b o hc e) (fun b o _ _ hc e _=>⟨o.slots,k b o hc e⟩) (fun _ _ _ _ n=>n)
    (fun b o hc e=>⟨o,k b o hc e⟩) (fun _ _ e=>e) (fun _ _ _ e=>e) (fun b ps e=>⟨#[],by rw [e]; simp⟩) (fun m hm=>?_) (fun b u e=>?_) I.bare
  · obtain ⟨f0,f1,f2,f3,f4,f5⟩:=hf b hb
    exact ⟨f3,f1,f4,f5⟩
  · obtain ⟨o,es,ep,ho,r⟩:=hm
    refine ⟨o,es,ep,k _ o (fun z=>?_) ho,r⟩
    obtain ⟨_,f1,_⟩:=hf _ z
    exact f1 rfl
  · refine (I.hok b u e).stay (fun c v hc q=>k c v ?_ q) (fun _ q=>q) fun _ _ q=>q
    rcases hc with z | z
    · rw [z]; exact nit b u e
    · exact nit c _ z
theorem Inv.laidT {X:Cx} {pins:List (Addr × Obj)} {σ:St} {H:Hp} {s:Shared} {h':Heap} {t':Nat} (ch:List Addr) {xs:List V} {us:List Value} (I:Inv X pins σ H s) (hf:∀ b ∈ ch,FpOk X pins H b) (k:∀ b o,b ∉ ch→s.heap.get? b=some o→h'.get? b=some o)
    (hl:xs.length ≤ sizeLine) (rv:Vals xs us) (ht:h'.get? s.heap.objs.size=some { cls:=.type "tuple",data:=.seq us.toArray }):Inv X pins σ (upd H s.heap.objs.size (.tup xs)) { s with heap:=h',toks:=t' }:=by
  have hT:H s.heap.objs.size=none:=I.hok.fresh (Nat.le_refl _)
  have nit:∀ b u,H b=some u→b ∉ ch:=fun b u e z=>by
    obtain ⟨f0,_⟩:=hf b z
    rw [f0] at e; cases e
  refine I.step (h':=h') (g':=s.gens) (d':=s.drawn) (t':=t') (ch:=ch) (fun b hb=>?_) (fun b o _ _ hb q _=>k b o hb q) (fun b o _ _ hb q _=>⟨o.slots,k b o hb q⟩) (fun b o hb q n=>?_) (fun b o hb q=>⟨o,k b o hb q⟩) (fun b ys q=>?_) (fun b o ys q=>?_) (fun b ps q=>⟨#[],?_⟩) (fun m hm=>?_) ?_ I.bare
  · obtain ⟨f0,f1,f2,f3,f4,f5⟩:=hf b hb
    exact ⟨f3,f1,f4,f5⟩
  · rw [zaA (Nat.ne_of_lt (Heap.lt_size q))]; exact n
  · rw [zaA (zaI q hT)]; exact q
  · rw [zaA (zaI q hT)]; exact q
  · rw [zaA (zaI q hT),q]; simp
  · obtain ⟨o,es',ep,ho',r⟩:=hm
    refine ⟨o,es',ep,k _ o (fun z=>?_) ho',r⟩
    obtain ⟨_,f1,_⟩:=hf _ z
    exact f1 rfl
  · intro b o q
    by_cases hb:b=s.heap.objs.size
    · subst hb
      rw [zaR] at q; cases q
      exact ⟨hl,us,rv,⟨_,ht,rfl,_,rfl⟩⟩
    · rw [zaA hb] at q
      refine (I.hok b o q).stay (fun c v hc' q'=>?_) (fun c q'=>by rw [zaA (zaI q' hT)]; exact q') fun c ys q'=>by rw [zaA (zaI q' hT)]; exact q'
      rcases hc' with rfl | hc'
      · exact k _ v (nit _ _ q) q'
      · exact k _ v (nit _ _ hc') q'
theorem zjy {h:Heap} {z TI TO i1 i2 a b:Addr} {f0 u v:Value} {k1 k2:Nat} {xs ys:Array Value} (hd : [z,TI,TO,i1,i2].Nodup) (h1:IsZip h z TI TO f0) (h3:IsPair h TO u v) (h4:h.IsListIter i1 a k1) (h5:h.IsListIter i2 b k2) (p:PlainL h a xs) (p':PlainL h b ys):ZipApart z TI TO i1 i2 a b:=by
  obtain ⟨o,n,e,c,_⟩:=p
  obtain ⟨o',n',e',c',_⟩:=p'
  obtain ⟨j1,g1,d1,_⟩:=h4
  obtain ⟨j2,g2,d2,_⟩:=h5
  simp only [List.nodup_cons,List.mem_cons,List.not_mem_nil,or_false,not_or,List.nodup_nil,and_true,not_false_eq_true] at hd
  obtain ⟨⟨z1,z2,z3,z4⟩,⟨y1,y2,y3⟩,⟨x1,x2⟩,w1⟩:=hd
  have q1:∀ {o:Obj} {l:Addr},h.get? l=some o→o.cls = .type "list"→l ≠ z:=fun e c r=>by subst r; rw [h1] at e; cases e; simp at c
  have q2:∀ {o:Obj} {l:Addr},h.get? l=some o→o.cls = .type "list"→l ≠ TO:=fun e c r=>by subst r; rw [h3] at e; cases e; simp at c
  have q3:∀ {o:Obj} {l:Addr},h.get? l=some o→o.cls = .type "list"→l ≠ i1:=fun e c r=>by subst r; rw [g1] at e; cases e; rw [d1] at c; simp at c
  have q4:∀ {o:Obj} {l:Addr},h.get? l=some o→o.cls = .type "list"→l ≠ i2:=fun e c r=>by subst r; rw [g2] at e; cases e; rw [d2] at c; simp at c
  exact ⟨Ne.symm z1,Ne.symm z2,Ne.symm z3,Ne.symm z4,y1,y2,y3,x1,x2,w1,q1 e c,q2 e c,q3 e c,q4 e c,q1 e' c',q2 e' c',q3 e' c',q4 e' c'⟩
def Itz (K:PySem.W.Frag) (a b:Addr):It :=
  ⟨fun i H=>∃ xs ys x y,SqL K H a xs∧SqL K H b ys∧xs[i]?=some x∧ys[i]?=some y,
   fun i H v H'=>∃ p x y,v = .ref p∧H p=none∧H'=upd H p (.tup [x,y])∧(∀ xs,SqL K H a xs→xs[i]?=some x)∧∀ ys,SqL K H b ys→ys[i]?=some y,
   fun i H=>∃ xs ys,SqL K H a xs∧SqL K H b ys∧(xs.length ≤ i∨ys.length ≤ i)⟩
theorem znM {P:Program} {w:World} {K:PySem.W.Frag} {es:List Expr} {k} {pos:Pos} (a b z TI TO i1 i2:Addr) (hd : [z,TI,TO,i1,i2].Nodup) :
    Turn P w K (.Tuple es k pos) (Itz K a b) [z,TI,TO,i1,i2] z (fun i h=>IsZip h z TI TO .none∧IsPair h TI (.ref i1) (.ref i2)∧(∃ u v,IsPair h TO u v)∧h.IsListIter i1 a i∧h.IsListIter i2 b i) where
  mem:=by simp
  obj:=fun i h st c hc=>by
    obtain ⟨h1,h2,⟨u,v,h3⟩,⟨o1,h4,c1,d1⟩,o2,h5,c2,d2⟩:=st
    simp only [List.mem_cons,List.not_mem_nil,or_false] at hc
    rcases hc with rfl | rfl | rfl | rfl | rfl
    · exact ⟨_,h1,fun v z=>by cases (show Data.fields _=Data.cell v from z)⟩
    · exact ⟨_,h2,fun v z=>by cases (show Data.seq _=Data.cell v from z)⟩
    · exact ⟨_,h3,fun v z=>by cases (show Data.seq _=Data.cell v from z)⟩
    · exact ⟨o1,h4,fun v z=>by rw [d1] at z; cases z⟩
    · exact ⟨o2,h5,fun v z=>by rw [d2] at z; cases z⟩
  keep:=fun i h h' st q=>by
    obtain ⟨h1,h2,⟨u,v,h3⟩,h4,h5⟩:=st
    exact ⟨q z (by simp) _ h1,q TI (by simp) _ h2,⟨u,v,q TO (by simp) _ h3⟩,h4.at fun o e=>q i1 (by simp) o e,h5.at fun o e=>q i2 (by simp) o e⟩
  item:=by
    intro X hP hw hK hc i pins s σ H E I hf st hg
    subst hP hw hK
    obtain ⟨xs,ys,x,y,q1,q2,hx,hy⟩:=hg
    obtain ⟨its,rv,p,hz⟩:=I.list q1
    obtain ⟨its',rv',p',hz'⟩:=I.list q2
    obtain ⟨u,hu,ru⟩:=rv.get hx
    obtain ⟨u',hu',ru'⟩:=rv'.get hy
    obtain ⟨h1,h2,⟨f,g,h3⟩,h4,h5⟩:=st
    have D:=zjy hd h1 h3 h4 h5 p p'
    have hT:H s.heap.objs.size=none:=I.hok.fresh (Nat.le_refl _)
    have nT:∀ c o,s.heap.get? c=some o→c ≠ s.heap.objs.size:=fun c o e=>Nat.ne_of_lt (Heap.lt_size e)
    refine wpAny_pyNext_zip_item D h1 h2 h3 h4 h5 p.isList p'.isList (x:=u) (y:=u') (by simpa using hu) (by simpa using hu') fun h' a1 a2 a3 a4 a5 a6 hk=>⟨_,rfl,?_⟩
    refine wpAny_letOwnedTupleGo_zip a1 fun h'' b1 hs''=>?_
    have hs2:Heap.SameBut z h' h'':=hs''
    have nzT:=nT z _ h1
    have hk2:∀ c o,c ∉ [z,TI,TO,i1,i2]→s.heap.get? c=some o→h''.get? c=some o:=fun c o hc q=>by
      simp only [List.mem_cons,List.not_mem_nil,or_false,not_or] at hc
      exact (hs2.2 c hc.1).trans (hk c o hc.1 hc.2.2.1 hc.2.2.2.1 hc.2.2.2.2 q)
    refine ⟨.ref s.heap.objs.size,upd H s.heap.objs.size (.tup [x,y]),?_,rfl,⟨_,x,y,rfl,hT,rfl,fun xs' h=>by rw [I.list_inj h q1]; exact hx,fun ys' h=>by rw [I.list_inj h q2]; exact hy⟩,
      ⟨b1,(hs2.2 _ D.TIz).trans (hk _ _ D.TIz D.TITO D.TIi1 D.TIi2 h2),⟨u,u',(hs2.2 _ D.TOz).trans a2⟩,a3.at fun o e=>(hs2.2 _ D.i1z).trans e,a4.at fun o e=>(hs2.2 _ D.i2z).trans e⟩,fun c hc=>?_⟩
    · exact I.laidT (t':=s.toks) [z,TI,TO,i1,i2] hf hk2 (by show 2 ≤ sizeLine; decide) (.cons ru (.cons ru' .nil)) ((hs2.2 _ (Ne.symm nzT)).trans a5)
    · obtain ⟨f0,_⟩:=hf c hc
      rw [zaA]
      · exact f0
      · obtain ⟨o1,e4,_⟩:=h4
        obtain ⟨o2,e5,_⟩:=h5
        simp only [List.mem_cons,List.not_mem_nil,or_false] at hc
        rcases hc with rfl | rfl | rfl | rfl | rfl
        · exact nT _ _ h1
        · exact nT _ _ h2
        · exact nT _ _ h3
        · exact nT _ _ e4
        · exact nT _ _ e5
  done:=by
    intro X hP hw hK hc i pins s σ H E I hf st hg
    subst hP hw hK
    obtain ⟨xs,ys,q1,q2,he⟩:=hg
    obtain ⟨its,rv,p,hz⟩:=I.list q1
    obtain ⟨its',rv',p',hz'⟩:=I.list q2
    obtain ⟨h1,h2,⟨f,g,h3⟩,h4,h5⟩:=st
    have D:=zjy hd h1 h3 h4 h5 p p'
    have l1:=rv.length
    have l2:=rv'.length
    refine wpAny_pyNext_zip_end (I.ok.hd hc) D h1 h2 h3 h4 h5 p.isList p'.isList (he.imp (fun z=>by simp; omega) fun z=>by simp; omega) fun h' hk=>⟨rfl,?_⟩
    exact I.turnedL (t':=s.toks) [z,TI,TO,i1,i2] hf fun c o hc q=>by
      simp only [List.mem_cons,List.not_mem_nil,or_false,not_or] at hc
      exact hk c o hc.1 hc.2.2.1 hc.2.2.2.1 hc.2.2.2.2 q
  self:=fun _ _ _ _ _ st h=>wpAny_pyIter_zip st.1 h
section
variable {X:Cx}
def iZip (K:PySem.W.Frag) (ta:TA):TI:=fun σ H R=>ta σ H fun vs H1=>∃ a b,vs = [.ref a,.ref b]∧(∃ xs,SqL K H1 a xs)∧(∃ ys,SqL K H1 b ys)∧R (Itz K a b) H1
theorem zoQ {es:List Expr} {k} {tp:Pos} {l l':Expr} {ta:TA} {p pos:Pos} (hg:Gl X "zip") (hm:X.mg "zip"=none) (ha:PA X [l,l'] ta) (hs:starEach [l,l'] X.env=(false,eval l X.env) :: starEach [l'] X.env:=by rfl) (hs2:(backTo pos (starEach [l'] X.env)).any (·.1)=false:=by rfl) :
    PI X (.Tuple es k tp) (.Call (.Name "zip" p) [l,l'] [] pos) (iZip X.K ta):=by
  intro pins s σ H R I h
  refine Call_ (zgS I hg hm PyProof.Rows.boot_zip (PyProof.Rows.callWith_type1 (thn (ha pos pins s σ H _ I h) fun us s1 ⟨vs,H1,I1,r1,q1⟩=>?_) hs hs2))
  obtain ⟨a,b,e,⟨xs,hq⟩,⟨ys,hq'⟩,q⟩:=q1
  subst e
  obtain ⟨u,v,rfl,rx,ry⟩:=zn3 r1
  cases rx
  cases ry
  obtain ⟨its,rv,pl,hz⟩:=I1.list hq
  obtain ⟨its',rv',pl',hz'⟩:=I1.list hq'
  refine call_zip_2 pl.isList pl'.isList fun h' c1 c2 c3 c4 c5 hsz hk=>?_
  have I2:Inv X pins σ H1 { s1 with heap:=h' }:=I1.kept (t':=s1.toks) hk
  obtain ⟨m,em⟩:∃ m,m=s1.heap.objs.size:=⟨_,rfl⟩
  have hnd : [m + 4,m + 2,m + 3,m,m + 1].Nodup:=by simp
  rw [← em] at c1 c2 c3 c4 c5 ⊢
  refine wpAny_pyIter_zip c1 ⟨m + 4,[m + 4,m + 2,m + 3,m,m + 1],_,_,H1,rfl,I2,znM a b _ _ _ _ _ hnd,⟨c1,c2,⟨_,_,c3⟩,c4,c5⟩,fun d hd=>?_,q⟩
  have hd':s1.heap.objs.size ≤ d:=by
    simp only [List.mem_cons,List.not_mem_nil,or_false] at hd
    rcases hd with rfl | rfl | rfl | rfl | rfl <;> omega
  exact I1.fpOk hd' (I1.hok.fresh hd')
end
end L2
namespace PM
open PySem L2
section
variable {K:Kx} {XO:XOT} {E:L2.St→XK}
def zipD (l r:List D):List D:=List.zipWith (fun x y=>.tup [x,y]) l r
def zip1:List D→Option (List D)
  | [x,y]=>(asL' x).bind fun l=>(asL' y).map (zipD l)
  | _=>none
def mZip (ml:En→R (List D)) (δ:En):R (List D):=(ml δ).bind fun l=>R.of (zip1 l)
theorem zm2 {l r:List D} (h:zip1 l=some r):∃ x y,l = [.lst x,.lst y]∧r=zipD x y:=by
  match l,h with
  | [x,y],h =>
    cases x with
    | lst x =>
      cases y with
      | lst y=>cases h; exact ⟨x,y,rfl,rfl⟩
      | _=>cases h
    | _=>cases h
theorem znO {a b:Addr} {ds es:List D} {vs ws:List V} {F1:Hp} {P:Hp→Hp→Prop} (r:RepL K F1 ds vs) (r':RepL K F1 es ws) (h:∀ F2 H2,P F2 H2→Same F1 F2∧Same F2 H2∧SqL K.f H2 a vs∧SqL K.f H2 b ws):IsIt K (Itz K.f a b) P (zipD ds es):=by
  intro F2 H2 p i
  obtain ⟨s1,s2,q,q'⟩:=h F2 H2 p
  unfold zipD
  rw [List.getElem?_zipWith]
  refine ⟨fun d hd=>?_,fun hn=>?_⟩
  · cases e:ds[i]? with
    | none=>rw [e] at hd; cases hd
    | some x =>
      cases e':es[i]? with
      | none=>rw [e,e'] at hd; cases hd
      | some y =>
        rw [e,e'] at hd
        cases hd
        obtain ⟨v,hv,rv⟩:=r.get e
        obtain ⟨w,hw,rw'⟩:=r'.get e'
        refine ⟨⟨vs,ws,v,w,q,q',hv,hw⟩,fun x' H' y=>?_⟩
        obtain ⟨p',x1,y1,rfl,hp,rfl,z1,z2⟩:=y
        have z:=z1 vs q
        rw [hv] at z; cases z
        have z:=z2 ws q'
        rw [hw] at z; cases z
        refine ⟨_,.new s2 hp,?_⟩
        simp only [Rep]
        have m:=s1.trans (Same.upd (u:=.tup [v,w]) (s2.free hp))
        exact ⟨p',_,rfl,zaR,.cons (Rep.mono m _ rv) (.cons (Rep.mono m _ rw') .nil)⟩
  · cases e:ds[i]? with
    | none=>exact ⟨vs,ws,q,q',.inl (by rw [r.length]; exact List.getElem?_eq_none_iff.mp e)⟩
    | some x =>
      cases e':es[i]? with
      | none=>exact ⟨vs,ws,q,q',.inr (by rw [r'.length]; exact List.getElem?_eq_none_iff.mp e')⟩
      | some y=>rw [e,e'] at hn; cases hn
theorem zm6 {tl:TA} {ml:En→R (List D)} (h:SAr K XO E tl ml):SIc K XO E (iZip K.f tl) (mZip ml):=by
  intro Λ F0 H0 F H σ δ R I a
  refine h Λ F0 H0 F H σ δ _ I (a.bind.imp fun ds F1 H1 e1 a1 vs r=>?_)
  cases q:zip1 ds with
  | none=>rw [q] at a1; exact a1.elim
  | some z =>
    rw [q] at a1
    obtain ⟨l,l',rfl,rfl⟩:=zm2 q
    cases r with
    | cons r r' =>
      cases r' with
      | cons r2 r3 =>
        cases r3
        obtain ⟨a,vs,rfl,h1,h2⟩:=r
        obtain ⟨b,ws,rfl,h3,h4⟩:=r2
        exact ⟨a,b,rfl,⟨vs,.inl h1⟩,⟨ws,.inl h3⟩,a1 F1 H1 (.refl e1.fh) _ (znO h2 h4 fun F2 H2 x=>⟨x.ff,x.fh,.inl (PM.Same.rd x.hh h1),.inl (PM.Same.rd x.hh h3)⟩)⟩
end
end PM
namespace PM
end PM
namespace L2
open PySem PySem.Spec PyProof.Rows
section
variable {X:Cx}
end
end L2
namespace PM
open PySem L2
section
variable {K:Kx}
def zlz:List D→Option D
  | [.int i,.int j]=>some (.int (if j > i then j else i))
  | _=>none
def zl5:List D→Option D
  | [.int i,.int j]=>some (.int (if j < i then j else i))
  | _=>none
theorem zo0:SC K (fun xs H Q=>∃ i j,xs = [.int i,.int j]∧Q (.int (if j > i then j else i)) H) zlz:=by
  intro F H vs ds d Q s r e q
  unfold zlz at e
  split at e
  · rename_i i j
    cases e
    cases r with
    | cons r r' =>
      cases r' with
      | cons r2 r3 =>
        cases r3
        simp only [Top,Rep] at r r2
        subst r r2
        exact ⟨i,j,rfl,q _ F H (.refl s) (by simp only [Rep])⟩
  · cases e
theorem zpA:SC K (fun xs H Q=>∃ i j,xs = [.int i,.int j]∧Q (.int (if j < i then j else i)) H) zl5:=by
  intro F H vs ds d Q s r e q
  unfold zl5 at e
  split at e
  · rename_i i j
    cases e
    cases r with
    | cons r r' =>
      cases r' with
      | cons r2 r3 =>
        cases r3
        simp only [Top,Rep] at r r2
        subst r r2
        exact ⟨i,j,rfl,q _ F H (.refl s) (by simp only [Rep])⟩
  · cases e
end
end PM
namespace L2
open PySem PySem.Spec PyProof.Rows
section
variable {X:Cx}
theorem znN {ns:List Int} {its:List Value} (rv:Vals (ns.map V.int) its):IntsAre its ns:=by
  induction ns generalizing its with
  | nil=>cases rv; exact .nil
  | cons a l ih =>
    cases rv with
    | cons h t =>
      obtain ⟨tk,rfl⟩:=h
      exact .cons _ _ (ih t)
end
end L2
namespace PM
open PySem L2
section
variable {K:Kx}
end
end PM
namespace PM
open PySem L2
section
variable {K:Kx} {XO:XOT} {E:L2.St→XK} {te:TE} {me:En→R D}
end
end PM
namespace L2
open PySem PySem.Spec PyProof.Rows
section
variable {X:Cx}
end
end L2
namespace PM
open PySem L2
section
variable {K:Kx} {XO:XOT} {E:L2.St→XK} {tl te:TE} {ml me:En→R D}
end
end PM
namespace L2
open PySem PySem.Spec PyProof.Rows
open Sem (wp)
section
variable {P:Program} {w:World} {B:Around} {Er:Value→Shared→Prop} {hp:Heap} {gs:Array GenState} {dr:Drawn} {tk:Nat} {os:OsState}
variable {nm q:Str} {C N:Addr} {bs bm bmB:List Value} {hdct:Bool} {sn:List Str} {sub:List Value} {ab:Bool} {col:Option Bool} {dd:Option Addr} {k0 k1 k2 k3 k5:Option Value} {B0 Bn newId nid initId inN:String} {bmN:List Value}
end
end L2
namespace L2
open PySem PySem.Spec PyProof.Rows
section
variable {P:Program} {w:World} {B:Around} {Er:Value→Shared→Prop} {s:Shared}
end
end L2
namespace L2
open PySem PySem.Spec PyProof.Rows
section
variable {X:Cx}
end
end L2
namespace PM
open PySem L2
section
variable {K:Kx} {XO:XOT} {E:L2.St→XK}
end
end PM
namespace L2
open PySem PySem.Spec PyProof.Rows
def uniq (ns:List Int):List Int:=ns.foldl step_dedup []
section
variable {X:Cx}
def zqt:List V→Hp→VK→Prop:=fun xs H Q=>∃ (p:Addr) (ns:List Int),xs = [.ref p]∧Rd H p (.lst (ns.map V.int))∧ns.length < 4000∧∀ a,H a=none→Q (.ref a) (upd H a (.set (fun k=>(uniq ns).any (· == k)) (uniq ns).length))
theorem zqP (ns:List Int):firstMet (fun i=>ns.getD i 0) ns.length=uniq ns:=by
  unfold firstMet uniq
  congr 1
  refine List.ext_getElem (by simp) fun i h1 h2=>?_
  simp [List.getElem?_eq_getElem h2]
theorem zmx (hc:X.calm=true):zfP X (.type "set") zqt:=by
  intro pins s σ H xs us Q I r h
  obtain ⟨p,ns,rfl,hq,hl,q⟩:=h
  obtain ⟨u,rfl,rx⟩:=zgc r
  cases rx
  obtain ⟨z,its,n,rv,e⟩:=hq.ok I.hok
  have len:=rv.length
  rw [List.length_map] at len
  have esz:its.toArray.size=ns.length:=by simp [← len]
  refine PySem.call_set_list (items:=its.toArray) (ns:=ns) (I.ok.hd hc) ⟨_,e,rfl,n,rfl⟩ (by simpa using znN rv) (by rw [esz]; unfold scanBound; omega) fun h' tk hS hk=>?_
  rw [esz,zqP] at hS
  refine ⟨.ref s.heap.objs.size,_,?_,rfl,q _ (I.hok.fresh (Nat.le_refl _))⟩
  exact I.laid (fun b o hb=>hk b o (Heap.lt_size hb) hb) (Nat.le_refl _) hS
theorem zlr:PGet X (rIxL X.K):=by
  intro pins s σ H x y v u Q I rx ry h
  obtain ⟨p,xs,i,z,rfl,rfl,hq,he,q⟩:=h
  cases rx
  obtain ⟨t,rfl⟩:=ry
  obtain ⟨its,r,pl,hz⟩:=I.list hq
  obtain ⟨j,h1,h2,h3,h4,h5⟩:=zku he
  obtain ⟨w,ew,rw'⟩:=r.get h2
  have hl:=r.length
  have hn:=zjo
  by_cases h0:0 ≤ i
  · have hj:i.toNat=j:=by
      rw [seqIndex_of h0 h5] at h1
      exact Option.some.inj h1
    exact wpAny_getItem_list pl.isList h0 (by omega) (by rw [hj]; simpa using ew) ⟨z,H,I,rw',q⟩
  · have hj:(i + (its.toArray.size:Int)).toNat=j:=by
      rw [seqIndex_neg (by omega) h4] at h1
      rw [List.size_toArray,← hl]
      exact Option.some.inj h1
    exact wpAny_getItem_list_neg pl.isList (by omega) (by rw [List.size_toArray] <;> omega) (by omega) (by rw [hj]; simpa using ew) ⟨z,H,I,rw',q⟩
def zqT:List V→Hp→VK→Prop:=fun xs H Q=>∃ (p:Addr) (S:Int→Bool) (n:Nat),xs = [.ref p]∧H p=some (.set S n)∧Q (.int n) H
theorem zmY:zfP X (.builtin "len") zqT:=by
  intro pins s σ H xs us Q I r h
  obtain ⟨p,S,n,rfl,hp,q⟩:=h
  obtain ⟨u,rfl,rx⟩:=zgc r
  cases rx
  obtain ⟨o,es,ep,t,ho,hex,hd,_,_,hb,hf,hn⟩:=I.hok p _ hp
  exact call_len_set ho hex hd hf (by unfold scanBound at hb; omega) ⟨.int n,H,I.tok _,⟨_,by rw [hn]⟩,q⟩
end
end L2
namespace PM
open PySem L2
section
variable {K:Kx} {XO:XOT} {E:L2.St→XK}
def zfc:List D→Option D
  | [.lst l]=>(asIs l).bind fun ns=>ifC (ns.length < 4000) (some (.int (uniq ns).length)) none
  | _=>none
theorem zjt {ds:List D} {d:D} (h:zfc ds=some d):∃ ns:List Int,ds = [.lst (ns.map .int)]∧ns.length < 4000∧d = .int (uniq ns).length:=by
  unfold zfc at h
  split at h
  · rename_i l
    cases z:asIs l with
    | none=>rw [z] at h; cases h
    | some ns =>
      rw [z] at h
      simp only [Option.bind] at h
      unfold ifC at h
      split at h
      · rename_i hl
        cases h
        exact ⟨ns,by rw [zdS z],hl,rfl⟩
      · cases h
  · cases h
theorem zms {tl:TA} {ml:En→R (List D)} (h:SAr K XO E tl ml):SE K XO E (tCB zqT (zeU (tCB zqt tl) tNil)) (mCB zfc ml):=by
  intro Λ F0 H0 F H σ δ Q I a
  refine h Λ F0 H0 F H σ δ _ I (a.bind.imp fun ds F1 H1 e1 a1 vs r=>?_)
  cases q:zfc ds with
  | none=>rw [q] at a1; exact a1.elim
  | some d =>
    rw [q] at a1
    obtain ⟨ns,rfl,hl,rfl⟩:=zjt q
    cases r with
    | cons r r' =>
      cases r'
      obtain ⟨p,xs,rfl,h1,h2⟩:=r
      have ex:=zdx h2
      subst ex
      refine ⟨p,ns,rfl,h1,hl,fun b hb=>⟨b,_,_,rfl,zaR,a1 F1 _ (.newO e1.fh hb) _ (by simp only [Rep])⟩⟩
end
end PM
namespace L2
open PySem PySem.Spec PyProof.Rows
section
variable {X:Cx}
end
end L2
namespace PM
open PySem L2
section
variable {K:Kx} {XO:XOT} {E:L2.St→XK} {tk te:TE} {mk me:En→R D}
end
end PM
namespace PM
open PySem L2
section
variable {K:Kx} {XO:XOT} {E:St→XK} {ta tb te:TE} {ma mb me:En→R D} {t u:TS} {m n:En→O} {Λ:List (Nat × Addr × HO)} {F0 H0 F H F' H' F1 H1:Hp} {σ:St} {δ:En} {Dn:Ends}
def znE:Sl→Sl
  | .o d=>.v d
  | .l d=>.v d
  | .p T=>.v (trD T)
  | s=>s
def peek (δ:En):En:=δ.map znE
theorem zpd (I:EnvOk K Λ F0 H0 F H σ δ):EnvOk K [] (zdm F H) H (zdm F H) H σ (peek δ):=by
  have pk:∀ i:Nat,(peek δ)[i]?=(δ[i]?).map znE:=fun i=>by unfold peek; rw [List.getElem?_map]
  have no:∀ i:Nat,Sl.own (peek δ)[i]?=false:=fun i=>by
    rw [pk]
    cases q:δ[i]? with
    | none=>rfl
    | some s=>cases s <;> rfl
  refine ⟨.refl (zjl I.same),by rw [I.len]; simp [peek],fun i=>?_,fun i j a _ h1=>(by rw [no i] at h1; cases h1),fun x hx=>(by cases hx),fun i T h=>?_⟩
  · have z:=I.slot i
    rw [pk]
    cases q:δ[i]? with
    | none=>trivial
    | some s =>
      rw [q] at z
      cases s with
      | no=>trivial
      | v d=>obtain ⟨u,z1,z2⟩:=z; exact ⟨u,z1,Rep.mono zem d z2⟩
      | o d=>obtain ⟨a,z1,_,_,z4⟩:=z; exact ⟨_,z1,ziD I.same (.inr (.inl ⟨a,rfl,z4⟩))⟩
      | l d=>obtain ⟨a,z1,_,_,z4⟩:=z; exact ⟨_,z1,ziD I.same (.inr (.inl ⟨a,rfl,z4⟩))⟩
      | p T=>obtain ⟨a,bs,z1,z2,_⟩:=z; exact ⟨_,z1,ziI I.same T z2.ok⟩
  · have:=no i
    rw [h] at this; cases this
def zfy (m:En→R D) (δ:En):R D:=match m (peek δ) with | .ok d=>if zgI d=true then .ok d else .no | _=>.no
theorem zke (h:SE K XO E te me):SE K XO E te (zfy me):=by
  intro Λ F0 H0 F H σ δ Q I a
  refine h [] (zdm F H) H (zdm F H) H σ (peek δ) Q (zpd I) ?_
  unfold zfy at a
  cases q:me (peek δ) with
  | no=>rw [q] at a; exact a
  | ex x=>rw [q] at a; exact a.elim
  | ok d =>
    rw [q] at a
    dsimp only at a
    split at a
    · rename_i hc
      intro F2 H2 e2 v rv
      exact a _ H2 (zkv e2) v (zkt e2 d hc rv)
    · exact a.elim
def zkf (i:Nat) (δ:En):Bool:=(List.range δ.length).all fun j=>j == i || match δ[j]? with | some (.p _)=>false | _=>true
theorem znD {i:Nat} (h:zkf i δ=true) (j:Nat) (T:Tr) (hj:δ[j]?=some (.p T)):j=i:=by
  have:=List.all_eq_true.mp h j (List.mem_range.mpr (List.getElem?_eq_some_iff.mp hj).1)
  rw [hj] at this
  simpa using this
theorem EnvOk.putP {i:Nat} {T:Tr} {a:Addr} {bs:List Addr} (I:EnvOk K Λ F0 H0 F H σ δ) (hl:∃ x,δ[i]?=some x∧∀ d,x ≠ .l d) (hn:∀ (j:Nat) (T':Tr),δ[j]?=some (.p T')→j=i) (e:Ext F H F' H') (t:Tab K F' H' a bs T) (h0:∀ b ∈ a :: bs,F' b=none∧H b=none) :
    EnvOk K Λ F0 H0 F' H' (σ.set i (some (.ref a))) (δ.set i (.p T)):=by
  obtain ⟨x,hx,hnl⟩:=hl
  have hi:i < δ.length:=(List.getElem?_eq_some_iff.mp hx).1
  have hi':i < σ.length:=by rw [I.len]; exact hi
  have fresh:∀ (k:Nat) (b:Addr),k ≠ i→Sl.own δ[k]?=true→σ[k]?=some (some (.ref b))→b ∉ a :: bs:=fun k b hki hk hs hb=>by
    have z:=I.slot k
    have hn':=(h0 b hb).2
    cases q:δ[k]? with
    | none=>rw [q] at hk; cases hk
    | some y =>
      rw [q] at hk z
      cases y with
      | no=>cases hk
      | v d=>cases hk
      | o d=>obtain ⟨c,z1,_,_,z4⟩:=z; rw [hs] at z1; cases z1; obtain ⟨u,hu⟩:=z4.obj; rw [hn'] at hu; cases hu
      | l d=>obtain ⟨c,z1,_,_,z4⟩:=z; rw [hs] at z1; cases z1; obtain ⟨u,hu⟩:=z4.obj; rw [hn'] at hu; cases hu
      | p l2=>exact hki (hn k l2 q)
  have J:=I.grow e
  have f3:∀ b ∈ a :: bs,H0 b=none∧F' b=none:=fun b hb=>⟨I.ext.hh.free (h0 b hb).2,(h0 b hb).1⟩
  refine ⟨J.ext,by simp [I.len],fun j=>?_,fun j k b hjk g1 g2 g3 g4=>?_,fun y hy=>?_,fun j l2 g1=>?_⟩
  · by_cases ee:i=j
    · subst ee
      rw [List.getElem?_set_self hi,List.getElem?_set_self hi']
      exact ⟨a,bs,rfl,t,f3⟩
    · rw [List.getElem?_set_ne ee,List.getElem?_set_ne ee]
      exact J.slot j
  · by_cases e1:i=j
    · subst e1
      rw [List.getElem?_set_self hi'] at g3; cases g3
      rw [List.getElem?_set_ne hjk] at g2 g4
      exact fresh k a (Ne.symm hjk) g2 g4 (by simp)
    · by_cases e2:i=k
      · subst e2
        rw [List.getElem?_set_self hi'] at g4; cases g4
        rw [List.getElem?_set_ne e1] at g1 g3
        exact fresh j a (Ne.symm e1) g1 g3 (by simp)
      · rw [List.getElem?_set_ne e1] at g1 g3
        rw [List.getElem?_set_ne e2] at g2 g4
        exact I.dist j k b hjk g1 g2 g3 g4
  · obtain ⟨⟨d',g1⟩,g2,g3⟩:=J.lent y hy
    have ne:i ≠ y.1:=by
      intro ee
      rw [← ee,hx] at g1
      exact hnl d' (Option.some.inj g1)
    exact ⟨⟨d',by rw [List.getElem?_set_ne ne]; exact g1⟩,by rw [List.getElem?_set_ne ne]; exact g2,g3⟩
  · have ji:j=i:=by
      by_cases ee:i=j
      · exact ee.symm
      · rw [List.getElem?_set_ne ee] at g1; exact hn j l2 g1
    subst ji
    rw [List.getElem?_set_self hi] at g1; cases g1
    refine ⟨a,bs,List.getElem?_set_self hi',t,f3,fun k b hk ho hs hb=>?_,fun k l3 hk=>?_⟩
    · rw [List.getElem?_set_ne (Ne.symm hk)] at ho hs
      exact fresh k b hk ho hs hb
    · by_cases ee:j=k
      · exact ee.symm
      · rw [List.getElem?_set_ne ee] at hk; exact hn k l3 hk
structure TabAt (K:Kx) (H0 F H:Hp) (σ:St) (δ:En) (i:Nat) (a:Addr) (bs:List Addr) (T:Tr):Prop where
  is:δ[i]?=some (.p T)
  at':σ[i]?=some (some (.ref a))
  tab:Tab K F H a bs T
  free:∀ b ∈ a :: bs,H0 b=none∧F b=none
  dist:∀ (j:Nat) (b:Addr),j ≠ i→Sl.own δ[j]?=true→σ[j]?=some (some (.ref b))→b ∉ a :: bs
  one:∀ (j:Nat) (T':Tr),δ[j]?=some (.p T')→j=i
theorem EnvOk.tabAt (I:EnvOk K Λ F0 H0 F H σ δ) {i:Nat} {T:Tr} (hx:δ[i]?=some (.p T)):∃ a bs,TabAt K H0 F H σ δ i a bs T:=by
  obtain ⟨a,bs,s1,s2,s3,s4,s5⟩:=I.tab hx
  exact ⟨a,bs,hx,s1,s2,s3,s4,s5⟩
theorem TabAt.grow {i:Nat} {a:Addr} {bs:List Addr} {T:Tr} (t:TabAt K H0 F H σ δ i a bs T) (e:Ext F H F' H'):TabAt K H0 F' H' σ δ i a bs T :=
  ⟨t.is,t.at',t.tab.mono e.ff e.hh,fun b hb=>let ⟨o,ho⟩:=t.tab.obj b hb; ⟨(t.free b hb).1,e.nw b o (t.free b hb).2 ho⟩,t.dist,t.one⟩
theorem EnvOk.chgT {i:Nat} {T T':Tr} {a b:Addr} {bs bs':List Addr} {u:HO} (I:EnvOk K Λ F0 H0 F H σ δ) (t:TabAt K H0 F H σ δ i a bs T) (hb:b ∈ a :: bs) (t':Tab K F (upd H b u) a bs' T') (sub:∀ c ∈ bs',c ∈ bs) :
    EnvOk K Λ F0 H0 F (upd H b u) σ (δ.set i (.p T')):=by
  have hx:=t.is
  have hi:i < δ.length:=(List.getElem?_eq_some_iff.mp hx).1
  have fb:=t.free b hb
  have sub':∀ c ∈ a :: bs',c ∈ a :: bs:=fun c hc=>by
    rcases List.mem_cons.mp hc with rfl | hc
    · simp
    · exact List.mem_cons_of_mem _ (sub c hc)
  have oth:∀ (j:Nat) (c:Addr),i ≠ j→Sl.own δ[j]?=true→σ[j]?=some (some (.ref c))→c ≠ b:=fun j c hj ho hs ee=>t.dist j c (Ne.symm hj) ho hs (by rw [ee]; exact hb)
  have ow:∀ k2:Nat,Sl.own (δ.set i (.p T'))[k2]?=true→Sl.own δ[k2]?=true:=by
    intro k2 h
    by_cases ee:i=k2
    · subst ee; rw [hx]; rfl
    · rw [List.getElem?_set_ne ee] at h; exact h
  refine ⟨⟨I.ext.ff,fun c w q=>?_,fun c w q=>?_,I.ext.nw⟩,by simp [I.len],fun j=>?_,fun j k2 c hjk g1 g2 g3 g4=>?_,fun y hy=>?_,fun j l2 g1=>?_⟩
  · rw [zaA (zaI q fb.1)]; exact I.ext.hh c w q
  · rw [zaA (zaI q fb.2)]; exact I.ext.fh c w q
  · by_cases ee:i=j
    · subst ee
      rw [List.getElem?_set_self hi]
      exact ⟨a,bs',t.at',t',fun c hc=>t.free c (sub' c hc)⟩
    · rw [List.getElem?_set_ne ee]
      have w:=I.slot j
      cases q:δ[j]? with
      | none=>trivial
      | some y =>
        rw [q] at w
        cases y with
        | no=>trivial
        | v d=>exact w
        | o d=>obtain ⟨c,w1,w2,w3,w4⟩:=w; exact ⟨c,w1,w2,w3,w4.at (zaA (oth j c ee (by rw [q]; rfl) w1))⟩
        | l d=>obtain ⟨c,w1,w2,w3,w4⟩:=w; exact ⟨c,w1,w2,w3,w4.at (zaA (oth j c ee (by rw [q]; rfl) w1))⟩
        | p l2=>exact absurd (t.one j l2 q).symm ee
  · exact I.dist j k2 c hjk (ow j g1) (ow k2 g2) g3 g4
  · obtain ⟨⟨d2,g1⟩,g2,g3⟩:=I.lent y hy
    have ne:i ≠ y.1:=by
      intro ee
      rw [← ee,hx] at g1
      cases g1
    exact ⟨⟨d2,by rw [List.getElem?_set_ne ne]; exact g1⟩,g2,by rw [zaA (oth y.1 y.2.1 ne (by rw [g1]; rfl) g2)]; exact g3⟩
  · have ji:j=i:=by
      by_cases ee:i=j
      · exact ee.symm
      · rw [List.getElem?_set_ne ee] at g1; exact t.one j l2 g1
    subst ji
    rw [List.getElem?_set_self hi] at g1; cases g1
    refine ⟨a,bs',t.at',t',fun c hc=>t.free c (sub' c hc),fun k2 c hk ho hs hc=>?_,fun k2 l3 hk=>?_⟩
    · exact t.dist k2 c hk (ow k2 ho) hs (sub' c hc)
    · by_cases ee:j=k2
      · exact ee.symm
      · rw [List.getElem?_set_ne ee] at hk; exact t.one k2 l3 hk
def zpH (i:Nat) (δ:En):O:=match δ[i]? with | some (.p T)=>.ro (trD T) | _=>.no
open Classical in
def zie (F H:Hp) (bs:List Addr):Hp:=fun b=>if b ∈ bs then H b else F b
mutual
theorem zpc {F1:Hp} (s:Same F F1):∀ (T:Tr) {v:V} {fp:List Addr},TrOk K F H T v fp→(∀ b ∈ fp,F1 b=H b)→Rep K F1 (trD T) v
  | .d x,v,fp,h,_=>by
    simp only [TrOk] at h
    simp only [trD]
    exact Rep.mono s x h.2
  | .l ts,v,fp,h,e=>by
    simp only [TrOk] at h
    obtain ⟨a,vs,fs,rfl,h2,h3,h4⟩:=h
    subst h2
    simp only [trD,Rep]
    exact ⟨a,vs,rfl,.inl ((e a (by simp)).trans h3),zg5 s ts h4 fun b hb=>e b (List.mem_cons_of_mem _ hb)⟩
  | .t ts,v,fp,h,e=>by
    simp only [TrOk] at h
    obtain ⟨a,vs,rfl,h3,h4⟩:=h
    simp only [trD,Rep]
    exact ⟨a,vs,rfl,s _ _ h3,zg5 s ts h4 e⟩
theorem zg5 {F1:Hp} (s:Same F F1):∀ (ts:List Tr) {vs:List V} {fp:List Addr},TrOkL K F H ts vs fp→(∀ b ∈ fp,F1 b=H b)→RepL K F1 (trDL ts) vs
  | [],vs,fp,h,_=>by
    simp only [TrOkL] at h
    rw [h.1]
    simp only [trDL]
    exact .nil
  | t :: ts,vs,fp,h,e=>by
    simp only [TrOkL] at h
    obtain ⟨v,r,f1,f2,rfl,h2,h3,h4⟩:=h
    subst h2
    simp only [trDL]
    exact .cons (zpc s t h3 fun b hb=>e b (List.mem_append_left _ hb)) (zg5 s ts h4 fun b hb=>e b (List.mem_append_right _ hb))
end
theorem zo3 {i:Nat}:SS K XO E (tRet (tVar i)) (zpH i):=by
  intro Λ F0 H0 F H σ δ Dn I a
  unfold zpH at a
  split at a
  · rename_i T q
    obtain ⟨p,bs,s1,s2,s3,_⟩:=I.tab q
    have nd:=List.nodup_cons.mp s2.nd
    have ff:Same F (zie F H bs):=fun b o h=>by
      unfold zie
      rw [if_neg fun z=>by rw [(s3 b (List.mem_cons_of_mem _ z)).2] at h; cases h]
      exact h
    have fh:Same (zie F H bs) H:=fun b o h=>by
      unfold zie at h
      split at h
      · exact h
      · exact I.same b o h
    have fp:zie F H bs p=none:=by
      unfold zie
      rw [if_neg nd.1]
      exact (s3 p (by simp)).2
    refine ⟨_,s1,a p (zie F H bs) H ⟨I.ext.ff.trans ff,I.ext.hh,fh,fun b o h1 h2=>?_⟩ fp (s3 p (by simp)).1 ?_⟩
    · unfold zie
      rw [if_neg fun z=>by rw [(s3 b (List.mem_cons_of_mem _ z)).1] at h2; cases h2]
      exact I.ext.nw b o h1 h2
    · have ok:=s2.ok
      have hb:∀ b ∈ bs,zie F H bs b=H b:=fun b hb=>by unfold zie; rw [if_pos hb]
      cases T with
      | d x=>simp only [TrOk] at ok; cases ok.1
      | t ts =>
        simp only [TrOk] at ok
        obtain ⟨a',vs,h1,h2,_⟩:=ok
        cases h1
        rw [(s3 p (by simp)).2] at h2; cases h2
      | l ts =>
        simp only [TrOk] at ok
        obtain ⟨a',vs,fs,h1,h2,h3,h4⟩:=ok
        cases h1; cases h2
        simp only [trD]
        exact ⟨vs,h3,zg5 ff ts h4 hb⟩
  · exact a.elim
end
end PM
namespace L2
open PySem PySem.Spec PyProof.Rows
section
variable {X:Cx} {x:Str} {np hpos pos:Pos} {body:List Stmt} {b₀:Stmt} {suite:List Stmt} {D':Addr} {tb:(St→XK)→TS} {th:TS}
end
end L2
namespace PM
open PySem L2
section
variable {K:Kx} {E:L2.St→XK}
end
end PM
namespace PM
end PM
namespace L2
open PySem PySem.Spec PyProof.Rows
section
variable {prog:Program} {w:World} {A:Around} {E:Value→Shared→Prop} {s:Shared}
end
section
variable {prog:Program} {w:World} {A:Around} {R:Result→Shared→Prop} {I S:Addr} {fp wr:List Addr} {n:Nat} {P:Nat→Value→Prop} {St:Nat→Heap→Prop} {bt:Nat→Nat→Bool}
end
section
variable {prog:Program} {w:World} {A:Around} {E:Value→Shared→Prop} {s:Shared}
end
section
variable {X:Cx}
end
end L2
namespace PM
open PySem L2
section
variable {K:Kx}
end
end PM
namespace L2
open PySem PySem.Spec PyProof.Rows
section
variable {X:Cx}
end
end L2
namespace PM
open PySem L2
section
variable {K:Kx} {XO:XOT} {E:L2.St→XK}
end
end PM
namespace L2
open PySem PySem.Spec PyProof.Rows
section
variable {X:Cx} {a b c:Expr} {ta tb tc:TE} {pos:Pos}
def rAll:List V→Hp→VK→Prop:=fun xs H Q=>∃ (p:Addr) (bs:List Bool),xs = [.ref p]∧Rd H p (.lst (bs.map V.bl))∧Q (.bl (bs.all id)) H
theorem zjQ {bs:List Bool} {its:List Value} (rv:Vals (bs.map V.bl) its):its=bs.map Value.bool:=by
  induction bs generalizing its with
  | nil=>cases rv; rfl
  | cons a l ih =>
    cases rv with
    | cons h t =>
      have:_=Value.bool a:=h
      rw [this,ih t]; rfl
theorem zjF:∀ (bs:List Bool),((List.range bs.length).all fun i=>bs.getD i false)=bs.all id
  | []=>rfl
  | b :: bs=>by
    rw [List.length_cons,List.range_succ_eq_map,List.all_cons,List.all_map,List.all_cons,← zjF bs]
    rfl
theorem zl8 (hc:X.calm=true):zfP X (.builtin "all") rAll:=by
  intro pins s σ H xs us Q I r h
  obtain ⟨p,bs,rfl,hq,q⟩:=h
  obtain ⟨u,rfl,rx⟩:=zgc r
  cases rx
  obtain ⟨z,its,n,rv,e⟩:=hq.ok I.hok
  have ei:=zjQ rv
  subst ei
  have isl:s.heap.IsList p (bs.map Value.bool).toArray:=⟨_,e,rfl,n,rfl⟩
  have plt:p < s.heap.objs.size:=Heap.lt_size e
  refine call_all_walk (wpAny_pyIter_list isl ?_)
  refine ⟨s.heap.objs.size,[s.heap.objs.size,p],[s.heap.objs.size],(bs.map Value.bool).toArray.size,_,_,(fun i=>bs.getD i false),rfl,Walks.list (A:=X.A.in1) (I.ok.hd hc) s.heap.objs.size p (Nat.ne_of_lt plt) (bs.map Value.bool).toArray,⟨⟨_,Heap.get?_push_size _ rfl,rfl,rfl⟩,isl.push _⟩,?_,?_⟩
  · intro i v s' Q' E' hi hQ
    have hi':(bs.map Value.bool).toArray[i]?=some v:=hi
    rw [List.getElem?_toArray,List.getElem?_map] at hi'
    cases z:bs[i]? with
    | none=>rw [z] at hi'; cases hi'
    | some b =>
      rw [z] at hi'
      cases hi'
      refine wpAny_truthy_bool ?_
      have:bs.getD i false=b:=by rw [List.getD_eq_getElem?_getD,z]; rfl
      have hQ':Q' (bs.getD i false) s':=hQ
      rw [this] at hQ'
      exact hQ'
  · intro h' tk hk
    rw [List.size_toArray,List.length_map,zjF]
    refine ⟨.bl _,H,I.kept (t':=tk) (fun b o eo=>hk b o (fun hm=>?_) (Heap.get?_push_of_some _ eo)),rfl,q⟩
    rw [List.mem_singleton.mp hm] at eo
    exact absurd (Heap.lt_size eo) (Nat.lt_irrefl _)
end
end L2
namespace PM
open PySem L2
section
variable {K:Kx} {XO:XOT} {E:L2.St→XK} {ta tb tc:TE} {ma mb mc:En→R D}
def zjx (o1 o2:D→D→Option D) (ma mb mc:En→R D) (δ:En):R D:=(ma δ).bind fun x=>(mb δ).bind fun y=>match o1 x y with
  | some (.bl true)=>(mc δ).bind fun z=>R.of (o2 y z)
  | some (.bl false)=>.ok (.bl false)
  | _=>.no
theorem znw {r1 r2:R2} {o1 o2:D→D→Option D} (h1:SR K r1 o1) (h2:SR K r2 o2) (ha:SEr K XO E ta ma) (hb:SEr K XO E tb mb) (hc:SEr K XO E tc mc):SE K XO E (zon r1 r2 ta tb tc) (zjx o1 o2 ma mb mc):=by
  intro Λ F0 H0 F H σ δ Q I a
  refine ha Λ F0 H0 F H σ δ _ I (a.bind.imp fun dx F1 H1 e1 a1 x rx=>?_)
  refine hb Λ F0 H0 F1 H1 σ δ _ (I.grow e1) (a1.bind.imp fun dy F2 H2 e2 a2 y ry=>?_)
  cases q:o1 dx dy with
  | none=>rw [q] at a2; exact a2.elim
  | some d =>
    rw [q] at a2
    have fin:∀ t:Bool,d = .bl t→r1 x y H2 fun k H3=>∃ t:Bool,k = .bl t∧if t=true then tc σ H3 fun z H4=>r2 y z H4 Q else Q (.bl false) H3:=by
      rintro t rfl
      refine h1 F2 H2 x y dx dy (.bl t) _ e2.fh (rx.mono e2.ff e2.hh) ry q fun v F3 H3 e3 rv=>?_
      simp only [Rep] at rv
      refine ⟨t,rv,?_⟩
      cases t with
      | false =>
        rw [if_neg (by decide)]
        exact a2 F3 H3 e3 (.bl false) (by simp only [Rep])
      | true =>
        rw [if_pos rfl]
        have a3:Aft E XO σ F2 H2 _ (mc δ):=Aft.bind a2
        refine hc Λ F0 H0 F3 H3 σ δ _ (((I.grow e1).grow e2).grow e3) ((Aft.mono e3 a3).imp fun dz F4 H4 e4 a4 z rz=>?_)
        cases q2:o2 dy dz with
        | none=>rw [q2] at a4; exact a4.elim
        | some d' =>
          rw [q2] at a4
          exact h2 F4 H4 y z dy dz d' Q e4.fh ((ry.mono e3.ff e3.hh).mono e4.ff e4.hh) rz q2 fun v F' H' e r=>a4 F' H' e v r
    cases d with
    | bl t=>exact fin t rfl
    | _=>exact a2.elim
def asBs:List D→Option (List Bool)
  | []=>some []
  | .bl b :: l=>(asBs l).map fun bs=>b :: bs
  | _ :: _=>none
theorem zhl:∀ {l:List D} {bs:List Bool},asBs l=some bs→l=bs.map .bl
  | [],_,h=>by cases h; rfl
  | d :: l,bs,h=>by
    cases d with
    | bl b =>
      unfold asBs at h
      cases q:asBs l with
      | none=>rw [q] at h; cases h
      | some r=>rw [q] at h; cases h; rw [zhl q]; rfl
    | _=>unfold asBs at h; cases h
theorem zk7 (bs:List Bool):asBs (bs.map .bl)=some bs:=by
  induction bs with
  | nil=>rfl
  | cons b bs ih=>simp [asBs,ih]
def fAll:List D→Option D
  | [.lst l]=>(asBs l).map fun bs=>.bl (bs.all id)
  | _=>none
theorem zgH {F:Hp}:∀ {bs:List Bool} {vs:List V},RepL K F (bs.map .bl) vs→vs=bs.map V.bl
  | [],vs,h=>h
  | b :: bs,vs,h=>by
    obtain ⟨v,r,rfl,h1,h2⟩:=h
    have:v = .bl b:=h1
    rw [this,zgH h2]; rfl
theorem zqZ:SC K rAll fAll:=by
  intro F H vs ds d Q s r e q
  unfold fAll at e
  split at e
  · rename_i l
    cases q2:asBs l with
    | none=>rw [q2] at e; cases e
    | some bs =>
      rw [q2] at e
      cases e
      cases r with
      | cons r r' =>
        cases r'
        obtain ⟨p,xs,rfl,h1,h2⟩:=r
        rw [zhl q2] at h2
        have:=zgH h2
        subst this
        exact ⟨p,bs,rfl,h1,q _ F H (.refl s) (by simp only [Rep])⟩
  · cases e
end
end PM
namespace L2
open PySem PySem.Spec PyProof.Rows
section
variable {X:Cx} {e st:Expr} {te ts:TE} {p2 pos:Pos}
end
end L2
namespace PM
open PySem L2
section
variable {K:Kx} {XO:XOT} {E:L2.St→XK} {te ts:TE} {me ms:En→R D}
end
end PM
namespace L2
open PySem PySem.Spec PyProof.Rows
section
variable {prog:Program} {w:World} {A:Around} {E:Value→Shared→Prop} {s:Shared}
end
section
variable {prog:Program} {w:World} {A:Around} {E:Value→Shared→Prop} {s:Shared}
end
section
variable {X:Cx} {l:Expr} {tl:TE}
end
end L2
namespace PM
open PySem L2
section
variable {K:Kx} {XO:XOT} {E:L2.St→XK} {te:TE} {me:En→R D}
end
end PM
namespace L2
open PySem PySem.Spec PyProof.Rows Builtin Builtin.ObjectAttr
section
variable {prog:Program} {w:World} {A:Around} {E:Value→Shared→Prop} {s:Shared} {K:PySem.W.Frag} {x C:Addr} {ox:Obj} {od:Option Obj} {name:Str} {tk:Tok} {v:Value} {R:Result→Shared→Prop}
end
section
variable {X:Cx} {o e value:Expr} {f:Str} {pos pos' tpos:Pos} {ta tv:TE}
end
section
variable {M:Model} {A:Around} {E:Value→Shared→Prop} {s:Shared} {B:Heap} {env:Env} {outer l:List Env} {L e:Addr} {Q:Unit→Shared→Prop}
end
section
variable {P:Program} {w:World} {K:PySem.W.Frag} {mg:Str→Option Value} {base:Heap} {N:List Str} {qual:Str} {scope:Scope} {f:Addr} {cd:Value} {A:Around} {outer:List Env} {s0:Shared} {H0:Hp} {E:XK}
end
section
variable {M:Model} {A:Around} {E:Value→Shared→Prop} {env:Env}
variable {nm q:Str} {C N:Addr} {bs bm:List Value} {hdct:Bool} {sn:List Str} {sub:List Value} {ab:Bool} {col:Option Bool} {dd:Option Addr} {k0 k1 k2 k3 k5:Option Value} {newId:String}
end
section
variable {P:Program} {w:World} {K:PySem.W.Frag} {mg:Str→Option Value} {base:Heap} {N:List Str} {qual:Str} {scope:Scope} {f:Addr} {cd:Value} {A:Around} {outer:List Env} {s0:Shared} {H0:Hp} {E:XK}
end
section
variable {X:Cx} {CX:CXT} {k:Nat} {fa:Addr} {fd:FuncData} {ps:List Str} {sp:Sp} {x:Str} {np cpos pos:Pos} {e₀:Expr} {rest:List Expr} {C:Addr} {bmB bmN:List Value} {newId Bn B nid inN initId:String} {E:St→XK} {t:TA}
end
end L2
namespace PM
open PySem L2
section
variable {X:Cx} {fa:Addr} {ps:List Str} {sp:Sp} {x:Str} {np cpos pos:Pos} {e₀:Expr} {rest:List Expr} {C:Addr} {bmB bmN:List Value} {newId Bn B nid inN initId:String} {E:L2.St→XK} {t:TA}
end
section
variable {K:Kx} {XO:XOT} {E:L2.St→XK} {ta:TE} {ma:En→R D} {Λ:List (Nat × Addr × HO)} {F0 H0 F H:Hp} {σ:L2.St} {δ:En}
end
end PM
namespace L2
open PySem PyProof.Rows
section
variable {N:Nat} {p:Array Nat}
end
section
variable {ky:Nat→Int} {N:Nat} {cmp:Nat→Nat→(Bool→Shared→Prop)→Shared→Prop}
end
end L2
namespace L2
open PySem PySem.Spec PyProof.Rows
section
variable {prog:Program} {w:World} {A:Around} {E:Value→Shared→Prop} {s:Shared}
end
section
variable {X:Cx} {pins:List (Addr × Obj)} {σ:St} {H:Hp} {s:Shared} {h':Heap}
end
end L2
namespace PM
open PySem L2
section
variable {K:Kx} {XO:XOT} {E:L2.St→XK}
end
end PM
namespace L2
open PySem PySem.Spec PyProof.Rows
section
variable {P:Program} {w:World} {K:PySem.W.Frag} {mg mb:Str→Option Value} {CX:CXT} {k:Nat} {fa a tP:Addr} {fd:FuncData} {x:Str} {sp:Sp} {s₁:Shared} {vs:List Value} {ns:List Int}
end
end L2
namespace L2
open PySem PySem.Spec PyProof.Rows
section
variable {X:Cx}
end
end L2
namespace PM
open PySem L2
section
variable {K:Kx} {XO:XOT} {E:L2.St→XK}
end
end PM
namespace PM
open PySem L2
section
variable {K:Kx}
def fInt:List D→Option D
  | [.int i]=>some (.int i)
  | [.bl b]=>some (.int (if b then 1 else 0))
  | _=>none
theorem zp6:SC K (fun xs H Q=>(∃ i,xs = [.int i]∧Q (.int i) H)∨∃ k,xs = [.bl k]∧Q (.int (if k then 1 else 0)) H) fInt:=by
  intro F H vs ds d Q s r e q
  unfold fInt at e
  split at e
  · rename_i i
    cases e
    cases r with
    | cons r r' =>
      cases r'
      simp only [Top,Rep] at r
      subst r
      exact .inl ⟨i,rfl,q _ F H (.refl s) (by simp only [Rep])⟩
  · rename_i b
    cases e
    cases r with
    | cons r r' =>
      cases r'
      simp only [Top,Rep] at r
      subst r
      exact .inr ⟨b,rfl,q _ F H (.refl s) (by simp only [Rep])⟩
  · cases e
end
end PM
namespace L2
open PySem PySem.Spec PyProof.Rows
section
variable {prog:Program} {w:World} {A:Around} {E:Value→Shared→Prop} {s:Shared}
end
end L2
namespace L2
open PySem PySem.Spec PyProof.Rows
section
variable {prog:Program} {w:World} {A:Around} {E:Value→Shared→Prop} {s:Shared}
end
section
variable {X:Cx} {pins:List (Addr × Obj)} {σ:St} {A:Around} {R:Result→Shared→Prop}
end
end L2
namespace PM
open PySem L2
section
variable {K:Kx} {XO:XOT} {E:L2.St→XK}
end
end PM
namespace L2
open PySem PySem.Spec PyProof.Rows
section
variable {X:Cx} {pins:List (Addr × Obj)} {σ:St} {H:Hp} {s:Shared} {a:Addr} {kvs:List (Key × V)}
end
section
variable {X:Cx}
end
end L2
namespace PM
open PySem L2
section
variable {K:Kx} {XO:XOT} {E:L2.St→XK}
end
end PM
namespace L2
open PySem PySem.Spec PyProof.Rows
section
variable {P:Program} {w:World} {K:PySem.W.Frag} {mg:Str→Option Value} {base:Heap} {CX:CXT} {k:Nat} {x:Str} {ps:List Str} {sp:Sp} {d:V}
end
section
variable {X:Cx} {CX:CXT} {k:Nat} {x:Str} {ps:List Str} {sp:Sp} {E:XK} {p pos:Pos} {a b:Expr} {ta tb:TE} {d:V}
end
section
variable {P:Program} {w:World} {K:PySem.W.Frag} {mg:Str→Option Value} {base:Heap} {d:V}
end
end L2
namespace PM
open PySem L2
section
variable {K:Kx} {F H:Hp}
end
section
variable {K:Kx} {XO:XOT} {E:L2.St→XK} {ta te:TE} {ma me:En→R D}
end
section
variable {K:Kx} {XO:XOT} {E:L2.St→XK} {F0 H0 F H:Hp} {σ:L2.St} {δ:En}
end
end PM
namespace L2
open PySem PySem.Spec PyProof.Rows
section
variable {prog:Program} {w:World} {A:Around} {E:Value→Shared→Prop} {s:Shared}
end
end L2
namespace L2
open PySem PySem.Spec PyProof.Rows
section
variable {X:Cx}
end
end L2
namespace PM
open PySem L2
section
variable {K:Kx} {XO:XOT} {E:L2.St→XK}
end
end PM
namespace L2
open PySem PySem.Spec PyProof.Rows
section
variable {X:Cx} {CX:CXT} {k:Nat} {x m:Str} {C:Addr} {ps:List Str} {sp:Sp} {E:XK} {p pos apos:Pos} {e o:Expr} {es:List Expr} {t:TA} {ta:TE}
end
end L2
namespace PM
open PySem L2
section
variable {K:Kx} {XO:XOT} {E:L2.St→XK} {F0 H0 F H:Hp} {σ:L2.St} {δ:En}
end
end PM
namespace PM
open PySem L2
section
variable {K:Kx} {XO:XOT} {E:L2.St→XK} {F0 H0 F H F1 H1 F' H':Hp}
end
end PM
namespace L2
open PySem PySem.Spec PyProof.Rows
section
variable {P:Program} {w:World} {K:PySem.W.Frag} {mg:Str→Option Value} {base:Heap} {CX:CXT} {k:Nat} {x m qual:Str} {C:Addr} {st:Stmt} {f:Addr} {fd:FuncData} {ps:List Str} {sp:Sp}
end
end L2
namespace L2
open PySem PySem.Spec PyProof.Rows
section
variable {X:Cx} {CX:CXT} {k:Nat} {x:Str} {C:Addr} {ps:List Str} {sp:Sp} {E:St→XK} {p pos:Pos} {e:Expr} {es:List Expr} {t:TA}
end
end L2
namespace PM
open PySem L2
section
variable {K:Kx} {XO:XOT} {E:L2.St→XK} {F0 H0 F H F1 H1 F' H':Hp}
end
end PM
namespace L2
open PySem PySem.Spec PyProof.Rows
section
variable {prog:Program} {w:World} {A:Around} {E:Value→Shared→Prop} {s:Shared}
end
section
variable {X:Cx}
end
end L2
namespace PM
open PySem L2
section
variable {K:Kx} {XO:XOT} {E:L2.St→XK}
end
end PM
namespace L2
open PySem PySem.Spec PyProof.Rows
section
variable {prog:Program} {w:World} {A:Around} {E:Value→Shared→Prop} {s:Shared}
end
section
variable {X:Cx}
end
end L2
namespace PM
open PySem L2
section
variable {K:Kx} {XO:XOT} {E:L2.St→XK}
end
end PM
namespace L2
open PySem PySem.Spec PyProof.Rows
end L2
namespace L2
open PySem PySem.Spec PyProof.Rows
section
variable {prog:Program} {w:World} {K:Type} [DecidableEq K] {knd:KeyKind prog w K} {A:Around} {E:Value→Shared→Prop} {s:Shared}
end
section
variable {prog:Program} {w:World} {K:Type} [DecidableEq K] {knd:KeyKind prog w K} {A:Around} {E:Value→Shared→Prop} {s:Shared}
end
section
variable {prog:Program} {w:World} {K:Type} [DecidableEq K] {knd:KeyKind prog w K} {A:Around} {E:Value→Shared→Prop} {s:Shared}
end
end L2
namespace L2
open PySem PySem.Spec PyProof.Rows
section
variable {X:Cx}
end
end L2
namespace PM
open PySem L2
section
variable {K:Kx} {XO:XOT} {E:L2.St→XK}
end
end PM
namespace PM
open PySem L2
section
variable {K:Kx} {XO:XOT} {E:St→XK} {ta tb te:TE} {ma mb me:En→R D} {t u:TS} {m n:En→O} {Λ:List (Nat × Addr × HO)} {F0 H0 F H F' H' F1 H1:Hp} {σ:St} {δ:En} {Dn:Ends}
theorem leaf_iff:∀ {l:List D} {vs:List V} {fp:List Addr},TrOkL K F H (l.map .d) vs fp ↔ RepL K F l vs∧fp = []
  | [],vs,fp=>by simp only [List.map_nil,TrOkL,RepL]
  | d :: l,vs,fp=>by
    simp only [List.map_cons,TrOkL,TrOk,RepL]
    constructor
    · rintro ⟨v,r,f1,f2,rfl,rfl,⟨rfl,h1⟩,h2⟩
      obtain ⟨h3,rfl⟩:=leaf_iff.mp h2
      exact ⟨⟨v,r,rfl,h1,h3⟩,rfl⟩
    · rintro ⟨⟨v,r,rfl,h1,h3⟩,rfl⟩
      exact ⟨v,r,[],[],rfl,rfl,⟨rfl,h1⟩,leaf_iff.mpr ⟨h3,rfl⟩⟩
theorem TrOkL.append:∀ {ts:List Tr} {vs:List V} {f1:List Addr} {us:List Tr} {ws:List V} {f2:List Addr},TrOkL K F H ts vs f1→TrOkL K F H us ws f2→TrOkL K F H (ts ++ us) (vs ++ ws) (f1 ++ f2)
  | [],vs,f1,us,ws,f2,h,h'=>by
    simp only [TrOkL] at h
    obtain ⟨rfl,rfl⟩:=h
    exact h'
  | t :: ts,vs,f1,us,ws,f2,h,h'=>by
    simp only [TrOkL] at h
    obtain ⟨v,r,g1,g2,rfl,rfl,h3,h4⟩:=h
    simp only [List.cons_append,TrOkL]
    exact ⟨v,r ++ ws,g1,g2 ++ f2,rfl,by rw [List.append_assoc],h3,TrOkL.append h4 h'⟩
theorem TrOkL.length:∀ {ts:List Tr} {vs:List V} {fp:List Addr},TrOkL K F H ts vs fp→vs.length=ts.length
  | [],vs,fp,h=>by simp only [TrOkL] at h; rw [h.1]; rfl
  | t :: ts,vs,fp,h=>by
    simp only [TrOkL] at h
    obtain ⟨v,r,g1,g2,rfl,rfl,h3,h4⟩:=h
    simp [TrOkL.length h4]
theorem TrOkL.focus:∀ {ts:List Tr} {vs:List V} {fp:List Addr} {k:Nat} {t:Tr},TrOkL K F H ts vs fp→ts[k]?=some t→∃ v f0 f1 f2,vs[k]?=some v∧fp=f0 ++ (f1 ++ f2)∧TrOk K F H t v f1∧∀ (H':Hp) (t':Tr) (v':V) (f1':List Addr),(∀ b ∈ f0 ++ f2,H' b=H b)→TrOk K F H' t' v' f1'→TrOkL K F H' (ts.set k t') (vs.set k v') (f0 ++ (f1' ++ f2))
  | [],vs,fp,k,t,h,e=>by simp at e
  | x :: ts,vs,fp,0,t,h,e=>by
    simp only [TrOkL] at h
    obtain ⟨v,r,g1,g2,rfl,rfl,h3,h4⟩:=h
    simp at e; subst e
    refine ⟨v,[],g1,g2,rfl,rfl,h3,fun H' t' v' f1' hb h'=>?_⟩
    simp only [List.set_cons_zero,List.nil_append,TrOkL]
    exact ⟨v',r,f1',g2,rfl,rfl,h',TrOkL.at' ts h4 fun b hb'=>hb b (by simpa using hb')⟩
  | x :: ts,vs,fp,k + 1,t,h,e=>by
    simp only [TrOkL] at h
    obtain ⟨v,r,g1,g2,rfl,rfl,h3,h4⟩:=h
    obtain ⟨w,f0,f1,f2,i1,rfl,i3,i4⟩:=TrOkL.focus (k:=k) (t:=t) h4 (by simpa using e)
    refine ⟨w,g1 ++ f0,f1,f2,by simpa using i1,by rw [List.append_assoc],i3,fun H' t' v' f1' hb h'=>?_⟩
    simp only [List.set_cons_succ,TrOkL]
    exact ⟨v,_,g1,_,rfl,by rw [List.append_assoc],TrOk.at' x h3 fun b hb'=>hb b (by simp [hb']),i4 H' t' v' f1' (fun b hb'=>hb b (by rcases List.mem_append.mp hb' with z | z <;> simp [z])) h'⟩
theorem EnvOk.chgG {i:Nat} {T T':Tr} {a c:Addr} {bs':List Addr} {u:HO} (I:EnvOk K Λ F0 H0 F H σ δ) (hx:δ[i]?=some (.p T)) (ha:σ[i]?=some (some (.ref a))) (one:∀ (j:Nat) (T':Tr),δ[j]?=some (.p T')→j=i)
    (hc:H0 c=none∧F c=none) (oc:∀ j:Nat,j ≠ i→Sl.own δ[j]?=true→σ[j]? ≠ some (some (.ref c))) (t':Tab K F (upd H c u) a bs' T') (fr:∀ b ∈ a :: bs',H0 b=none∧F b=none)
    (dj:∀ (j:Nat) (b:Addr),j ≠ i→Sl.own δ[j]?=true→σ[j]?=some (some (.ref b))→b ∉ a :: bs'):EnvOk K Λ F0 H0 F (upd H c u) σ (δ.set i (.p T')):=by
  have hi:i < δ.length:=(List.getElem?_eq_some_iff.mp hx).1
  have oth:∀ (j:Nat) (b:Addr),i ≠ j→Sl.own δ[j]?=true→σ[j]?=some (some (.ref b))→b ≠ c:=fun j b hj ho hs ee=>oc j (Ne.symm hj) ho (by rw [← ee]; exact hs)
  have ow:∀ k2:Nat,Sl.own (δ.set i (.p T'))[k2]?=true→Sl.own δ[k2]?=true:=by
    intro k2 h
    by_cases ee:i=k2
    · subst ee; rw [hx]; rfl
    · rw [List.getElem?_set_ne ee] at h; exact h
  refine ⟨⟨I.ext.ff,fun b w q=>?_,fun b w q=>?_,I.ext.nw⟩,by simp [I.len],fun j=>?_,fun j k2 b hjk g1 g2 g3 g4=>?_,fun y hy=>?_,fun j l2 g1=>?_⟩
  · rw [zaA (zaI q hc.1)]; exact I.ext.hh b w q
  · rw [zaA (zaI q hc.2)]; exact I.ext.fh b w q
  · by_cases ee:i=j
    · subst ee
      rw [List.getElem?_set_self hi]
      exact ⟨a,bs',ha,t',fr⟩
    · rw [List.getElem?_set_ne ee]
      have w:=I.slot j
      cases q:δ[j]? with
      | none=>trivial
      | some y =>
        rw [q] at w
        cases y with
        | no=>trivial
        | v d=>exact w
        | o d=>obtain ⟨b,w1,w2,w3,w4⟩:=w; exact ⟨b,w1,w2,w3,w4.at (zaA (oth j b ee (by rw [q]; rfl) w1))⟩
        | l d=>obtain ⟨b,w1,w2,w3,w4⟩:=w; exact ⟨b,w1,w2,w3,w4.at (zaA (oth j b ee (by rw [q]; rfl) w1))⟩
        | p l2=>exact absurd (one j l2 q).symm ee
  · exact I.dist j k2 b hjk (ow j g1) (ow k2 g2) g3 g4
  · obtain ⟨⟨d2,g1⟩,g2,g3⟩:=I.lent y hy
    have ne:i ≠ y.1:=by
      intro ee
      rw [← ee,hx] at g1
      cases g1
    exact ⟨⟨d2,by rw [List.getElem?_set_ne ne]; exact g1⟩,g2,by rw [zaA (oth y.1 y.2.1 ne (by rw [g1]; rfl) g2)]; exact g3⟩
  · have ji:j=i:=by
      by_cases ee:i=j
      · exact ee.symm
      · rw [List.getElem?_set_ne ee] at g1; exact one j l2 g1
    subst ji
    rw [List.getElem?_set_self hi] at g1; cases g1
    refine ⟨a,bs',ha,t',fr,fun k2 b hk ho hs hb=>dj k2 b hk (ow k2 ho) hs hb,fun k2 l3 hk=>?_⟩
    by_cases ee:j=k2
    · exact ee.symm
    · rw [List.getElem?_set_ne ee] at hk; exact one k2 l3 hk
def zn1 (me:En→R D) (i:Nat) (δ:En):O:=(me δ).toO δ fun d=>match d with
  | .lst l=>(match δ[i]? with
    | none=>.no
    | some (.l _)=>.no
    | some _=>if zkf i δ=true then .nx (δ.set i (.p (.l (l.map .d)))) else .no)
  | _=>.no
theorem zo4 {i:Nat} (h:SEo K XO E te me):SS K XO E (tAsg te (zjv i)) (zn1 me i):=by
  intro Λ F0 H0 F H σ δ Dn I a
  refine h Λ F0 H0 F H σ δ _ I ((AftS.of I a).imp fun d F1 H1 e c p p0 p1 po=>?_)
  cases d with
  | lst l =>
    dsimp only at c
    obtain ⟨vs,o1,o2⟩:=po
    have tt:Tab K F1 H1 p [] (.l (l.map .d)):=by
      refine ⟨?_,by simp⟩
      simp only [TrOk]
      exact ⟨p,vs,[],rfl,rfl,o1,leaf_iff.mpr ⟨o2,rfl⟩⟩
    cases q:δ[i]? with
    | none=>simp only [q] at c; exact c.elim
    | some x =>
      simp only [q] at c
      cases x with
      | l d=>exact c.elim
      | no | v d | o d | p l2 =>
        dsimp only at c
        split at c
        · rename_i hn
          exact c _ F1 H1 (I.putP ⟨_,q,fun d z=>by cases z⟩ (znD hn) e tt fun b hb=>by
            rw [List.mem_singleton.mp hb]; exact ⟨p0,p1⟩)
        · exact c.elim
  | _=>exact c.elim
theorem EnvOk.dropO {j:Nat} {d:D} (I:EnvOk K Λ F0 H0 F H σ δ) (hj:δ[j]?=some (.o d)):EnvOk K Λ F0 H0 F H σ (δ.set j .no):=by
  have hi:j < δ.length:=(List.getElem?_eq_some_iff.mp hj).1
  refine EnvOk.weakL ⟨by simp,fun k=>?_⟩ (fun x hx=>?_) I
  · by_cases e:j=k
    · subst e; exact .inl (List.getElem?_set_self hi)
    · exact .inr (List.getElem?_set_ne e)
  · obtain ⟨⟨d',h1⟩,_⟩:=I.lent x hx
    have n:j ≠ x.1:=fun e=>by rw [← e,hj] at h1; cases h1
    exact ⟨d',by rw [List.getElem?_set_ne n]; exact h1⟩
def znJ (i j:Nat) (me:En→R D) (δ:En):O:=match δ[i]?,δ[j]? with
  | some (.p (.l ts)),some (.o (.lst l))=>(me δ).toO δ fun d=>ifC (ts.length < sizeLine) (.nx ((δ.set j .no).set i (.p (.l (ts ++ [.t [.d d,.l (l.map .d)]]))))) .no
  | _,_=>.no
theorem zpE {i j:Nat} (h:SE K XO E te me):SS K XO E (zkD (tBM K.f "list" zhn (tVar i) (zeU (tTup (zeU te (zeU (tVar j) tNil))) tNil))) (znJ i j me):=by
  intro Λ F0 H0 F H σ δ Dn I a
  unfold znJ at a
  split at a
  · rename_i ts l q1 q2
    obtain ⟨p,bs,tt⟩:=I.tabAt q1
    have ok:=tt.tab.ok
    simp only [TrOk] at ok
    obtain ⟨p',vs,fs,e1,e2,hp,hL⟩:=ok
    cases e1; cases e2
    have z:=I.slot j
    rw [q2] at z
    obtain ⟨b,b1,b2,b3,ws,b4,b5⟩:=z
    have hij:j ≠ i:=fun e=>by rw [e,q1] at q2; cases q2
    have bn:b ∉ p :: bs:=tt.dist j b hij (by rw [q2]; rfl) b1
    refine ⟨_,tt.at',.inl ⟨rfl,vs,.inl (.inl hp)⟩,?_⟩
    refine h Λ F0 H0 F H σ δ _ I ((AftS.of I a).imp fun d G K1 e c v rv=>⟨_,b1,by simp [sizeLine],fun c' hc'=>?_⟩)
    unfold ifC at c
    split at c
    case isFalse=>exact c.elim
    rename_i hl
    have x2:Ext G K1 (upd G c' (.tup [v,.ref b])) (upd K1 c' (.tup [v,.ref b])):=.new e.fh hc'
    have I2:=(I.grow e).grow x2
    have t2:=(tt.grow e).grow x2
    have hp1:K1 p=some (.lst vs):=e.hh _ _ hp
    have pc:p ≠ c':=zaI hp1 hc'
    have hb1:K1 b=some (.lst ws):=e.hh _ _ b4
    have bc:b ≠ c':=zaI hb1 hc'
    have bp:b ≠ p:=fun z=>bn (by rw [z]; simp)
    refine ⟨p,vs,.ref c',rfl,rfl,by rw [zaA pc]; exact hp1,by rw [hL.length]; exact hl,?_⟩
    have nd:=List.nodup_cons.mp tt.tab.nd
    have J:=I2.dropO q2
    have f2:∀ x ∈ p :: (bs ++ [b]),H0 x=none∧upd G c' (.tup [v,.ref b]) x=none:=fun x hx=>by
      have:x ∈ p :: bs∨x=b:=by
        rcases List.mem_cons.mp hx with z | z
        · exact .inl (by rw [z]; simp)
        · rcases List.mem_append.mp z with z | z
          · exact .inl (List.mem_cons_of_mem _ z)
          · exact .inr (List.mem_singleton.mp z)
      rcases this with z | z
      · exact t2.free x z
      · subst z
        exact ⟨b2,by rw [zaA bc]; exact e.nw _ _ b3 b4⟩
    refine c σ _ _ (J.chgG (i:=i) (T:=.l ts) (c:=p) (a:=p) (bs':=bs ++ [b]) (by rw [List.getElem?_set_ne hij]; exact q1) tt.at' (fun k T' hk=>?_) (f2 p (by simp)) (fun k hk ho hs=>?_) ⟨?_,?_⟩ f2 fun k x hk ho hs hx=>?_)
    · by_cases ee:j=k
      · subst ee; rw [List.getElem?_set_self (List.getElem?_eq_some_iff.mp q2).1] at hk; cases hk
      · rw [List.getElem?_set_ne ee] at hk; exact tt.one k T' hk
    · have ee:j ≠ k:=fun ee=>by subst ee; rw [List.getElem?_set_self (List.getElem?_eq_some_iff.mp q2).1] at ho; cases ho
      rw [List.getElem?_set_ne ee] at ho
      exact tt.dist k p hk ho hs (by simp)
    · simp only [TrOk]
      refine ⟨p,vs ++ [.ref c'],bs ++ [b],rfl,rfl,zaR,TrOkL.append ?_ ?_⟩
      · refine TrOkL.at' ts (TrOkL.mono (e.ff.trans x2.ff) (e.hh.trans x2.hh) ts hL) fun x hx=>zaA fun z=>nd.1 (z ▸ hx)
      · simp only [TrOkL,TrOk]
        refine ⟨.ref c',[],[b],[],rfl,rfl,⟨c',[v,.ref b],rfl,zaR,v,[.ref b],[],[b],rfl,rfl,⟨rfl,Rep.mono x2.ff d rv⟩,.ref b,[],[b],[],rfl,rfl,⟨b,ws,[],rfl,rfl,?_,leaf_iff.mpr ⟨b5.mono (e.ff.trans x2.ff),rfl⟩⟩,rfl,rfl⟩,rfl,rfl⟩
        rw [zaA bp,zaA bc]; exact hb1
    · rw [← List.cons_append,List.nodup_append]
      exact ⟨tt.tab.nd,by simp,fun x hx y hy ee=>bn (by rw [← List.mem_singleton.mp hy,← ee]; exact hx)⟩
    · have ee:j ≠ k:=fun ee=>by subst ee; rw [List.getElem?_set_self (List.getElem?_eq_some_iff.mp q2).1] at ho; cases ho
      rw [List.getElem?_set_ne ee] at ho
      rw [← List.cons_append] at hx
      rcases List.mem_append.mp hx with z | z
      · exact tt.dist k x hk ho hs z
      · rw [List.mem_singleton.mp z] at hs
        exact I.dist j k b ee (by rw [q2]; rfl) ho b1 hs
  · exact a.elim
end
end PM
namespace PM
open PySem L2
section
variable {K:Kx} {XO:XOT} {E:St→XK} {ta tb te:TE} {ma mb me:En→R D} {t u:TS} {m n:En→O} {Λ:List (Nat × Addr × HO)} {F0 H0 F H F' H' F1 H1:Hp} {σ:St} {δ:En} {Dn:Ends}
theorem ziH {α:Type}:∀ {l:List α} {i:Nat} {x:α},l[i]?=some x→l.set i x=l
  | [],i,x,h=>by simp at h
  | y :: l,0,x,h=>by simp at h; rw [List.set_cons_zero,h]
  | y :: l,i + 1,x,h=>by rw [List.set_cons_succ,ziH (by simpa using h)]
def zj9 (i:Nat) (mk mn me:En→R D) (δ:En):O:=match δ[i]? with
  | some (.p (.l ts))=>(mk δ).toO δ fun k=>(match k with
    | .int k=>(match ixN ts.length k with
      | some k'=>(match ts[k']? with
        | some (.t us)=>(mn δ).toO δ fun n=>(match n with
          | .int n=>(match ixN us.length n with
            | some n'=>(match us[n']? with
              | some (.l ws)=>(me δ).toO δ fun d=>ifC (ws.length < sizeLine) (.nx (δ.set i (.p (.l (ts.set k' (.t (us.set n' (.l (ws ++ [.d d]))))))))) .no
              | _=>.no)
            | none=>.no)
          | _=>.no)
        | _=>.no)
      | none=>.no)
    | _=>.no)
  | _=>.no
theorem zpl {p q:Addr} {bs:List Addr} {ts us ws:List Tr} {vs uvs wvs:List V} {tA:Addr} {k n:Nat} {d:D} {v:V} (tt:Tab K F H p bs (.l ts)) (hp:H p=some (.lst vs)) (zt:ts[k]?=some (.t us)) (zv:vs[k]?=some (.ref tA)) (zA:F tA=some (.tup uvs)) (zu:us[n]?=some (.l ws)) (zw:uvs[n]?=some (.ref q)) (hq:H q=some (.lst wvs)) (rv:Rep K F d v) :
    q ∈ bs∧Tab K F (upd H q (.lst (wvs ++ [v]))) p bs (.l (ts.set k (.t (us.set n (.l (ws ++ [.d d])))))):=by
  have ok:=tt.ok
  simp only [TrOk] at ok
  obtain ⟨p',vs',fs,e1,e2,hp',hL⟩:=ok
  cases e1; cases e2
  rw [hp] at hp'; cases hp'
  obtain ⟨v1,f0,f1,f2,g1,g2,g3,g4⟩:=hL.focus zt
  rw [zv] at g1; cases g1
  simp only [TrOk] at g3
  obtain ⟨a1,uvs',e3,g5,hU⟩:=g3
  cases e3
  rw [zA] at g5; cases g5
  obtain ⟨w1,h0,hm,h2,i1,i2,i3,i4⟩:=hU.focus zu
  rw [zw] at i1; cases i1
  simp only [TrOk] at i3
  obtain ⟨q',wvs',ffs,e4,i5,i6,hW⟩:=i3
  cases e4
  rw [hq] at i6; cases i6
  subst i5 i2 g2
  have nd:=tt.nd
  have qm:q ∈ f0 ++ (h0 ++ (q :: ffs ++ h2) ++ f2):=by simp
  have nd2:=List.nodup_cons.mp nd
  have pq:p ≠ q:=fun e=>nd2.1 (e ▸ qm)
  have nA:=List.nodup_append.mp nd2.2
  have nB:=List.nodup_append.mp nA.2.1
  have nC:=List.nodup_append.mp nB.1
  have nD:=List.nodup_append.mp nC.2.1
  have q1:q ∈ h0 ++ (q :: ffs ++ h2):=by simp
  have q2:q ∈ q :: ffs ++ h2:=by simp
  have x0:∀ b ∈ f0 ++ f2,b ≠ q:=fun b hb e=>by
    rcases List.mem_append.mp hb with z | z
    · exact nA.2.2 b z q (List.mem_append_left _ q1) e
    · exact nB.2.2 q q1 b z e.symm
  have x1:∀ b ∈ h0 ++ h2,b ≠ q:=fun b hb e=>by
    rcases List.mem_append.mp hb with z | z
    · exact nC.2.2 b z q q2 e
    · exact nD.2.2 q (by simp) b z e.symm
  have x2:q ∉ ffs:=(List.nodup_cons.mp nD.1).1
  refine ⟨qm,?_,nd⟩
  have s1:TrOk K F (upd H q (.lst (wvs ++ [v]))) (.l (ws ++ [.d d])) (.ref q) (q :: ffs):=by
    simp only [TrOk]
    refine ⟨q,wvs ++ [v],ffs,rfl,rfl,zaR,?_⟩
    have:=TrOkL.append (TrOkL.at' (H':=upd H q (.lst (wvs ++ [v]))) ws hW fun b hb=>zaA fun e=>x2 (e ▸ hb)) (us:=[.d d]) (ws:=[v]) (f2:=[]) (by simp only [TrOkL,TrOk]; exact ⟨v,[],[],[],rfl,rfl,⟨rfl,rv⟩,rfl,rfl⟩)
    rwa [List.append_nil] at this
  have s2:=i4 _ _ _ _ (fun b hb=>zaA (x1 b hb)) s1
  rw [ziH zw] at s2
  have s3:TrOk K F (upd H q (.lst (wvs ++ [v]))) (.t (us.set n (.l (ws ++ [.d d])))) (.ref tA) (h0 ++ (q :: ffs ++ h2)):=by
    simp only [TrOk]
    exact ⟨tA,uvs,rfl,zA,s2⟩
  have s4:=g4 _ _ _ _ (fun b hb=>zaA (x0 b hb)) s3
  rw [ziH zv] at s4
  simp only [TrOk]
  exact ⟨p,vs,_,rfl,rfl,by rw [zaA pq]; exact hp,s4⟩
theorem zof {i:Nat} {tk tn:TE} {mk mn:En→R D} (h1:SE K XO E tk mk) (h2:SE K XO E tn mn) (h:SE K XO E te me):SS K XO E (zkD (tBM K.f "list" zhn (tOp (rIxT K.f) (tOp (rIxL K.f) (tVar i) tk) tn) (zeU te tNil))) (zj9 i mk mn me):=by
  intro Λ F0 H0 F H σ δ Dn I a
  unfold zj9 at a
  split at a
  · rename_i ts q
    obtain ⟨p,bs,tt⟩:=I.tabAt q
    have ok:=tt.tab.ok
    simp only [TrOk] at ok
    obtain ⟨p',vs,fs,e1,e2,hp,hL⟩:=ok
    cases e1; cases e2
    refine ⟨_,tt.at',h1 Λ F0 H0 F H σ δ _ I ((AftS.of I a).imp fun k G1 K1 x1 c1 y ry=>?_)⟩
    split at c1
    case h_2=>exact c1.elim
    rename_i k
    simp only [Rep] at ry
    subst ry
    cases z:ixN ts.length k with
    | none=>rw [z] at c1; exact c1.elim
    | some k' =>
    rw [z] at c1
    dsimp only at c1
    split at c1
    case h_2=>exact c1.elim
    rename_i us zt
    obtain ⟨v,f0,f1,f2,g1,g2,g3,_⟩:=hL.focus zt
    simp only [TrOk] at g3
    obtain ⟨tA,uvs,rfl,g5,hU⟩:=g3
    refine ⟨p,vs,k,.ref tA,rfl,rfl,.inl (.inl (x1.hh _ _ hp)),?_,?_⟩
    · unfold atI
      rw [hL.length,z]
      exact g1
    have I1:=I.grow x1
    refine h2 Λ F0 H0 G1 K1 σ δ _ I1 ((AftS.of I1 c1).imp fun n G2 K2 x2 c2 y2 ry2=>?_)
    split at c2
    case h_2=>exact c2.elim
    rename_i n
    simp only [Rep] at ry2
    subst ry2
    cases zn:ixN us.length n with
    | none=>rw [zn] at c2; exact c2.elim
    | some n' =>
    rw [zn] at c2
    dsimp only at c2
    split at c2
    case h_2=>exact c2.elim
    rename_i ws zu
    obtain ⟨w,h0,hm,h2',i1,i2,i3,_⟩:=hU.focus zu
    simp only [TrOk] at i3
    obtain ⟨r,wvs,ffs,rfl,i5,i6,hW⟩:=i3
    have I2:=I1.grow x2
    have x12:=x1.trans x2
    refine ⟨tA,uvs,n,.ref r,rfl,rfl,.inl (.inl (x12.fh _ _ (x12.ff _ _ g5))),?_,.inl ⟨rfl,wvs,.inl (.inl (x12.hh _ _ i6))⟩,?_⟩
    · unfold atI
      rw [hU.length,zn]
      exact i1
    refine h Λ F0 H0 G2 K2 σ δ _ I2 ((AftS.of I2 c2).imp fun d G3 K3 x3 c3 y3 ry3=>?_)
    unfold ifC at c3
    split at c3
    case isFalse=>exact c3.elim
    rename_i hl
    have x13:=x12.trans x3
    have t3:=tt.grow x13
    obtain ⟨m1,m2⟩:=zpl (d:=d) (v:=y3) t3.tab (x13.hh _ _ hp) zt g1 (x13.ff _ _ g5) zu i1 (x13.hh _ _ i6) ry3
    exact ⟨r,wvs,y3,rfl,rfl,x13.hh _ _ i6,by rw [hW.length]; exact hl,c3 σ G3 _ ((I.grow x13).chgT t3 (List.mem_cons_of_mem _ m1) m2 fun c hc=>hc)⟩
  · exact a.elim
end
end PM
namespace PM
open PySem L2
section
variable {K:Kx} {XO:XOT} {E:St→XK} {ta tb te to:TE} {ma mb me mo:En→R D} {t u:TS} {m n:En→O} {Λ:List (Nat × Addr × HO)} {F0 H0 F H F' H' F1 H1:Hp} {σ:St} {δ:En} {Dn:Ends}
theorem EnvOk.ownObj (I:EnvOk K Λ F0 H0 F H σ δ) {k:Nat} {b:Addr} (ho:Sl.own δ[k]?=true) (hs:σ[k]?=some (some (.ref b))):∃ o,H b=some o:=by
  have z:=I.slot k
  cases q:δ[k]? with
  | none=>rw [q] at ho; cases ho
  | some y =>
    rw [q] at ho z
    cases y with
    | no=>cases ho
    | v d=>cases ho
    | o d=>obtain ⟨c,z1,_,_,z4⟩:=z; rw [hs] at z1; cases z1; exact z4.obj
    | l d=>obtain ⟨c,z1,_,_,z4⟩:=z; rw [hs] at z1; cases z1; exact z4.obj
    | p T=>obtain ⟨c,bs,z1,z2,_⟩:=z; rw [hs] at z1; cases z1; exact z2.obj b (by simp)
def zjO (i:Nat) (me mo:En→R D) (δ:En):O:=match δ[i]? with
  | some (.p (.l ts))=>(me δ).toO δ fun d=>(mo δ).toO δ fun o=>(match o with
    | .lst l=>ifC (ts.length < sizeLine) (.nx (δ.set i (.p (.l (ts ++ [.t [.d d,.l (l.map .d)]]))))) .no
    | _=>.no)
  | _=>.no
theorem znT {i:Nat} (h:SE K XO E te me) (ho:SEo K XO E to mo):SS K XO E (zkD (tBM K.f "list" zhn (tVar i) (zeU (tTup (zeU te (zeU to tNil))) tNil))) (zjO i me mo):=by
  intro Λ F0 H0 F H σ δ Dn I a
  unfold zjO at a
  split at a
  · rename_i ts q1
    obtain ⟨p,bs,tt⟩:=I.tabAt q1
    have ok:=tt.tab.ok
    simp only [TrOk] at ok
    obtain ⟨p',vs,fs,e1,e2,hp,hL⟩:=ok
    cases e1; cases e2
    refine ⟨_,tt.at',.inl ⟨rfl,vs,.inl (.inl hp)⟩,?_⟩
    refine h Λ F0 H0 F H σ δ _ I ((AftS.of I a).imp fun d G1 K1 e c v rv=>?_)
    have I1:=I.grow e
    refine ho Λ F0 H0 G1 K1 σ δ _ I1 ((AftS.of I1 c).imp fun o G K2 x c2 b b0 b1 bo=>⟨by simp [sizeLine],fun c' hc'=>?_⟩)
    split at c2
    case h_2=>exact c2.elim
    rename_i l
    obtain ⟨ws,b4,b5⟩:=bo
    unfold ifC at c2
    split at c2
    case isFalse=>exact c2.elim
    rename_i hl
    have ex:=e.trans x
    have x2:Ext G K2 (upd G c' (.tup [v,.ref b])) (upd K2 c' (.tup [v,.ref b])):=.new x.fh hc'
    have I2:=(I.grow ex).grow x2
    have t2:=(tt.grow ex).grow x2
    have hp1:K2 p=some (.lst vs):=ex.hh _ _ hp
    have pc:p ≠ c':=zaI hp1 hc'
    have bc:b ≠ c':=zaI b4 hc'
    have bn:b ∉ p :: bs:=fun z=>by
      obtain ⟨o,w⟩:=(tt.grow e).tab.obj b z
      rw [b1] at w; cases w
    have bp:b ≠ p:=fun z=>bn (by rw [z]; simp)
    refine ⟨p,vs,.ref c',rfl,rfl,by rw [zaA pc]; exact hp1,by rw [hL.length]; exact hl,?_⟩
    have nd:=List.nodup_cons.mp tt.tab.nd
    have f2:∀ y ∈ p :: (bs ++ [b]),H0 y=none∧upd G c' (.tup [v,.ref b]) y=none:=fun y hy=>by
      rw [← List.cons_append] at hy
      rcases List.mem_append.mp hy with z | z
      · exact t2.free y z
      · rw [List.mem_singleton.mp z]
        exact ⟨I1.ext.hh.free b1,by rw [zaA bc]; exact b0⟩
    refine c2 σ _ _ (I2.chgG (i:=i) (T:=.l ts) (c:=p) (a:=p) (bs':=bs ++ [b]) q1 tt.at' tt.one (f2 p (by simp)) (fun k hk ho hs=>tt.dist k p hk ho hs (by simp)) ⟨?_,?_⟩ f2 fun k y hk ho hs hy=>?_)
    · simp only [TrOk]
      refine ⟨p,vs ++ [.ref c'],bs ++ [b],rfl,rfl,zaR,TrOkL.append ?_ ?_⟩
      · refine TrOkL.at' ts (TrOkL.mono (ex.ff.trans x2.ff) (ex.hh.trans x2.hh) ts hL) fun y hy=>zaA fun z=>nd.1 (z ▸ hy)
      · simp only [TrOkL,TrOk]
        refine ⟨.ref c',[],[b],[],rfl,rfl,⟨c',[v,.ref b],rfl,zaR,v,[.ref b],[],[b],rfl,rfl,⟨rfl,Rep.mono (x.ff.trans x2.ff) d rv⟩,.ref b,[],[b],[],rfl,rfl,⟨b,ws,[],rfl,rfl,?_,leaf_iff.mpr ⟨b5.mono x2.ff,rfl⟩⟩,rfl,rfl⟩,rfl,rfl⟩
        rw [zaA bp,zaA bc]; exact b4
    · rw [← List.cons_append,List.nodup_append]
      exact ⟨tt.tab.nd,by simp,fun y hy w hw ee=>bn (by rw [← List.mem_singleton.mp hw,← ee]; exact hy)⟩
    · rw [← List.cons_append] at hy
      rcases List.mem_append.mp hy with z | z
      · exact tt.dist k y hk ho hs z
      · rw [List.mem_singleton.mp z] at hs
        obtain ⟨o,w⟩:=I1.ownObj ho hs
        rw [b1] at w; cases w
  · exact a.elim
end
end PM
namespace PM
open PySem L2
section
variable {K:Kx} {XO:XOT} {E:St→XK} {te ti tj:TE} {me mi mj:En→R D} {Λ:List (Nat × Addr × HO)} {F0 H0 F H:Hp} {σ:St} {δ:En} {Dn:Ends}
def zih (x:Nat) (mi mj me:En→R D) (δ:En):O:=match δ[x]? with
  | some (.o (.lst l))=>(me δ).toO δ fun d=>(match d with
    | .tup [a,b]=>(mi δ).toO δ fun k=>(match k with
      | .int k=>(match ixN l.length k with
        | some j=>(mj (δ.set x (.o (.lst (l.set j a))))).toO (δ.set x (.o (.lst (l.set j a)))) fun k2=>(match k2 with
          | .int k2=>(match ixN l.length k2 with
            | some j2=>.nx ((δ.set x (.o (.lst (l.set j a)))).set x (.o (.lst ((l.set j a).set j2 b))))
            | none=>.no)
          | _=>.no)
        | none=>.no)
      | _=>.no)
    | _=>.no)
  | _=>.no
theorem znH {x:Nat} (h:SE K XO E te me) (hi:SE K XO E ti mi) (hj:SE K XO E tj mj):SS K XO E (tAsg te (gTup K.f 2 (znv (gSub (tVar x) ti zmk) (znv (gSub (tVar x) tj zmk) gNil)))) (zih x mi mj me):=by
  intro Λ F0 H0 F H σ δ Dn I a
  unfold zih at a
  split at a
  · rename_i l q
    have hx:x < δ.length:=(List.getElem?_eq_some_iff.mp q).1
    obtain ⟨p,s1,vs,s2,s3⟩:=I.own q
    refine h Λ F0 H0 F H σ δ _ I ((AftS.of I a).imp fun d F1 H1 e c v r=>?_)
    split at c
    case h_2=>exact c.elim
    rename_i a b
    have I1:=I.grow e
    simp only [Rep,RepL] at r
    obtain ⟨tA,xs,rfl,hA,va,r1,rfl,ra,vb,r2,rfl,rb,rfl⟩:=r
    refine ⟨tA,[va,vb],rfl,.inl (.inl (e.fh _ _ hA)),rfl,va,[vb],rfl,_,s1,?_⟩
    refine hi Λ F0 H0 F1 H1 σ δ _ I1 ((AftS.of I1 c).imp fun k F2 H2 e2 c2 v2 w2=>?_)
    split at c2
    case h_2=>exact c2.elim
    rename_i k
    simp only [Rep] at w2
    subst w2
    cases z:ixN l.length k with
    | none=>rw [z] at c2; exact c2.elim
    | some j =>
    rw [z] at c2
    dsimp only at c2
    have s3':=(s3.mono e.ff).mono e2.ff
    have J:=(I1.grow e2).chg (u:=.lst (vs.set j va)) (d':=.lst (l.set j a)) q s1 ⟨_,zaR,s3'.set j (Rep.mono e2.ff _ ra)⟩
    refine ⟨p,vs,k,j,rfl,rfl,e2.hh _ _ (e.hh _ _ s2),by rw [s3.length]; exact z,vb,[],rfl,_,s1,?_⟩
    refine hj Λ F0 H0 F2 _ σ _ _ J ((AftS.of J c2).imp fun k2 F3 H3 e3 c3 v3 w3=>?_)
    split at c3
    case h_2=>exact c3.elim
    rename_i k2
    simp only [Rep] at w3
    subst w3
    cases z2:ixN l.length k2 with
    | none=>rw [z2] at c3; exact c3.elim
    | some j2 =>
    rw [z2] at c3
    dsimp only at c3
    refine ⟨p,vs.set j va,k2,j2,rfl,rfl,e3.hh _ _ zaR,by rw [List.length_set,s3.length]; exact z2,rfl,?_⟩
    exact c3 σ F3 _ ((J.grow e3).chg (List.getElem?_set_self hx) s1 ⟨_,zaR,((s3'.set j (Rep.mono e2.ff _ ra)).mono e3.ff).set j2 (Rep.mono (e2.ff.trans e3.ff) _ rb)⟩)
  · exact a.elim
end
end PM
namespace L2
open PySem PySem.Spec PyProof.Rows
section
variable {X:Cx}
def rAny:List V→Hp→VK→Prop:=fun xs H Q=>∃ (p:Addr) (bs:List Bool),xs = [.ref p]∧Rd H p (.lst (bs.map V.bl))∧Q (.bl (bs.any id)) H
theorem zjJ:∀ (bs:List Bool),((List.range bs.length).any fun i=>bs.getD i false)=bs.any id
  | []=>rfl
  | b :: bs=>by
    rw [List.length_cons,List.range_succ_eq_map,List.any_cons,List.any_map,List.any_cons,← zjJ bs]
    rfl
theorem zf3 (hc:X.calm=true):zfP X (.builtin "any") rAny:=by
  intro pins s σ H xs us Q I r h
  obtain ⟨p,bs,rfl,hq,q⟩:=h
  obtain ⟨u,rfl,rx⟩:=zgc r
  cases rx
  obtain ⟨z,its,n,rv,e⟩:=hq.ok I.hok
  have ei:=zjQ rv
  subst ei
  have isl:s.heap.IsList p (bs.map Value.bool).toArray:=⟨_,e,rfl,n,rfl⟩
  have plt:p < s.heap.objs.size:=Heap.lt_size e
  refine call_any_walk (wpAny_pyIter_list isl ?_)
  refine ⟨s.heap.objs.size,[s.heap.objs.size,p],[s.heap.objs.size],(bs.map Value.bool).toArray.size,_,_,(fun i=>bs.getD i false),rfl,Walks.list (A:=X.A.in1) (I.ok.hd hc) s.heap.objs.size p (Nat.ne_of_lt plt) (bs.map Value.bool).toArray,⟨⟨_,Heap.get?_push_size _ rfl,rfl,rfl⟩,isl.push _⟩,?_,?_⟩
  · intro i v s' Q' E' hi hQ
    have hi':(bs.map Value.bool).toArray[i]?=some v:=hi
    rw [List.getElem?_toArray,List.getElem?_map] at hi'
    cases z:bs[i]? with
    | none=>rw [z] at hi'; cases hi'
    | some b =>
      rw [z] at hi'
      cases hi'
      refine wpAny_truthy_bool ?_
      have:bs.getD i false=b:=by rw [List.getD_eq_getElem?_getD,z]; rfl
      have hQ':Q' (bs.getD i false) s':=hQ
      rw [this] at hQ'
      exact hQ'
  · intro h' tk hk
    rw [List.size_toArray,List.length_map,zjJ]
    refine ⟨.bl _,H,I.kept (t':=tk) (fun b o eo=>hk b o (fun hm=>?_) (Heap.get?_push_of_some _ eo)),rfl,q⟩
    rw [List.mem_singleton.mp hm] at eo
    exact absurd (Heap.lt_size eo) (Nat.lt_irrefl _)
end
end L2
namespace PM
open PySem L2
section
variable {K:Kx}
def fAny:List D→Option D
  | [.lst l]=>(asBs l).map fun bs=>.bl (bs.any id)
  | _=>none
theorem zkX:SC K rAny fAny:=by
  intro F H vs ds d Q s r e q
  unfold fAny at e
  split at e
  · rename_i l
    cases q2:asBs l with
    | none=>rw [q2] at e; cases e
    | some bs =>
      rw [q2] at e
      cases e
      cases r with
      | cons r r' =>
        cases r'
        obtain ⟨p,xs,rfl,h1,h2⟩:=r
        rw [zhl q2] at h2
        have:=zgH h2
        subst this
        exact ⟨p,bs,rfl,h1,q _ F H (.refl s) (by simp only [Rep])⟩
  · cases e
end
end PM
namespace My
open PySem L2 PM
def zdM:En→O:=(mSeq (mIfS (zan (m2 oLt (mRd 1) (mCB fLen (zaa (mRd 0) mNil))))
  (mRet (m2 oIxL (mRd 0) (mRd 1)))
  zaX)
  (mRet (mC (.int 0))))
def zaF:List D→R D:=runF 2 0 zdM
def zfs:En→O:=(mRet (m2 oMod (m2 oMul (m2 oAdd (m2 oAdd (m2 oMod (mRd 0) (m2 oPow (mC (.int 10)) (mC (.int 20)))) (m2 oMul (mRd 1) (mRd 1))) (mC (.int 1))) (m2 oAdd (mC (.int 48271)) (m2 oMul (mC (.int 2)) (mRd 1)))) (mC (.int 2147483647))))
def zaG:List D→R D:=runF 2 0 zfs
def zhI:En→O:=(mAsg (m2 oDiv (mRd 0) (mC (.int 2))) (zao 0))
def zij:En→O:=mFor (mRng (zaa (mVar 1) mNil)) (zao 2) zhI
def zjr:En→O:=(mSeq zij
  (mRet (m2 oMod (mRd 0) (mC (.int 2)))))
def zdz:List D→R D:=runF 2 1 zjr
def zjA:En→O:=(mSeq (mAsg (zai zaG (zaa (mVar 0) (zaa (m2 oAdd (mRd 1) (mC (.int 50))) mNil))) (zao 3))
  (mSeq (mAsg (m2 oAdd (zai zdz (zaa (mVar 3) (zaa (mVar 2) mNil))) (zai zdz (zaa (zai zaG (zaa (mVar 0) (zaa (m2 oAdd (mRd 1) (mC (.int 90))) mNil))) (zaa (mVar 2) mNil)))) (zao 4))
  (mRet (m2 oGt (mRd 4) (m2 oSub (mC (.int 1)) (m2 oMod (m2 oDiv (mRd 3) (mC (.int 65536))) (mC (.int 2))))))))
def zdZ:List D→R D:=runF 3 2 zjA
def zgZ:En→O:=(mSeq (mAsg (zai zaG (zaa (mVar 0) (zaa (mVar 1) mNil))) (zao 2))
  (mSeq (mIfS (zan (m2 oEq (m2 oMod (mRd 2) (mC (.int 3))) (mC (.int 0))))
  (mRet (m2 oMod (m2 oDiv (mRd 2) (mC (.int 3))) (mC (.int 4))))
  zaX)
  (mSeq (mIfS (zan (m2 oEq (m2 oMod (mRd 2) (mC (.int 3))) (mC (.int 1))))
  (mRet (m2 oMod (m2 oDiv (mRd 2) (mC (.int 3))) (mC (.int 30))))
  zaX)
  (mRet (m2 oMod (m2 oAdd (m2 oMul (m2 oMod (mRd 0) (m2 oPow (mC (.int 10)) (mC (.int 20)))) (mC (.int 6364136223846793005))) (mRd 2)) (m2 oAdd (m2 oPow (mC (.int 10)) (mC (.int 18))) (mC (.int 1))))))))
def zbq:List D→R D:=runF 2 1 zgZ
def zfO:En→R D:=zcM (mRng (zaa (mVar 1) mNil)) [4,3] 1 (zaJ 2) (some (zan (zai zdZ (zaa (mVar 0) (zaa (mVar 1) (zaa (mVar 2) mNil)))))) (mVar 2)
def zgX:En→O:=(mSeq (mAsg zfO (bNew 5))
  (znJ 2 5 (zai zbq (zaa (mVar 4) (zaa (mVar 3) mNil)))))
def zhs:En→O:=mFor (zi4 (zaa (mVar 0) mNil)) (bTup 2 (zaS (zao 3) (zaS (zao 4) bNil))) zgX
def zeJ:En→R D:=zcM (mItL (mRd 2)) [6] 2 (bTup 2 (zaS (zaJ 1) (zaS (zaJ 2) bNil))) (some (zan (m2 oIn (mRd 0) (mRd 2)))) (mC (.int 1))
def zgT:En→O:=(mIfS (zan (zfy (m2 oEq (mCB fLen (zaa zeJ mNil)) (mC (.int 0)))))
  (zj9 2 (zfy (m2 oMod (m2 oMul (mRd 6) (mC (.int 5))) (mCB fLen (zaa (mRd 2) mNil)))) (mC (.int 1)) (mVar 6))
  zaX)
def zhh:En→O:=mFor (mRng (zaa (mVar 1) mNil)) (zao 6) zgT
def zis:En→O:=(mSeq (zn1 (mLst mNil) 2)
  (mSeq zhs
  (mSeq (mIfS (zan (zfy (m2 oEqD (mRd 2) (mLst mNil))))
  (zjO 2 (mC (.int 3)) (mLst mNil))
  zaX)
  (mSeq zhh
  (zpH 2)))))
def zdR:List D→R D:=runO 2 5 zis
def zd9:En→O:=(zhr 2 (mVar 4) (mC (.bl true)))
def zew:En→O:=mFor (mItL (m2 oIxT (mRd 3) (mC (.int 1)))) (zao 4) zd9
def zcW:En→O:=zew
def zeH:En→O:=mFor (mItL (mVar 1)) (zao 3) zcW
def zc6:En→O:=(mIfS (zan (m2 zik (mVar 4) (mRd 2)))
  (fun _=>.no)
  zaX)
def zey:En→O:=mFor (mRng (zaa (mVar 0) mNil)) (zao 4) zc6
def ze6:En→O:=(mSeq (mAsg (mC (.dct [] [])) (bNew 2))
  (mSeq zeH
  zey))
def zbT:List D→R D:=runF 2 3 ze6
def zeO:En→R D:=zcM (mItL (mRd 0)) [1] 1 (zaJ 1) (some (zan (m2 dIn (mVar 1) (mRd 0)))) (mVar 1)
def zgV:En→O:=(zcP zeO)
def zce:List D→R D:=runO 2 0 zgV
def zc7:En→R Bool:=(zan (m2 oGt (mRd 3) (mC (.int 0))))
def zdg:En→O:=(mSeq (mAsg (m2 oMod (mRd 2) (mRd 3)) (zao 4))
  (mSeq (mAsg (mVar 3) (zao 2))
  (mAsg (mVar 4) (zao 3))))
def ze1:En→O:=zgP zc7 zdg
def zdY:En→O:=(mSeq (mAsg (mCB fAbs (zaa (mRd 0) mNil)) (zao 2))
  (mSeq (mAsg (mCB fAbs (zaa (mRd 1) mNil)) (zao 3))
  (mSeq ze1
  (mRet (mVar 2)))))
def zbK:List D→R D:=runF 2 3 zdY
def zkJ:En→O:=(mSeq (mIfS (zan (m2 oEq (mRd 1) (mC (.int 0))))
  (fun _=>.no)
  zaX)
  (mSeq (mAsg (zai zbK (zaa (mVar 0) (zaa (mVar 1) mNil))) (zao 2))
  (mSeq (mIfS (zan (m2 oLt (mRd 1) (mC (.int 0))))
  (mAsg (m1 oNeg (mRd 2)) (zao 2))
  zaX)
  (mRet (mTup (zaa (m2 oDiv (mRd 0) (mRd 2)) (zaa (m2 oDiv (mRd 1) (mRd 2)) mNil)))))))
def zdc:List D→R D:=runF 2 1 zkJ
def znq:En→O:=(mRet (m2 oLt (m2 oMul (m2 oIxT (mRd 0) (mC (.int 0))) (m2 oIxT (mRd 1) (mC (.int 1)))) (m2 oMul (m2 oIxT (mRd 1) (mC (.int 0))) (m2 oIxT (mRd 0) (mC (.int 1))))))
def zif:List D→R D:=runF 2 0 znq
def za5:En→O:=(mSeq (mAsg (mCB fLen (zaa (zai zce (zaa (m2 oIxT (mRd 5) (mC (.int 1))) (zaa (mVar 1) mNil))) mNil)) (zao 6))
  (mIfS (zan (m2 oGt (mRd 6) (mC (.int 0))))
  (mSeq (mAsg (zai zdc (zaa (m2 oIxT (mRd 5) (mC (.int 0))) (zaa (mVar 6) mNil))) (zao 7))
  (mIfS (mOr (zan (m2 oIs (mRd 3) (mC .non))) (zan (zai zif (zaa (mVar 7) (zaa (mVar 3) mNil)))))
  (mSeq (mAsg (mVar 4) (zao 2))
  (mAsg (mVar 7) (zao 3)))
  zaX))
  zaX))
def zfd:En→O:=mFor (zi4 (zaa (mVar 0) mNil)) (bTup 2 (zaS (zao 4) (zaS (zao 5) bNil))) za5
def zeo:En→O:=(mSeq (mAsg (mC .non) (zao 2))
  (mSeq (mAsg (mC .non) (zao 3))
  (mSeq zfd
  (mRet (mVar 2)))))
def zck:List D→R D:=runF 2 6 zeo
def zkN:En→O:=(zhr 2 (mVar 3) (mC (.bl true)))
def zil:En→O:=mFor (mRng (zaa (mVar 0) mNil)) (zao 3) zkN
def zko:En→O:=(zlS 2 (mVar 3))
def zin:En→O:=mFor (mItL (mVar 6)) (zao 3) zko
def zcq:En→R Bool:=(zan (m2 oGt (mCB znp (zaa (mRd 2) mNil)) (mC (.int 0))))
def zfN:En→O:=(mSeq (mAsg (zll zck (zaa (mVar 1) (zaa (mRd 2) mNil))) (zao 5))
  (mSeq (mAsg (zjc zce (zaa (m2 oIxT (m2 oIxL (mRd 1) (mRd 5)) (mC (.int 1))) (zaa (mRd 2) mNil))) (zao 6))
  (mSeq (zdh 4 (mTup (zaa (mVar 5) (zaa (mVar 6) mNil))))
  zin)))
def zim:En→O:=zgP zcq zfN
def zjT:En→O:=(mSeq (mDo (zai zbT (zaa (mVar 0) (zaa (mVar 1) mNil))))
  (mSeq (mAsg (mC (.dct [] [])) (bNew 2))
  (mSeq zil
  (mSeq (mAsg (mLst mNil) (bNew 4))
  (mSeq zim
  (zkH 4))))))
def zc2:List D→R D:=runO 2 5 zjT
def ziE:En→R D:=zcM (mItL (zai zc2 (zaa (mVar 0) (zaa (mVar 1) mNil)))) [] 2 (bTup 2 (zaS (zaJ 0) (zaS (zaJ 1) bNil))) none (mVar 0)
def zmM:En→O:=(zcP ziE)
def zfg:List D→R D:=runO 2 0 zmM
def zmF:En→O:=(mRet (zai zdc (zaa (m2 oAdd (m2 oMul (m2 oIxT (mRd 0) (mC (.int 0))) (m2 oIxT (mRd 1) (mC (.int 1)))) (m2 oMul (m2 oIxT (mRd 1) (mC (.int 0))) (m2 oIxT (mRd 0) (mC (.int 1))))) (zaa (m2 oMul (m2 oIxT (mRd 0) (mC (.int 1))) (m2 oIxT (mRd 1) (mC (.int 1)))) mNil))))
def zir:List D→R D:=runF 2 0 zmF
def zgh:En→O:=(mAsg (zai zir (zaa (mVar 1) (zaa (mTup (zaa (mC (.int 1)) (zaa (mVar 2) mNil))) mNil))) (zao 1))
def zgU:En→O:=mFor (mRng (zaa (mC (.int 1)) (zaa (m2 oAdd (mRd 0) (mC (.int 1))) mNil))) (zao 2) zgh
def zhQ:En→O:=(mSeq (mAsg (mTup (zaa (mC (.int 0)) (zaa (mC (.int 1)) mNil))) (zao 1))
  (mSeq zgU
  (mRet (mVar 1))))
def zcQ:List D→R D:=runF 1 2 zhQ
def zcK:En→R D:=zcM (mItL (mRd 0)) [] 1 (zaJ 0) none (mCB fLen (zaa (m2 oIxT (mRd 0) (mC (.int 1))) mNil))
def zf5:En→O:=(mRet (zai zcQ (zaa (ziU (zaa zcK mNil) (mC (.int 0))) mNil)))
def zbk:List D→R D:=runF 1 0 zf5
def zdn:En→R D:=zcM (mRng (zaa (mVar 0) mNil)) [] 1 (zaJ 0) none (mTup (zaa (mC (.int 0)) (zaa (mC (.int 1)) mNil)))
def zcX:En→O:=(zn9 2 (mVar 6) (mVar 5))
def zgF:En→O:=mFor (mItL (mVar 4)) (zao 6) zcX
def zei:En→O:=(mSeq (mAsg (zai zdc (zaa (m2 oIxT (m2 oIxL (mRd 1) (mRd 3)) (mC (.int 0))) (zaa (mCB fLen (zaa (mRd 4) mNil)) mNil))) (zao 5))
  zgF)
def zez:En→O:=mFor (mItL (zai zc2 (zaa (mVar 0) (zaa (mVar 1) mNil)))) (bTup 2 (zaS (zao 3) (zaS (zao 4) bNil))) zei
def zeZ:En→O:=(mSeq (mAsg zdn (bNew 2))
  (mSeq zez
  (zkH 2)))
def zbS:List D→R D:=runO 2 5 zeZ
def zl9:En→O:=(mRet (zai zdc (zaa (m2 oMul (m2 oIxT (mRd 0) (mC (.int 0))) (m2 oIxT (mRd 1) (mC (.int 1)))) (zaa (m2 oMul (m2 oIxT (mRd 0) (mC (.int 1))) (m2 oIxT (mRd 1) (mC (.int 0)))) mNil))))
def ziy:List D→R D:=runF 2 0 zl9
def zd6:En→R D:=zcM (mItL (zai zbS (zaa (mVar 0) (zaa (mVar 1) mNil)))) [2] 1 (zaJ 1) none (zai ziy (zaa (mVar 1) (zaa (mVar 0) mNil)))
def zfB:En→O:=(mSeq (mAsg (zai zbk (zaa (mVar 1) mNil)) (zao 2))
  (zcP zd6))
def zb3:List D→R D:=runO 2 1 zfB
def zdt:En→O:=(mSeq (mAsg (m2 oMod (m2 oDiv (mRd 1) (mC (.int 8))) (m2 oAdd (mCB fLen (zaa (mRd 0) mNil)) (mC (.int 1)))) (zao 3))
  (mSeq (mAsg (m2 oIxL (mLst (zaa (mVar 2) (zaa (m1 oNeg (mC (.int 1))) (zaa (m2 oMod (m2 oDiv (mRd 1) (mC (.int 64))) (mCB zlz (zaa (mC (.int 1)) (zaa (mRd 2) mNil)))) (zaa (mC (.int 0)) mNil))))) (m2 oMod (m2 oDiv (mRd 1) (mC (.int 4096))) (mC (.int 4)))) (zao 4))
  (mSeq (mIfS (mAnd (zan (m2 oEq (m2 oMod (m2 oDiv (mRd 1) (mC (.int 4096))) (mC (.int 4))) (mC (.int 3)))) (zan (m2 oNeD (mRd 0) (mLst mNil))))
  (mAsg (m2 oIxL (mRd 0) (m2 oMod (m2 oDiv (mRd 1) (mC (.int 64))) (mCB fLen (zaa (mRd 0) mNil)))) (zao 4))
  zaX)
  (mSeq (mIfS (zan (m2 oLt (m2 oMod (mRd 1) (mC (.int 8))) (mC (.int 3))))
  (zcP (m2 oCat (m2 oCat (mSl (mRd 0) mNoP (za2 (mVar 3))) (mLst (zaa (mVar 4) mNil))) (mSl (mRd 0) (za2 (mVar 3)) mNoP)))
  zaX)
  (mSeq (mIfS (zan (m2 oLt (m2 oMod (mRd 1) (mC (.int 8))) (mC (.int 5))))
  (zcP (m2 oCat (mSl (mRd 0) mNoP (za2 (mVar 3))) (mSl (mRd 0) (za2 (m2 oAdd (mRd 3) (mC (.int 1)))) mNoP)))
  zaX)
  (zcP (m2 oCat (m2 oCat (mSl (mRd 0) mNoP (za2 (mVar 3))) (mLst (zaa (mVar 4) mNil))) (mSl (mRd 0) (za2 (m2 oAdd (mRd 3) (mC (.int 1)))) mNoP))))))))
def zaT:List D→R D:=runO 3 2 zdt
def zd2:En→R Bool:=(zan (m2 oGt (mRd 1) (mC (.int 0))))
def zd1:En→O:=(mPar 0 1 (zaa (mVar 1) (zaa (m2 oMod (mRd 0) (mRd 1)) mNil)))
def zfE:En→O:=zgP zd2 zd1
def zgo:En→O:=(mSeq zfE
  (mRet (mVar 0)))
def zcy:List D→R D:=runF 2 0 zgo
def zfJ:En→O:=(mSeq (mPar 1 2 (zaa (m2 oAdd (m2 oMul (mRd 1) (mRd 4)) (m2 oMul (mRd 3) (mRd 2))) (zaa (m2 oMul (mRd 2) (mRd 4)) mNil)))
  (mSeq (mAsg (zai zcy (zaa (mCB fAbs (zaa (mRd 1) mNil)) (zaa (mVar 2) mNil))) (zao 5))
  (mPar 1 2 (zaa (m2 oDiv (mRd 1) (mRd 5)) (zaa (m2 oDiv (mRd 2) (mRd 5)) mNil)))))
def zii:En→O:=mFor (mItL (mVar 0)) (bTup 2 (zaS (zao 3) (zaS (zao 4) bNil))) zfJ
def zjB:En→O:=(mSeq (mAsg (mTup (zaa (mC (.int 0)) (zaa (mC (.int 1)) mNil))) (bTup 2 (zaS (zao 1) (zaS (zao 2) bNil))))
  (mSeq zii
  (mRet (mTup (zaa (mVar 1) (zaa (mVar 2) mNil))))))
def zbs:List D→R D:=runF 1 5 zjB
def zej:En→O:=(mSeq (mAsg (mTup (zaa (mC (.int 1)) (zaa (m2 oAdd (mC (.int 1)) (m2 oMod (m2 oDiv (mRd 1) (mC (.int 9))) (mC (.int 1000003)))) mNil))) (zao 2))
  (mSeq (mIfS (zan (m2 oEq (m2 oMod (mRd 1) (mC (.int 3))) (mC (.int 0))))
  (mAsg (mTup (zaa (m2 oAdd (m2 oDiv (m2 oIxT (mRd 0) (mC (.int 0))) (mC (.int 2))) (mC (.int 1))) (zaa (m2 oIxT (mRd 0) (mC (.int 1))) mNil))) (zao 2))
  zaX)
  (mSeq (mIfS (zan (m2 oEq (m2 oMod (m2 oDiv (mRd 1) (mC (.int 3))) (mC (.int 3))) (mC (.int 1))))
  (mRet (zai zbs (zaa (mLst (zaa (mVar 0) (zaa (mTup (zaa (m2 oSub (mC (.int 0)) (m2 oIxT (mRd 2) (mC (.int 0)))) (zaa (m2 oIxT (mRd 2) (mC (.int 1))) mNil))) mNil))) mNil)))
  zaX)
  (mSeq (mIfS (zan (m2 oEq (m2 oMod (m2 oDiv (mRd 1) (mC (.int 3))) (mC (.int 3))) (mC (.int 2))))
  (mRet (mTup (zaa (m2 oSub (m2 oSub (mC (.int 0)) (m2 oIxT (mRd 0) (mC (.int 0)))) (mC (.int 1))) (zaa (mC (.int 1)) mNil))))
  zaX)
  (mRet (zai zbs (zaa (mLst (zaa (mVar 0) (zaa (mVar 2) mNil))) mNil)))))))
def zaY:List D→R D:=runF 2 1 zej
def zct:En→R D:=zcM (mItL (mRd 0)) [] 1 (zaJ 0) none (mTup (zaa (mC (.int 0)) (zaa (mC (.int 1)) mNil)))
def zdD:En→O:=(mSeq (mIfS (zan (m2 oEqD (mRd 0) (mLst mNil)))
  (zcP (mSl (mLst (zaa (mTup (zaa (mC (.int 1)) (zaa (m2 oAdd (mC (.int 1)) (m2 oMod (mRd 1) (mC (.int 9)))) mNil))) mNil)) mNoP (za2 (m2 oMod (m2 oDiv (mRd 1) (mC (.int 9))) (mC (.int 2))))))
  zaX)
  (mSeq (mAsg (m2 oMod (m2 oDiv (mRd 1) (mC (.int 8))) (mCB fLen (zaa (mRd 0) mNil))) (zao 2))
  (mSeq (mAsg (m2 oMod (m2 oDiv (mRd 1) (mC (.int 1024))) (mCB fLen (zaa (mRd 0) mNil))) (zao 3))
  (mSeq (mIfS (zan (m2 oEq (m2 oMod (mRd 1) (mC (.int 8))) (mC (.int 0))))
  (zcP (m2 oCat (mSl (mRd 0) mNoP (za2 (mVar 2))) (mSl (mRd 0) (za2 (m2 oAdd (mRd 2) (mC (.int 1)))) mNoP)))
  zaX)
  (mSeq (mIfS (zan (m2 oEq (m2 oMod (mRd 1) (mC (.int 8))) (mC (.int 1))))
  (zcP (m2 oCat (m2 oCat (mSl (mRd 0) mNoP (za2 (mVar 2))) (mLst (zaa (m2 oIxL (mRd 0) (mRd 3)) mNil))) (mSl (mRd 0) (za2 (mVar 2)) mNoP)))
  zaX)
  (mSeq (mIfS (zan (m2 oEq (m2 oMod (mRd 1) (mC (.int 8))) (mC (.int 2))))
  (zcP zct)
  zaX)
  (mSeq (mIfS (zan (m2 oEq (m2 oMod (mRd 1) (mC (.int 8))) (mC (.int 3))))
  (mSeq (mAsg (mCB zdI (zaa (mRd 0) mNil)) (bNew 4))
  (mSeq (zih 4 (mVar 2) (mVar 3) (mTup (zaa (m2 oIxL (mRd 0) (mRd 3)) (zaa (m2 oIxL (mRd 0) (mRd 2)) mNil))))
  (zkH 4)))
  zaX)
  (zcP (m2 oCat (m2 oCat (mSl (mRd 0) mNoP (za2 (mVar 2))) (mLst (zaa (zai zaY (zaa (m2 oIxL (mRd 0) (mRd 2)) (zaa (m2 oDiv (mRd 1) (mC (.int 16))) mNil))) mNil))) (mSl (mRd 0) (za2 (m2 oAdd (mRd 2) (mC (.int 1)))) mNoP))))))))))
def zbi:List D→R D:=runO 2 3 zdD
def zgM:En→R D:=zcM (mItL (mRd 0)) [1] 1 (zaJ 1) none (zjx oLe oLt (mC (.int 0)) (mRd 1) (mRd 0))
def zht:En→O:=(mRet (mCB fAll (zaa zgM mNil)))
def zc8:List D→R D:=runF 2 0 zht
def zfA:En→O:=(mRet (ziJ (zai zc8 (zaa (mVar 0) (zaa (mVar 1) mNil))) (m2 oEq (mCB zfc (zaa (mRd 0) mNil)) (mCB fLen (zaa (mRd 0) mNil)))))
def zby:List D→R D:=runF 2 0 zfA
def zfq:En→O:=(zhr 3 (mVar 5) (mC (.bl true)))
def zfI:En→O:=mFor (mItL (m2 oIxT (m2 oIxL (mRd 1) (mRd 4)) (mC (.int 1)))) (zao 5) zfq
def zdT:En→O:=zfI
def zfC:En→O:=mFor (mItL (mVar 2)) (zao 4) zdT
def zfH:En→R D:=zcM (mRng (zaa (mVar 0) mNil)) [3] 1 (zaJ 1) none (m2 zik (mVar 1) (mRd 0))
def zgg:En→O:=(mSeq (mAsg (mC (.dct [] [])) (bNew 3))
  (mSeq zfC
  (mRet (mCB fAny (zaa zfH mNil)))))
def zcz:List D→R D:=runF 3 3 zgg
def zdb:En→O:=(mRet (m2 oMul (mRd 0) (m2 oDiv (mRd 1) (zai zbK (zaa (mVar 0) (zaa (mVar 1) mNil))))))
def zbJ:List D→R D:=runF 2 0 zdb
def zfp:En→R D:=zcM (mItL (mRd 0)) [1] 2 (bTup 2 (zaS (zaJ 1) (zaS (zaJ 2) bNil))) none (m2 oMul (mRd 1) (m2 oDiv (mRd 0) (mRd 2)))
def zhw:En→O:=(zcP zfp)
def zc9:List D→R D:=runO 2 0 zhw
def zhx:En→R D:=zcM (mItL (mRd 1)) [0] 1 (zaJ 1) none (m2 oIxT (m2 oIxL (mRd 0) (mRd 1)) (mC (.int 0)))
def zit:En→O:=(mRet (mCB fSum (zaa zhx mNil)))
def zdQ:List D→R D:=runF 2 0 zit
def zcN:En→R D:=zcM (mItL (mRd 3)) [] 1 (zaJ 0) none (m2 oLt (m2 oIxT (mRd 0) (mC (.int 0))) (mC (.int 0)))
def zdV:En→O:=(mAsg (zai zbJ (zaa (mVar 4) (zaa (m2 oIxT (mRd 5) (mC (.int 1))) mNil))) (zao 4))
def zfG:En→O:=mFor (mItL (mVar 3)) (zao 5) zdV
def zeq:En→R D:=zcM (mItL (mRd 7)) [6] 1 (zaJ 1) none (m2 oIxL (mRd 0) (mRd 1))
def zd5:En→O:=(mIfS (zan (m2 oGt (mCB fSum (zaa zeq mNil)) (m2 oMul (mRd 5) (mRd 4))))
  (mRet (mC (.str "over")))
  zaX)
def zfz:En→O:=mFor (mItL (mVar 1)) (bTup 2 (zaS (zao 5) (zaS (zao 7) bNil))) zd5
def zfZ:En→O:=(mSeq (mIfS (mNot (zan (zai zby (zaa (mVar 2) (zaa (mCB fLen (zaa (mRd 1) mNil)) mNil)))))
  (mRet (mC (.str "chosen")))
  zaX)
  (mSeq (mIfS (zan (zai zcz (zaa (mVar 0) (zaa (mVar 1) (zaa (mVar 2) mNil)))))
  (mRet (mC (.str "open")))
  zaX)
  (mSeq (mIfS (mOr (zan (m2 oNe (mCB fLen (zaa (mRd 3) mNil)) (mRd 0))) (zan (mCB fAny (zaa zcN mNil))))
  (mRet (mC (.str "prices")))
  zaX)
  (mSeq (mAsg (mC (.int 1)) (zao 4))
  (mSeq zfG
  (mSeq (mAsg (zai zc9 (zaa (mVar 3) (zaa (mVar 4) mNil))) (zao 6))
  (mSeq zfz
  (mSeq (mAsg (zai zbk (zaa (mVar 1) mNil)) (zao 8))
  (mSeq (mIfS (zan (m2 oGt (m2 oMul (m2 oMul (zai zdQ (zaa (mVar 1) (zaa (mVar 2) mNil))) (mRd 4)) (m2 oIxT (mRd 8) (mC (.int 1)))) (m2 oMul (m2 oIxT (mRd 8) (mC (.int 0))) (mCB fSum (zaa (mRd 6) mNil)))))
  (mRet (mC (.str "share")))
  zaX)
  (mRet (mC .non)))))))))))
def zcD:List D→R D:=runF 4 5 zfZ
def zb2:En→O:=(mSeq (mIfS (mOr (zan (m2 oLt (mRd 3) (mC (.int 0)))) (mOr (zan (m2 oGe (mRd 3) (mRd 1))) (zan (m2 oIn (mRd 3) (mRd 2)))))
  (mRet (mC (.bl false)))
  zaX)
  (zdh 2 (mVar 3)))
def zgi:En→O:=mFor (mItL (mVar 0)) (zao 3) zb2
def zgL:En→O:=(mSeq (mAsg (mLst mNil) (bNew 2))
  (mSeq zgi
  (mRet (mC (.bl true)))))
def zbX:List D→R D:=runF 2 2 zgL
def zgQ:En→R D:=zcM (mRng (zaa (mVar 0) mNil)) [] 1 (zaJ 0) none (mTup (zaa (mC (.int 1)) (zaa (m2 oAdd (mRd 0) (mC (.int 1))) mNil)))
def zhV:En→O:=(mRet (zai zbs (zaa zgQ mNil)))
def zdd:List D→R D:=runF 1 0 zhV
def zed:En→O:=(mAsg (m2 oCat (mRd 4) (m2 oIxT (m2 oIxL (mRd 1) (mRd 5)) (mC (.int 1)))) (zao 4))
def zeG:En→O:=mFor (mItL (mVar 2)) (zao 5) zed
def zc1:En→O:=(mIfS (zan (m2 zea (mRd 6) (mRd 4)))
  (mRet (mC (.str "open")))
  zaX)
def zeB:En→O:=mFor (mRng (zaa (mVar 0) mNil)) (zao 6) zc1
def zcb:En→R D:=zcM (mItL (mRd 3)) [] 1 (zaJ 0) (some (zan (m2 oLt (m2 oIxT (mRd 0) (mC (.int 0))) (mC (.int 0))))) (mC (.int 1))
def zdl:En→R D:=zcM (mItL (mRd 8)) [3] 1 (zaJ 1) none (m2 oIxL (mRd 0) (mRd 1))
def zc0:En→O:=(mSeq (mAsg (zai zbs (zaa zdl mNil)) (zao 9))
  (mIfS (zan (m2 oGt (m2 oIxT (mRd 9) (mC (.int 0))) (m2 oMul (mRd 7) (m2 oIxT (mRd 9) (mC (.int 1))))))
  (mRet (mC (.str "over")))
  zaX))
def zev:En→O:=mFor (mItL (mVar 1)) (bTup 2 (zaS (zao 7) (zaS (zao 8) bNil))) zc0
def zda:En→R D:=zcM (mItL (mRd 1)) [] 2 (bTup 2 (zaS (zaJ 0) (zaS (zaJ 1) bNil))) none (mCB fLen (zaa (mRd 1) mNil))
def zdo:En→R D:=zcM (mItL (mRd 2)) [1] 1 (zaJ 1) none (m2 oIxT (m2 oIxL (mRd 0) (mRd 1)) (mC (.int 0)))
def ze0:En→O:=(mSeq (mIfS (mNot (zan (zai zbX (zaa (mVar 2) (zaa (mCB fLen (zaa (mRd 1) mNil)) mNil)))))
  (mRet (mC (.str "chosen")))
  zaX)
  (mSeq (mAsg (mLst mNil) (zao 4))
  (mSeq zeG
  (mSeq zeB
  (mSeq (mIfS (mOr (zan (m2 oNe (mCB fLen (zaa (mRd 3) mNil)) (mRd 0))) (zan (m2 oGt (mCB fLen (zaa zcb mNil)) (mC (.int 0)))))
  (mRet (mC (.str "prices")))
  zaX)
  (mSeq zev
  (mSeq (mAsg (zai zbs (zaa (mVar 3) mNil)) (zao 9))
  (mSeq (mAsg (zai zdd (zaa (ziU (zaa zda mNil) (mC (.int 0))) mNil)) (zao 10))
  (mSeq (mAsg (mCB fSum (zaa zdo mNil)) (zao 11))
  (mSeq (mIfS (zan (m2 oGt (m2 oMul (m2 oMul (mRd 11) (m2 oIxT (mRd 9) (mC (.int 1)))) (m2 oIxT (mRd 10) (mC (.int 1)))) (m2 oMul (m2 oIxT (mRd 9) (mC (.int 0))) (m2 oIxT (mRd 10) (mC (.int 0))))))
  (mRet (mC (.str "share")))
  zaX)
  (mRet (mC .non))))))))))))
def zci:List D→R D:=runF 4 8 ze0
def ziw:En→O:=(mSeq (mIfS (zan (m2 oIs (mRd 1) (mC .non)))
  (mRet (m2 oIs (mRd 0) (mC .non)))
  zaX)
  (mRet (ziJ (m1 (oIsi "str") (mRd 0)) (m2 oEq (mRd 0) (mRd 1)))))
def zdj:List D→R D:=runF 2 0 ziw
def zeK:En→R D:=zcM (mItL (mRd 1)) [] 2 (bTup 2 (zaS (zaJ 0) (zaS (zaJ 1) bNil))) none (mTup (zaa (mVar 0) (zaa (mCB zdI (zaa (mRd 1) mNil)) mNil)))
def zgO:En→O:=(mSeq (mAsg (zai zfg (zaa (mVar 0) (zaa (mVar 1) mNil))) (zao 4))
  (mSeq (mAsg (zai zb3 (zaa (mVar 0) (zaa (mVar 1) mNil))) (zao 5))
  (mSeq (mIfS (zan (m2 oGt (m2 oMod (mRd 2) (mC (.int 4))) (mC (.int 1))))
  (mAsg (zai zaT (zaa (mVar 4) (zaa (mVar 3) (zaa (mCB fLen (zaa (mRd 1) mNil)) mNil)))) (zao 4))
  zaX)
  (mSeq (mIfS (mOr (zan (m2 oEq (m2 oMod (mRd 2) (mC (.int 4))) (mC (.int 1)))) (zan (m2 oEq (m2 oMod (mRd 2) (mC (.int 4))) (mC (.int 3)))))
  (mAsg (zai zbi (zaa (mVar 5) (zaa (zai zaG (zaa (mVar 3) (zaa (mC (.int 5)) mNil))) mNil))) (zao 5))
  zaX)
  (mSeq (mAsg (m2 oAdd (mRd 0) (mCB fInt (zaa (m2 oEq (m2 oMod (m2 oDiv (mRd 3) (mC (.int 97))) (mC (.int 4))) (mC (.int 1))) mNil))) (zao 6))
  (mSeq (mAsg (mTup (zaa (mCB zdI (zaa (mRd 4) mNil)) (zaa (mCB zdI (zaa (mRd 5) mNil)) (zaa zeK mNil)))) (zao 7))
  (mSeq (mAsg (zai zcD (zaa (mVar 6) (zaa (m2 oIxT (mRd 7) (mC (.int 2))) (zaa (m2 oIxT (mRd 7) (mC (.int 0))) (zaa (m2 oIxT (mRd 7) (mC (.int 1))) mNil))))) (zao 8))
  (mSeq (mIfS (zan (m2 oNeD (mRd 7) (mTup (zaa (mVar 4) (zaa (mVar 5) (zaa (mVar 1) mNil))))))
  (mRet (mC (.bl false)))
  zaX)
  (mRet (zai zdj (zaa (mVar 8) (zaa (zai zci (zaa (mVar 6) (zaa (mVar 1) (zaa (mVar 4) (zaa (mVar 5) mNil))))) mNil))))))))))))
def zcS:List D→R D:=runF 4 5 zgO
def zge:En→O:=(mSeq (mAsg (zai zaG (zaa (mVar 4) (zaa (m2 oAdd (mRd 3) (mC (.int 130))) mNil))) (zao 5))
  (mSeq (mAsg (m2 oMod (mRd 5) (mRd 1)) (zao 6))
  (mSeq (mAsg (m2 oMod (m2 oAdd (m2 oAdd (mRd 6) (mC (.int 1))) (m2 oMod (m2 oDiv (mRd 5) (mRd 1)) (m2 oSub (mRd 1) (mC (.int 1))))) (mRd 1)) (zao 7))
  (zdh 2 (mTup (zaa (mVar 6) (zaa (mVar 7) mNil)))))))
def zgR:En→O:=mFor (zi4 (zaa (mVar 0) mNil)) (bTup 2 (zaS (zao 3) (zaS (zao 4) bNil))) zge
def zhF:En→O:=(mSeq (mAsg (mLst mNil) (bNew 2))
  (mSeq zgR
  (zkH 2)))
def zdf:List D→R D:=runO 2 6 zhF
def zgD:En→O:=(mSeq (mAsg (mCB zl5 (zaa (m2 oIxL (mRd 2) (mRd 4)) (zaa (m2 oIxL (mRd 2) (mRd 5)) mNil))) (zao 6))
  (mSeq (zlA (fun i j=>i - j) 2 (mVar 4) (mVar 6))
  (mSeq (zlA (fun i j=>i - j) 2 (mVar 5) (mVar 6))
  (zdh 3 (mVar 6)))))
def zjn:En→O:=mFor (mItL (mVar 1)) (bTup 2 (zaS (zao 4) (zaS (zao 5) bNil))) zgD
def zlb:En→O:=(mSeq (mAsg (mCB zdI (zaa (mRd 0) mNil)) (bNew 2))
  (mSeq (mAsg (mLst mNil) (bNew 3))
  (mSeq zjn
  (mFrz 3 (mFrz 2 (mRet (mTup (zaa (mVar 3) (zaa (mVar 2) mNil)))))))))
def zek:List D→R D:=runF 2 5 zlb
def zfm:En→O:=(mSeq (zhr 3 (mVar 4) (mC (.bl true)))
  (zhr 3 (mVar 5) (mC (.bl true))))
def zhg:En→O:=mFor (mItL (mVar 1)) (bTup 2 (zaS (zao 4) (zaS (zao 5) bNil))) zfm
def zhR:En→R D:=zcM (mRng (zaa (mCB fLen (zaa (mRd 0) mNil)) mNil)) [3,2] 1 (zaJ 2) (some (mAnd (zan (m2 dIn (mVar 2) (mRd 0))) (zan (m2 oEq (m2 oIxL (mRd 1) (mRd 2)) (mC (.int 0)))))) (mVar 2)
def ziA:En→O:=(mSeq (mAsg (m2 oIxT (zai zek (zaa (mVar 0) (zaa (mVar 1) mNil))) (mC (.int 1))) (zao 2))
  (mSeq (mAsg (mC (.dct [] [])) (bNew 3))
  (mSeq zhg
  (zcP zhR))))
def zdP:List D→R D:=runO 2 4 ziA
def zgk:En→O:=(mRet (m2 oIxT (zai zek (zaa (mVar 0) (zaa (mVar 1) mNil))) (mC (.int 0))))
def zcB:List D→R D:=runF 2 0 zgk
def zec:En→O:=(mSeq (mIfS (zan (m2 oEqD (mRd 0) (mLst mNil)))
  (zcP (mSl (mLst (zaa (m2 oSub (m2 oMod (mRd 1) (mC (.int 3))) (mC (.int 1))) mNil)) mNoP (za2 (m2 oMod (mRd 1) (mC (.int 2))))))
  zaX)
  (mSeq (mAsg (m2 oMod (m2 oDiv (mRd 1) (mC (.int 8))) (mCB fLen (zaa (mRd 0) mNil))) (zao 2))
  (mSeq (mIfS (zan (m2 oEq (m2 oMod (mRd 1) (mC (.int 8))) (mC (.int 0))))
  (zcP (m2 oCat (mSl (mRd 0) mNoP (za2 (mVar 2))) (mSl (mRd 0) (za2 (m2 oAdd (mRd 2) (mC (.int 1)))) mNoP)))
  zaX)
  (mSeq (mIfS (zan (m2 oEq (m2 oMod (mRd 1) (mC (.int 8))) (mC (.int 1))))
  (zcP (m2 oCat (m2 oCat (mSl (mRd 0) mNoP (za2 (mVar 2))) (mLst (zaa (mC (.int 0)) mNil))) (mSl (mRd 0) (za2 (mVar 2)) mNoP)))
  zaX)
  (mSeq (mAsg (m2 oIxL (mLst (zaa (mC (.int 1)) (zaa (m1 oNeg (mC (.int 1))) (zaa (m2 oSub (m2 oSub (mC (.int 0)) (m2 oIxL (mRd 0) (mRd 2))) (mC (.int 1))) (zaa (m2 oAdd (m2 oIxL (mRd 0) (mRd 2)) (mC (.int 1))) (zaa (m2 oSub (mC (.int 0)) (m2 oDiv (m2 oIxL (mRd 0) (mRd 2)) (mC (.int 2)))) mNil)))))) (m2 oMod (m2 oDiv (mRd 1) (mC (.int 64))) (mC (.int 5)))) (zao 3))
  (zcP (m2 oCat (m2 oCat (mSl (mRd 0) mNoP (za2 (mVar 2))) (mLst (zaa (m2 oAdd (m2 oIxL (mRd 0) (mRd 2)) (mRd 3)) mNil))) (mSl (mRd 0) (za2 (m2 oAdd (mRd 2) (mC (.int 1)))) mNoP))))))))
def zbB:List D→R D:=runO 2 2 zec
def ziu:En→R D:=zcM (mZip (zaa (mRd 1) (zaa (mRd 2) mNil))) [0] 2 (bTup 2 (zaS (zaJ 1) (zaS (zaJ 2) bNil))) (some (zan (m2 oIn (mRd 0) (mRd 1)))) (mVar 2)
def zjH:En→O:=(mRet (mCB fSum (zaa ziu mNil)))
def zeD:List D→R D:=runF 3 0 zjH
def zes:En→R D:=zcM (mItL (mRd 1)) [2] 2 (bTup 2 (zaS (zaJ 1) (zaS (zaJ 2) bNil))) none (ziJ (m2 zea (mRd 1) (mRd 0)) (m2 zea (mRd 2) (mRd 0)))
def zdp:En→R D:=zcM (mItL (mRd 3)) [] 1 (zaJ 0) none (m2 oLt (mRd 0) (mC (.int 0)))
def zdW:En→O:=(mIfS (zan (m2 oGt (zai zeD (zaa (mVar 4) (zaa (mVar 1) (zaa (mVar 3) mNil)))) (mRd 5)))
  (mRet (mC (.str "over")))
  zaX)
def zfF:En→O:=mFor (zi4 (zaa (mVar 0) mNil)) (bTup 2 (zaS (zao 4) (zaS (zao 5) bNil))) zdW
def zep:En→R D:=zcM (mItL (mRd 2)) [0] 1 (zaJ 1) none (m2 oIxL (mRd 0) (mRd 1))
def zfX:En→O:=(mSeq (mIfS (mNot (zan (zai zby (zaa (mVar 2) (zaa (mCB fLen (zaa (mRd 0) mNil)) mNil)))))
  (mRet (mC (.str "chosen")))
  zaX)
  (mSeq (mIfS (zan (mCB fAny (zaa zes mNil)))
  (mRet (mC (.str "open")))
  zaX)
  (mSeq (mIfS (mOr (zan (m2 oNe (mCB fLen (zaa (mRd 3) mNil)) (mCB fLen (zaa (mRd 1) mNil)))) (zan (mCB fAny (zaa zdp mNil))))
  (mRet (mC (.str "paid")))
  zaX)
  (mSeq zfF
  (mSeq (mIfS (zan (m2 oGt (mCB fSum (zaa zep mNil)) (m2 oMul (mC (.int 2)) (mCB fSum (zaa (mRd 3) mNil)))))
  (mRet (mC (.str "share")))
  zaX)
  (mRet (mC .non)))))))
def zcx:List D→R D:=runF 4 2 zfX
def zc3:En→O:=(mIfS (mAnd (zan (m2 zea (mRd 4) (mRd 2))) (zan (m2 zea (mRd 5) (mRd 2))))
  (mRet (mC (.str "open")))
  zaX)
def zeu:En→O:=mFor (mItL (mVar 1)) (bTup 2 (zaS (zao 4) (zaS (zao 5) bNil))) zc3
def zcw:En→R D:=zcM (mItL (mRd 3)) [] 1 (zaJ 0) (some (zan (m2 oLt (mRd 0) (mC (.int 0))))) (mC (.int 1))
def zdk:En→R D:=zcM (mZip (zaa (mRd 1) (zaa (mRd 3) mNil))) [6] 2 (bTup 2 (zaS (zaJ 1) (zaS (zaJ 2) bNil))) (some (zan (m2 oIn (mRd 0) (mRd 1)))) (mVar 2)
def zcU:En→O:=(mIfS (zan (m2 oGt (mCB fSum (zaa zdk mNil)) (mRd 7)))
  (mRet (mC (.str "over")))
  zaX)
def zeA:En→O:=mFor (zi4 (zaa (mVar 0) mNil)) (bTup 2 (zaS (zao 6) (zaS (zao 7) bNil))) zcU
def zdi:En→R D:=zcM (mItL (mRd 2)) [0] 1 (zaJ 1) none (m2 oIxL (mRd 0) (mRd 1))
def ze4:En→O:=(mSeq (mIfS (mNot (zan (zai zbX (zaa (mVar 2) (zaa (mCB fLen (zaa (mRd 0) mNil)) mNil)))))
  (mRet (mC (.str "chosen")))
  zaX)
  (mSeq zeu
  (mSeq (mIfS (mOr (zan (m2 oNe (mCB fLen (zaa (mRd 3) mNil)) (mCB fLen (zaa (mRd 1) mNil)))) (zan (m2 oGt (mCB fLen (zaa zcw mNil)) (mC (.int 0)))))
  (mRet (mC (.str "paid")))
  zaX)
  (mSeq zeA
  (mSeq (mIfS (zan (m2 oGt (mCB fSum (zaa zdi mNil)) (m2 oMul (mC (.int 2)) (mCB fSum (zaa (mRd 3) mNil)))))
  (mRet (mC (.str "share")))
  zaX)
  (mRet (mC .non)))))))
def zcj:List D→R D:=runF 4 4 ze4
def zfS:En→O:=(mSeq (mAsg (zai zdP (zaa (mVar 0) (zaa (mVar 1) mNil))) (zao 4))
  (mSeq (mAsg (zai zcB (zaa (mVar 0) (zaa (mVar 1) mNil))) (zao 5))
  (mSeq (mIfS (zan (m2 oGt (m2 oMod (mRd 2) (mC (.int 4))) (mC (.int 1))))
  (mAsg (zai zaT (zaa (mVar 4) (zaa (mVar 3) (zaa (mCB fLen (zaa (mRd 0) mNil)) mNil)))) (zao 4))
  zaX)
  (mSeq (mIfS (mOr (zan (m2 oEq (m2 oMod (mRd 2) (mC (.int 4))) (mC (.int 1)))) (zan (m2 oEq (m2 oMod (mRd 2) (mC (.int 4))) (mC (.int 3)))))
  (mAsg (zai zbB (zaa (mVar 5) (zaa (zai zaG (zaa (mVar 3) (zaa (mC (.int 5)) mNil))) mNil))) (zao 5))
  zaX)
  (mSeq (mAsg (mTup (zaa (mCB zdI (zaa (mRd 4) mNil)) (zaa (mCB zdI (zaa (mRd 5) mNil)) (zaa (mCB zdI (zaa (mRd 0) mNil)) (zaa (mCB zdI (zaa (mRd 1) mNil)) mNil))))) (zao 6))
  (mSeq (mAsg (zai zcx (zaa (m2 oIxT (mRd 6) (mC (.int 2))) (zaa (m2 oIxT (mRd 6) (mC (.int 3))) (zaa (m2 oIxT (mRd 6) (mC (.int 0))) (zaa (m2 oIxT (mRd 6) (mC (.int 1))) mNil))))) (zao 7))
  (mSeq (mIfS (zan (m2 oNeD (mRd 6) (mTup (zaa (mVar 4) (zaa (mVar 5) (zaa (mVar 0) (zaa (mVar 1) mNil)))))))
  (mRet (mC (.bl false)))
  zaX)
  (mRet (zai zdj (zaa (mVar 7) (zaa (zai zcj (zaa (mVar 0) (zaa (mVar 1) (zaa (mVar 4) (zaa (mVar 5) mNil))))) mNil)))))))))))
def zcC:List D→R D:=runF 4 4 zfS
def zl1:En→O:=(mSeq (mAsg (zai zaG (zaa (zai zaF (zaa (mVar 0) (zaa (mVar 3) mNil))) (zaa (m2 oMul (mC (.int 3)) (mRd 3)) mNil))) (zao 4))
  (mIfS (mNot (zan (zai zcS (zaa (mVar 1) (zaa (mVar 2) (zaa (mVar 4) (zaa (m2 oDiv (mRd 4) (mC (.int 4))) mNil)))))))
  (mRet (mC (.bl false)))
  zaX))
def zor:En→O:=mFor (mRng (zaa (mC (.int 1)) (zaa (mC (.int 4)) mNil))) (zao 3) zl1
def zmj:En→R D:=zcM (mRng (zaa (mVar 5) mNil)) [0] 1 (zaJ 1) none (zai zbq (zaa (zai zaF (zaa (mVar 0) (zaa (mVar 1) mNil))) (zaa (m2 oAdd (mRd 1) (mC (.int 200))) mNil)))
def zmt:En→O:=(mSeq (mAsg (zai zaG (zaa (m2 oAdd (zai zaF (zaa (mVar 0) (zaa (mVar 3) mNil))) (zai zaF (zaa (mVar 0) (zaa (mC (.int 5)) mNil)))) (zaa (m2 oMul (mC (.int 5)) (mRd 3)) mNil))) (zao 4))
  (mIfS (mNot (zan (zai zcC (zaa (mVar 6) (zaa (mVar 7) (zaa (mVar 4) (zaa (m2 oDiv (mRd 4) (mC (.int 4))) mNil)))))))
  (mRet (mC (.bl false)))
  zaX))
def zoO:En→O:=mFor (mRng (zaa (mC (.int 1)) (zaa (mC (.int 4)) mNil))) (zao 3) zmt
def zpV:En→O:=(mSeq (mAsg (m2 oMod (zai zaF (zaa (mVar 0) (zaa (mC (.int 0)) mNil))) (mC (.int 13))) (zao 1))
  (mSeq (mAsg (zai zdR (zaa (mSl (mRd 0) (za2 (mC (.int 6))) (za2 (mC (.int 20)))) (zaa (mVar 1) mNil))) (zao 2))
  (mSeq (mIfS (mAnd (zan (m2 oEq (mRd 1) (mC (.int 0)))) (zan (m2 oEq (m2 oMod (m2 oDiv (zai zaF (zaa (mVar 0) (zaa (mC (.int 0)) mNil))) (mC (.int 13))) (mC (.int 2))) (mC (.int 1)))))
  (mAsg (mLst mNil) (zao 2))
  zaX)
  (mSeq zor
  (mSeq (mAsg (m2 oAdd (mC (.int 2)) (m2 oMod (zai zaF (zaa (mVar 0) (zaa (mC (.int 4)) mNil))) (mC (.int 8)))) (zao 5))
  (mSeq (mAsg zmj (zao 6))
  (mSeq (mAsg (zai zdf (zaa (mSl (mRd 0) (za2 (mC (.int 6))) (za2 (mC (.int 30)))) (zaa (mVar 5) mNil))) (zao 7))
  (mSeq zoO
  (mRet (mC (.bl true)))))))))))
def zqW:List D→R D:=runF 1 7 zpV
end My
namespace My
open PySem L2 PM
abbrev Ps:=Int × List Int
def encS (s:Ps):D:=.tup [.int s.1,iL s.2]
def encP (l:List Ps):D:=.lst (l.map encS)
structure Good (n:Nat) (s:Ps):Prop where
  lo:0 ≤ s.1
  hi:s.1 ≤ 1000000000000000000
  nd:s.2.Nodup
  mem:∀ t ∈ s.2,0 ≤ t∧t < (n:Int)
theorem zkG (n:Nat):((List.range n).map fun (k:Nat)=>(k:Int)).Nodup:=by
  refine List.Pairwise.map _ (fun a b h e=>h (Int.ofNat.inj e)) List.nodup_range
theorem zdr {n:Nat} {s:Ps} (g:Good n s):s.2.length ≤ n:=by
  have h:=List.Nodup.length_le_of_subset (l₂:=(List.range n).map fun (k:Nat)=>(k:Int)) g.nd (fun t ht=>by
    obtain ⟨h0,h1⟩:=g.mem t ht
    exact List.mem_map.mpr ⟨t.toNat,List.mem_range.mpr (by omega),by omega⟩)
  simpa using h
theorem rngN {n:Nat} (h:n ≤ 1000):rng [.int (n:Int)]=some (((List.range n).map fun (k:Nat)=>(k:Int)).map .int):=by
  rw [rng1 (by omega) (by omega),Int.toNat_natCast,zkd,List.map_map]; rfl
def upto (n:Nat):List Int:=(List.range n).map fun (k:Nat)=>(k:Int)
theorem mem_upto {n:Nat} {t:Int}:t ∈ upto n ↔ 0 ≤ t∧t < (n:Int):=by
  unfold upto
  rw [List.mem_map]
  constructor
  · rintro ⟨a,h,rfl⟩
    have:=List.mem_range.mp h
    omega
  · rintro ⟨h0,h1⟩
    exact ⟨t.toNat,List.mem_range.mpr (by omega),by omega⟩
theorem zcl {n:Nat}:(upto n).length=n:=by simp [upto]
theorem zgw (n:Nat):(upto n).Nodup:=zkG n
theorem rngU {n:Nat} (h:n ≤ 1000):rng [.int (n:Int)]=some ((upto n).map .int):=rngN h
def lo1 (t b:Int):Int:=t / (Int.gcd t b:Int)
def lo2 (t b:Int):Int:=b / (Int.gcd t b:Int)
theorem zd4 {t b:Int} (h:0 < b):(0:Int) < Int.gcd t b:=by
  have:0 < Int.gcd t b:=Int.gcd_pos_of_ne_zero_right _ (by omega)
  omega
theorem ziW {t b:Int}:lo1 t b * (Int.gcd t b:Int)=t:=Int.ediv_mul_cancel (Int.gcd_dvd_left ..)
theorem zhf {t b:Int}:lo2 t b * (Int.gcd t b:Int)=b:=Int.ediv_mul_cancel (Int.gcd_dvd_right ..)
theorem zhj {t b:Int} (h:0 < b):0 < lo2 t b:=by
  have h1:=zd4 (t:=t) h
  have h2:=zhf (t:=t) (b:=b)
  rcases Int.lt_trichotomy (lo2 t b) 0 with z | z | z
  · have:=Int.mul_neg_of_neg_of_pos z h1; omega
  · rw [z] at h2; omega
  · exact z
theorem zq6 {a b c d:Int} (hb:0 < b) (hd:0 < d):lo1 a b * lo2 c d < lo1 c d * lo2 a b ↔ a * d < c * b:=by
  have g1:=zd4 (t:=a) hb
  have g2:=zd4 (t:=c) hd
  have e:a * d - c * b=(lo1 a b * lo2 c d - lo1 c d * lo2 a b) * ((Int.gcd a b:Int) * (Int.gcd c d:Int)):=by
    have e1:=ziW (t:=a) (b:=b)
    have e2:=zhf (t:=a) (b:=b)
    have e3:=ziW (t:=c) (b:=d)
    have e4:=zhf (t:=c) (b:=d)
    generalize (Int.gcd a b:Int)=g at *
    generalize (Int.gcd c d:Int)=h at *
    generalize lo1 a b=x1 at *
    generalize lo2 a b=x2 at *
    generalize lo1 c d=x3 at *
    generalize lo2 c d=x4 at *
    subst e1 e2 e3 e4
    grind
  have hg:0 < (Int.gcd a b:Int) * (Int.gcd c d:Int):=Int.mul_pos g1 g2
  generalize (Int.gcd a b:Int) * (Int.gcd c d:Int)=g at *
  constructor
  · intro h
    have:=Int.mul_neg_of_neg_of_pos (show lo1 a b * lo2 c d - lo1 c d * lo2 a b < 0 by omega) hg
    omega
  · intro h
    rcases Int.lt_or_le (lo1 a b * lo2 c d) (lo1 c d * lo2 a b) with z | z
    · exact z
    · have:=Int.mul_nonneg (show 0 ≤ lo1 a b * lo2 c d - lo1 c d * lo2 a b by omega) (Int.le_of_lt hg)
      omega
theorem zi5 {t b:Int} (h:0 < b):(lo1 t b).natAbs ≤ t.natAbs:=by
  have h1:=zd4 (t:=t) h
  have e:=ziW (t:=t) (b:=b)
  have:t.natAbs=(lo1 t b).natAbs * (Int.gcd t b):=by
    conv=>lhs; rw [← e]
    rw [Int.natAbs_mul]; simp
  rw [this]
  exact Nat.le_mul_of_pos_right _ (by omega)
theorem ziQ {t b:Int} (h:0 < b):(lo2 t b).natAbs ≤ b.natAbs:=by
  have h1:=zd4 (t:=t) h
  have e:=zhf (t:=t) (b:=b)
  have:b.natAbs=(lo2 t b).natAbs * (Int.gcd t b):=by
    conv=>lhs; rw [← e]
    rw [Int.natAbs_mul]; simp
  rw [this]
  exact Nat.le_mul_of_pos_right _ (by omega)
end My
namespace My
open PySem L2 PM
theorem ze5 (a b:Int):zbK [.int a,.int b] = .ok (.int (Int.gcd a b)):=by
  have ab:∀ z:Int,(if z < 0 then -z else z)=(z.natAbs:Int):=fun z=>by split <;> omega
  let env:Nat × Nat × Option D→En:=fun p=>[.v (.int a),.v (.int b),.v (.int p.1),.v (.int p.2.1),sv p.2.2]
  obtain ⟨⟨x,y,r⟩,h1,h2,h3,_⟩:=zjz (c:=zc7) (m:=zdg) env (fun p=>decide (0 < p.2.1)) (fun p=>(p.2.1,p.1 % p.2.1,some (.int ((p.1 % p.2.1:Nat):Int)))) (fun p=>Nat.gcd p.1 p.2.1=Int.gcd a b) (fun p=>p.2.1)
    (fun p _=>by simp [env,zc7,zan,mRd,mC]) (fun p hp hg=>by
      have hy:0 < p.2.1:=by simpa using hg
      refine ⟨?_,?_,Nat.mod_lt _ hy⟩
      · have e:oMod (.int (p.1:Int)) (.int (p.2.1:Int))=some (.int ((p.1 % p.2.1:Nat):Int)):=by rw [zbn (by omega)]; simp
        have b4:∀ d,zao 4 d (env p)=some ((env p).set 4 (.v d)):=fun d=>za7 rfl
        simp only [zdg,mSeq,mAsg,zcg,show mRd 2 (env p) = .ok (.int p.1) from rfl,show mRd 3 (env p) = .ok (.int p.2.1) from rfl,R.bind_ok,e,R.of_some,R.toO_ok,b4,O.of_some]
        rfl
      · rw [Nat.gcd_comm,← hp,Nat.gcd_comm p.1,Nat.gcd_rec p.2.1 p.1]) (a.natAbs,b.natAbs,none) rfl
  have y0:y=0:=by simpa using h2
  subst y0
  have ex:(x:Int)=Int.gcd a b:=by
    have:Nat.gcd x 0=Int.gcd a b:=h1
    rw [Nat.gcd_zero_right] at this
    omega
  refine zbl ?_
  have e3:ze1 [.v (.int a),.v (.int b),.v (.int a.natAbs),.v (.int b.natAbs),.no] = .nx [.v (.int a),.v (.int b),.v (.int x),.v (.int 0),sv r]:=h3
  simp [zdY,zcY,mSeq,mAsg,mCB,zaa,mNil,mRd,fAbs,ab,zao,e3,mRet,mVar,ex]
theorem zha {t b:Int} (hb:0 < b) (h1:b.natAbs ≤ 10 ^ 1000):zdc [.int t,.int b] = .ok (.tup [.int (lo1 t b),.int (lo2 t b)]):=by
  have g:=zd4 (t:=t) hb
  have gl:Int.gcd t b ≤ b.natAbs:=Nat.le_of_dvd (by omega) (by
    have:=Int.gcd_dvd_right (a:=t) (b:=b)
    exact Int.natAbs_dvd_natAbs.mpr (by simpa using this))
  have f:Fit (Int.gcd t b:Int):=fitN (10 ^ 1000) (by rw [Int.natAbs_natCast]; omega)
  have c:=ze5 t b
  have nb:¬ b=0:=by omega
  have nl:¬ b < 0:=by omega
  simp [zdc,runF,zcY,zkJ,mSeq,mIfS,zan,mRd,mC,nb,zaX,mAsg,zai,zaa,mNil,mVar,c,zao,nl,mRet,mTup,zca g f,sizeLine,lo1,lo2]
theorem zpw {a b c d:Int} (fa:Fit a) (fb:Fit b) (fc:Fit c) (fd:Fit d):zif [.tup [.int a,.int b],.tup [.int c,.int d]] = .ok (.bl (decide (a * d < c * b))):=by
  simp [zif,runF,zcY,znq,mRet,mRd,mC,zcd fa fd,zcd fc fb]
theorem zf8 (ts L:List Int) (h:ts.length ≤ 1000):zce [iL ts,dk L] = .ok (iL (ts.filter fun t=>decide (t ∈ L))):=by
  refine zcJ ?_
  have k:zeO [.v (iL ts),.v (dk L)] = .ok (iL (ts.filter fun t=>decide (t ∈ L))):=by
    refine za8 (l:=ts.map .int) rfl (by simp; omega) ?_
    refine zeW .int _ _ fun t _=>?_
    simp [zcc,za1,zkk,zaJ,zan,mVar,mRd]
    by_cases hz:t ∈ L <;> simp [hz]
  show R.toO (zeO [.v (iL ts),.v (dk L)]) _ _=_
  rw [k]
  rfl
def sz (L:List Int) (s:Ps):Nat:=(s.2.filter fun t=>decide (t ∈ L)).length
def Beats (L:List Int) (s:Ps) (i:Nat) (q:Ps × Nat):Prop:=0 < sz L q.1→s.1 * (sz L q.1:Int) < q.1.1 * (sz L s:Int)∨s.1 * (sz L q.1:Int)=q.1.1 * (sz L s:Int)∧i ≤ q.2
theorem Beats.trans {L:List Int} {s s':Ps} {i j:Nat} {q:Ps × Nat} (hs:0 < sz L s) (hs':0 < sz L s') (h1:s.1 * (sz L s':Int) < s'.1 * (sz L s:Int)∨s.1 * (sz L s':Int)=s'.1 * (sz L s:Int)∧i ≤ j) (h2:Beats L s' j q):Beats L s i q:=by
  intro hq
  have h2:=h2 hq
  have a:(0:Int) < sz L s:=by omega
  have b:(0:Int) < sz L s':=by omega
  have c:(0:Int) < sz L q.1:=by omega
  generalize (sz L s:Int)=x at *
  generalize (sz L s':Int)=y at *
  generalize (sz L q.1:Int)=z at *
  -- multiply out by y
  have key:(s.1 * z - q.1.1 * x) * y=(s.1 * y - s'.1 * x) * z + (s'.1 * z - q.1.1 * y) * x:=by grind
  rcases Int.lt_trichotomy (s.1 * z) (q.1.1 * x) with w | w | w
  · exact .inl w
  · refine .inr ⟨w,?_⟩
    have z0:(s.1 * z - q.1.1 * x) * y=0:=by rw [show s.1 * z - q.1.1 * x=0 by omega]; exact Int.zero_mul _
    rcases h1 with h1 | ⟨h1,h1'⟩
    · have:=Int.mul_neg_of_neg_of_pos (show s.1 * y - s'.1 * x < 0 by omega) c
      rcases h2 with h2 | ⟨h2,_⟩
      · have:=Int.mul_neg_of_neg_of_pos (show s'.1 * z - q.1.1 * y < 0 by omega) a
        omega
      · have e:(s'.1 * z - q.1.1 * y) * x=0:=by rw [show s'.1 * z - q.1.1 * y=0 by omega]; exact Int.zero_mul _
        omega
    · have e:(s.1 * y - s'.1 * x) * z=0:=by rw [show s.1 * y - s'.1 * x=0 by omega]; exact Int.zero_mul _
      rcases h2 with h2 | ⟨h2,h2'⟩
      · have:=Int.mul_neg_of_neg_of_pos (show s'.1 * z - q.1.1 * y < 0 by omega) a
        omega
      · omega
  · exfalso
    have p:0 < (s.1 * z - q.1.1 * x) * y:=Int.mul_pos (by omega) b
    have n1:(s.1 * y - s'.1 * x) * z ≤ 0:=Int.mul_nonpos_of_nonpos_of_nonneg (by omega) (by omega)
    have n2:(s'.1 * z - q.1.1 * y) * x ≤ 0:=Int.mul_nonpos_of_nonpos_of_nonneg (by omega) (by omega)
    omega
structure SetsOk (n:Nat) (sets:List Ps):Prop where
  good:∀ s ∈ sets,Good n s
  few:sets.length ≤ 1000
  n1:n ≤ 1000
theorem zma {n:Nat} {s:Ps} {L:List Int} (g:Good n s):sz L s ≤ n:=Nat.le_trans (List.length_filter_le ..) (zdr g)
theorem zky {n:Nat} {sets:List Ps} {L:List Int} (ok:SetsOk n sets) (hex:∃ s ∈ sets,0 < sz L s) :
    ∃ (i:Nat) (s:Ps),sets[i]?=some s∧0 < sz L s∧zck [encP sets,dk L] = .ok (.int i)∧∀ q ∈ sets.zipIdx,Beats L s i q:=by
  let enc:Ps × Nat→D:=fun p=>.tup [.int (p.2:Int),encS p.1]
  let P:List (Ps × Nat)→En→Prop:=fun pre δ=>∃ o4 o5 o6 o7,∃ best least:D,δ = [.v (encP sets),.v (dk L),.v best,.v least,sv o4,sv o5,sv o6,sv o7] ∧
    ((best = .non∧least = .non∧∀ q ∈ pre,sz L q.1=0)∨∃ (s:Ps) (i:Nat),(s,i) ∈ pre∧0 < sz L s∧best = .int i∧least = .tup [.int (lo1 s.1 (sz L s)),.int (lo2 s.1 (sz L s))]∧∀ q ∈ pre,Beats L s i q)
  have step:∀ pre x post δ,sets.zipIdx=pre ++ x :: post→P pre δ→∃ δ1 δ2,bTup 2 (zaS (zao 4) (zaS (zao 5) bNil)) (enc x) δ=some δ1∧(za5 δ1 = .nx δ2∨za5 δ1 = .ct δ2)∧P (pre ++ [x]) δ2:=by
    rintro pre ⟨s,i⟩ post δ hall ⟨o4,o5,o6,o7,best,least,rfl,hP⟩
    obtain ⟨hpl,hget,hin⟩:=zfr hall
    have hs:s ∈ sets:=List.mem_of_getElem? hget
    have g:=ok.good s hs
    have sl:=zf8 s.2 L (by have:=zdr g; have:=ok.n1; omega)
    have hsz:(s.2.filter fun t=>decide (t ∈ L)).length=sz L s:=rfl
    have hle:sz L s ≤ 1000:=Nat.le_trans (zma g) ok.n1
    refine ⟨[.v (encP sets),.v (dk L),.v best,.v least,.v (.int i),.v (encS s),sv o6,sv o7],?_⟩
    have hb:bTup 2 (zaS (zao 4) (zaS (zao 5) bNil)) (enc (s,i)) [.v (encP sets),.v (dk L),.v best,.v least,sv o4,sv o5,sv o6,sv o7]=some [.v (encP sets),.v (dk L),.v best,.v least,.v (.int i),.v (encS s),sv o6,sv o7]:=by
      rcases o4 with _ | o4 <;> rcases o5 with _ | o5 <;> rfl
    by_cases h0:sz L s=0
    · refine ⟨[.v (encP sets),.v (dk L),.v best,.v least,.v (.int i),.v (encS s),.v (.int 0),sv o7],hb,.inl ?_,some (.int i),some (encS s),some (.int 0),o7,best,least,rfl,?_⟩
      · rcases o6 with _ | o6 <;> simp [za5,mSeq,mAsg,mCB,zai,zaa,mNil,mRd,mC,mVar,encS,sl,zao,mIfS,zan,zaX,hsz,h0]
      · rcases hP with ⟨e1,e2,h⟩ | ⟨s',i',h1,h2,e1,e2,h⟩
        · refine .inl ⟨e1,e2,fun q hq=>?_⟩
          rcases List.mem_append.mp hq with hq | hq
          · exact h q hq
          · have e:q=(s,i):=by simpa using hq
            rw [e]; exact h0
        · refine .inr ⟨s',i',List.mem_append_left _ h1,h2,e1,e2,fun q hq=>?_⟩
          rcases List.mem_append.mp hq with hq | hq
          · exact h q hq
          · have e:q=(s,i):=by simpa using hq
            rw [e]; intro z; exact absurd z (by show ¬ 0 < sz L s; omega)
    · have hp:0 < sz L s:=by omega
      have hpi:(0:Int) < sz L s:=by omega
      have sh:=zha (t:=s.1) hpi (Nat.le_trans (show ((sz L s:Int)).natAbs ≤ 10 ^ 4 by omega) (by decide +kernel))
      have gt:decide ((0:Int) < (sz L s:Int))=true:=by simpa using hp
      have done:∀ δ2,za5 [.v (encP sets),.v (dk L),.v best,.v least,.v (.int i),.v (encS s),sv o6,sv o7] = .nx δ2→P (pre ++ [(s,i)]) δ2 →
          ∃ δ2,bTup 2 (zaS (zao 4) (zaS (zao 5) bNil)) (enc (s,i)) [.v (encP sets),.v (dk L),.v best,.v least,sv o4,sv o5,sv o6,sv o7]=some [.v (encP sets),.v (dk L),.v best,.v least,.v (.int i),.v (encS s),sv o6,sv o7] ∧
            (za5 [.v (encP sets),.v (dk L),.v best,.v least,.v (.int i),.v (encS s),sv o6,sv o7] = .nx δ2∨za5 [.v (encP sets),.v (dk L),.v best,.v least,.v (.int i),.v (encS s),sv o6,sv o7] = .ct δ2)∧P (pre ++ [(s,i)]) δ2:=fun δ2 h1 h2=>⟨δ2,hb,.inl h1,h2⟩
      have self:Beats L s i (s,i):=fun _=>.inr ⟨rfl,Nat.le_refl _⟩
      rcases hP with ⟨e1,e2,h⟩ | ⟨s',i',h1,h2,e1,e2,h⟩
      · subst e1 e2
        refine done [.v (encP sets),.v (dk L),.v (.int i),.v (.tup [.int (lo1 s.1 (sz L s)),.int (lo2 s.1 (sz L s))]),.v (.int i),.v (encS s),.v (.int (sz L s)),.v (.tup [.int (lo1 s.1 (sz L s)),.int (lo2 s.1 (sz L s))])] ?_ ?_
        · rcases o6 with _ | o6 <;> rcases o7 with _ | o7 <;> simp [za5,mSeq,mAsg,mCB,zai,zaa,mNil,mRd,mC,mVar,encS,sl,zao,mIfS,zan,zaX,hsz,hp,sh,mOr,isN]
        · refine ⟨some _,some _,some _,some _,_,_,rfl,.inr ⟨s,i,by simp,hp,rfl,rfl,fun q hq=>?_⟩⟩
          rcases List.mem_append.mp hq with hq | hq
          · intro z; rw [h q hq] at z; exact absurd z (by omega)
          · have e:q=(s,i):=by simpa using hq
            rw [e]; exact self
      · subst e1 e2
        have h2i:(0:Int) < sz L s':=by omega
        have hs':s' ∈ sets:=by
          have:(s',i') ∈ sets.zipIdx:=by rw [hall]; exact List.mem_append_left _ h1
          exact List.mem_of_getElem? (List.mk_mem_zipIdx_iff_getElem?.mp this)
        have g':=ok.good s' hs'
        have hle':sz L s' ≤ 1000:=Nat.le_trans (zma g') ok.n1
        have fit:∀ (u:Ps),u ∈ sets→0 < sz L u→Fit (lo1 u.1 (sz L u))∧Fit (lo2 u.1 (sz L u)):=fun u hu hz=>by
          have gu:=ok.good u hu
          have lu:sz L u ≤ 1000:=Nat.le_trans (zma gu) ok.n1
          have a1:=zi5 (t:=u.1) (show (0:Int) < sz L u by omega)
          have a2:=ziQ (t:=u.1) (show (0:Int) < sz L u by omega)
          have b1:=gu.lo
          have b2:=gu.hi
          exact ⟨fitN (10 ^ 20) (by omega),fitN (10 ^ 20) (by omega)⟩
        obtain ⟨f1,f2⟩:=fit s hs hp
        obtain ⟨f3,f4⟩:=fit s' hs' h2
        have le:=zpw f1 f2 f3 f4
        have iff:=zq6 (a:=s.1) (b:=sz L s) (c:=s'.1) (d:=sz L s') hpi h2i
        by_cases hlt:s.1 * (sz L s':Int) < s'.1 * (sz L s:Int)
        · have hl:decide (lo1 s.1 (sz L s) * lo2 s'.1 (sz L s') < lo1 s'.1 (sz L s') * lo2 s.1 (sz L s))=true:=by simpa using iff.mpr hlt
          rw [hl] at le
          refine done [.v (encP sets),.v (dk L),.v (.int i),.v (.tup [.int (lo1 s.1 (sz L s)),.int (lo2 s.1 (sz L s))]),.v (.int i),.v (encS s),.v (.int (sz L s)),.v (.tup [.int (lo1 s.1 (sz L s)),.int (lo2 s.1 (sz L s))])] ?_ ?_
          · rcases o6 with _ | o6 <;> rcases o7 with _ | o7 <;> simp [za5,mSeq,mAsg,mCB,zai,zaa,mNil,mRd,mC,mVar,encS,sl,zao,mIfS,zan,zaX,hsz,hp,sh,mOr,isN,le]
          · refine ⟨some _,some _,some _,some _,_,_,rfl,.inr ⟨s,i,by simp,hp,rfl,rfl,fun q hq=>?_⟩⟩
            rcases List.mem_append.mp hq with hq | hq
            · exact Beats.trans hp h2 (.inl hlt) (h q hq)
            · have e:q=(s,i):=by simpa using hq
              rw [e]; exact self
        · have hl:decide (lo1 s.1 (sz L s) * lo2 s'.1 (sz L s') < lo1 s'.1 (sz L s') * lo2 s.1 (sz L s))=false:=by simpa using fun z=>hlt (iff.mp z)
          rw [hl] at le
          refine done [.v (encP sets),.v (dk L),.v (.int i'),.v (.tup [.int (lo1 s'.1 (sz L s')),.int (lo2 s'.1 (sz L s'))]),.v (.int i),.v (encS s),.v (.int (sz L s)),.v (.tup [.int (lo1 s.1 (sz L s)),.int (lo2 s.1 (sz L s))])] ?_ ?_
          · rcases o6 with _ | o6 <;> rcases o7 with _ | o7 <;> simp [za5,mSeq,mAsg,mCB,zai,zaa,mNil,mRd,mC,mVar,encS,sl,zao,mIfS,zan,zaX,hsz,hp,sh,mOr,isN,le]
          · refine ⟨some _,some _,some _,some _,_,_,rfl,.inr ⟨s',i',List.mem_append_left _ h1,h2,rfl,rfl,fun q hq=>?_⟩⟩
            rcases List.mem_append.mp hq with hq | hq
            · exact h q hq
            · have e:q=(s,i):=by simpa using hq
              rw [e]
              intro _
              have:=hin (s',i') h1
              rcases Int.lt_or_le (s'.1 * (sz L s:Int)) (s.1 * (sz L s':Int)) with w | w
              · exact .inl w
              · exact .inr ⟨by show s'.1 * (sz L s:Int)=s.1 * (sz L s':Int); omega,by show i' ≤ i; omega⟩
  obtain ⟨δ2,hl,o4,o5,o6,o7,best,least,rfl,hP⟩:=zb6 (b:=bTup 2 (zaS (zao 4) (zaS (zao 5) bNil))) (m:=za5) enc P sets.zipIdx step [.v (encP sets),.v (dk L),.v .non,.v .non,.no,.no,.no,.no] ⟨none,none,none,none,_,_,rfl,.inl ⟨rfl,rfl,by simp⟩⟩
  rcases hP with ⟨_,_,h⟩ | ⟨s,i,h1,h2,e1,e2,h⟩
  · obtain ⟨s,hs,hz⟩:=hex
    obtain ⟨k,hk,e⟩:=List.getElem_of_mem hs
    have:(s,k) ∈ sets.zipIdx:=List.mk_mem_zipIdx_iff_getElem?.mpr (by rw [List.getElem?_eq_getElem hk,e])
    have:=h _ this
    exact absurd hz (by rw [this]; omega)
  · subst e1
    refine ⟨i,s,List.mk_mem_zipIdx_iff_getElem?.mp h1,h2,zbl ?_,h⟩
    have ee:zi9 (sets.map encS)=sets.zipIdx.map enc:=by
      rw [zlp,List.zipIdx_map,List.map_map]; rfl
    have l1:zfd [.v (encP sets),.v (dk L),.v .non,.v .non,.no,.no,.no,.no] = .nx [.v (encP sets),.v (dk L),.v (.int i),.v least,sv o4,sv o5,sv o6,sv o7]:=by
      refine Eq.trans (zbp (l:=sets.zipIdx.map enc) ?_) hl
      simp [zi4,zaa,mNil,mVar,encP,znZ,asL',ee]
    simp [zeo,zcY,mSeq,mAsg,mC,zao,l1,mRet,mVar]
end My
namespace My
open PySem L2 PM
def ins (L:List Int) (t:Int):List Int:=if t ∈ L then L else L ++ [t]
def zbv (L ts:List Int):List Int:=ts.foldl ins L
theorem mem_insAll {ts:List Int}:∀ {L:List Int} {t:Int},t ∈ zbv L ts ↔ t ∈ L∨t ∈ ts:=by
  induction ts with
  | nil=>intro L t; simp [zbv]
  | cons a l ih =>
    intro L t
    show t ∈ zbv (ins L a) l ↔ _
    rw [ih]
    unfold ins
    by_cases h:a ∈ L
    · rw [if_pos h,List.mem_cons]
      constructor
      · rintro (z | z)
        · exact .inl z
        · exact .inr (.inr z)
      · rintro (z | rfl | z)
        · exact .inl z
        · exact .inl h
        · exact .inr z
    · rw [if_neg h,List.mem_append,List.mem_singleton,List.mem_cons]
      constructor
      · rintro ((z | z) | z)
        · exact .inl z
        · exact .inr (.inl z)
        · exact .inr (.inr z)
      · rintro (z | z | z)
        · exact .inl (.inl z)
        · exact .inl (.inr z)
        · exact .inr z
theorem zfl {ts:List Int}:∀ {L:List Int},L.Nodup→(zbv L ts).Nodup:=by
  induction ts with
  | nil=>intro L h; exact h
  | cons a l ih =>
    intro L h
    refine ih (L:=ins L a) ?_
    unfold ins
    by_cases z:a ∈ L
    · rw [if_pos z]; exact h
    · rw [if_neg z]
      rw [List.nodup_append]
      exact ⟨h,by simp,fun x hx y hy e=>by
        have:y=a:=by simpa using hy
        subst this; subst e; exact z hx⟩
theorem ziq {ts us L:List Int}:zbv L (ts ++ us)=zbv (zbv L ts) us:=by simp [zbv]
theorem zly {ts:List Int}:∀ {L:List Int},ts.Nodup→(∀ t ∈ ts,t ∉ L)→zbv L ts=L ++ ts:=by
  induction ts with
  | nil=>intro L _ _; simp [zbv]
  | cons a l ih =>
    intro L h1 h2
    show zbv (ins L a) l=_
    have e:ins L a=L ++ [a]:=by unfold ins; rw [if_neg (h2 a List.mem_cons_self)]
    rw [e,ih (List.nodup_cons.mp h1).2 (fun t ht z=>by
      rcases List.mem_append.mp z with z | z
      · exact h2 t (List.mem_cons_of_mem _ ht) z
      · have:t=a:=by simpa using z
        subst this; exact (List.nodup_cons.mp h1).1 ht)]
    simp
theorem zlK {n:Nat} {L:List Int} (h:L.Nodup) (hs:∀ t ∈ L,t ∈ upto n):L.length ≤ n:=by
  have:=List.Nodup.length_le_of_subset h hs
  rwa [zcl] at this
theorem zg4 {i j:Nat} (hij:i ≠ j) {n:Nat} (hn:n ≤ 1000):∀ (ts:List Int) (δ:En) (L:List Int) (o:Option D),δ[j]?=some (.o (dk L))→δ[i]?=some (sv o)→L.Nodup→(∀ t ∈ L,t ∈ upto n)→(∀ t ∈ ts,t ∈ upto n) →
    ∃ o',zcI (zao i) (zhr j (mVar i) (mC (.bl true))) (ts.map .int) δ = .nx ((δ.set j (.o (dk (zbv L ts)))).set i (sv o'))
  | [],δ,L,o,hj,hi,_,_,_=>by
    refine ⟨o,?_⟩
    have e1:δ.set j (.o (dk L))=δ:=by
      apply List.ext_getElem?
      intro k
      by_cases e:j=k
      · subst e; rw [List.getElem?_set_self (List.getElem?_eq_some_iff.mp hj).1,hj]
      · rw [List.getElem?_set_ne e]
    have e2:δ.set i (sv o)=δ:=by
      apply List.ext_getElem?
      intro k
      by_cases e:i=k
      · subst e; rw [List.getElem?_set_self (List.getElem?_eq_some_iff.mp hi).1,hi]
      · rw [List.getElem?_set_ne e]
    show O.nx δ = .nx ((δ.set j (.o (dk L))).set i (sv o))
    rw [e1,e2]
  | t :: ts,δ,L,o,hj,hi,hL,hs,ht=>by
    have hil:=(List.getElem?_eq_some_iff.mp hi).1
    have hjl:=(List.getElem?_eq_some_iff.mp hj).1
    have b1:zao i (.int t) δ=some (δ.set i (.v (.int t))):=za7 hi
    have g1:(δ.set i (.v (.int t)))[j]?=some (.o (dk L)):=by rw [List.getElem?_set_ne hij]; exact hj
    have g2:mVar i (δ.set i (.v (.int t))) = .ok (.int t):=by unfold mVar; rw [List.getElem?_set_self hil]
    have len:=zlK hL hs
    have p:=ziO (mk:=mVar i) (me:=mC (.bl true)) g1 g2 rfl (by omega)
    obtain ⟨o',ih⟩:=zg4 hij hn ts ((δ.set i (.v (.int t))).set j (.o (dk (ins L t)))) (ins L t) (some (.int t)) (List.getElem?_set_self (by simpa using hjl)) (by rw [List.getElem?_set_ne (Ne.symm hij),List.getElem?_set_self hil]; rfl)
      (zfl (ts:=[t]) hL) (fun x hx=>by
        rcases (mem_insAll (ts:=[t])).mp hx with z | z
        · exact hs x z
        · have:x=t:=by simpa using z
          subst this; exact ht x List.mem_cons_self) (fun x hx=>ht x (List.mem_cons_of_mem _ hx))
    refine ⟨o',?_⟩
    rw [List.map_cons]
    unfold zcI
    rw [b1]
    simp only
    rw [show zhr j (mVar i) (mC (.bl true)) (δ.set i (.v (.int t))) = .nx ((δ.set i (.v (.int t))).set j (.o (dk (ins L t)))) from p]
    simp only
    rw [ih]
    congr 1
    apply List.ext_getElem?
    intro k
    by_cases e1:i=k
    · subst e1
      rw [List.getElem?_set_self (by simpa using hil),List.getElem?_set_self (by simpa using hil)]
    · rw [List.getElem?_set_ne e1,List.getElem?_set_ne e1]
      by_cases e2:j=k
      · subst e2
        rw [List.getElem?_set_self (by simpa using hjl),List.getElem?_set_self (by simpa using hjl)]
        rfl
      · rw [List.getElem?_set_ne e2,List.getElem?_set_ne e2,List.getElem?_set_ne e2,List.getElem?_set_ne e1]
def zdE (L ts:List Int):List Int:=L.filter fun a=>decide (a ∉ ts)
theorem zkZ {i j:Nat} (hij:i ≠ j):∀ (ts:List Int) (δ:En) (L:List Int) (o:Option D),δ[j]?=some (.o (dk L))→δ[i]?=some (sv o)→ts.Nodup→(∀ t ∈ ts,t ∈ L) →
    ∃ o',zcI (zao i) (zlS j (mVar i)) (ts.map .int) δ = .nx ((δ.set j (.o (dk (zdE L ts)))).set i (sv o'))
  | [],δ,L,o,hj,hi,_,_=>by
    refine ⟨o,?_⟩
    have e0:zdE L []=L:=by simp [zdE]
    have e1:δ.set j (.o (dk L))=δ:=by
      apply List.ext_getElem?
      intro k
      by_cases e:j=k
      · subst e; rw [List.getElem?_set_self (List.getElem?_eq_some_iff.mp hj).1,hj]
      · rw [List.getElem?_set_ne e]
    have e2:δ.set i (sv o)=δ:=by
      apply List.ext_getElem?
      intro k
      by_cases e:i=k
      · subst e; rw [List.getElem?_set_self (List.getElem?_eq_some_iff.mp hi).1,hi]
      · rw [List.getElem?_set_ne e]
    show O.nx δ = .nx ((δ.set j (.o (dk (zdE L [])))).set i (sv o))
    rw [e0,e1,e2]
  | t :: ts,δ,L,o,hj,hi,hn,hs=>by
    have hil:=(List.getElem?_eq_some_iff.mp hi).1
    have hjl:=(List.getElem?_eq_some_iff.mp hj).1
    have b1:zao i (.int t) δ=some (δ.set i (.v (.int t))):=za7 hi
    have g1:(δ.set i (.v (.int t)))[j]?=some (.o (dk L)):=by rw [List.getElem?_set_ne hij]; exact hj
    have g2:mVar i (δ.set i (.v (.int t))) = .ok (.int t):=by unfold mVar; rw [List.getElem?_set_self hil]
    have p:=znG (mk:=mVar i) g1 g2 (hs t List.mem_cons_self)
    obtain ⟨h1,h2⟩:=List.nodup_cons.mp hn
    obtain ⟨o',ih⟩:=zkZ hij ts ((δ.set i (.v (.int t))).set j (.o (dk (L.filter fun a=>decide (a ≠ t))))) (L.filter fun a=>decide (a ≠ t)) (some (.int t)) (List.getElem?_set_self (by simpa using hjl)) (by rw [List.getElem?_set_ne (Ne.symm hij),List.getElem?_set_self hil]; rfl)
      h2 (fun x hx=>List.mem_filter.mpr ⟨hs x (List.mem_cons_of_mem _ hx),by simp only [decide_eq_true_eq]; intro e; subst e; exact h1 hx⟩)
    have ep:zdE (L.filter fun a=>decide (a ≠ t)) ts=zdE L (t :: ts):=by
      unfold zdE
      rw [List.filter_filter]
      congr 1
      funext a
      by_cases z1:a=t <;> by_cases z2:a ∈ ts <;> simp [z1,z2]
    refine ⟨o',?_⟩
    rw [List.map_cons]
    unfold zcI
    rw [b1]
    simp only
    rw [p]
    simp only
    rw [ih,ep]
    congr 1
    apply List.ext_getElem?
    intro k
    by_cases e1:i=k
    · subst e1
      rw [List.getElem?_set_self (by simpa using hil),List.getElem?_set_self (by simpa using hil)]
    · rw [List.getElem?_set_ne e1,List.getElem?_set_ne e1]
      by_cases e2:j=k
      · subst e2
        rw [List.getElem?_set_self (by simpa using hjl),List.getElem?_set_self (by simpa using hjl)]
      · rw [List.getElem?_set_ne e2,List.getElem?_set_ne e2,List.getElem?_set_ne e2,List.getElem?_set_ne e1]
end My
namespace My
open PySem L2 PM
def things (sets:List Ps):List Int:=sets.flatMap (·.2)
theorem zgv {n:Nat} {sets:List Ps} (ok:SetsOk n sets) (hc:∀ t ∈ upto n,∃ s ∈ sets,t ∈ s.2):zbT [.int n,encP sets] = .ok .non:=by
  obtain ⟨δ1,h1,o3,o4,rfl⟩:=zb6 (b:=zao 3) (m:=zcW) encS (fun pre δ=>∃ o3 o4,δ = [.v (.int n),.v (encP sets),.o (dk (zbv [] (things pre))),sv o3,sv o4]) sets
    (by
      rintro pre s post δ hall ⟨o3,o4,rfl⟩
      have hs:s ∈ sets:=by rw [hall]; simp
      have g:=ok.good s hs
      obtain ⟨o',h⟩:=zg4 (i:=4) (j:=2) (by decide) ok.n1 s.2 [.v (.int n),.v (encP sets),.o (dk (zbv [] (things pre))),.v (encS s),sv o4] (zbv [] (things pre)) o4 rfl rfl (zfl (by simp))
        (fun t ht=>by
          rcases mem_insAll.mp ht with z | z
          · cases z
          · obtain ⟨s',hs',h'⟩:=List.mem_flatMap.mp z
            exact mem_upto.mpr ((ok.good s' (by rw [hall]; exact List.mem_append_left _ hs')).mem t h')) (fun t ht=>mem_upto.mpr (g.mem t ht))
      refine ⟨[.v (.int n),.v (encP sets),.o (dk (zbv [] (things pre))),.v (encS s),sv o4],[.v (.int n),.v (encP sets),.o (dk (zbv (zbv [] (things pre)) s.2)),.v (encS s),sv o'],?_,.inl ?_,some (encS s),o',?_⟩
      · rcases o3 with _ | o3 <;> rfl
      · unfold zcW zew zd9
        exact (zbp (by simp [mItL,mRd,mC,encS])).trans h
      · rw [← ziq]
        have e:things (pre ++ [s])=things pre ++ s.2:=by simp [things]
        rw [e]; rfl)
    [.v (.int n),.v (encP sets),.o (dk []),.no,.no] ⟨none,none,rfl⟩
  obtain ⟨δ2,h2,o4',rfl⟩:=zb6 (b:=zao 4) (m:=zc6) D.int (fun pre δ=>∃ o4,δ = [.v (.int n),.v (encP sets),.o (dk (zbv [] (things sets))),sv o3,sv o4]) (upto n)
    (by
      rintro pre t post δ hall ⟨o4,rfl⟩
      have ht:t ∈ upto n:=by rw [hall]; simp
      obtain ⟨s,hs,hts⟩:=hc t ht
      have hm:t ∈ zbv [] (things sets):=mem_insAll.mpr (.inr (List.mem_flatMap.mpr ⟨s,hs,hts⟩))
      refine ⟨_,_,za7 (o:=o4) rfl,.inl ?_,some (.int t),rfl⟩
      simp [zc6,mIfS,zan,mVar,mRd,hm,zaX])
    _ ⟨o4,rfl⟩
  have l2:zeH [.v (.int n),.v (encP sets),.o (dk []),.no,.no] = .nx [.v (.int n),.v (encP sets),.o (dk (zbv [] (things sets))),sv o3,sv o4]:=(zbp (by simp [mItL,mVar,encP])).trans h1
  have l3:zey [.v (.int n),.v (encP sets),.o (dk (zbv [] (things sets))),sv o3,sv o4] = .nx [.v (.int n),.v (encP sets),.o (dk (zbv [] (things sets))),sv o3,sv o4']:=(zbp (by simp [mRng,zaa,mNil,mVar,rngU ok.n1])).trans h2
  refine zo7 (δ:=[.v (.int n),.v (encP sets),.o (dk (zbv [] (things sets))),sv o3,sv o4']) ?_
  have e0:mAsg (mC (.dct [] [])) (bNew 2) [.v (.int n),.v (encP sets),.no,.no,.no] = .nx [.v (.int n),.v (encP sets),.o (dk []),.no,.no]:=rfl
  show mSeq _ _ [.v (.int n),.v (encP sets),.no,.no,.no]=_
  rw [zal e0,zal l2]
  exact l3
inductive Greedy (sets:List Ps):List Int→List (Nat × List Int)→Prop where
  | nil:Greedy sets [] []
  | cons {L:List Int} {i:Nat} {s:Ps} {tk:List (Nat × List Int)}:sets[i]?=some s→0 < sz L s→(∀ q ∈ sets.zipIdx,Beats L s i q)→Greedy sets (zdE L (s.2.filter fun t=>decide (t ∈ L))) tk →
      Greedy sets L ((i,s.2.filter fun t=>decide (t ∈ L)) :: tk)
def encT (p:Nat × List Int):D:=.tup [.int (p.1:Int),iL p.2]
theorem znC (l:List Int):zoK (iL l)=true:=by
  show zgN (l.map .int)=true
  induction l with
  | nil=>rfl
  | cons a l ih=>simp only [List.map_cons,zgN,zgI,ih,Bool.and_self]
theorem zix {L ts:List Int} {t:Int} (h1:t ∈ L) (h2:t ∈ ts):(zdE L ts).length < L.length:=by
  unfold zdE
  rcases Nat.lt_or_ge (L.filter fun a=>decide (a ∉ ts)).length L.length with h | h
  · exact h
  · have e:=List.filter_eq_self.mp (List.Sublist.eq_of_length (List.filter_sublist) (Nat.le_antisymm (List.length_filter_le ..) h)) t h1
    simp at e
    exact absurd h2 e
theorem zlH {c:En→R Bool} {m:En→O} {n:Nat} {δ δ':En} (h1:c δ = .ok true) (h2:m δ = .nx δ'):zd7 c m (n + 1) δ=zd7 c m n δ':=by
  rw [zd7,h1]
  simp only [R.toO_ok,if_true,h2]
theorem zkE {n:Nat} {sets:List Ps} (ok:SetsOk n sets):∀ (m:Nat) (L:List Int) (tk0:List (Nat × List Int)) (o3 o5 o6:Option D),L.length ≤ m→L.Nodup→(∀ t ∈ L,t ∈ upto n)→(∀ t ∈ L,∃ s ∈ sets,t ∈ s.2)→tk0.length + L.length ≤ 1000 →
    ∃ tk o3' o5' o6',Greedy sets L tk∧zd7 zcq zfN (m + 1) [.v (.int n),.v (encP sets),.o (dk L),sv o3,.o (.lst (tk0.map encT)),sv o5,sv o6] = .nx [.v (.int n),.v (encP sets),.o (dk []),sv o3',.o (.lst ((tk0 ++ tk).map encT)),sv o5',sv o6']:=by
  intro m
  induction m with
  | zero =>
    intro L tk0 o3 o5 o6 hm hL hs hc hk
    have:L = []:=List.length_eq_zero_iff.mp (by omega)
    subst this
    refine ⟨[],o3,o5,o6,.nil,?_⟩
    unfold zd7
    have t:zcq [.v (.int n),.v (encP sets),.o (dk []),sv o3,.o (.lst (tk0.map encT)),sv o5,sv o6] = .ok false:=by simp [zcq,zan,mCB,zaa,mNil,mRd,mC]
    rw [t]
    simp
  | succ m ih =>
    intro L tk0 o3 o5 o6 hm hL hs hc hk
    by_cases h0:L = []
    · subst h0
      refine ⟨[],o3,o5,o6,.nil,?_⟩
      unfold zd7
      have t:zcq [.v (.int n),.v (encP sets),.o (dk []),sv o3,.o (.lst (tk0.map encT)),sv o5,sv o6] = .ok false:=by simp [zcq,zan,mCB,zaa,mNil,mRd,mC]
      rw [t]
      simp
    · obtain ⟨t0,ht0⟩:=List.exists_mem_of_ne_nil L h0
      obtain ⟨s0,hs0,hts0⟩:=hc t0 ht0
      have hz0:0 < sz L s0:=List.length_pos_of_mem (List.mem_filter.mpr ⟨hts0,by simpa using ht0⟩)
      obtain ⟨i,s,hget,hz,hch,hbeat⟩:=zky ok ⟨s0,hs0,hz0⟩
      have hsm:s ∈ sets:=List.mem_of_getElem? hget
      have g:=ok.good s hsm
      have gl:=zdr g
      have n1:=ok.n1
      have sl:=zf8 s.2 L (by omega)
      obtain ⟨fr,efr⟩:∃ fr,fr=s.2.filter fun t=>decide (t ∈ L):=⟨_,rfl⟩
      have hfr:∀ t ∈ fr,t ∈ L:=fun t ht=>by rw [efr] at ht; simpa using (List.mem_filter.mp ht).2
      have hfn:fr.Nodup:=by rw [efr]; exact g.nd.filter _
      rw [← efr] at sl
      obtain ⟨f,hf⟩:=List.exists_mem_of_length_pos (show 0 < fr.length by rw [efr]; exact hz)
      have hlt:=zix (hfr f hf) hf
      have sub:∀ t ∈ zdE L fr,t ∈ L:=fun t ht=>(List.mem_filter.mp ht).1
      obtain ⟨o3',hpop⟩:=zkZ (i:=3) (j:=2) (by decide) fr [.v (.int n),.v (encP sets),.o (dk L),sv o3,.o (.lst (tk0.map encT ++ [encT (i,fr)])),.v (.int i),.v (iL fr)] L o3 rfl rfl hfn hfr
      obtain ⟨tk,o3'',o5'',o6'',hG,hI⟩:=ih (zdE L fr) (tk0 ++ [(i,fr)]) o3' (some (.int i)) (some (iL fr)) (by omega) (hL.filter _) (fun t ht=>hs t (sub t ht)) (fun t ht=>hc t (sub t ht)) (by rw [List.length_append]; simp; omega)
      refine ⟨(i,fr) :: tk,o3'',o5'',o6'',?_,?_⟩
      · rw [efr] at hG ⊢
        exact .cons hget hz hbeat hG
      · have hLp:0 < L.length:=List.length_pos_of_mem ht0
        have t:zcq [.v (.int n),.v (encP sets),.o (dk L),sv o3,.o (.lst (tk0.map encT)),sv o5,sv o6] = .ok true:=by simp [zcq,zan,mCB,zaa,mNil,mRd,mC]; omega
        have b:zfN [.v (.int n),.v (encP sets),.o (dk L),sv o3,.o (.lst (tk0.map encT)),sv o5,sv o6] = .nx [.v (.int n),.v (encP sets),.o (dk (zdE L fr)),sv o3',.o (.lst ((tk0 ++ [(i,fr)]).map encT)),.v (.int i),.v (iL fr)]:=by
          have e1:mAsg (zll zck (zaa (mVar 1) (zaa (mRd 2) mNil))) (zao 5) [.v (.int n),.v (encP sets),.o (dk L),sv o3,.o (.lst (tk0.map encT)),sv o5,sv o6] = .nx [.v (.int n),.v (encP sets),.o (dk L),sv o3,.o (.lst (tk0.map encT)),.v (.int i),sv o6]:=by
            refine zaE (d:=.int i) ?_ (za7 rfl)
            simp [zll,zaa,mNil,mVar,mRd,hch,zgI]
          have e2:mAsg (zjc zce (zaa (m2 oIxT (m2 oIxL (mRd 1) (mRd 5)) (mC (.int 1))) (zaa (mRd 2) mNil))) (zao 6) [.v (.int n),.v (encP sets),.o (dk L),sv o3,.o (.lst (tk0.map encT)),.v (.int i),sv o6] = .nx [.v (.int n),.v (encP sets),.o (dk L),sv o3,.o (.lst (tk0.map encT)),.v (.int i),.v (iL fr)]:=by
            refine zaE (d:=iL fr) ?_ (za7 rfl)
            have ix:oIxL (encP sets) (.int (i:Int))=some (encS s):=zng (by rw [List.getElem?_map,hget]; rfl)
            simp [zjc,zaa,mNil,mRd,mC,ix,encS,sl,znC]
          have e3:zdh 4 (mTup (zaa (mVar 5) (zaa (mVar 6) mNil))) [.v (.int n),.v (encP sets),.o (dk L),sv o3,.o (.lst (tk0.map encT)),.v (.int i),.v (iL fr)] = .nx [.v (.int n),.v (encP sets),.o (dk L),sv o3,.o (.lst (tk0.map encT ++ [encT (i,fr)])),.v (.int i),.v (iL fr)]:=by
            have hl:(tk0.map encT).length < sizeLine:=by rw [List.length_map]; exact zmJ (by omega)
            simp only [List.length_map] at hl
            simp [zdh,mTup,zaa,mNil,mVar,sizeLine,encT]
            simp [sizeLine] at hl
            rw [zbE hl]
          have e4:zin [.v (.int n),.v (encP sets),.o (dk L),sv o3,.o (.lst (tk0.map encT ++ [encT (i,fr)])),.v (.int i),.v (iL fr)] = .nx [.v (.int n),.v (encP sets),.o (dk (zdE L fr)),sv o3',.o (.lst (tk0.map encT ++ [encT (i,fr)])),.v (.int i),.v (iL fr)]:=(zbp (by simp [mItL,mVar])).trans hpop
          show mSeq _ _ _=_
          rw [zal e1,zal e2,zal e3,e4,List.map_append]
          rfl
        refine Eq.trans (zlH t b) (Eq.trans hI ?_)
        simp
theorem zlO {n:Nat} {sets:List Ps} (ok:SetsOk n sets) (hc:∀ t ∈ upto n,∃ s ∈ sets,t ∈ s.2):∃ tk,zc2 [.int n,encP sets] = .ok (.lst (tk.map encT))∧Greedy sets (upto n) tk:=by
  have n1:=ok.n1
  obtain ⟨o3,hp⟩:=zg4 (i:=3) (j:=2) (by decide) n1 (upto n) [.v (.int n),.v (encP sets),.o (dk []),.no,.no,.no,.no] [] none rfl rfl (by simp) (by simp) (fun _ h=>h)
  have eu:zbv [] (upto n)=upto n:=by rw [zly (zgw n) (by simp)]; rfl
  rw [eu] at hp
  obtain ⟨tk,o3',o5',o6',hG,hI⟩:=zkE ok n (upto n) [] o3 none none (by rw [zcl]; omega) (zgw n) (fun _ h=>h) hc (by rw [zcl]; simp; omega)
  refine ⟨tk,zcJ ?_,hG⟩
  have e1:mDo (zai zbT (zaa (mVar 0) (zaa (mVar 1) mNil))) [.v (.int n),.v (encP sets),.no,.no,.no,.no,.no] = .nx [.v (.int n),.v (encP sets),.no,.no,.no,.no,.no]:=by
    simp [mDo,zai,zaa,mNil,mVar,zgv ok hc]
  have e2:mAsg (mC (.dct [] [])) (bNew 2) [.v (.int n),.v (encP sets),.no,.no,.no,.no,.no] = .nx [.v (.int n),.v (encP sets),.o (dk []),.no,.no,.no,.no]:=rfl
  have e3:zil [.v (.int n),.v (encP sets),.o (dk []),.no,.no,.no,.no] = .nx [.v (.int n),.v (encP sets),.o (dk (upto n)),sv o3,.no,.no,.no]:=(zbp (by simp [mRng,zaa,mNil,mVar,rngU n1])).trans hp
  have e4:mAsg (mLst mNil) (bNew 4) [.v (.int n),.v (encP sets),.o (dk (upto n)),sv o3,.no,.no,.no] = .nx [.v (.int n),.v (encP sets),.o (dk (upto n)),sv o3,.o (.lst []),.no,.no]:=by
    simp [mAsg,mLst,mNil,bNew]
  have e5:zim [.v (.int n),.v (encP sets),.o (dk (upto n)),sv o3,.o (.lst []),.no,.no] = .nx [.v (.int n),.v (encP sets),.o (dk []),sv o3',.o (.lst (tk.map encT)),sv o5',sv o6']:=zjC hI (by intro z; cases z)
  show mSeq _ _ [.v (.int n),.v (encP sets),.no,.no,.no,.no,.no]=_
  rw [zal e1,zal e2,zal e3,zal e4,zal e5]
  rfl
theorem znP {n:Nat} {sets:List Ps} (ok:SetsOk n sets) (hc:∀ t ∈ upto n,∃ s ∈ sets,t ∈ s.2):∃ tk,zfg [.int n,encP sets] = .ok (iL (tk.map fun p=>(p.1:Int)))∧zc2 [.int n,encP sets] = .ok (.lst (tk.map encT))∧Greedy sets (upto n) tk∧tk.length ≤ n:=by
  obtain ⟨tk,h,hG⟩:=zlO ok hc
  have hl:tk.length ≤ n:=by
    have key:∀ {L tk},Greedy sets L tk→tk.length ≤ L.length:=by
      intro L tk g
      induction g with
      | nil=>exact Nat.le_refl _
      | cons h1 h2 h3 h4 ih =>
        rename_i L i s tk
        obtain ⟨f,hf⟩:=List.exists_mem_of_length_pos (show 0 < (s.2.filter fun t=>decide (t ∈ L)).length from h2)
        have:=zix (by simpa using (List.mem_filter.mp hf).2) hf
        simp only [List.length_cons]
        omega
    have:=key hG
    rwa [zcl] at this
  refine ⟨tk,zcJ ?_,h,hG,hl⟩
  have n1:=ok.n1
  have k:ziE [.v (.int n),.v (encP sets)] = .ok (iL (tk.map fun p=>(p.1:Int))):=by
    refine Eq.trans (za8 (l:=tk.map encT) (r:=tk.map fun p=>.int (p.1:Int)) ?_ (by rw [List.length_map]; omega) ?_) (by simp [iL])
    · simp [mItL,zai,zaa,mNil,mVar,h]
    · exact zaZ encT _ tk fun p _=>by simp [zcc,za1,bTup,zaS,bNil,zaJ,encT,mVar]
  show R.toO (ziE [.v (.int n),.v (encP sets)]) _ _=_
  rw [k]
  rfl
end My
namespace My
open PySem L2 PM
abbrev Fr:=Int × Int
def fv (f:Fr):Rat:=(f.1:Rat) / (f.2:Rat)
def rate (s:Ps) (F:List Int):Fr:=(lo1 s.1 F.length,lo2 s.1 F.length)
def upd (g:Int→Fr) (F:List Int) (r:Fr):Int→Fr:=fun t=>if t ∈ F then r else g t
def pay (sets:List Ps):(Int→Fr)→List (Nat × List Int)→Int→Fr
  | g,[]=>g
  | g,(i,F) :: tk=>pay sets (upd g F (rate (sets.getD i (0,[])) F)) tk
theorem mem_popAll {L F:List Int} {t:Int}:t ∈ zdE L F ↔ t ∈ L∧t ∉ F:=by simp [zdE]
theorem zol {a b:Int} (hb:0 < b):((lo1 a b:Int):Rat) / ((lo2 a b:Int):Rat)=(a:Rat) / (b:Rat):=by
  have g:=zd4 (t:=a) hb
  have h1:(a:Rat)=((lo1 a b:Int):Rat) * ((Int.gcd a b:Int):Rat):=by rw [← Rat.intCast_mul,ziW]
  have h2:(b:Rat)=((lo2 a b:Int):Rat) * ((Int.gcd a b:Int):Rat):=by rw [← Rat.intCast_mul,zhf]
  have h3:((Int.gcd a b:Int):Rat) ≠ 0:=fun e=>by
    have:(Int.gcd a b:Int)=0:=by exact_mod_cast e
    omega
  have h4:((lo2 a b:Int):Rat) ≠ 0:=fun e=>by
    have:lo2 a b=0:=by exact_mod_cast e
    have:=zhj (t:=a) hb
    omega
  rw [h1,h2]
  grind
def H:Nat→Rat
  | 0=>0
  | k + 1=>H k + 1 / ((k + 1:Nat):Rat)
theorem znA {m:Nat} (h:0 < m):(0:Rat) < (m:Rat):=by exact_mod_cast h
theorem zqz {a b c:Rat} (h:0 < b) (h2:c * b ≤ a):c ≤ a / b:=by
  have e:a / b=a * b⁻¹:=Rat.div_def ..
  have i:(0:Rat) ≤ b⁻¹:=Rat.le_of_lt (Rat.inv_pos.mpr h)
  have m:=Rat.mul_le_mul_of_nonneg_right h2 i
  have e2:c * b * b⁻¹=c:=by grind
  rw [e]; rw [e2] at m; exact m
theorem zqY {a b:Nat} (h:a ≤ b):H a ≤ H b:=by
  obtain ⟨d,rfl⟩:=Nat.exists_eq_add_of_le h
  induction d with
  | zero=>exact Rat.le_refl
  | succ d ih =>
    have:=ih (by omega)
    have h2:(0:Rat) ≤ 1 / ((a + d + 1:Nat):Rat):=by
      have:=znA (m:=a + d + 1) (by omega)
      exact zqz this (by grind)
    show _ ≤ H (a + d) + 1 / ((a + d + 1:Nat):Rat)
    grind
theorem zrg {a:Nat} (h:0 < a):0 < H a:=by
  have h1:=zqY (a:=1) (b:=a) h
  have h2:H 1=1:=by simp only [H]; grind
  grind
theorem zl7 {sets:List Ps} {i:Nat} {s:Ps} (h:sets[i]?=some s):sets.getD i (0,[])=s:=by rw [List.getD_eq_getElem?_getD,h]; rfl
end My
namespace My
open PySem L2 PM
def encF (f:Fr):D:=.tup [.int f.1,.int f.2]
def hs:Nat→Fr
  | 0=>(0,1)
  | k + 1=>(lo1 ((hs k).1 * ((k + 1:Nat):Int) + 1 * (hs k).2) ((hs k).2 * ((k + 1:Nat):Int)),lo2 ((hs k).1 * ((k + 1:Nat):Int) + 1 * (hs k).2) ((hs k).2 * ((k + 1:Nat):Int)))
theorem zhM:∀ k,0 < (hs k).2
  | 0=>by decide
  | k + 1=>zhj (Int.mul_pos (zhM k) (by omega))
theorem zoP {a b:Int} (hb:0 < b) (h:0 ≤ a):0 ≤ lo1 a b:=Int.ediv_nonneg h (Int.le_of_lt (zd4 hb))
theorem zpY:∀ k,0 ≤ (hs k).1
  | 0=>by decide
  | k + 1=>zoP (Int.mul_pos (zhM k) (by omega)) (by have:=Int.mul_nonneg (zpY k) (show (0:Int) ≤ ((k + 1:Nat):Int) by omega); have:=zhM k; omega)
theorem zeI {b:Int} (h:0 < b):(b:Rat) ≠ 0:=fun e=>by
  have:b=0:=by exact_mod_cast e
  omega
theorem zns:∀ k,fv (hs k)=H k
  | 0=>by simp [fv,hs,H]; grind
  | k + 1=>by
    have p:=zhM k
    have ih:=zns k
    have n0:=zeI p
    have n1:=zeI (show (0:Int) < ((k + 1:Nat):Int) by omega)
    show ((lo1 _ _:Int):Rat) / ((lo2 _ _:Int):Rat)=H k + 1 / ((k + 1:Nat):Rat)
    rw [zol (Int.mul_pos p (by omega)),← ih,fv]
    rw [show ((k + 1:Nat):Rat)=(((k + 1:Nat):Int):Rat) by push_cast; rfl]
    generalize ((k + 1:Nat):Int)=z at *
    rw [Rat.intCast_add,Rat.intCast_mul,Rat.intCast_mul,Rat.intCast_mul]
    generalize ((hs k).1:Rat)=x at *
    generalize ((hs k).2:Rat)=y at *
    generalize (z:Rat)=w at *
    rw [show (((1:Int)):Rat)=1 from rfl]
    grind
theorem hs_0:hs 0=(0,1):=rfl
theorem hs_1:hs 1=(1,1):=by rw [hs,hs_0]; rfl
theorem hs_2:hs 2=(3,2):=by rw [hs,hs_1]; rfl
theorem hs_3:hs 3=(11,6):=by rw [hs,hs_2]; rfl
theorem hs_4:hs 4=(25,12):=by rw [hs,hs_3]; rfl
theorem hs_5:hs 5=(137,60):=by rw [hs,hs_4]; rfl
theorem hs_6:hs 6=(49,20):=by rw [hs,hs_5]; rfl
theorem hs_7:hs 7=(363,140):=by rw [hs,hs_6]; rfl
theorem hs_8:hs 8=(761,280):=by rw [hs,hs_7]; rfl
theorem hs_9:hs 9=(7129,2520):=by rw [hs,hs_8]; rfl
theorem zqC:hs 10=(7381,2520):=by rw [hs,hs_9]; rfl
theorem zqV:hs 11=(83711,27720):=by rw [hs,zqC]; rfl
theorem zqI:hs 12=(86021,27720):=by rw [hs,zqV]; rfl
theorem zqs:hs 13=(1145993,360360):=by rw [hs,zqI]; rfl
theorem zqO:hs 14=(1171733,360360):=by rw [hs,zqs]; rfl
theorem zqc:hs 15=(1195757,360360):=by rw [hs,zqO]; rfl
theorem zqw:hs 16=(2436559,720720):=by rw [hs,zqc]; rfl
theorem zq3:hs 17=(42142223,12252240):=by rw [hs,zqw]; rfl
theorem zp8:hs 18=(14274301,4084080):=by rw [hs,zq3]; rfl
theorem zqg:hs 19=(275295799,77597520):=by rw [hs,zp8]; rfl
theorem zqq:hs 20=(55835135,15519504):=by rw [hs,zqg]; rfl
theorem zqN:hs 21=(18858053,5173168):=by rw [hs,zqq]; rfl
theorem zqR:hs 22=(19093197,5173168):=by rw [hs,zqN]; rfl
theorem zpK:hs 23=(444316699,118982864):=by rw [hs,zqR]; rfl
theorem zqX:hs 24=(1347822955,356948592):=by rw [hs,zpK]; rfl
theorem zpQ:hs 25=(34052522467,8923714800):=by rw [hs,zqX]; rfl
theorem zpW:hs 26=(34395742267,8923714800):=by rw [hs,zpQ]; rfl
theorem zp5:hs 27=(312536252003,80313433200):=by rw [hs,zpW]; rfl
theorem zq0:hs 28=(315404588903,80313433200):=by rw [hs,zp5]; rfl
theorem zqi:hs 29=(9227046511387,2329089562800):=by rw [hs,zq0]; rfl
theorem zpX:hs 30=(9304682830147,2329089562800):=by rw [hs,zqi]; rfl
theorem zqJ:hs 31=(290774257297357,72201776446800):=by rw [hs,zpX]; rfl
theorem zpL:hs 32=(586061125622639,144403552893600):=by rw [hs,zqJ]; rfl
theorem zpU:hs 33=(53676090078349,13127595717600):=by rw [hs,zpL]; rfl
theorem zqb:hs 34=(54062195834749,13127595717600):=by rw [hs,zpU]; rfl
theorem zpP:hs 35=(54437269998109,13127595717600):=by rw [hs,zqb]; rfl
theorem zqf:hs 36=(54801925434709,13127595717600):=by rw [hs,zpP]; rfl
theorem zpJ:hs 37=(2040798836801833,485721041551200):=by rw [hs,zqf]; rfl
theorem zqn:hs 38=(2053580969474233,485721041551200):=by rw [hs,zpJ]; rfl
theorem zqD:hs 39=(2066035355155033,485721041551200):=by rw [hs,zqn]; rfl
theorem zq7:hs 40=(2078178381193813,485721041551200):=by rw [hs,zqD]; rfl
theorem zlm {k:Nat} (h:k ≤ 40):(hs k).1.natAbs ≤ 2 ^ 60∧(hs k).2.natAbs ≤ 2 ^ 60:=by
  rcases Nat.eq_or_lt_of_le (show 0 ≤ k by omega) with e | e
  · rw [← e,hs_0]; decide
  rcases Nat.eq_or_lt_of_le (show 1 ≤ k by omega) with e | e
  · rw [← e,hs_1]; decide
  rcases Nat.eq_or_lt_of_le (show 2 ≤ k by omega) with e | e
  · rw [← e,hs_2]; decide
  rcases Nat.eq_or_lt_of_le (show 3 ≤ k by omega) with e | e
  · rw [← e,hs_3]; decide
  rcases Nat.eq_or_lt_of_le (show 4 ≤ k by omega) with e | e
  · rw [← e,hs_4]; decide
  rcases Nat.eq_or_lt_of_le (show 5 ≤ k by omega) with e | e
  · rw [← e,hs_5]; decide
  rcases Nat.eq_or_lt_of_le (show 6 ≤ k by omega) with e | e
  · rw [← e,hs_6]; decide
  rcases Nat.eq_or_lt_of_le (show 7 ≤ k by omega) with e | e
  · rw [← e,hs_7]; decide
  rcases Nat.eq_or_lt_of_le (show 8 ≤ k by omega) with e | e
  · rw [← e,hs_8]; decide
  rcases Nat.eq_or_lt_of_le (show 9 ≤ k by omega) with e | e
  · rw [← e,hs_9]; decide
  rcases Nat.eq_or_lt_of_le (show 10 ≤ k by omega) with e | e
  · rw [← e,zqC]; decide
  rcases Nat.eq_or_lt_of_le (show 11 ≤ k by omega) with e | e
  · rw [← e,zqV]; decide
  rcases Nat.eq_or_lt_of_le (show 12 ≤ k by omega) with e | e
  · rw [← e,zqI]; decide
  rcases Nat.eq_or_lt_of_le (show 13 ≤ k by omega) with e | e
  · rw [← e,zqs]; decide
  rcases Nat.eq_or_lt_of_le (show 14 ≤ k by omega) with e | e
  · rw [← e,zqO]; decide
  rcases Nat.eq_or_lt_of_le (show 15 ≤ k by omega) with e | e
  · rw [← e,zqc]; decide
  rcases Nat.eq_or_lt_of_le (show 16 ≤ k by omega) with e | e
  · rw [← e,zqw]; decide
  rcases Nat.eq_or_lt_of_le (show 17 ≤ k by omega) with e | e
  · rw [← e,zq3]; decide
  rcases Nat.eq_or_lt_of_le (show 18 ≤ k by omega) with e | e
  · rw [← e,zp8]; decide
  rcases Nat.eq_or_lt_of_le (show 19 ≤ k by omega) with e | e
  · rw [← e,zqg]; decide
  rcases Nat.eq_or_lt_of_le (show 20 ≤ k by omega) with e | e
  · rw [← e,zqq]; decide
  rcases Nat.eq_or_lt_of_le (show 21 ≤ k by omega) with e | e
  · rw [← e,zqN]; decide
  rcases Nat.eq_or_lt_of_le (show 22 ≤ k by omega) with e | e
  · rw [← e,zqR]; decide
  rcases Nat.eq_or_lt_of_le (show 23 ≤ k by omega) with e | e
  · rw [← e,zpK]; decide
  rcases Nat.eq_or_lt_of_le (show 24 ≤ k by omega) with e | e
  · rw [← e,zqX]; decide
  rcases Nat.eq_or_lt_of_le (show 25 ≤ k by omega) with e | e
  · rw [← e,zpQ]; decide
  rcases Nat.eq_or_lt_of_le (show 26 ≤ k by omega) with e | e
  · rw [← e,zpW]; decide
  rcases Nat.eq_or_lt_of_le (show 27 ≤ k by omega) with e | e
  · rw [← e,zp5]; decide
  rcases Nat.eq_or_lt_of_le (show 28 ≤ k by omega) with e | e
  · rw [← e,zq0]; decide
  rcases Nat.eq_or_lt_of_le (show 29 ≤ k by omega) with e | e
  · rw [← e,zqi]; decide
  rcases Nat.eq_or_lt_of_le (show 30 ≤ k by omega) with e | e
  · rw [← e,zpX]; decide
  rcases Nat.eq_or_lt_of_le (show 31 ≤ k by omega) with e | e
  · rw [← e,zqJ]; decide
  rcases Nat.eq_or_lt_of_le (show 32 ≤ k by omega) with e | e
  · rw [← e,zpL]; decide
  rcases Nat.eq_or_lt_of_le (show 33 ≤ k by omega) with e | e
  · rw [← e,zpU]; decide
  rcases Nat.eq_or_lt_of_le (show 34 ≤ k by omega) with e | e
  · rw [← e,zqb]; decide
  rcases Nat.eq_or_lt_of_le (show 35 ≤ k by omega) with e | e
  · rw [← e,zpP]; decide
  rcases Nat.eq_or_lt_of_le (show 36 ≤ k by omega) with e | e
  · rw [← e,zqf]; decide
  rcases Nat.eq_or_lt_of_le (show 37 ≤ k by omega) with e | e
  · rw [← e,zpJ]; decide
  rcases Nat.eq_or_lt_of_le (show 38 ≤ k by omega) with e | e
  · rw [← e,zqn]; decide
  rcases Nat.eq_or_lt_of_le (show 39 ≤ k by omega) with e | e
  · rw [← e,zqD]; decide
  rcases Nat.eq_or_lt_of_le (show 40 ≤ k by omega) with e | e
  · rw [← e,zq7]; decide
  omega
theorem zoG {m:Nat} (h:0 < m):0 < (hs m).1:=by
  rcases Int.lt_or_le 0 (hs m).1 with z | z
  · exact z
  · have e:(hs m).1=0:=Int.le_antisymm z (zpY m)
    have v:=zns m
    have p:=zrg h
    rw [fv,e] at v
    rw [← v] at p
    have:((0:Int):Rat) / ((hs m).2:Rat)=0:=by
      rw [Rat.div_def]; simp
    rw [this] at p
    exact absurd p (by decide)
theorem zlG {a:Int} (h:a.natAbs ≤ 2 ^ 60):Fit a:=fitN (2 ^ 60) h
theorem zpD {f g:Fr} (h1:Fit f.1) (h2:Fit f.2) (h3:Fit g.1) (h4:Fit g.2) (p1:0 < f.2) (p2:0 < g.2) (hb:(f.2 * g.2).natAbs ≤ 10 ^ 1000) :
    zir [encF f,encF g] = .ok (encF (lo1 (f.1 * g.2 + g.1 * f.2) (f.2 * g.2),lo2 (f.1 * g.2 + g.1 * f.2) (f.2 * g.2))):=by
  have sh:=zha (t:=f.1 * g.2 + g.1 * f.2) (Int.mul_pos p1 p2) hb
  simp [zir,runF,zcY,zmF,mRet,zai,zaa,mNil,mRd,mC,encF,zcd h1 h4,zcd h3 h2,zcd h2 h4,sh]
theorem zpG {f g:Fr} (h1:Fit f.1) (h2:Fit f.2) (h3:Fit g.1) (h4:Fit g.2) (p1:0 < f.2) (p2:0 < g.1) (hb:(f.2 * g.1).natAbs ≤ 10 ^ 1000) :
    ziy [encF f,encF g] = .ok (encF (lo1 (f.1 * g.2) (f.2 * g.1),lo2 (f.1 * g.2) (f.2 * g.1))):=by
  have sh:=zha (t:=f.1 * g.2) (Int.mul_pos p1 p2) hb
  simp [ziy,runF,zcY,zl9,mRet,zai,zaa,mNil,mRd,mC,encF,zcd h1 h4,zcd h2 h3,sh]
theorem zkB {k x:Nat} {pre post:List Nat} (h:List.range k=pre ++ x :: post):x=pre.length∧x < k:=by
  have e:(pre ++ x :: post)[pre.length]?=some x:=by simp
  rw [← h] at e
  have hl:=(List.getElem?_eq_some_iff.mp e)
  obtain ⟨h1,h2⟩:=hl
  simp at h1 h2
  omega
theorem zfu {a b:Int} {A B:Nat} (h1:a.natAbs ≤ A) (h2:b.natAbs ≤ B):(a * b).natAbs ≤ A * B:=by
  rw [Int.natAbs_mul]; exact Nat.mul_le_mul h1 h2
theorem zne (a b:Nat) (h:a ≤ b:=by decide +kernel):a ≤ b:=h
theorem zkW {k:Nat} (hk:k ≤ 40):zcQ [.int k] = .ok (encF (hs k)):=by
  obtain ⟨δ1,h1,o,rfl⟩:=zb6 (b:=zao 2) (m:=zgh) (fun j:Nat=>D.int (1 + (j:Int))) (fun pre δ=>∃ o,δ = [.v (.int k),.v (encF (hs pre.length)),sv o]) (List.range k)
    (by
      rintro pre x post δ hall ⟨o,rfl⟩
      obtain ⟨hx,hxk⟩:=zkB hall
      have b1:=zlm (k:=pre.length) (by omega)
      have pp:=zhM pre.length
      have fx:((1:Int) + (x:Int)).natAbs ≤ 1000:=by omega
      have pl:=zpD (f:=hs pre.length) (g:=(1,1 + (x:Int))) (zlG b1.1) (zlG b1.2) (fitN 1000 (show (1:Int).natAbs ≤ 1000 by decide)) (fitN 1000 fx) pp (by show 0 < 1 + (x:Int); omega)
        (Nat.le_trans (zfu b1.2 fx) (zne _ _))
      refine ⟨[.v (.int k),.v (encF (hs pre.length)),.v (.int (1 + (x:Int)))],[.v (.int k),.v (encF (hs (pre.length + 1))),.v (.int (1 + (x:Int)))],za7 (o:=o) rfl,.inl ?_,some (.int (1 + (x:Int))),by simp⟩
      have e:encF (1,1 + (x:Int)) = .tup [.int 1,.int (1 + (x:Int))]:=rfl
      rw [e] at pl
      have cx:((pre.length + 1:Nat):Int)=1 + (x:Int):=by omega
      have eh:hs (pre.length + 1)=(lo1 ((hs pre.length).1 * (1 + (x:Int)) + 1 * (hs pre.length).2) ((hs pre.length).2 * (1 + (x:Int))),lo2 ((hs pre.length).1 * (1 + (x:Int)) + 1 * (hs pre.length).2) ((hs pre.length).2 * (1 + (x:Int)))):=by rw [hs,cx]
      rw [eh]
      refine zaE (d:=encF (lo1 ((hs pre.length).1 * (1 + (x:Int)) + 1 * (hs pre.length).2) ((hs pre.length).2 * (1 + (x:Int))),lo2 ((hs pre.length).1 * (1 + (x:Int)) + 1 * (hs pre.length).2) ((hs pre.length).2 * (1 + (x:Int))))) ?_ rfl
      simp [zai,zaa,mNil,mVar,mTup,mC,sizeLine,pl])
    [.v (.int k),.v (encF (hs 0)),.no] ⟨none,rfl⟩
  refine zbl ?_
  have l:zgU [.v (.int k),.v (encF (hs 0)),.no] = .nx [.v (.int k),.v (encF (hs k)),sv o]:=by
    refine (zbp (l:=(List.range k).map fun j:Nat=>D.int (1 + (j:Int))) ?_).trans (by rw [h1]; simp)
    have r:=rng2 (a:=1) (b:=(k:Int) + 1) (by omega) (by omega)
    have e:((k:Int) + 1 - 1).toNat=k:=by omega
    rw [e] at r
    simp [mRng,zaa,mNil,mC,mRd,r,zgb]
  have e0:mAsg (mTup (zaa (mC (.int 0)) (zaa (mC (.int 1)) mNil))) (zao 1) [.v (.int k),.no,.no] = .nx [.v (.int k),.v (encF (hs 0)),.no]:=by
    simp [mAsg,mTup,zaa,mNil,mC,sizeLine,zao,encF,hs]
  show mSeq _ _ [.v (.int k),.no,.no]=_
  rw [zal e0,zal l]
  rfl
theorem zpt:∀ (l:List Int) (m:Int),m ≤ maxI l m∧(∀ a ∈ l,a ≤ maxI l m)∧(maxI l m=m∨maxI l m ∈ l):=by
  intro l
  induction l with
  | nil=>intro m; simp [maxI]
  | cons a l ih =>
    intro m
    obtain ⟨h1,h2,h3⟩:=ih (if a > m then a else m)
    rw [maxI]
    generalize maxI l (if a > m then a else m)=z at *
    split at h1
    · rename_i q
      rw [if_pos q] at h3
      refine ⟨by omega,fun b hb=>?_,?_⟩
      · rcases List.mem_cons.mp hb with rfl | hb
        · exact h1
        · exact h2 b hb
      · rcases h3 with h3 | h3
        · exact .inr (by rw [h3]; simp)
        · exact .inr (List.mem_cons_of_mem _ h3)
    · rename_i q
      rw [if_neg q] at h3
      refine ⟨by omega,fun b hb=>?_,?_⟩
      · rcases List.mem_cons.mp hb with rfl | hb
        · omega
        · exact h2 b hb
      · rcases h3 with h3 | h3
        · exact .inl h3
        · exact .inr (List.mem_cons_of_mem _ h3)
theorem zos {n:Nat} (ls:List Nat) (hb:∀ a ∈ ls,a ≤ n):∃ m:Nat,m ≤ n∧zkh [iL (ls.map fun a:Nat=>(a:Int))] (.int 0)=some (.int m)∧(∀ a ∈ ls,a ≤ m):=by
  cases ls with
  | nil=>exact ⟨0,Nat.zero_le _,rfl,by simp⟩
  | cons a l =>
    obtain ⟨h1,h2,h3⟩:=zpt (l.map fun a:Nat=>(a:Int)) (a:Int)
    have e:zkh [iL ((a :: l).map fun a:Nat=>(a:Int))] (.int 0)=some (.int (maxI (l.map fun a:Nat=>(a:Int)) (a:Int))):=by
      show ((asIs ((l.map fun a:Nat=>(a:Int)).map .int)).map _)=_
      rw [zeh]; rfl
    generalize maxI (l.map fun a:Nat=>(a:Int)) (a:Int)=z at *
    have za:=hb a (by simp)
    have zn:z ≤ n:=by
      rcases h3 with h3 | h3
      · omega
      · obtain ⟨c,hc,rfl⟩:=List.mem_map.mp h3
        have:=hb c (List.mem_cons_of_mem _ hc)
        omega
    refine ⟨z.toNat,by omega,?_,fun c hc=>?_⟩
    · rw [e,show ((z.toNat:Nat):Int)=z by omega]
    · rcases List.mem_cons.mp hc with rfl | hc
      · omega
      · have:=h2 (c:Int) (List.mem_map.mpr ⟨c,hc,rfl⟩)
        omega
theorem zib {n:Nat} {sets:List Ps} (ok:SetsOk n sets) (hn:n ≤ 40):∃ m:Nat,m ≤ n∧(∀ s ∈ sets,s.2.length ≤ m)∧zbk [encP sets] = .ok (encF (hs m)):=by
  obtain ⟨m,h1,h2,h3⟩:=zos (n:=n) (sets.map fun s=>s.2.length) (fun a ha=>by
    obtain ⟨s,hs,rfl⟩:=List.mem_map.mp ha
    exact zdr (ok.good s hs))
  refine ⟨m,h1,fun s hs=>h3 _ (List.mem_map.mpr ⟨s,hs,rfl⟩),zbl ?_⟩
  have k:zcK [.v (encP sets)] = .ok (iL ((sets.map fun s=>s.2.length).map fun a:Nat=>(a:Int))):=by
    have few:=ok.few
    refine Eq.trans (za8 (l:=sets.map encS) (r:=sets.map fun s=>.int (s.2.length:Int)) rfl (by simp; omega) ?_) (by simp [iL])
    exact zaZ encS _ sets fun s _=>by simp [zcc,za1,zaJ,mCB,zaa,mNil,mRd,mC,encS]
  show R.toO (zai zcQ (zaa (ziU (zaa zcK mNil) (mC (.int 0))) mNil) [.v (encP sets)]) _ _=_
  simp only [zai,zaa,mNil,ziU,k,mC,R.bind_ok,h2,R.of_some,zkW (show m ≤ 40 by omega),R.nev_ok,R.toO_ok]
structure FrOk (f:Fr):Prop where
  lo:0 ≤ f.1
  hi:f.1 ≤ 1000000000000000000
  pos:0 < f.2
  le:f.2 ≤ 1000
theorem znY {sets:List Ps}:∀ (tk:List (Nat × List Int)) (g:Int→Fr) (p:Nat × List Int),pay sets g (tk ++ [p])=upd (pay sets g tk) p.2 (rate (sets.getD p.1 (0,[])) p.2):=by
  intro tk
  induction tk with
  | nil=>intro g p; rfl
  | cons q tk ih=>intro g p; exact ih _ p
theorem zpB {n:Nat} {s:Ps} {F:List Int} (g:Good n s) (h:0 < F.length) (h2:F.length ≤ 1000):FrOk (rate s F):=by
  have a1:=zi5 (t:=s.1) (b:=(F.length:Int)) (by omega)
  have a2:=ziQ (t:=s.1) (b:=(F.length:Int)) (by omega)
  have a3:=zhj (t:=s.1) (b:=(F.length:Int)) (by omega)
  have a4:=zoP (a:=s.1) (b:=(F.length:Int)) (by omega) g.lo
  have a5:=g.hi
  have a6:=g.lo
  exact ⟨a4,by show lo1 _ _ ≤ _; omega,a3,by show lo2 _ _ ≤ _; omega⟩
theorem zoF {n:Nat} {sets:List Ps} (ok:SetsOk n sets) {L:List Int} {tk:List (Nat × List Int)} (h:Greedy sets L tk):∀ (g:Int→Fr),(∀ t,FrOk (g t))→∀ t,FrOk (pay sets g tk t):=by
  induction h with
  | nil=>intro g hg t; exact hg t
  | cons h1 h2 h3 h4 ih =>
    rename_i L i s tk
    intro g hg t
    have gs:=ok.good s (List.mem_of_getElem? h1)
    have n1:=ok.n1
    have sl:=zma (L:=L) gs
    rw [pay,zl7 h1]
    refine ih _ (fun u=>?_) t
    unfold upd
    split
    · exact zpB gs h2 (by have:(s.2.filter fun t=>decide (t ∈ L)).length=sz L s:=rfl; omega)
    · exact hg u
theorem znL {n:Nat} {f f':Int→D} {t:Int} (ht:t ∈ upto n) (h1:∀ u ∈ upto n,u ≠ t→f' u=f u):((upto n).map f).set t.toNat (f' t)=(upto n).map f':=by
  have h0:=mem_upto.mp ht
  refine List.ext_getElem (by simp) fun k hk hk'=>?_
  simp [zcl] at hk
  have ge:(upto n)[k]'(by rw [zcl]; omega)=(k:Int):=by simp [upto]
  rw [List.getElem_set,List.getElem_map,List.getElem_map,ge]
  split
  · rename_i e
    rw [show (k:Int)=t by omega]
  · rename_i e
    exact (h1 k (mem_upto.mpr (by omega)) (by omega)).symm
end My
namespace My
open PySem L2 PM
def pays (n:Nat) (g:Int→Fr):D:=.lst ((upto n).map fun t=>encF (g t))
def zdJ:Int→Fr:=fun _=>(0,1)
theorem ziM {g:Int→Fr} {pre:List Int} {r:Fr} {t u:Int}:upd g (pre ++ [t]) r u=if u=t then r else upd g pre r u:=by
  unfold upd
  by_cases h1:u=t
  · subst h1; simp
  · by_cases h2:u ∈ pre <;> simp [h1,h2]
theorem zod {n:Nat} {f:Int→D} {t:Int} (ht:t ∈ upto n):ixN ((upto n).map f).length t=some t.toNat:=by
  have h0:=mem_upto.mp ht
  unfold ixN
  rw [List.length_map,zcl,if_pos (by omega),if_pos (by omega)]
theorem znr {n:Nat} {sets:List Ps} (ok:SetsOk n sets) {tk:List (Nat × List Int)} (htk:zc2 [.int n,encP sets] = .ok (.lst (tk.map encT))) (hG:Greedy sets (upto n) tk) :
    zbS [.int n,encP sets] = .ok (pays n (pay sets zdJ tk)):=by
  have n1:=ok.n1
  have hin:∀ p ∈ tk,∃ s,sets[p.1]?=some s∧0 < p.2.length∧p.2.length ≤ n∧∀ t ∈ p.2,t ∈ upto n:=by
    have key:∀ {L tk},Greedy sets L tk→(∀ t ∈ L,t ∈ upto n)→∀ p ∈ tk,∃ s,sets[p.1]?=some s∧0 < p.2.length∧p.2.length ≤ n∧∀ t ∈ p.2,t ∈ upto n:=by
      intro L tk g
      induction g with
      | nil=>intro _ p hp; cases hp
      | cons h1 h2 h3 h4 ih =>
        rename_i L i s tk
        intro hL p hp
        rcases List.mem_cons.mp hp with rfl | hp
        · exact ⟨s,h1,h2,zma (ok.good s (List.mem_of_getElem? h1)),fun t ht=>hL t (by simpa using (List.mem_filter.mp ht).2)⟩
        · exact ih (fun t ht=>hL t (mem_popAll.mp ht).1) p hp
    exact key hG (fun _ h=>h)
  obtain ⟨δ1,h1,o3,o4,o5,o6,rfl⟩:=zb6 (b:=bTup 2 (zaS (zao 3) (zaS (zao 4) bNil))) (m:=zei) encT (fun pre δ=>∃ o3 o4 o5 o6,δ = [.v (.int n),.v (encP sets),.o (pays n (pay sets zdJ pre)),sv o3,sv o4,sv o5,sv o6]) tk
    (by
      rintro pre ⟨i,F⟩ post δ hall ⟨o3,o4,o5,o6,rfl⟩
      obtain ⟨s,hget,hF0,hFn,hFu⟩:=hin (i,F) (by rw [hall]; simp)
      simp only at hget hF0 hFn hFu
      obtain ⟨g,eg⟩:∃ g,g=pay sets zdJ pre:=⟨_,rfl⟩
      rw [← eg]
      have sh:=zha (t:=s.1) (b:=(F.length:Int)) (by omega) (Nat.le_trans (show ((F.length:Int)).natAbs ≤ 1000 by omega) (zne _ _))
      have er:encF (rate s F) = .tup [.int (lo1 s.1 F.length),.int (lo2 s.1 F.length)]:=rfl
      obtain ⟨r,hr⟩:∃ r,r=rate s F:=⟨_,rfl⟩
      rw [← er,← hr] at sh
      obtain ⟨δ2,h2,o6',rfl⟩:=zb6 (b:=zao 6) (m:=zcX) D.int (fun pre δ=>∃ o6,δ = [.v (.int n),.v (encP sets),.o (pays n (upd g pre r)),.v (.int (i:Int)),.v (iL F),.v (encF r),sv o6]) F
        (by
          rintro pre2 t post2 δ hall2 ⟨o6,rfl⟩
          have ht:t ∈ upto n:=hFu t (by rw [hall2]; simp)
          refine ⟨[.v (.int n),.v (encP sets),.o (pays n (upd g pre2 r)),.v (.int (i:Int)),.v (iL F),.v (encF r),.v (.int t)],[.v (.int n),.v (encP sets),.o (pays n (upd g (pre2 ++ [t]) r)),.v (.int (i:Int)),.v (iL F),.v (encF r),.v (.int t)],za7 (o:=o6) rfl,.inl ?_,some (.int t),rfl⟩
          have st:=znL (n:=n) (f:=fun u=>encF (upd g pre2 r u)) (f':=fun u=>encF (upd g (pre2 ++ [t]) r u)) ht (fun u _ hu=>by simp only [ziM,if_neg hu])
          simp only [ziM,if_true] at st
          have ix:=zod (f:=fun u=>encF (upd g pre2 r u)) ht
          simp only [zcX,zn9,pays,mVar,List.getElem?_cons_succ,List.getElem?_cons_zero,R.toO_ok,ix,st,ziM,List.set_cons_succ,List.set_cons_zero])
        [.v (.int n),.v (encP sets),.o (pays n g),.v (.int (i:Int)),.v (iL F),.v (encF r),sv o6] ⟨o6,by
          have:upd g [] r=g:=by funext u; simp [upd]
          rw [this]⟩
      refine ⟨[.v (.int n),.v (encP sets),.o (pays n g),.v (.int (i:Int)),.v (iL F),sv o5,sv o6],[.v (.int n),.v (encP sets),.o (pays n (upd g F r)),.v (.int (i:Int)),.v (iL F),.v (encF r),sv o6'],?_,.inl ?_,some (.int i),some (iL F),some (encF r),o6',?_⟩
      · rcases o3 with _ | o3 <;> rcases o4 with _ | o4 <;> rfl
      · have ix:oIxL (encP sets) (.int (i:Int))=some (encS s):=zng (by rw [List.getElem?_map,hget]; rfl)
        have e1:mAsg (zai zdc (zaa (m2 oIxT (m2 oIxL (mRd 1) (mRd 3)) (mC (.int 0))) (zaa (mCB fLen (zaa (mRd 4) mNil)) mNil))) (zao 5) [.v (.int n),.v (encP sets),.o (pays n g),.v (.int (i:Int)),.v (iL F),sv o5,sv o6] = .nx [.v (.int n),.v (encP sets),.o (pays n g),.v (.int (i:Int)),.v (iL F),.v (encF r),sv o6]:=by
          refine zaE (d:=encF r) ?_ (za7 rfl)
          simp [zai,zaa,mNil,mRd,mC,mCB,ix,encS,sh]
        show mSeq _ _ _=_
        rw [zal e1]
        exact (zbp (l:=F.map .int) (by simp [mItL,mVar])).trans h2
      · rw [znY,← eg,zl7 hget,← hr]; rfl)
    [.v (.int n),.v (encP sets),.o (pays n zdJ),.no,.no,.no,.no] ⟨none,none,none,none,rfl⟩
  refine zcJ ?_
  have k:zdn [.v (.int n),.v (encP sets),.no,.no,.no,.no,.no] = .ok (pays n zdJ):=by
    refine za8 (l:=(upto n).map .int) (by simp [mRng,zaa,mNil,mVar,rngU n1]) (by simp [zcl]; omega) ?_
    exact zaZ D.int _ _ fun t _=>by simp [zcc,za1,zaJ,mTup,zaa,mNil,mC,sizeLine,encF,zdJ]
  have e0:mAsg zdn (bNew 2) [.v (.int n),.v (encP sets),.no,.no,.no,.no,.no] = .nx [.v (.int n),.v (encP sets),.o (pays n zdJ),.no,.no,.no,.no]:=zaE k rfl
  have e1:zez [.v (.int n),.v (encP sets),.o (pays n zdJ),.no,.no,.no,.no] = .nx [.v (.int n),.v (encP sets),.o (pays n (pay sets zdJ tk)),sv o3,sv o4,sv o5,sv o6]:=by
    refine (zbp (l:=tk.map encT) ?_).trans h1
    simp [mItL,zai,zaa,mNil,mVar,htk]
  show mSeq _ _ [.v (.int n),.v (encP sets),.no,.no,.no,.no,.no]=_
  rw [zal e0,zal e1]
  rfl
def ov (f g:Fr):Fr:=(lo1 (f.1 * g.2) (f.2 * g.1),lo2 (f.1 * g.2) (f.2 * g.1))
theorem zkY:∀ t,FrOk (zdJ t):=fun _=>⟨show (0:Int) ≤ 0 by decide,show (0:Int) ≤ 1000000000000000000 by decide,show (0:Int) < 1 by decide,show (1:Int) ≤ 1000 by decide⟩
theorem zj8 {n:Nat} {sets:List Ps} (hc:∀ t ∈ upto n,∃ s ∈ sets,t ∈ s.2) {m:Nat} (hm:∀ s ∈ sets,s.2.length ≤ m) {t:Int} (ht:t ∈ upto n):0 < m:=by
  obtain ⟨s,hs,h⟩:=hc t ht
  have:=hm s hs
  have:=List.length_pos_of_mem h
  omega
theorem zlN {n:Nat} {sets:List Ps} (ok:SetsOk n sets) (hn:n ≤ 40) (hc:∀ t ∈ upto n,∃ s ∈ sets,t ∈ s.2):∃ (tk:List (Nat × List Int)) (m:Nat),zfg [.int n,encP sets] = .ok (iL (tk.map fun p=>(p.1:Int)))∧Greedy sets (upto n) tk∧tk.length ≤ n ∧
    m ≤ n∧(∀ s ∈ sets,s.2.length ≤ m)∧zbk [encP sets] = .ok (encF (hs m))∧zb3 [.int n,encP sets] = .ok (pays n fun t=>ov (pay sets zdJ tk t) (hs m))∧zbS [.int n,encP sets] = .ok (pays n (pay sets zdJ tk)):=by
  obtain ⟨tk,h1,h2,hG,hl⟩:=znP ok hc
  obtain ⟨m,m1,m2,m3⟩:=zib ok hn
  refine ⟨tk,m,h1,hG,hl,m1,m2,m3,zcJ ?_,znr ok h2 hG⟩
  have n1:=ok.n1
  have pd:=znr ok h2 hG
  have e0:mAsg (zai zbk (zaa (mVar 1) mNil)) (zao 2) [.v (.int n),.v (encP sets),.no] = .nx [.v (.int n),.v (encP sets),.v (encF (hs m))]:=by
    refine zaE (d:=encF (hs m)) ?_ rfl
    simp [zai,zaa,mNil,mVar,m3]
  have k:zd6 [.v (.int n),.v (encP sets),.v (encF (hs m))] = .ok (pays n fun t=>ov (pay sets zdJ tk t) (hs m)):=by
    refine za8 (l:=(upto n).map fun t=>encF (pay sets zdJ tk t)) (by simp [mItL,zai,zaa,mNil,mVar,pd,pays]) (by simp [zcl]; omega) ?_
    refine zaZ _ _ _ fun t ht=>?_
    have f:=zoF ok hG zdJ zkY t
    have mp:=zj8 hc m2 ht
    have b:=zlm (k:=m) (by omega)
    have f2:(pay sets zdJ tk t).2.natAbs ≤ 1000:=by have:=f.pos; have:=f.le; omega
    have ove:=zpG (f:=pay sets zdJ tk t) (g:=hs m) (fitN 1000000000000000000 (by have:=f.lo; have:=f.hi; omega)) (fitN 1000 f2) (zlG b.1) (zlG b.2) f.pos (zoG mp) (Nat.le_trans (zfu f2 b.1) (zne _ _))
    simp [zcc,za1,zkk,zaJ,zai,zaa,mNil,mVar,ove,ov]
  show mSeq _ _ [.v (.int n),.v (encP sets),.no]=_
  rw [zal e0]
  show R.toO (zd6 [.v (.int n),.v (encP sets),.v (encF (hs m))]) _ _=_
  rw [k]
  rfl
theorem znn {n:Nat} {sets:List Ps} (ok:SetsOk n sets) (hn:n ≤ 40) (hc:∀ t ∈ upto n,∃ s ∈ sets,t ∈ s.2):∃ (tk:List (Nat × List Int)) (m:Nat),zfg [.int n,encP sets] = .ok (iL (tk.map fun p=>(p.1:Int)))∧Greedy sets (upto n) tk∧tk.length ≤ n ∧
    m ≤ n∧(∀ s ∈ sets,s.2.length ≤ m)∧zbk [encP sets] = .ok (encF (hs m))∧zb3 [.int n,encP sets] = .ok (pays n fun t=>ov (pay sets zdJ tk t) (hs m)):=by
  obtain ⟨tk,m,a1,a2,a3,a4,a5,a6,a7,_⟩:=zlN ok hn hc
  exact ⟨tk,m,a1,a2,a3,a4,a5,a6,a7⟩
end My
namespace My
open PySem L2 PM
abbrev Ln:=Int × Int
def encN (l:Ln):D:=.tup [.int l.1,.int l.2]
def zaM (l:List Ln):D:=.lst (l.map encN)
def upt (n:Nat):List Int:=(List.range n).map fun (k:Nat)=>(k:Int)
theorem mem_upt {n:Nat} {t:Int}:t ∈ upt n ↔ 0 ≤ t∧t < (n:Int):=by
  unfold upt
  rw [List.mem_map]
  constructor
  · rintro ⟨a,h,rfl⟩
    have:=List.mem_range.mp h
    omega
  · rintro ⟨h0,h1⟩
    exact ⟨t.toNat,List.mem_range.mpr (by omega),by omega⟩
theorem zlW {n:Nat}:(upt n).length=n:=by simp [upt]
theorem rngT {n:Nat} (h:n ≤ 1000):rng [.int (n:Int)]=some ((upt n).map .int):=by
  rw [rng1 (by omega) (by omega),Int.toNat_natCast,zkd,upt,List.map_map]; rfl
def gA (L:List Int) (i:Int):Int:=L.getD i.toNat 0
theorem zhC {L:List Int} {i:Int} {x:Int} (h:i.toNat < L.length):gA (L.set i.toNat x) i=x:=by simp [gA,List.getD_eq_getElem?_getD,h]
theorem zf4 {L:List Int} {i j:Int} {x:Int} (h:i.toNat ≠ j.toNat):gA (L.set i.toNat x) j=gA L j:=by simp [gA,List.getD_eq_getElem?_getD,List.getElem?_set_ne h]
theorem zoH {L:List Int} {i:Int} (h:i.toNat < L.length):L[i.toNat]?=some (gA L i):=by simp [gA,List.getD_eq_getElem?_getD,h]
def pay1 (L:List Int) (l:Ln):Int:=if gA L l.2 < gA L l.1 then gA L l.2 else gA L l.1
def low1 (L:List Int) (l:Ln):List Int:=(L.set l.1.toNat (gA L l.1 - pay1 L l)).set l.2.toNat (gA L l.2 - pay1 L l)
def stp (s:List Int × List Int) (l:Ln):List Int × List Int:=(low1 s.1 l,s.2 ++ [pay1 s.1 l])
def runP (ps:List Int) (ls:List Ln):List Int × List Int:=ls.foldl stp (ps,[])
theorem zn5 (ps:List Int) (ls:List Ln) (l:Ln):runP ps (ls ++ [l])=stp (runP ps ls) l:=by simp [runP]
def atP (p:Int) (z:List (Int × Ln)):Int:=(z.map fun x=>if p=x.2.1∨p=x.2.2 then x.1 else 0).sum
structure LnOk (n:Nat) (l:Ln):Prop where
  a0:0 ≤ l.1
  a1:l.1 < n
  b0:0 ≤ l.2
  b1:l.2 < n
  ne:l.1 ≠ l.2
structure PInv (ps:List Int) (pre:List Ln) (s:List Int × List Int):Prop where
  len:s.1.length=ps.length
  plen:s.2.length=pre.length
  nn:∀ i:Int,0 ≤ i→i < ps.length→0 ≤ gA s.1 i∧gA s.1 i ≤ gA ps i
  pnn:∀ x ∈ s.2,0 ≤ x
  left:∀ i:Int,0 ≤ i→i < ps.length→gA s.1 i + atP i (s.2.zip pre)=gA ps i
  done:∀ l ∈ pre,gA s.1 l.1=0∨gA s.1 l.2=0
  ok:∀ l ∈ pre,LnOk ps.length l
theorem zo5 (p:Int) (z y:List (Int × Ln)):atP p (z ++ y)=atP p z + atP p y:=by simp [atP,List.sum_append]
theorem zjp {ps:List Int} {pre:List Ln} {s:List Int × List Int} {l:Ln} (I:PInv ps pre s) (h:LnOk ps.length l):PInv ps (pre ++ [l]) (stp s l):=by
  have hok:=h
  obtain ⟨L,P⟩:=s
  obtain ⟨a,b⟩:=l
  obtain ⟨a0,a1,b0,b1,ne⟩:=h
  have il:=I.len
  dsimp only at a0 a1 b0 b1 ne il
  have ha:a.toNat < L.length:=by omega
  have hb:b.toNat < L.length:=by omega
  have nab:a.toNat ≠ b.toNat:=by omega
  obtain ⟨p,ep⟩:∃ p,p=pay1 L (a,b):=⟨_,rfl⟩
  have na:=I.nn a a0 a1
  have nb:=I.nn b b0 b1
  dsimp only at na nb
  have hp:p=gA L a∧gA L a ≤ gA L b∨p=gA L b∧gA L b ≤ gA L a:=by
    rw [ep]; unfold pay1; dsimp only; split <;> omega
  have ga:gA (low1 L (a,b)) a=gA L a - p:=by
    unfold low1; dsimp only; rw [zf4 (Ne.symm nab),zhC ha,ep]
  have gb:gA (low1 L (a,b)) b=gA L b - p:=by
    unfold low1; dsimp only; rw [zhC (by simpa using hb),ep]
  have gn:∀ i:Int,0 ≤ i→i ≠ a→i ≠ b→gA (low1 L (a,b)) i=gA L i:=fun i h0 h1 h2=>by
    unfold low1; dsimp only; rw [zf4 (by omega),zf4 (by omega)]
  have low:∀ i:Int,0 ≤ i→i < ps.length→0 ≤ gA (low1 L (a,b)) i∧gA (low1 L (a,b)) i ≤ gA L i:=fun i h0 h1=>by
    have ni:=I.nn i h0 h1
    dsimp only at ni
    by_cases e1:i=a
    · subst e1; rw [ga]; omega
    · by_cases e2:i=b
      · subst e2; rw [gb]; omega
      · rw [gn i h0 e1 e2]; omega
  refine ⟨by simp [stp,low1,il],by simp [stp,I.plen],fun i h0 h1=>?_,fun x hx=>?_,fun i h0 h1=>?_,fun l hl=>?_,fun l hl=>(List.mem_append.mp hl).elim (I.ok l) fun h=>by rw [List.mem_singleton.mp h]; exact hok⟩
  · have:=low i h0 h1
    have:=(I.nn i h0 h1).2
    show 0 ≤ gA (low1 L (a,b)) i∧gA (low1 L (a,b)) i ≤ _
    dsimp only at this
    omega
  · rcases List.mem_append.mp hx with h | h
    · exact I.pnn x h
    · rw [List.mem_singleton.mp h]; show 0 ≤ pay1 L (a,b); rw [← ep]; omega
  · have t:gA L i + atP i (P.zip pre)=gA ps i:=I.left i h0 h1
    show gA (low1 L (a,b)) i + atP i ((P ++ [pay1 L (a,b)]).zip (pre ++ [(a,b)]))=_
    have pl:P.length=pre.length:=I.plen
    rw [List.zip_append pl,zo5,← ep]
    have e:atP i ([p].zip [(a,b)])=if i=a∨i=b then p else 0:=by simp [atP]
    rw [e]
    by_cases e1:i=a
    · subst e1; rw [ga,if_pos (.inl rfl)]; omega
    · by_cases e2:i=b
      · subst e2; rw [gb,if_pos (.inr rfl)]; omega
      · rw [gn i h0 e1 e2,if_neg (by omega)]; omega
  · show gA (low1 L (a,b)) l.1=0∨gA (low1 L (a,b)) l.2=0
    rcases List.mem_append.mp hl with h | h
    · have dn:=I.done l h
      dsimp only at dn
      have k:=I.ok l h
      have l1:=low l.1 k.a0 k.a1
      have l2:=low l.2 k.b0 k.b1
      omega
    · rw [List.mem_singleton.mp h]
      show gA (low1 L (a,b)) a=0∨gA (low1 L (a,b)) b=0
      rw [ga,gb]; omega
theorem zhc {ps:List Int} (hps:∀ i:Int,0 ≤ i→i < ps.length→0 ≤ gA ps i):∀ (ls:List Ln),(∀ l ∈ ls,LnOk ps.length l)→PInv ps ls (runP ps ls):=by
  have key:∀ (ls pre:List Ln) (s:List Int × List Int),PInv ps pre s→(∀ l ∈ ls,LnOk ps.length l)→PInv ps (pre ++ ls) (ls.foldl stp s):=by
    intro ls
    induction ls with
    | nil=>intro pre s I _; simpa using I
    | cons l ls ih =>
      intro pre s I h
      have:=ih (pre ++ [l]) (stp s l) (zjp I (h l (by simp))) fun x hx=>h x (by simp [hx])
      simpa using this
  intro ls h
  have:=key ls [] (ps,[]) ⟨rfl,rfl,fun i h0 h1=>⟨hps i h0 h1,Int.le_refl _⟩,fun x hx=>(by cases hx),fun i h0 h1=>(by simp [atP]),fun l hl=>(by cases hl),fun l hl=>(by cases hl)⟩ h
  simpa [runP] using this
theorem zfW {α:Type} {f:D→R (Option D)} (enc:α→D) (p:α→Bool) (g:α→D) (l:List α) (h:∀ x ∈ l,f (enc x) = .ok (if p x=true then some (g x) else none)):zdu f (l.map enc) = .ok ((l.filter p).map g):=by
  induction l with
  | nil=>rfl
  | cons a l ih =>
    have h1:=h a (by simp)
    have h2:=ih fun x hx=>h x (by simp [hx])
    rw [List.map_cons,zdu,h1,R.bind_ok,h2,R.bind_ok]
    by_cases e:p a=true
    · simp [e]
    · simp [e]
theorem zft (ns:List Int):fSum [iL ns]=some (.int ns.sum):=by simp [fSum,iL,zeh]
end My
namespace My
open PySem L2 PM
theorem zhz {L:List Int} {k:Int} (h0:0 ≤ k) (h1:k.toNat < L.length):oIxL (iL L) (.int k)=some (.int (gA L k)) :=
  zdC h0 (by simp [zoH h1])
theorem zkQ {f:Int→Int→Int} {i:Nat} {mi me:En→R D} {δ:En} {L:List Int} {k y:Int} (h:δ[i]?=some (.o (iL L))) (hk:mi δ = .ok (.int k)) (h0:0 ≤ k) (h1:k.toNat < L.length) (hy:me δ = .ok (.int y)) :
    zlA f i mi me δ = .nx (δ.set i (.o (iL (L.set k.toNat (f (gA L k) y))))):=by
  have e1:ixN (L.map D.int).length k=some k.toNat:=by unfold ixN; rw [if_pos h0,if_pos (by rw [List.length_map]; omega)]
  have e2:(L.map D.int)[k.toNat]?=some (.int (gA L k)):=by simp [zoH h1]
  unfold zlA
  rw [h]
  simp only [iL,hk,R.toO_ok,e1,e2,hy]
  rw [← List.map_set]
theorem ziB {i:Nat} {me:En→R D} {δ:En} {L:List Int} {y:Int} (h:δ[i]?=some (.o (iL L))) (hy:me δ = .ok (.int y)) (hl:L.length ≤ 100000):zdh i me δ = .nx (δ.set i (.o (iL (L ++ [y])))):=by
  unfold zdh
  rw [h]
  simp only [iL,hy,R.toO_ok]
  rw [zbE (by rw [List.length_map]; exact Nat.lt_of_le_of_lt hl (by decide))]
  simp
theorem zj1 {ps:List Int} {ls:List Ln} (hps:∀ i:Int,0 ≤ i→i < ps.length→0 ≤ gA ps i) (hl:∀ l ∈ ls,LnOk ps.length l) (hn:ls.length ≤ 100):zek [iL ps,zaM ls] = .ok (.tup [iL (runP ps ls).2,iL (runP ps ls).1]):=by
  obtain ⟨δ,h1,o4,o5,o6,rfl⟩:=zb6 (b:=bTup 2 (zaS (zao 4) (zaS (zao 5) bNil))) (m:=zgD) encN (fun pre δ=>∃ o4 o5 o6,δ = [.v (iL ps),.v (zaM ls),.o (iL (runP ps pre).1),.o (iL (runP ps pre).2),sv o4,sv o5,sv o6]) ls
    (by
      rintro pre l post δ hall ⟨o4,o5,o6,rfl⟩
      have ok:=hl l (by rw [hall]; simp)
      have I:=zhc hps pre (fun x hx=>hl x (by rw [hall]; simp [hx]))
      obtain ⟨L,P,e⟩:∃ L P,runP ps pre=(L,P):=⟨_,_,rfl⟩
      rw [e] at I
      rw [e]
      dsimp only
      have il:L.length=ps.length:=I.len
      have pl:P.length=pre.length:=I.plen
      have pn:pre.length ≤ 100:=by rw [hall] at hn; simp at hn; omega
      obtain ⟨a,b⟩:=l
      obtain ⟨a0,a1,b0,b1,ne⟩:=ok
      dsimp only at a0 a1 b0 b1 ne
      refine ⟨[.v (iL ps),.v (zaM ls),.o (iL L),.o (iL P),.v (.int a),.v (.int b),sv o6],[.v (iL ps),.v (zaM ls),.o (iL (low1 L (a,b))),.o (iL (P ++ [pay1 L (a,b)])),.v (.int a),.v (.int b),.v (.int (pay1 L (a,b)))],?_,.inl ?_,some _,some _,some _,by rw [zn5,e]; rfl⟩
      · rcases o4 with _ | o4 <;> rcases o5 with _ | o5 <;> rfl
      · have ha:a.toNat < L.length:=by omega
        have hb:b.toNat < L.length:=by omega
        have q1:mAsg (mCB zl5 (zaa (m2 oIxL (mRd 2) (mRd 4)) (zaa (m2 oIxL (mRd 2) (mRd 5)) mNil))) (zao 6) [.v (iL ps),.v (zaM ls),.o (iL L),.o (iL P),.v (.int a),.v (.int b),sv o6] = .nx [.v (iL ps),.v (zaM ls),.o (iL L),.o (iL P),.v (.int a),.v (.int b),.v (.int (pay1 L (a,b)))]:=by
          refine zaE (d:=.int (pay1 L (a,b))) ?_ (by rcases o6 with _ | o6 <;> rfl)
          simp [mCB,zaa,mNil,mRd,zhz a0 ha,zhz b0 hb,zl5,pay1]
        have q2:=zkQ (f:=fun i j=>i - j) (i:=2) (mi:=mVar 4) (me:=mVar 6) (δ:=[.v (iL ps),.v (zaM ls),.o (iL L),.o (iL P),.v (.int a),.v (.int b),.v (.int (pay1 L (a,b)))]) rfl rfl a0 ha rfl
        have q3:=zkQ (f:=fun i j=>i - j) (i:=2) (mi:=mVar 5) (me:=mVar 6) (δ:=[.v (iL ps),.v (zaM ls),.o (iL (L.set a.toNat (gA L a - pay1 L (a,b)))),.o (iL P),.v (.int a),.v (.int b),.v (.int (pay1 L (a,b)))]) rfl rfl b0 (by simpa using hb) rfl
        rw [zf4 (by omega)] at q3
        have q4:=ziB (i:=3) (me:=mVar 6) (δ:=[.v (iL ps),.v (zaM ls),.o (iL (low1 L (a,b))),.o (iL P),.v (.int a),.v (.int b),.v (.int (pay1 L (a,b)))]) rfl rfl (by omega)
        unfold zgD
        exact (zal q1).trans ((zal q2).trans ((zal q3).trans q4)))
    [.v (iL ps),.v (zaM ls),.o (iL ps),.o (iL []),.no,.no,.no] ⟨none,none,none,rfl⟩
  refine zbl ?_
  show mSeq _ _ [.v (iL ps),.v (zaM ls),.no,.no,.no,.no,.no]=_
  have q1:mAsg (mCB zdI (zaa (mRd 0) mNil)) (bNew 2) [.v (iL ps),.v (zaM ls),.no,.no,.no,.no,.no] = .nx [.v (iL ps),.v (zaM ls),.o (iL ps),.no,.no,.no,.no]:=zaE (d:=iL ps) rfl rfl
  have q2:mAsg (mLst mNil) (bNew 3) [.v (iL ps),.v (zaM ls),.o (iL ps),.no,.no,.no,.no] = .nx [.v (iL ps),.v (zaM ls),.o (iL ps),.o (iL []),.no,.no,.no]:=zaE (d:=iL []) (by simp [mLst,mNil,iL,sizeLine]) rfl
  have q3:zjn [.v (iL ps),.v (zaM ls),.o (iL ps),.o (iL []),.no,.no,.no] = .nx [.v (iL ps),.v (zaM ls),.o (iL (runP ps ls).1),.o (iL (runP ps ls).2),sv o4,sv o5,sv o6]:=(zbp (by simp [mItL,mVar,zaM])).trans h1
  refine (zal q1).trans ((zal q2).trans ((zal q3).trans ?_))
  simp [mFrz,mRet,mTup,zaa,mNil,mVar,sizeLine]
def insE (E:List Int) (a:Int):List Int:=if a ∈ E then E else E ++ [a]
def zd0 (ls:List Ln):List Int:=ls.foldl (fun E l=>insE (insE E l.1) l.2) []
theorem zlB (ls:List Ln) (l:Ln):zd0 (ls ++ [l])=insE (insE (zd0 ls) l.1) l.2:=by simp [zd0]
theorem zjj {E:List Int} {a:Int}:(insE E a).length ≤ E.length + 1:=by unfold insE; split <;> simp
theorem zlR (ls:List Ln):(zd0 ls).length ≤ 2 * ls.length:=by
  have key:∀ (ls:List Ln) (E:List Int),(ls.foldl (fun E l=>insE (insE E l.1) l.2) E).length ≤ E.length + 2 * ls.length:=by
    intro ls
    induction ls with
    | nil=>intro E; simp
    | cons l ls ih =>
      intro E
      have h1:=ih (insE (insE E l.1) l.2)
      have h2:=zjj (E:=E) (a:=l.1)
      have h3:=zjj (E:=insE E l.1) (a:=l.2)
      simp only [List.foldl_cons,List.length_cons]; omega
  have:=key ls []
  simpa [zd0] using this
def tch (ps:List Int) (ls:List Ln):List Int:=(upt ps.length).filter fun p=>decide (p ∈ zd0 ls∧gA (runP ps ls).1 p=0)
theorem zkg {ps:List Int} {ls:List Ln} (hps:∀ i:Int,0 ≤ i→i < ps.length→0 ≤ gA ps i) (hl:∀ l ∈ ls,LnOk ps.length l) (hn:ls.length ≤ 100) (hm:ps.length ≤ 100):zdP [iL ps,zaM ls] = .ok (iL (tch ps ls)):=by
  have I:=zhc hps ls hl
  obtain ⟨L,eL⟩:∃ L,L=(runP ps ls).1:=⟨_,rfl⟩
  have il:L.length=ps.length:=by rw [eL]; exact I.len
  obtain ⟨δ,h1,o4,o5,rfl⟩:=zb6 (b:=bTup 2 (zaS (zao 4) (zaS (zao 5) bNil))) (m:=zfm) encN (fun pre δ=>∃ o4 o5,δ = [.v (iL ps),.v (zaM ls),.v (iL L),.o (dk (zd0 pre)),sv o4,sv o5]) ls
    (by
      rintro pre l post δ hall ⟨o4,o5,rfl⟩
      have pn:pre.length ≤ 100:=by rw [hall] at hn; simp at hn; omega
      have en:=zlR pre
      have e1:=zjj (E:=zd0 pre) (a:=l.1)
      refine ⟨[.v (iL ps),.v (zaM ls),.v (iL L),.o (dk (zd0 pre)),.v (.int l.1),.v (.int l.2)],[.v (iL ps),.v (zaM ls),.v (iL L),.o (dk (insE (insE (zd0 pre) l.1) l.2)),.v (.int l.1),.v (.int l.2)],?_,.inl ?_,some _,some _,by rw [zlB]; rfl⟩
      · rcases o4 with _ | o4 <;> rcases o5 with _ | o5 <;> rfl
      · have q1:=ziO (i:=3) (mk:=mVar 4) (me:=mC (.bl true)) (δ:=[.v (iL ps),.v (zaM ls),.v (iL L),.o (dk (zd0 pre)),.v (.int l.1),.v (.int l.2)]) (t:=l.1) rfl rfl rfl (by omega)
        have q2:=ziO (i:=3) (mk:=mVar 5) (me:=mC (.bl true)) (δ:=[.v (iL ps),.v (zaM ls),.v (iL L),.o (dk (insE (zd0 pre) l.1)),.v (.int l.1),.v (.int l.2)]) (t:=l.2) rfl rfl rfl (by omega)
        unfold zfm
        exact (zal q1).trans q2)
    [.v (iL ps),.v (zaM ls),.v (iL L),.o (dk []),.no,.no] ⟨none,none,rfl⟩
  refine zcJ ?_
  show mSeq _ _ [.v (iL ps),.v (zaM ls),.no,.no,.no,.no]=_
  have q1:mAsg (m2 oIxT (zai zek (zaa (mVar 0) (zaa (mVar 1) mNil))) (mC (.int 1))) (zao 2) [.v (iL ps),.v (zaM ls),.no,.no,.no,.no] = .nx [.v (iL ps),.v (zaM ls),.v (iL L),.no,.no,.no]:=by
    refine zaE (d:=iL L) ?_ rfl
    simp [zai,zaa,mNil,mVar,mC,zj1 hps hl hn,eL]
  have q2:mAsg (mC (.dct [] [])) (bNew 3) [.v (iL ps),.v (zaM ls),.v (iL L),.no,.no,.no] = .nx [.v (iL ps),.v (zaM ls),.v (iL L),.o (dk []),.no,.no]:=rfl
  have q3:zhg [.v (iL ps),.v (zaM ls),.v (iL L),.o (dk []),.no,.no] = .nx [.v (iL ps),.v (zaM ls),.v (iL L),.o (dk (zd0 ls)),sv o4,sv o5]:=(zbp (by simp [mItL,mVar,zaM])).trans h1
  have q4:zhR [.v (iL ps),.v (zaM ls),.v (iL L),.o (dk (zd0 ls)),sv o4,sv o5] = .ok (iL (tch ps ls)):=by
    refine za8 (l:=(upt ps.length).map .int) (by simp [mRng,zaa,mNil,mCB,mRd,rngT (show ps.length ≤ 1000 by omega)]) (by rw [List.length_map,zlW]; omega) ?_
    refine zeW .int _ _ fun t ht=>?_
    have ht':=mem_upt.mp ht
    have ix:=zhz (L:=L) (k:=t) ht'.1 (by omega)
    simp [zcc,za1,zkk,zaJ,zan,mVar,mRd,mC,mAnd,ix]
    by_cases z1:t ∈ zd0 ls <;> by_cases z2:gA L t=0 <;> simp [z1,z2,← eL]
  refine (zal q1).trans ((zal q2).trans ((zal q3).trans ?_))
  simp [zcP,q4]
theorem zh2 {ps:List Int} {ls:List Ln} (hps:∀ i:Int,0 ≤ i→i < ps.length→0 ≤ gA ps i) (hl:∀ l ∈ ls,LnOk ps.length l) (hn:ls.length ≤ 100):zcB [iL ps,zaM ls] = .ok (iL (runP ps ls).2):=by
  refine zbl ?_
  show mRet _ [.v (iL ps),.v (zaM ls)]=_
  simp [mRet,zai,zaa,mNil,mVar,mC,zj1 hps hl hn]
end My
namespace My
open PySem L2 PM
theorem p20:oPow (.int 10) (.int 20)=some (.int 100000000000000000000):=zoy ⟨by decide,by decide,by decide⟩
theorem p18:oPow (.int 10) (.int 18)=some (.int 1000000000000000000):=zoy ⟨by decide,by decide,by decide⟩
theorem zfv (ns:List Int) (k:Nat):zaF [.scr ns,.int k] = .ok (.int (ns.getD k 0)):=by
  by_cases h:k < ns.length
  · have e:oIxL (.scr ns) (.int (k:Int))=some (.int (ns.getD k 0)):=by
      show (atI ns (k:Int)).map D.int=_
      rw [atI_nat (d:=ns.getD k 0) (by simp [h,List.getD_eq_getElem?_getD])]; rfl
    simp [zaF,runF,zcY,zdM,mSeq,mIfS,zan,mRet,mRd,mC,mCB,zaa,mNil,fLen,h,e]
  · have e:ns.getD k 0=0:=by simp [List.getD_eq_getElem?_getD,List.getElem?_eq_none_iff.mpr (Nat.le_of_not_lt h)]
    rw [e]
    simp [zaF,runF,zcY,zdM,mSeq,mIfS,zan,mRet,mRd,mC,mCB,zaa,mNil,fLen,h,zaX]
theorem zhk (ns:List Int) {k:Int} (h:0 ≤ k):zaF [.scr ns,.int k] = .ok (.int (ns.getD k.toNat 0)):=by
  have:=zfv ns k.toNat
  rwa [show ((k.toNat:Nat):Int)=k by omega] at this
theorem zbH {m n:En→O} {δ:En} {d:D} (h:m δ = .rt d):mSeq m n δ = .rt d:=by unfold mSeq; rw [h]
theorem zkc {i:Nat} {me:En→R D} {δ:En} {l:List D} {d:D} (h:δ[i]?=some (.o (.lst l))) (hy:me δ = .ok d) (hl:l.length ≤ 100000):zdh i me δ = .nx (δ.set i (.o (.lst (l ++ [d])))):=by
  unfold zdh
  rw [h]
  simp only [hy,R.toO_ok]
  rw [zbE (Nat.lt_of_le_of_lt hl (by decide))]
theorem zd8 (a:Int) {b:Int} (h:0 < b):0 ≤ a % b:=Int.emod_nonneg _ (by omega)
theorem zeb (a:Int) {b:Int} (h:0 < b):a % b < b:=Int.emod_lt_of_pos _ h
end My
namespace My
open PySem L2 PM
def okU (l:List Int) (c:Int):Bool:=decide ((∀ q ∈ l,0 ≤ q∧q < c)∧l.Nodup)
theorem zoa {l:List Int}:(uniq l).length=l.length ↔ l.Nodup:=by
  have key:∀ (l acc:List Int),acc.Nodup→(l.foldl PyProof.Rows.step_dedup acc).length ≤ acc.length + l.length∧((l.foldl PyProof.Rows.step_dedup acc).length=acc.length + l.length ↔ (acc ++ l).Nodup):=by
    intro l
    induction l with
    | nil=>intro acc h; exact ⟨Nat.le_refl _,by simpa using h⟩
    | cons a l ih =>
      intro acc h
      by_cases ha:a ∈ acc
      · have e:PyProof.Rows.step_dedup acc a=acc:=by simp [PyProof.Rows.step_dedup,ha]
        rw [List.foldl_cons,e]
        obtain ⟨h1,_⟩:=ih acc h
        refine ⟨by simp; omega,fun z=>?_,fun z=>?_⟩
        · simp at z; omega
        · rw [List.nodup_append] at z
          exact absurd rfl (z.2.2 a ha a (by simp))
      · have e:PyProof.Rows.step_dedup acc a=acc ++ [a]:=by simp [PyProof.Rows.step_dedup,ha]
        rw [List.foldl_cons,e]
        have nd:(acc ++ [a]).Nodup:=by
          rw [List.nodup_append]
          exact ⟨h,by simp,fun x hx y hy exy=>ha (by rw [← List.mem_singleton.mp hy,← exy]; exact hx)⟩
        obtain ⟨h1,h2⟩:=ih (acc ++ [a]) nd
        rw [List.length_append] at h1 h2
        have ea:acc ++ a :: l=acc ++ [a] ++ l:=by simp
        refine ⟨by simp at h1 ⊢; omega,?_⟩
        rw [ea,← h2]
        simp only [List.length_cons,List.length_nil]
        omega
  have:=(key l [] (by simp)).2
  simpa [uniq] using this
theorem zjR {l:List Int} {c:Int} (hl:l.length ≤ 1000):zc8 [iL l,.int c] = .ok (.bl (decide (∀ q ∈ l,0 ≤ q∧q < c))):=by
  have k:zgM [.v (iL l),.v (.int c)] = .ok (.lst ((l.map fun q=>decide (0 ≤ q∧q < c)).map .bl)):=by
    refine za8 (l:=l.map .int) (by simp [mItL,mRd]) (by rw [List.length_map]; omega) ?_
    rw [List.map_map]
    refine zaZ .int _ _ fun q _=>?_
    have e:za1 [.v (iL l),.v (.int c)] [1] 1 = [.v (.int c),.no]:=rfl
    rw [e]
    by_cases h0:0 ≤ q
    · by_cases h1:q < c
      · simp [zcc,zaJ,zjx,mC,mRd,h0,h1]
      · simp [zcc,zaJ,zjx,mC,mRd,h0,h1]
    · simp [zcc,zaJ,zjx,mC,mRd,h0]
  have fa:fAll [.lst ((l.map fun q=>decide (0 ≤ q∧q < c)).map .bl)]=some (.bl (decide (∀ q ∈ l,0 ≤ q∧q < c))):=by
    simp only [fAll,zk7,Option.map_some]
    congr 2
    rw [List.all_map]
    apply Bool.eq_iff_iff.mpr
    simp
  refine zbl ?_
  show mRet _ [.v (iL l),.v (.int c)]=_
  simp only [mRet,mCB,zaa,mNil,k,R.bind_ok,fa,R.of_some]; rfl
theorem zfb {l:List Int} {c:Int} (hl:l.length ≤ 1000):zby [iL l,.int c] = .ok (.bl (okU l c)):=by
  have ls:zfc [iL l]=some (.int (uniq l).length):=by
    unfold zfc iL
    simp only [zeh,Option.bind]
    rw [zbE (by omega)]
  have ab:=zjR (c:=c) hl
  refine zbl ?_
  show mRet _ [.v (iL l),.v (.int c)]=_
  have a1:zai zc8 (zaa (mVar 0) (zaa (mVar 1) mNil)) [.v (iL l),.v (.int c)] = .ok (.bl (decide (∀ q ∈ l,0 ≤ q∧q < c))):=by simp [zai,zaa,mNil,mVar,ab]
  have a2:m2 oEq (mCB zfc (zaa (mRd 0) mNil)) (mCB fLen (zaa (mRd 0) mNil)) [.v (iL l),.v (.int c)] = .ok (.bl (decide (l.Nodup))):=by
    simp only [zcg,mCB,zaa,mNil,mRd,List.getElem?_cons_zero,R.bind_ok,ls,zkO,R.of_some]
    have:oEq (.int ((uniq l).length:Int)) (.int (l.length:Int))=some (.bl (decide (((uniq l).length:Int)=l.length))):=by simp
    rw [this,R.of_some]
    congr 2
    apply decide_eq_decide.mpr
    rw [← zoa]
    omega
  unfold okU
  by_cases c1:∀ q ∈ l,0 ≤ q∧q < c
  · rw [decide_eq_true c1] at a1
    have e:decide ((∀ q ∈ l,0 ≤ q∧q < c)∧l.Nodup)=decide l.Nodup:=decide_eq_decide.mpr ⟨fun z=>z.2,fun z=>⟨c1,z⟩⟩
    rw [e]
    simp only [mRet,ziJ,a1,a2,R.bind_ok]; rfl
  · rw [decide_eq_false c1] at a1
    simp only [mRet,ziJ,a1,R.bind_ok]
    rw [decide_eq_false (fun z=>c1 z.1)]; rfl
theorem zgm {l:List Int} {c:Int} (hl:l.length ≤ 1000):zbX [iL l,.int c] = .ok (.bl (okU l c)):=by
  obtain ⟨A,eA⟩:∃ A,A=iL l:=⟨_,rfl⟩
  have key:∀ (post pre:List Int) (o3:Option D),l=pre ++ post→(∀ q ∈ pre,0 ≤ q∧q < c)→pre.Nodup →
      (okU l c=true→∃ p3:Option D,zcI (zao 3) zb2 (post.map .int) [.v A,.v (.int c),.o (iL pre),sv o3] = .nx [.v A,.v (.int c),.o (iL l),sv p3]) ∧
      (okU l c=false→zcI (zao 3) zb2 (post.map .int) [.v A,.v (.int c),.o (iL pre),sv o3] = .rt (.bl false)):=by
    intro post
    induction post with
    | nil =>
      intro pre o3 e hr hn
      rw [List.append_nil] at e
      subst e
      refine ⟨fun _=>⟨o3,rfl⟩,fun z=>?_⟩
      have:okU l c=true:=decide_eq_true ⟨hr,hn⟩
      rw [this] at z; cases z
    | cons q post ih =>
      intro pre o3 e hr hn
      have pl:pre.length ≤ 1000:=by
        have:=congrArg List.length e
        simp only [List.length_append,List.length_cons] at this
        omega
      rw [List.map_cons]
      unfold zcI
      have b1:zao 3 (.int q) [.v A,.v (.int c),.o (iL pre),sv o3]=some [.v A,.v (.int c),.o (iL pre),.v (.int q)]:=za7 rfl
      rw [b1]
      by_cases bad:q < 0∨c ≤ q∨q ∈ pre
      · have bd:zb2 [.v A,.v (.int c),.o (iL pre),.v (.int q)] = .rt (.bl false):=by
          unfold zb2 mSeq
          rw [zbj]
          · rfl
          · by_cases c1:q < 0
            · simp [mOr,zan,mRd,mC,c1]
            · by_cases c2:c ≤ q
              · simp [mOr,zan,mRd,mC,c1,c2]
              · have c3:q ∈ pre:=by rcases bad with z | z | z; exact absurd z c1; exact absurd z c2; exact z
                simp [mOr,zan,mRd,mC,c1,c2,oIn,iL,zeh,c3]
        simp only [bd]
        refine ⟨fun z=>?_,fun _=>trivial⟩
        exfalso
        obtain ⟨z1,z2⟩:=of_decide_eq_true z
        have qm:=z1 q (by rw [e]; simp)
        rcases bad with w | w | w
        · omega
        · omega
        · rw [e,List.nodup_append] at z2
          exact z2.2.2 q w q (by simp) rfl
      · have c1:¬ q < 0:=fun z=>bad (.inl z)
        have c2:¬ c ≤ q:=fun z=>bad (.inr (.inl z))
        have c3:q ∉ pre:=fun z=>bad (.inr (.inr z))
        have bd:zb2 [.v A,.v (.int c),.o (iL pre),.v (.int q)] = .nx [.v A,.v (.int c),.o (iL (pre ++ [q])),.v (.int q)]:=by
          have q1:mIfS (mOr (zan (m2 oLt (mRd 3) (mC (.int 0)))) (mOr (zan (m2 oGe (mRd 3) (mRd 1))) (zan (m2 oIn (mRd 3) (mRd 2))))) (mRet (mC (.bl false))) zaX [.v A,.v (.int c),.o (iL pre),.v (.int q)] = .nx [.v A,.v (.int c),.o (iL pre),.v (.int q)]:=by
            rw [zbb (by simp [mOr,zan,mRd,mC,c1,c2,oIn,iL,zeh,c3])]; rfl
          exact (zal q1).trans (ziB (i:=2) (L:=pre) (y:=q) rfl rfl (by omega))
        simp only [bd]
        exact ih (pre ++ [q]) (some (.int q)) (by rw [e]; simp) (fun x hx=>by
          rcases List.mem_append.mp hx with z | z
          · exact hr x z
          · rw [List.mem_singleton.mp z]; omega) (by
          rw [List.nodup_append]
          exact ⟨hn,by simp,fun x hx y hy exy=>c3 (by rw [← List.mem_singleton.mp hy,← exy]; exact hx)⟩)
  obtain ⟨k1,k2⟩:=key l [] none rfl (fun _ h=>by cases h) (by simp)
  refine zbl ?_
  rw [← eA]
  show mSeq _ _ [.v A,.v (.int c),.no,.no]=_
  have q1:mAsg (mLst mNil) (bNew 2) [.v A,.v (.int c),.no,.no] = .nx [.v A,.v (.int c),.o (iL []),sv none]:=zaE (d:=iL []) (by simp [mLst,mNil,iL,sizeLine]) rfl
  have f:zgi [.v A,.v (.int c),.o (iL []),sv none]=zcI (zao 3) zb2 (l.map .int) [.v A,.v (.int c),.o (iL []),sv none]:=zbp (by rw [eA]; rfl)
  refine (zal q1).trans ?_
  cases z:okU l c with
  | true =>
    obtain ⟨p3,h⟩:=k1 z
    exact (zal (f.trans h)).trans rfl
  | false =>
    have h:=k2 z
    unfold mSeq
    rw [f,h]
end My
namespace My
open PySem L2 PM
theorem zlw {a b:Int} (ha:0 ≤ a) (hb:0 ≤ b):zcy [.int a,.int b] = .ok (.int (Int.gcd a b)):=by
  let env:Nat × Nat→En:=fun p=>[.v (.int (p.1:Int)),.v (.int (p.2:Int))]
  obtain ⟨⟨x,y⟩,h1,h2,h3,_⟩:=zjz (c:=zd2) (m:=zd1) env (fun p=>decide (0 < p.2)) (fun p=>(p.2,p.1 % p.2)) (fun p=>Nat.gcd p.1 p.2=Int.gcd a b) (fun p=>p.2)
    (fun p _=>by
      simp only [env,zd2,zan,zcg,mRd,mC,List.getElem?_cons_succ,List.getElem?_cons_zero,R.bind_ok,zlL,R.of_some,zff]
      congr 1
      exact decide_eq_decide.mpr (by omega))
    (fun p hp hg=>by
      have hy:0 < p.2:=by simpa using hg
      refine ⟨?_,?_,Nat.mod_lt _ hy⟩
      · simp only [env,zd1,mPar,zaa,mNil,mVar,zcg,mRd,List.getElem?_cons_succ,List.getElem?_cons_zero,R.bind_ok,zbn (show (0:Int) < p.2 by omega),R.of_some,R.toO_ok]
        rw [← Int.natCast_emod]; rfl
      · show Nat.gcd p.2 (p.1 % p.2)=_
        rw [← hp,Nat.gcd_comm p.2,← Nat.gcd_rec,Nat.gcd_comm])
    (a.toNat,b.toNat) (by
      show Nat.gcd a.toNat b.toNat=Nat.gcd a.natAbs b.natAbs
      rw [show a.natAbs=a.toNat by omega,show b.natAbs=b.toNat by omega])
  have y0:y=0:=by
    have:¬ 0 < y:=by simpa using h2
    omega
  subst y0
  have ex:(x:Int)=Int.gcd a b:=by
    have:Nat.gcd x 0=Int.gcd a b:=h1
    rw [Nat.gcd_zero_right] at this
    omega
  refine zbl ?_
  have e3:zfE [.v (.int a),.v (.int b)] = .nx [.v (.int (x:Int)),.v (.int 0)]:=by
    have:=h3
    simp only [env] at this
    rw [show (a.toNat:Int)=a by omega,show (b.toNat:Int)=b by omega] at this
    exact this
  show mSeq _ _ [.v (.int a),.v (.int b)]=_
  rw [zal e3,ex]; rfl
theorem znR {A:D} {t b a u:Int} {o3 o4 o5:Option D} (hb:0 < b) (hu:0 < u) (ft:Fit t) (fb:Fit b) (fa:Fit a) (fu:Fit u) (ff:b * u ≤ 10 ^ 2000) :
    zfJ [.v A,.v (.int t),.v (.int b),.v (.int a),.v (.int u),sv o5] = .nx [.v A,.v (.int (lo1 (t * u + a * b) (b * u))),.v (.int (lo2 (t * u + a * b) (b * u))),.v (.int a),.v (.int u),.v (.int (Int.gcd (t * u + a * b) (b * u)))]:=by
  have bu:0 < b * u:=Int.mul_pos hb hu
  have g:=zd4 (t:=t * u + a * b) bu
  have gl:((Int.gcd (t * u + a * b) (b * u):Nat):Int) ≤ b * u:=Int.le_of_dvd bu (Int.gcd_dvd_right ..)
  have fg:Fit (Int.gcd (t * u + a * b) (b * u)):=fitN (10 ^ 2000) (by omega)
  have q1:mPar 1 2 (zaa (m2 oAdd (m2 oMul (mRd 1) (mRd 4)) (m2 oMul (mRd 3) (mRd 2))) (zaa (m2 oMul (mRd 2) (mRd 4)) mNil)) [.v A,.v (.int t),.v (.int b),.v (.int a),.v (.int u),sv o5] = .nx [.v A,.v (.int (t * u + a * b)),.v (.int (b * u)),.v (.int a),.v (.int u),sv o5]:=by
    simp only [mPar,zaa,mNil,zcg,mRd,List.getElem?_cons_succ,List.getElem?_cons_zero,R.bind_ok,zcd ft fu,zcd fa fb,zcd fb fu,zle,R.of_some,R.toO_ok]; rfl
  have dv:=zlw (a:=((t * u + a * b).natAbs:Int)) (b:=b * u) (by omega) (Int.le_of_lt bu)
  have eg:Int.gcd ((t * u + a * b).natAbs:Int) (b * u)=Int.gcd (t * u + a * b) (b * u):=by unfold Int.gcd; rw [Int.natAbs_natCast]
  rw [eg] at dv
  have ab:fAbs [.int (t * u + a * b)]=some (.int ((t * u + a * b).natAbs:Int)):=by
    show some (D.int (if t * u + a * b < 0 then -(t * u + a * b) else t * u + a * b))=_
    congr 2
    split <;> omega
  have q2:mAsg (zai zcy (zaa (mCB fAbs (zaa (mRd 1) mNil)) (zaa (mVar 2) mNil))) (zao 5) [.v A,.v (.int (t * u + a * b)),.v (.int (b * u)),.v (.int a),.v (.int u),sv o5] = .nx [.v A,.v (.int (t * u + a * b)),.v (.int (b * u)),.v (.int a),.v (.int u),.v (.int (Int.gcd (t * u + a * b) (b * u)))]:=by
    refine zaE (d:=.int (Int.gcd (t * u + a * b) (b * u))) ?_ (za7 rfl)
    simp only [zai,zaa,mNil,mCB,mRd,mVar,List.getElem?_cons_succ,List.getElem?_cons_zero,R.bind_ok,ab,R.of_some,dv]; rfl
  refine (zal q1).trans ((zal q2).trans ?_)
  simp only [mPar,zaa,mNil,zcg,mRd,List.getElem?_cons_succ,List.getElem?_cons_zero,R.bind_ok,zca g fg,R.of_some,R.toO_ok]; rfl
def adF (f p:Fr):Fr:=(lo1 (f.1 * p.2 + p.1 * f.2) (f.2 * p.2),lo2 (f.1 * p.2 + p.1 * f.2) (f.2 * p.2))
structure FrB (M:Nat) (f:Fr):Prop where
  t:f.1.natAbs ≤ M
  b:f.2.natAbs ≤ M
  g0:0 < f.2
theorem zoo {M K:Nat} {f p:Fr} (hf:FrB M f) (hp:FrB K p):FrB (2 * (M * K)) (adF f p):=by
  have bu:0 < f.2 * p.2:=Int.mul_pos hf.g0 hp.g0
  have h1:(f.1 * p.2).natAbs ≤ M * K:=by rw [Int.natAbs_mul]; exact Nat.mul_le_mul hf.t hp.b
  have h2:(p.1 * f.2).natAbs ≤ M * K:=by rw [Int.natAbs_mul,Nat.mul_comm]; exact Nat.mul_le_mul hf.b hp.t
  have h3:(f.2 * p.2).natAbs ≤ M * K:=by rw [Int.natAbs_mul]; exact Nat.mul_le_mul hf.b hp.b
  have h4:(f.1 * p.2 + p.1 * f.2).natAbs ≤ 2 * (M * K):=Nat.le_trans (Int.natAbs_add_le _ _) (by omega)
  exact ⟨Nat.le_trans (zi5 bu) h4,Nat.le_trans (ziQ bu) (by omega),zhj bu⟩
theorem frb1:FrB 1 ((0:Int),(1:Int)):=⟨by decide,by decide,by decide⟩
theorem zgz {K:Nat} (hK:K ≤ 10 ^ 76) (ps:List Fr) (hl:ps.length ≤ 14) (hp:∀ p ∈ ps,FrB K p):zbs [.lst (ps.map encF)] = .ok (encF (ps.foldl adF (0,1))):=by
  obtain ⟨A,eA⟩:∃ A,A=D.lst (ps.map encF):=⟨_,rfl⟩
  have hp':∀ p ∈ ps,FrB (10 ^ 76) p:=fun p h=>⟨Nat.le_trans (hp p h).t hK,Nat.le_trans (hp p h).b hK,(hp p h).g0⟩
  have run:∀ (qs:List Fr) (f:Fr) (M:Nat) (o3 o4 o5:Option D),(∀ p ∈ qs,FrB (10 ^ 76) p)→FrB M f→M * (10 ^ 77) ^ qs.length ≤ 10 ^ 1100→∃ p3 p4 p5:Option D,zcI (bTup 2 (zaS (zao 3) (zaS (zao 4) bNil))) zfJ (qs.map encF) [.v A,.v (.int f.1),.v (.int f.2),sv o3,sv o4,sv o5] = .nx [.v A,.v (.int (qs.foldl adF f).1),.v (.int (qs.foldl adF f).2),sv p3,sv p4,sv p5]:=by
    intro qs
    induction qs with
    | nil=>intro f M o3 o4 o5 _ _ _; exact ⟨o3,o4,o5,rfl⟩
    | cons p qs ih =>
      intro f M o3 o4 o5 hq hf hM
      have pp:=hq p (by simp)
      have pos:1 ≤ (10 ^ 77) ^ qs.length:=Nat.one_le_pow _ _ (Nat.pow_pos (by decide))
      have eM:M * (10 ^ 77) ^ (p :: qs).length=M * 10 ^ 77 * (10 ^ 77) ^ qs.length:=by
        rw [List.length_cons,Nat.pow_succ]
        generalize (10 ^ 77) ^ qs.length=X
        generalize (10:Nat) ^ 77=Y
        grind
      rw [eM] at hM
      have hM2:M * 10 ^ 77 ≤ 10 ^ 1100:=by
        have a1:M * 10 ^ 77 * 1 ≤ M * 10 ^ 77 * (10 ^ 77) ^ qs.length:=Nat.mul_le_mul_left _ pos
        rw [Nat.mul_one] at a1
        exact Nat.le_trans a1 hM
      have hM3:M ≤ 10 ^ 1100:=Nat.le_trans (Nat.le_mul_of_pos_right _ (Nat.pow_pos (by decide))) hM2
      have b3:(f.2 * p.2).natAbs ≤ 10 ^ 2000:=by
        rw [Int.natAbs_mul]
        exact Nat.le_trans (Nat.mul_le_mul (Nat.le_trans hf.b hM3) pp.b) (by decide +kernel)
      have bi:f.2 * p.2 ≤ 10 ^ 2000:=by
        have e3:((10 ^ 2000:Nat):Int)=(10:Int) ^ 2000:=by norm_cast
        rw [← e3]
        exact Int.le_trans (Int.le_natAbs) (Int.ofNat_le.mpr b3)
      have b2:=znR (A:=A) (o3:=none) (o4:=none) (o5:=o5) hf.g0 pp.g0 (fitN _ (Nat.le_trans hf.t hM3)) (fitN _ (Nat.le_trans hf.b hM3)) (fitN _ pp.t) (fitN _ pp.b) bi
      have b1:bTup 2 (zaS (zao 3) (zaS (zao 4) bNil)) (encF p) [.v A,.v (.int f.1),.v (.int f.2),sv o3,sv o4,sv o5]=some [.v A,.v (.int f.1),.v (.int f.2),.v (.int p.1),.v (.int p.2),sv o5]:=by
        rcases o3 with _ | o3 <;> rcases o4 with _ | o4 <;> rfl
      have ok2:FrB (M * 10 ^ 77) (adF f p):=by
        have:=zoo hf pp
        have le:2 * (M * 10 ^ 76) ≤ M * 10 ^ 77:=by
          have e:M * 10 ^ 77=M * 10 ^ 76 * 10:=by rw [Nat.mul_assoc]
          rw [e]
          generalize M * 10 ^ 76=Z
          omega
        exact ⟨Nat.le_trans this.t le,Nat.le_trans this.b le,this.g0⟩
      obtain ⟨p3,p4,p5,hh⟩:=ih (adF f p) (M * 10 ^ 77) (some (.int p.1)) (some (.int p.2)) (some _) (fun q hqq=>hq q (List.mem_cons_of_mem _ hqq)) ok2 hM
      refine ⟨p3,p4,p5,?_⟩
      rw [List.map_cons]
      unfold zcI
      rw [b1]
      simp only [b2]
      exact hh
  obtain ⟨p3,p4,p5,h1⟩:=run ps (0,1) 1 none none none hp' frb1 (by
    have:(10 ^ 77) ^ ps.length ≤ (10 ^ 77) ^ 14:=Nat.pow_le_pow_right (Nat.pow_pos (by decide)) hl
    rw [Nat.one_mul]
    exact Nat.le_trans this (by decide +kernel))
  refine zbl ?_
  rw [← eA]
  show mSeq _ _ [.v A,.no,.no,.no,.no,.no]=_
  have q1:mAsg (mTup (zaa (mC (.int 0)) (zaa (mC (.int 1)) mNil))) (bTup 2 (zaS (zao 1) (zaS (zao 2) bNil))) [.v A,.no,.no,.no,.no,.no] = .nx [.v A,.v (.int 0),.v (.int 1),sv none,sv none,sv none]:=zaE (d:=.tup [.int 0,.int 1]) (by simp [mTup,zaa,mNil,mC,sizeLine]) rfl
  have q2:zii [.v A,.v (.int 0),.v (.int 1),sv none,sv none,sv none]=_:=(zbp (l:=ps.map encF) (by rw [eA]; rfl)).trans h1
  refine (zal q1).trans ((zal q2).trans ?_)
  simp [mRet,mTup,zaa,mNil,mVar,sizeLine,encF]
end My
namespace My
open PySem L2 PM
theorem zeC {β:Type} {b:D→En→Option En} {m:En→O} (enc:β→D) (P:List β→En→Prop) (bad:β→Prop) (r:D) (all:List β)
    (step:∀ pre x post δ,all=pre ++ x :: post→P pre δ→∃ δ1,b (enc x) δ=some δ1∧(bad x→m δ1 = .rt r)∧(¬ bad x→∃ δ2,m δ1 = .nx δ2∧P (pre ++ [x]) δ2)) (δ:En) (h:P [] δ) :
    ((∃ x ∈ all,bad x)→zcI b m (all.map enc) δ = .rt r)∧((¬ ∃ x ∈ all,bad x)→∃ δ2,zcI b m (all.map enc) δ = .nx δ2∧P all δ2):=by
  have key:∀ (post pre:List β) (δ:En),all=pre ++ post→P pre δ→((∃ x ∈ post,bad x)→zcI b m (post.map enc) δ = .rt r)∧((¬ ∃ x ∈ post,bad x)→∃ δ2,zcI b m (post.map enc) δ = .nx δ2∧P all δ2):=by
    intro post
    induction post with
    | nil=>intro pre δ e h; exact ⟨fun ⟨x,hx,_⟩=>by simp at hx,fun _=>⟨δ,rfl,by rw [e,List.append_nil]; exact h⟩⟩
    | cons x post ih =>
      intro pre δ e h
      obtain ⟨δ1,h1,h2,h3⟩:=step pre x post δ e h
      rw [List.map_cons]
      unfold zcI
      rw [h1]
      by_cases hb:bad x
      · refine ⟨fun _=>by simp only [h2 hb],fun z=>absurd ⟨x,by simp,hb⟩ z⟩
      · obtain ⟨δ2,h4,h5⟩:=h3 hb
        obtain ⟨i1,i2⟩:=ih (pre ++ [x]) δ2 (by rw [e]; simp) h5
        simp only [h4]
        refine ⟨fun ⟨y,hy,hyb⟩=>i1 ⟨y,?_,hyb⟩,fun z=>i2 fun ⟨y,hy,hyb⟩=>z ⟨y,List.mem_cons_of_mem _ hy,hyb⟩⟩
        rcases List.mem_cons.mp hy with rfl | hy
        · exact absurd hyb hb
        · exact hy
  exact key all [] δ rfl h
def rs (ps:List Fr):Rat:=(ps.map fv).sum
theorem zmA:rs []=0:=rfl
theorem ziN (p:Fr) (ps:List Fr):rs (p :: ps)=fv p + rs ps:=rfl
theorem ziT {b:Int} (h:0 < b):(0:Rat) < (b:Rat):=by exact_mod_cast h
theorem zpf {f p:Fr} (hf:0 < f.2) (hp:0 < p.2):fv (adF f p)=fv f + fv p:=by
  have h1:=zeI hf
  have h2:=zeI hp
  have e:fv (adF f p)=((f.1 * p.2 + p.1 * f.2:Int):Rat) / ((f.2 * p.2:Int):Rat):=zol (Int.mul_pos hf hp)
  rw [e,Rat.intCast_add,Rat.intCast_mul,Rat.intCast_mul,Rat.intCast_mul]
  unfold fv
  grind
theorem zi8:∀ (ps:List Fr) (f:Fr) (M K:Nat),FrB M f→(∀ p ∈ ps,FrB K p)→FrB (M * (2 * K) ^ ps.length) (ps.foldl adF f)∧fv (ps.foldl adF f)=fv f + rs ps
  | [],f,M,K,hf,_=>by
    refine ⟨?_,?_⟩
    · simpa using hf
    · rw [zmA,Rat.add_zero]; rfl
  | p :: ps,f,M,K,hf,h=>by
    have hp:=h p (by simp)
    obtain ⟨a,b⟩:=zi8 ps (adF f p) (2 * (M * K)) K (zoo hf hp) (fun q hq=>h q (List.mem_cons_of_mem _ hq))
    rw [List.foldl_cons]
    refine ⟨?_,?_⟩
    · have e:M * (2 * K) ^ (p :: ps).length=2 * (M * K) * (2 * K) ^ ps.length:=by
        rw [List.length_cons,Nat.pow_succ]
        generalize (2 * K) ^ ps.length=X
        grind
      rw [e]; exact a
    · rw [b,zpf hf.g0 hp.g0,ziN,Rat.add_assoc]
theorem zgJ {a b c:Rat} (h:0 < c):a * c < b * c ↔ a < b:=by
  constructor
  · intro z
    by_cases q:a < b
    · exact q
    · have:=Rat.mul_le_mul_of_nonneg_right (Rat.not_lt.mp q) (Rat.le_of_lt h)
      exact absurd z (Rat.not_lt.mpr this)
  · intro z
    exact Rat.mul_lt_mul_of_pos_right z h
theorem zgE {a b:Int}:a < b ↔ (a:Rat) < (b:Rat):=Rat.intCast_lt_intCast.symm
theorem zqG {f:Fr} {x:Int} (h:0 < f.2):x * f.2 < f.1 ↔ (x:Rat) < fv f:=by
  have p:=ziT h
  have n:=zeI h
  have e:(f.1:Rat)=fv f * (f.2:Rat):=by unfold fv; grind
  rw [zgE,Rat.intCast_mul,e,zgJ p]
theorem zkT {c b q t p:Int} {R H:Rat} (hb:0 < b) (hq:0 < q) (ht:(t:Rat)=R * (b:Rat)) (hp:(p:Rat)=H * (q:Rat)):t * p < c * b * q ↔ R * H < (c:Rat):=by
  have e1:((t * p:Int):Rat)=R * H * ((b * q:Int):Rat):=by rw [Rat.intCast_mul,Rat.intCast_mul,ht,hp]; grind
  have e2:((c * b * q:Int):Rat)=(c:Rat) * ((b * q:Int):Rat):=by rw [Rat.intCast_mul,Rat.intCast_mul,Rat.intCast_mul]; grind
  rw [zgE,e1,e2,zgJ (ziT (Int.mul_pos hb hq))]
def lcmF (B:Int) (p:Fr):Int:=B * (p.2 / (Int.gcd B p.2:Int))
theorem znf {B:Int} {p:Fr} (hB:0 < B) (hp:0 < p.2):0 < lcmF B p∧B ∣ lcmF B p∧p.2 ∣ lcmF B p∧(lcmF B p).natAbs ≤ B.natAbs * p.2.natAbs:=by
  have g:=zd4 (t:=B) hp
  obtain ⟨b,hb⟩:=Int.gcd_dvd_left (a:=B) (b:=p.2)
  obtain ⟨q,hq⟩:=Int.gcd_dvd_right (a:=B) (b:=p.2)
  have e:p.2 / (Int.gcd B p.2:Int)=q:=Int.ediv_eq_of_eq_mul_right (by omega) hq
  have q0:0 < q:=by
    rcases Int.lt_trichotomy q 0 with z | z | z
    · have:=Int.mul_neg_of_pos_of_neg g z; omega
    · rw [z,Int.mul_zero] at hq; omega
    · exact z
  have el:lcmF B p=B * q:=by unfold lcmF; rw [e]
  rw [el]
  refine ⟨Int.mul_pos hB q0,⟨q,rfl⟩,⟨b,?_⟩,?_⟩
  · clear e el g
    generalize (Int.gcd B p.2:Int)=z at hb hq
    rw [hb,hq]
    grind
  · rw [Int.natAbs_mul]
    refine Nat.mul_le_mul_left _ ?_
    have:q ≤ p.2:=by
      have h1:1 * q ≤ (Int.gcd B p.2:Int) * q:=Int.mul_le_mul_of_nonneg_right (by omega) (by omega)
      omega
    omega
theorem zoz:∀ (ps:List Fr) (B:Int) (K:Nat),0 < B→(∀ p ∈ ps,FrB K p)→0 < ps.foldl lcmF B∧B ∣ ps.foldl lcmF B∧(∀ p ∈ ps,p.2 ∣ ps.foldl lcmF B)∧(ps.foldl lcmF B).natAbs ≤ B.natAbs * K ^ ps.length
  | [],B,K,h,_=>⟨h,⟨1,by simp⟩,by simp,by simp⟩
  | p :: ps,B,K,h,hp=>by
    have pk:=hp p (by simp)
    obtain ⟨a1,a2,a3,a4⟩:=znf (p:=p) h pk.g0
    obtain ⟨b1,b2,b3,b4⟩:=zoz ps (lcmF B p) K a1 (fun q hq=>hp q (List.mem_cons_of_mem _ hq))
    rw [List.foldl_cons]
    refine ⟨b1,Int.dvd_trans a2 b2,fun q hq=>?_,?_⟩
    · rcases List.mem_cons.mp hq with rfl | hq
      · exact Int.dvd_trans a3 b2
      · exact b3 q hq
    · have h5:(lcmF B p).natAbs ≤ B.natAbs * K:=Nat.le_trans a4 (Nat.mul_le_mul_left _ pk.b)
      have h6:=Nat.le_trans b4 (Nat.mul_le_mul_right (K ^ ps.length) h5)
      rw [List.length_cons,Nat.pow_succ]
      generalize K ^ ps.length=X at *
      have:B.natAbs * (X * K)=B.natAbs * K * X:=by grind
      rw [this]; exact h6
def topF (B:Int) (p:Fr):Int:=p.1 * (B / p.2)
theorem znX {B:Int} {p:Fr} (hp:0 < p.2) (h:p.2 ∣ B):((topF B p:Int):Rat)=fv p * (B:Rat):=by
  obtain ⟨c,hc⟩:=h
  have e:B / p.2=c:=by rw [hc]; exact Int.mul_ediv_cancel_left _ (by omega)
  have n:=zeI hp
  unfold topF fv
  rw [e,hc,Rat.intCast_mul,Rat.intCast_mul]
  grind
theorem zli {B:Int}:∀ (ps:List Fr),(∀ p ∈ ps,0 < p.2∧p.2 ∣ B)→(((ps.map (topF B)).sum:Int):Rat)=rs ps * (B:Rat)
  | [],_=>by rw [zmA,Rat.zero_mul]; rfl
  | p :: ps,h=>by
    have hp:=h p (by simp)
    rw [List.map_cons,List.sum_cons,Rat.intCast_add,znX hp.1 hp.2,zli ps (fun q hq=>h q (List.mem_cons_of_mem _ hq)),ziN,Rat.add_mul]
theorem zkR:∀ m:Nat,rs ((List.range m).map fun k:Nat=>((1:Int),(k:Int) + 1))=H m
  | 0=>rfl
  | m + 1=>by
    have ap:∀ (l r:List Fr),rs (l ++ r)=rs l + rs r:=by
      intro l
      induction l with
      | nil=>intro r; rw [List.nil_append,zmA,Rat.zero_add]
      | cons a l ih=>intro r; rw [List.cons_append,ziN,ziN,ih,Rat.add_assoc]
    rw [List.range_succ,List.map_append,ap,zkR m,H]
    congr 1
    show fv _ + 0=_
    rw [Rat.add_zero]
    unfold fv
    dsimp only
    congr 1
end My
namespace My
open PySem L2 PM
def gS (sets:List Ps) (i:Int):Ps:=sets.getD i.toNat (0,[])
theorem zoB {sets:List Ps} {i:Int} (h:i.toNat < sets.length):sets[i.toNat]?=some (gS sets i):=by simp [gS,List.getD_eq_getElem?_getD,h]
theorem zk4 {sets:List Ps} {i:Int} (h0:0 ≤ i) (h:i < sets.length):oIxL (encP sets) (.int i)=some (encS (gS sets i)):=zdC h0 (by rw [List.getElem?_map,zoB (by omega)]; rfl)
theorem zjM {sets:List Ps} {i:Int} (h0:0 ≤ i) (h:i < sets.length):gS sets i ∈ sets:=List.mem_of_getElem? (zoB (by omega))
def held (sets:List Ps) (l:List Int):List Int:=l.flatMap fun i=>(gS sets i).2
theorem zk3 (sets:List Ps) (l:List Int) (i:Int):held sets (l ++ [i])=held sets l ++ (gS sets i).2:=by simp [held]
theorem zg9 (bs:List Bool):fAny [.lst (bs.map .bl)]=some (.bl (bs.any id)):=by simp only [fAny,zk7,Option.map_some]
theorem zia {n more:Nat} {sets:List Ps} {ch:List Int} (ok:SetsOk n sets) (hm:more ≤ 1000) (hc:∀ i ∈ ch,0 ≤ i∧i < (sets.length:Int)) :
    ∃ b:Bool,zcz [.int more,encP sets,iL ch] = .ok (.bl b)∧(b=true ↔ ∃ t ∈ upto more,t ∉ held sets ch):=by
  obtain ⟨δ1,h1,o4,o5,rfl⟩:=zb6 (b:=zao 4) (m:=zdT) D.int (fun pre δ=>∃ o4 o5,δ = [.v (.int more),.v (encP sets),.v (iL ch),.o (dk (zbv [] (held sets pre))),sv o4,sv o5]) ch
    (by
      rintro pre i post δ hall ⟨o4,o5,rfl⟩
      have hi:=hc i (by rw [hall]; simp)
      have g:=ok.good _ (zjM hi.1 hi.2)
      obtain ⟨o',h⟩:=zg4 (i:=5) (j:=3) (by decide) ok.n1 (gS sets i).2 [.v (.int more),.v (encP sets),.v (iL ch),.o (dk (zbv [] (held sets pre))),.v (.int i),sv o5] (zbv [] (held sets pre)) o5 rfl rfl (zfl (by simp))
        (fun t ht=>by
          rcases mem_insAll.mp ht with z | z
          · cases z
          · obtain ⟨j,hj,h'⟩:=List.mem_flatMap.mp z
            have hj':=hc j (by rw [hall]; exact List.mem_append_left _ hj)
            exact mem_upto.mpr ((ok.good _ (zjM hj'.1 hj'.2)).mem t h')) (fun t ht=>mem_upto.mpr (g.mem t ht))
      refine ⟨[.v (.int more),.v (encP sets),.v (iL ch),.o (dk (zbv [] (held sets pre))),.v (.int i),sv o5],[.v (.int more),.v (encP sets),.v (iL ch),.o (dk (zbv (zbv [] (held sets pre)) (gS sets i).2)),.v (.int i),sv o'],?_,.inl ?_,some (.int i),o',?_⟩
      · rcases o4 with _ | o4 <;> rfl
      · unfold zdT zfI zfq
        refine (zbp (l:=(gS sets i).2.map .int) ?_).trans h
        simp [mItL,mRd,mC,zk4 hi.1 hi.2,encS]
      · rw [← ziq,zk3]; rfl)
    [.v (.int more),.v (encP sets),.v (iL ch),.o (dk []),.no,.no] ⟨none,none,rfl⟩
  have k:zfH [.v (.int more),.v (encP sets),.v (iL ch),.o (dk (zbv [] (held sets ch))),sv o4,sv o5] = .ok (.lst (((upto more).map fun t=>!decide (t ∈ zbv [] (held sets ch))).map .bl)):=by
    refine za8 (l:=(upto more).map .int) (by simp [mRng,zaa,mNil,mVar,rngU hm]) (by rw [List.length_map,zcl]; omega) ?_
    rw [List.map_map]
    refine zaZ .int _ _ fun t _=>?_
    have e:za1 [.v (.int more),.v (encP sets),.v (iL ch),.o (dk (zbv [] (held sets ch))),sv o4,sv o5] [3] 1 = [.l (dk (zbv [] (held sets ch))),.no]:=rfl
    rw [e]
    simp [zcc,zaJ,mVar,mRd]
  refine ⟨_,zbl (d:=.bl (((upto more).map fun t=>!decide (t ∈ zbv [] (held sets ch))).any id)) ?_,?_⟩
  · have q1:mAsg (mC (.dct [] [])) (bNew 3) [.v (.int more),.v (encP sets),.v (iL ch),.no,.no,.no] = .nx [.v (.int more),.v (encP sets),.v (iL ch),.o (dk []),.no,.no]:=rfl
    have q2:zfC [.v (.int more),.v (encP sets),.v (iL ch),.o (dk []),.no,.no]=_:=(zbp (l:=ch.map .int) rfl).trans h1
    show mSeq _ _ [.v (.int more),.v (encP sets),.v (iL ch),.no,.no,.no]=_
    refine (zal q1).trans ((zal q2).trans ?_)
    simp only [mRet,mCB,zaa,mNil,k,R.bind_ok,zg9,R.of_some]; rfl
  · simp only [List.any_map,List.any_eq_true,Function.comp,id,Bool.not_eq_true',decide_eq_false_iff_not,mem_insAll,List.not_mem_nil,false_or]
theorem zpn {ps:List Fr} {δ:En} (hl:ps.length ≤ 1000) (hd:δ[3]?=some (.v (.lst (ps.map encF)))):∃ b:Bool,mCB fAny (zaa zcN mNil) δ = .ok (.bl b)∧(b=true ↔ ∃ p ∈ ps,p.1 < 0):=by
  have k:zcN δ = .ok (.lst ((ps.map fun p=>decide (p.1 < 0)).map .bl)):=by
    refine za8 (l:=ps.map encF) (by simp [mItL,mRd,hd]) (by rw [List.length_map]; omega) ?_
    rw [List.map_map]
    refine zaZ encF _ _ fun p _=>?_
    have e:za1 δ [] 1 = [.no]:=rfl
    rw [e]
    simp [zcc,zaJ,mRd,mC,encF]
  refine ⟨(ps.map fun p=>decide (p.1 < 0)).any id,by simp only [mCB,zaa,mNil,k,R.bind_ok,zg9,R.of_some],?_⟩
  simp
theorem zpj {ps:List Fr} {δ:En} (hl:ps.length ≤ 1000) (hd:δ[3]?=some (.v (.lst (ps.map encF)))):∃ b:Bool,m2 oGt (mCB fLen (zaa zcb mNil)) (mC (.int 0)) δ = .ok (.bl b)∧(b=true ↔ ∃ p ∈ ps,p.1 < 0):=by
  have k:zcb δ = .ok (.lst ((ps.filter fun p=>decide (p.1 < 0)).map fun _=>.int 1)):=by
    refine za8 (l:=ps.map encF) (by simp [mItL,mRd,hd]) (by rw [List.length_map]; omega) ?_
    refine zfW encF _ _ _ fun p _=>?_
    have e:za1 δ [] 1 = [.no]:=rfl
    rw [e]
    by_cases h:p.1 < 0
    · simp [zcc,zaJ,mRd,mC,encF,zan,h]
    · simp [zcc,zaJ,mRd,mC,encF,zan,h]
  refine ⟨decide (0 < ((ps.filter fun p=>decide (p.1 < 0)).length:Int)),by simp [mCB,zaa,mNil,k,mC],?_⟩
  rw [decide_eq_true_iff]
  constructor
  · intro h
    obtain ⟨p,hp⟩:=List.exists_mem_of_length_pos (show 0 < (ps.filter fun p=>decide (p.1 < 0)).length by omega)
    exact ⟨p,(List.mem_filter.mp hp).1,by simpa using (List.mem_filter.mp hp).2⟩
  · rintro ⟨p,h1,h2⟩
    have:=List.length_pos_of_mem ((List.mem_filter (p:=fun p:Fr=>decide (p.1 < 0))).mpr ⟨h1,decide_eq_true h2⟩)
    omega
theorem zhW {A0 A1 A2 A3:D} {o6 o7 o8:Option D} {K:Nat} (hK:K ≤ 10 ^ 76):∀ (ps:List Fr) (B:Int) (o5:Option D),0 < B→B.natAbs * K ^ ps.length ≤ 10 ^ 1100→(∀ p ∈ ps,FrB K p) →
    ∃ p5:Option D,zcI (zao 5) zdV (ps.map encF) [.v A0,.v A1,.v A2,.v A3,.v (.int B),sv o5,sv o6,sv o7,sv o8] = .nx [.v A0,.v A1,.v A2,.v A3,.v (.int (ps.foldl lcmF B)),sv p5,sv o6,sv o7,sv o8]
  | [],B,o5,_,_,_=>⟨o5,rfl⟩
  | p :: ps,B,o5,hB,hM,hp=>by
    have pk:=hp p (by simp)
    have K0:0 < K:=Nat.lt_of_lt_of_le (by have:=pk.g0; omega) pk.b
    obtain ⟨a1,a2,a3,a4⟩:=znf (p:=p) hB pk.g0
    have g:=zd4 (t:=B) pk.g0
    have gl:Int.gcd B p.2 ≤ p.2.natAbs:=Nat.le_of_dvd (by have:=pk.g0; omega) (by
      have:=Int.gcd_dvd_right (a:=B) (b:=p.2)
      exact Int.natAbs_dvd_natAbs.mpr this)
    have hM2:B.natAbs * K * K ^ ps.length ≤ 10 ^ 1100:=by
      rw [List.length_cons,Nat.pow_succ] at hM
      generalize K ^ ps.length=X at *
      have:B.natAbs * (X * K)=B.natAbs * K * X:=by grind
      rw [← this]; exact hM
    have hb1:B.natAbs ≤ 10 ^ 1100:=by
      refine Nat.le_trans ?_ hM2
      have p1:0 < K ^ ps.length:=Nat.pow_pos K0
      rw [Nat.mul_assoc]
      exact Nat.le_mul_of_pos_right _ (Nat.mul_pos K0 p1)
    have k1:p.2.natAbs ≤ 10 ^ 1100:=Nat.le_trans pk.b (Nat.le_trans hK (by decide +kernel))
    have fB:Fit B:=fitN _ hb1
    have fg:Fit (Int.gcd B p.2):=fitN (10 ^ 1100) (by rw [Int.natAbs_natCast]; exact Nat.le_trans gl k1)
    have fq:Fit (p.2 / (Int.gcd B p.2:Int)):=fitN (10 ^ 1100) (Nat.le_trans (by rw [Int.natAbs_ediv_of_dvd (Int.gcd_dvd_right ..)]; exact Nat.div_le_self _ _) k1)
    have cm:zbJ [.int B,.int p.2] = .ok (.int (lcmF B p)):=by
      simp [zbJ,runF,zcY,zdb,mRet,mRd,zai,zaa,mNil,mVar,ze5,zca g fg,zcd fB fq,lcmF]
    obtain ⟨p5,ih⟩:=zhW (A0:=A0) (A1:=A1) (A2:=A2) (A3:=A3) (o6:=o6) (o7:=o7) (o8:=o8) hK ps (lcmF B p) (some (encF p)) a1 (by
      refine Nat.le_trans (Nat.mul_le_mul_right _ (Nat.le_trans a4 (Nat.mul_le_mul_left _ pk.b))) hM2) (fun q hq=>hp q (List.mem_cons_of_mem _ hq))
    refine ⟨p5,?_⟩
    rw [List.map_cons]
    unfold zcI
    have b1:zao 5 (encF p) [.v A0,.v A1,.v A2,.v A3,.v (.int B),sv o5,sv o6,sv o7,sv o8]=some [.v A0,.v A1,.v A2,.v A3,.v (.int B),.v (encF p),sv o6,sv o7,sv o8]:=za7 rfl
    have b2:zdV [.v A0,.v A1,.v A2,.v A3,.v (.int B),.v (encF p),sv o6,sv o7,sv o8] = .nx [.v A0,.v A1,.v A2,.v A3,.v (.int (lcmF B p)),.v (encF p),sv o6,sv o7,sv o8]:=by
      refine zaE (d:=.int (lcmF B p)) ?_ rfl
      simp [zai,zaa,mNil,mVar,mRd,mC,encF,cm]
    rw [b1]
    simp only [b2]
    exact ih
theorem zps {K:Nat} (hK:K ≤ 10 ^ 76) {ps:List Fr} {B:Int} (hl:ps.length ≤ 1000) (hB:0 < B) (hb:B.natAbs ≤ 10 ^ 1100) (hp:∀ p ∈ ps,FrB K p∧p.2 ∣ B):zc9 [.lst (ps.map encF),.int B] = .ok (iL (ps.map (topF B))):=by
  refine zcJ ?_
  have k:zfp [.v (.lst (ps.map encF)),.v (.int B)] = .ok (iL (ps.map (topF B))):=by
    refine Eq.trans (za8 (l:=ps.map encF) (r:=ps.map fun p=>.int (topF B p)) rfl (by rw [List.length_map]; omega) ?_) (by simp [iL])
    refine zaZ encF _ _ fun p h=>?_
    obtain ⟨h1,h2⟩:=hp p h
    have f1:Fit p.1:=fitN _ (Nat.le_trans h1.t hK)
    have f2:Fit p.2:=fitN _ (Nat.le_trans h1.b hK)
    have f3:Fit (B / p.2):=fitN (10 ^ 1100) (Nat.le_trans (by rw [Int.natAbs_ediv_of_dvd h2]; exact Nat.div_le_self _ _) hb)
    have e:za1 [.v (.lst (ps.map encF)),.v (.int B)] [1] 2 = [.v (.int B),.no,.no]:=rfl
    rw [e]
    simp [zcc,bTup,zaS,bNil,zaJ,mRd,encF,zca h1.g0 f2,zcd f1 f3,topF]
  show R.toO (zfp [.v (.lst (ps.map encF)),.v (.int B)]) _ _=_
  rw [k]; rfl
end My
namespace My
open PySem L2 PM
def gF (ps:List Fr) (t:Int):Fr:=ps.getD t.toNat (0,1)
theorem zmL {ps:List Fr} {t:Int} (h:t.toNat < ps.length):ps[t.toNat]?=some (gF ps t):=by simp [gF,List.getD_eq_getElem?_getD,h]
theorem zoC {ps:List Fr} {t:Int} (h0:0 ≤ t) (h:t < ps.length):gF ps t ∈ ps:=List.mem_of_getElem? (zmL (by omega))
theorem zq1 {ps:List Fr} {t:Int} (h0:0 ≤ t) (h:t < ps.length):oIxL (.lst (ps.map encF)) (.int t)=some (encF (gF ps t)):=zdC h0 (by rw [List.getElem?_map,zmL (by omega)]; rfl)
theorem zi6 {α:Type} {f:α→Int} {M:Nat}:∀ (l:List α),(∀ x ∈ l,(f x).natAbs ≤ M)→(l.map f).sum.natAbs ≤ l.length * M
  | [],_=>by simp
  | a :: l,h=>by
    have h1:=h a (by simp)
    have h2:=zi6 l fun x hx=>h x (List.mem_cons_of_mem _ hx)
    rw [List.map_cons,List.sum_cons,List.length_cons,Nat.succ_mul]
    exact Nat.le_trans (Int.natAbs_add_le _ _) (by omega)
def cost (sets:List Ps) (ch:List Int):Int:=(ch.map fun i=>(gS sets i).1).sum
def due (more:Nat) (sets:List Ps) (ch:List Int) (ps:List Fr) (m:Nat):D:=by
  classical
  exact (if okU ch sets.length=false then .str "chosen" else
    if ∃ t ∈ upto more,t ∉ held sets ch then .str "open" else
    if ps.length ≠ more∨∃ p ∈ ps,p.1 < 0 then .str "prices" else
    if ∃ s ∈ sets,(s.1:Rat) < rs (s.2.map (gF ps)) then .str "over" else
    if rs ps * H m < (cost sets ch:Rat) then .str "share" else .non)
structure Cv (n more:Nat) (sets:List Ps) (ch:List Int) (ps:List Fr) (K m:Nat):Prop where
  ok:SetsOk n sets
  n1:n ≤ more
  m1:more ≤ 14
  s1:sets.length ≤ 100
  c1:ch.length ≤ 100
  p1:ps.length ≤ 100
  hK:K ≤ 10 ^ 76
  fr:∀ p ∈ ps,FrB K p
  mx:zkh [iL ((sets.map fun s=>s.2.length).map fun a:Nat=>(a:Int))] (.int 0)=some (.int m)
  m2:m ≤ 12
section
variable {n more:Nat} {sets:List Ps} {ch:List Int} {ps:List Fr} {K m:Nat}
theorem Cv.rng (h:Cv n more sets ch ps K m) (h1:okU ch sets.length=true):∀ i ∈ ch,0 ≤ i∧i < (sets.length:Int):=(of_decide_eq_true h1).1
theorem zls (h:Cv n more sets ch ps K m) (h1:okU ch sets.length=true):(cost sets ch).natAbs ≤ 10 ^ 20:=by
  have:=zi6 (f:=fun i=>(gS sets i).1) (M:=10 ^ 18) ch fun i hi=>by
    have r:=h.rng h1 i hi
    have g:=h.ok.good _ (zjM r.1 r.2)
    have:=g.lo; have:=g.hi; omega
  have c1:=h.c1
  refine Nat.le_trans this (Nat.le_trans (Nat.mul_le_mul_right _ c1) (by decide))
theorem znS (h:Cv n more sets ch ps K m):zbk [encP sets] = .ok (encF (hs m)):=by
  have k:zcK [.v (encP sets)] = .ok (iL ((sets.map fun s=>s.2.length).map fun a:Nat=>(a:Int))):=by
    have few:=h.ok.few
    refine Eq.trans (za8 (l:=sets.map encS) (r:=sets.map fun s=>.int (s.2.length:Int)) rfl (by simp; omega) ?_) (by simp [iL])
    exact zaZ encS _ sets fun s _=>by simp [zcc,za1,zaJ,mCB,zaa,mNil,mRd,mC,encS]
  refine zbl ?_
  show R.toO (zai zcQ (zaa (ziU (zaa zcK mNil) (mC (.int 0))) mNil) [.v (encP sets)]) _ _=_
  have m2:=h.m2
  simp only [zai,zaa,mNil,ziU,k,mC,R.bind_ok,h.mx,R.of_some,zkW (show m ≤ 40 by omega),R.nev_ok,R.toO_ok]
theorem zoh (h:Cv n more sets ch ps K m) (h1:okU ch sets.length=true):zdQ [encP sets,iL ch] = .ok (.int (cost sets ch)):=by
  have c1:=h.c1
  have k:zhx [.v (encP sets),.v (iL ch)] = .ok (iL (ch.map fun i=>(gS sets i).1)):=by
    refine Eq.trans (za8 (l:=ch.map .int) (r:=ch.map fun i=>.int (gS sets i).1) rfl (by rw [List.length_map]; omega) ?_) (by simp [iL])
    refine zaZ .int _ _ fun i hi=>?_
    have r:=h.rng h1 i hi
    have e:za1 [.v (encP sets),.v (iL ch)] [0] 1 = [.v (encP sets),.no]:=rfl
    rw [e]
    simp [zcc,zaJ,mRd,mC,zk4 r.1 r.2,encS]
  refine zbl ?_
  show mRet _ [.v (encP sets),.v (iL ch)]=_
  simp only [mRet,mCB,zaa,mNil,k,R.bind_ok,zft,R.of_some]; rfl
theorem zid (h:Cv n more sets ch ps K m):zcD [.int more,encP sets,iL ch,.lst (ps.map encF)] = .ok (due more sets ch ps m):=by
  have c1:=h.c1; have p1:=h.p1; have m1:=h.m1; have s1:=h.s1; have n1:=h.n1; have m2':=h.m2
  obtain ⟨P,eP⟩:∃ P,P=D.lst (ps.map encF):=⟨_,rfl⟩
  have lP:fLen [P]=some (.int ps.length):=by rw [eP]; simp
  have lS:fLen [encP sets]=some (.int sets.length):=by simp [encP]
  have ub:=zfb (l:=ch) (c:=sets.length) (by omega)
  refine zbl ?_
  rw [← eP]
  show mSeq _ _ [.v (.int more),.v (encP sets),.v (iL ch),.v P,.no,.no,.no,.no,.no]=_
  have t1:mNot (zan (zai zby (zaa (mVar 2) (zaa (mCB fLen (zaa (mRd 1) mNil)) mNil)))) [.v (.int more),.v (encP sets),.v (iL ch),.v P,.no,.no,.no,.no,.no] = .ok (!okU ch sets.length):=by
    simp [mNot,zan,zai,zaa,mNil,mVar,mCB,mRd,lS,ub]
  unfold due
  by_cases h1:okU ch sets.length=false
  · rw [if_pos h1]
    rw [h1] at t1
    exact zbH ((zbj t1).trans rfl)
  rw [if_neg h1]
  have h1':okU ch sets.length=true:=by simpa using h1
  rw [h1'] at t1
  refine (zal ((zbb t1).trans rfl)).trans ?_
  obtain ⟨b2,e2,d2⟩:=zia (more:=more) h.ok (by omega) (h.rng h1')
  have t2:zan (zai zcz (zaa (mVar 0) (zaa (mVar 1) (zaa (mVar 2) mNil)))) [.v (.int more),.v (encP sets),.v (iL ch),.v P,.no,.no,.no,.no,.no] = .ok b2:=by
    simp [zan,zai,zaa,mNil,mVar,e2]
  by_cases h2:∃ t ∈ upto more,t ∉ held sets ch
  · rw [if_pos h2]
    rw [d2.mpr h2] at t2
    exact zbH ((zbj t2).trans rfl)
  rw [if_neg h2]
  have z2:b2=false:=by cases b2 with | false=>rfl | true=>exact absurd (d2.mp rfl) h2
  rw [z2] at t2
  refine (zal ((zbb t2).trans rfl)).trans ?_
  obtain ⟨b3,e3,d3⟩:=zpn (ps:=ps) (δ:=[.v (.int more),.v (encP sets),.v (iL ch),.v P,.no,.no,.no,.no,.no]) (by omega) (by rw [eP]; rfl)
  have t3:mOr (zan (m2 oNe (mCB fLen (zaa (mRd 3) mNil)) (mRd 0))) (zan (mCB fAny (zaa zcN mNil))) [.v (.int more),.v (encP sets),.v (iL ch),.v P,.no,.no,.no,.no,.no] = .ok (decide (ps.length ≠ more) || b3):=by
    have a1:zan (m2 oNe (mCB fLen (zaa (mRd 3) mNil)) (mRd 0)) [.v (.int more),.v (encP sets),.v (iL ch),.v P,.no,.no,.no,.no,.no] = .ok (decide (ps.length ≠ more)):=by
      simp [zan,mCB,zaa,mNil,mRd,lP]
      omega
    have a2:zan (mCB fAny (zaa zcN mNil)) [.v (.int more),.v (encP sets),.v (iL ch),.v P,.no,.no,.no,.no,.no] = .ok b3:=by simp only [zan,e3,R.bind_ok,zff,R.of_some]
    unfold mOr
    rw [a1,R.bind_ok]
    cases decide (ps.length ≠ more) <;> simp [a2]
  by_cases h3:ps.length ≠ more∨∃ p ∈ ps,p.1 < 0
  · rw [if_pos h3]
    have:(decide (ps.length ≠ more) || b3)=true:=by
      rcases h3 with z | z
      · simp [z]
      · simp [d3.mpr z]
    rw [this] at t3
    exact zbH ((zbj t3).trans rfl)
  rw [if_neg h3]
  have hm:ps.length=more:=Classical.byContradiction fun z=>h3 (.inl z)
  have z3:(decide (ps.length ≠ more) || b3)=false:=by
    cases b3 with
    | false=>simp [hm]
    | true=>exact absurd (.inr (d3.mp rfl)) h3
  rw [z3] at t3
  refine (zal ((zbb t3).trans rfl)).trans ?_
  have q4:mAsg (mC (.int 1)) (zao 4) [.v (.int more),.v (encP sets),.v (iL ch),.v P,.no,.no,.no,.no,.no] = .nx [.v (.int more),.v (encP sets),.v (iL ch),.v P,.v (.int 1),sv none,sv none,sv none,sv none]:=rfl
  refine (zal q4).trans ?_
  have hK14:K ^ ps.length ≤ 10 ^ 1100:=Nat.le_trans (Nat.pow_le_pow_left h.hK _) (Nat.le_trans (Nat.pow_le_pow_right (Nat.pow_pos (by decide)) (show ps.length ≤ 14 by omega)) (by decide +kernel))
  obtain ⟨p5,hl5⟩:=zhW (A0:=.int more) (A1:=encP sets) (A2:=iL ch) (A3:=P) (o6:=none) (o7:=none) (o8:=none) h.hK ps 1 none (by decide) (by rw [show (1:Int).natAbs=1 from rfl,Nat.one_mul]; exact hK14) h.fr
  obtain ⟨B0,_,Bd,Bb⟩:=zoz ps 1 K (by decide) h.fr
  rw [show (1:Int).natAbs=1 from rfl,Nat.one_mul] at Bb
  have Bb':=Nat.le_trans Bb hK14
  obtain ⟨B,eB⟩:∃ B,B=ps.foldl lcmF 1:=⟨_,rfl⟩
  rw [← eB] at hl5 B0 Bd Bb'
  have q5:zfG [.v (.int more),.v (encP sets),.v (iL ch),.v P,.v (.int 1),sv none,sv none,sv none,sv none]=_:=(zbp (l:=ps.map encF) (by rw [eP]; rfl)).trans hl5
  refine (zal q5).trans ?_
  have tp:=zps (B:=B) h.hK (ps:=ps) (by omega) B0 Bb' fun p hp=>⟨h.fr p hp,Bd p hp⟩
  rw [← eP] at tp
  have q6:mAsg (zai zc9 (zaa (mVar 3) (zaa (mVar 4) mNil))) (zao 6) [.v (.int more),.v (encP sets),.v (iL ch),.v P,.v (.int B),sv p5,sv none,sv none,sv none] = .nx [.v (.int more),.v (encP sets),.v (iL ch),.v P,.v (.int B),sv p5,.v (iL (ps.map (topF B))),sv none,sv none] :=
    zaE (d:=iL (ps.map (topF B))) (by simp [zai,zaa,mNil,mVar,tp]) (za7 rfl)
  refine (zal q6).trans ?_
  obtain ⟨T,eT⟩:∃ T,T=iL (ps.map (topF B)):=⟨_,rfl⟩
  have fB:Fit B:=fitN _ Bb'
  have val:∀ qs:List Fr,(∀ q ∈ qs,q ∈ ps)→(((qs.map (topF B)).sum:Int):Rat)=rs qs * (B:Rat):=fun qs hq=>zli qs fun q hqq=>⟨(h.fr q (hq q hqq)).g0,Bd q (hq q hqq)⟩
  have lf:=zeC (b:=bTup 2 (zaS (zao 5) (zaS (zao 7) bNil))) (m:=zd5) encS (fun _ δ=>∃ o5 o7,δ = [.v (.int more),.v (encP sets),.v (iL ch),.v P,.v (.int B),sv o5,.v T,sv o7,sv none]) (fun s=>(s.1:Rat) < rs (s.2.map (gF ps))) (.str "over") sets
    (by
      rintro pre s post δ hall ⟨o5,o7,rfl⟩
      have g:=h.ok.good s (by rw [hall]; simp)
      have gl:=zdr g
      have inr:∀ t ∈ s.2,0 ≤ t∧t < (ps.length:Int):=fun t ht=>by have:=g.mem t ht; omega
      refine ⟨[.v (.int more),.v (encP sets),.v (iL ch),.v P,.v (.int B),.v (.int s.1),.v T,.v (iL s.2),sv none],by rcases o5 with _ | o5 <;> rcases o7 with _ | o7 <;> rfl,?_⟩
      have k:zeq [.v (.int more),.v (encP sets),.v (iL ch),.v P,.v (.int B),.v (.int s.1),.v T,.v (iL s.2),sv none] = .ok (iL (s.2.map fun t=>topF B (gF ps t))):=by
        refine Eq.trans (za8 (l:=s.2.map .int) (r:=s.2.map fun t=>.int (topF B (gF ps t))) rfl (by rw [List.length_map]; omega) ?_) (by simp [iL])
        refine zaZ .int _ _ fun t ht=>?_
        have r:=inr t ht
        have e:za1 [.v (.int more),.v (encP sets),.v (iL ch),.v P,.v (.int B),.v (.int s.1),.v T,.v (iL s.2),sv none] [6] 1 = [.v T,.no]:=rfl
        have ix:oIxL T (.int t)=some (.int (topF B (gF ps t))):=by
          rw [eT]
          refine zdC r.1 ?_
          rw [List.getElem?_map,List.getElem?_map,zmL (by omega)]; rfl
        rw [e]
        simp [zcc,zaJ,mRd,ix]
      have fs:Fit s.1:=fitN (10 ^ 18) (by have:=g.lo; have:=g.hi; omega)
      have cmp:s.1 * B < (s.2.map fun t=>topF B (gF ps t)).sum ↔ (s.1:Rat) < rs (s.2.map (gF ps)):=by
        have v:=val (s.2.map (gF ps)) fun q hq=>by
          obtain ⟨t,ht,rfl⟩:=List.mem_map.mp hq
          exact zoC (inr t ht).1 (inr t ht).2
        rw [List.map_map] at v
        rw [zgE,Rat.intCast_mul]
        have e:((s.2.map fun t=>topF B (gF ps t)).sum:Rat)=rs (s.2.map (gF ps)) * (B:Rat):=v
        rw [e,zgJ (ziT B0)]
      have tt:zan (m2 oGt (mCB fSum (zaa zeq mNil)) (m2 oMul (mRd 5) (mRd 4))) [.v (.int more),.v (encP sets),.v (iL ch),.v P,.v (.int B),.v (.int s.1),.v T,.v (iL s.2),sv none] = .ok (decide (s.1 * B < (s.2.map fun t=>topF B (gF ps t)).sum)):=by
        simp only [zan,zcg,mCB,zaa,mNil,k,zft,R.bind_ok,R.of_some,mRd,List.getElem?_cons_succ,List.getElem?_cons_zero,zcd fs fB,zlL,zff]
      refine ⟨fun z=>?_,fun z=>⟨_,?_,some (.int s.1),some (iL s.2),rfl⟩⟩
      · rw [decide_eq_true (cmp.mpr z)] at tt
        exact (zbj tt).trans rfl
      · rw [decide_eq_false (fun w=>z (cmp.mp w))] at tt
        exact (zbb tt).trans rfl)
    [.v (.int more),.v (encP sets),.v (iL ch),.v P,.v (.int B),sv p5,.v T,sv none,sv none] ⟨p5,none,rfl⟩
  rw [← eT]
  have q7:zfz [.v (.int more),.v (encP sets),.v (iL ch),.v P,.v (.int B),sv p5,.v T,sv none,sv none]=zcI (bTup 2 (zaS (zao 5) (zaS (zao 7) bNil))) zd5 (sets.map encS) [.v (.int more),.v (encP sets),.v (iL ch),.v P,.v (.int B),sv p5,.v T,sv none,sv none]:=zbp (l:=sets.map encS) rfl
  by_cases h4:∃ s ∈ sets,(s.1:Rat) < rs (s.2.map (gF ps))
  · rw [if_pos h4]
    exact zbH (q7.trans (lf.1 h4))
  rw [if_neg h4]
  obtain ⟨δ2,l2,o5,o7,rfl⟩:=lf.2 h4
  refine (zal (q7.trans l2)).trans ?_
  have q8:mAsg (zai zbk (zaa (mVar 1) mNil)) (zao 8) [.v (.int more),.v (encP sets),.v (iL ch),.v P,.v (.int B),sv o5,.v T,sv o7,sv none] = .nx [.v (.int more),.v (encP sets),.v (iL ch),.v P,.v (.int B),sv o5,.v T,sv o7,.v (encF (hs m))] :=
    zaE (d:=encF (hs m)) (by simp [zai,zaa,mNil,mVar,znS h]) (za7 rfl)
  refine (zal q8).trans ?_
  have hf:=zlm (k:=m) (by omega)
  have ca:=zls h h1'
  have fc:Fit (cost sets ch):=fitN _ ca
  have fcB:Fit (cost sets ch * B):=fitN (10 ^ 20 * 10 ^ 1100) (by rw [Int.natAbs_mul]; exact Nat.mul_le_mul ca Bb')
  have sa:=zi6 (f:=topF B) (M:=10 ^ 1176) ps fun p hp=>by
    unfold topF
    rw [Int.natAbs_mul]
    have e1:=Nat.le_trans (h.fr p hp).t h.hK
    have e2:(B / p.2).natAbs ≤ 10 ^ 1100:=Nat.le_trans (by rw [Int.natAbs_ediv_of_dvd (Bd p hp)]; exact Nat.div_le_self _ _) Bb'
    exact Nat.le_trans (Nat.mul_le_mul e1 e2) (by decide +kernel)
  have fS:Fit (ps.map (topF B)).sum:=fitN (100 * 10 ^ 1176) (Nat.le_trans sa (Nat.mul_le_mul_right _ (by omega)))
  have cmp:(hs m).1 * (ps.map (topF B)).sum < cost sets ch * B * (hs m).2 ↔ rs ps * H m < (cost sets ch:Rat):=by
    rw [Int.mul_comm]
    refine zkT B0 (zhM m) (val ps fun q hq=>hq) ?_
    have:=zns m
    have n:=zeI (zhM m)
    rw [← this]
    unfold fv
    grind
  have t9:zan (m2 oGt (m2 oMul (m2 oMul (zai zdQ (zaa (mVar 1) (zaa (mVar 2) mNil))) (mRd 4)) (m2 oIxT (mRd 8) (mC (.int 1)))) (m2 oMul (m2 oIxT (mRd 8) (mC (.int 0))) (mCB fSum (zaa (mRd 6) mNil)))) [.v (.int more),.v (encP sets),.v (iL ch),.v P,.v (.int B),sv o5,.v T,sv o7,.v (encF (hs m))] = .ok (decide ((hs m).1 * (ps.map (topF B)).sum < cost sets ch * B * (hs m).2)):=by
    have sT:fSum [T]=some (.int (ps.map (topF B)).sum):=by rw [eT]; exact zft _
    simp [zan,zai,zaa,mNil,mVar,mRd,mC,mCB,encF,zoh h h1',zcd fc fB,zcd fcB (zlG hf.2),sT,zcd (zlG hf.1) fS]
  by_cases h5:rs ps * H m < (cost sets ch:Rat)
  · rw [if_pos h5]
    rw [decide_eq_true (cmp.mpr h5)] at t9
    exact zbH ((zbj t9).trans rfl)
  · rw [if_neg h5]
    rw [decide_eq_false (fun w=>h5 (cmp.mp w))] at t9
    exact (zal ((zbb t9).trans rfl)).trans rfl
end
end My
namespace My
open PySem L2 PM
theorem zjZ {m:Nat} (hm:m ≤ 12):∃ f:Fr,zdd [.int m] = .ok (encF f)∧FrB (10 ^ 50) f∧fv f=H m:=by
  have k:zgQ [.v (.int m)] = .ok (.lst (((List.range m).map fun k:Nat=>((1:Int),(k:Int) + 1)).map encF)):=by
    refine za8 (l:=(List.range m).map fun k:Nat=>D.int (k:Int)) (by simp [mRng,zaa,mNil,mVar,rng1 (n:=(m:Int)) (by omega) (by omega),zkd]) (by simp; omega) ?_
    rw [List.map_map]
    refine zaZ _ _ _ fun j hj=>?_
    have e:za1 [.v (.int m)] [] 1 = [.no]:=rfl
    rw [e]
    simp [zcc,zaJ,mTup,zaa,mNil,mC,mRd,sizeLine,encF]
  have ok:∀ p ∈ (List.range m).map fun k:Nat=>((1:Int),(k:Int) + 1),FrB 100 p:=fun p hp=>by
    obtain ⟨j,hj,rfl⟩:=List.mem_map.mp hp
    have:=List.mem_range.mp hj
    exact ⟨show (1:Int).natAbs ≤ 100 by decide,by dsimp only; omega,by dsimp only; omega⟩
  have ls:=zgz (K:=100) (by decide +kernel) _ (by simp; omega) ok
  obtain ⟨b,v⟩:=zi8 _ (0,1) 1 100 frb1 ok
  refine ⟨_,zbl ?_,?_,v.trans ?_⟩
  · show mRet _ [.v (.int m)]=_
    simp only [mRet,zai,zaa,mNil,k,R.bind_ok,ls,R.nev_ok,R.toO_ok]
  · have le:1 * (2 * 100) ^ ((List.range m).map fun k:Nat=>((1:Int),(k:Int) + 1)).length ≤ 10 ^ 50:=by
      rw [List.length_map,List.length_range,Nat.one_mul]
      exact Nat.le_trans (Nat.pow_le_pow_right (by decide) hm) (by decide)
    exact ⟨Nat.le_trans b.t le,Nat.le_trans b.b le,b.g0⟩
  · rw [zkR]
    have:fv ((0:Int),(1:Int))=0:=by simp [fv]; grind
    rw [this,Rat.zero_add]
theorem fv01:fv ((0:Int),(1:Int))=0:=by simp [fv]; grind
section
variable {n more:Nat} {sets:List Ps} {ch:List Int} {ps:List Fr} {K m:Nat}
theorem zld (h:Cv n more sets ch ps K m):∀ l:List Int,(∀ i ∈ l,0 ≤ i∧i < (sets.length:Int))→(held sets l).length ≤ l.length * 14
  | [],_=>by simp [held]
  | i :: l,hl=>by
    have hi:=hl i (by simp)
    have g:=zdr (h.ok.good _ (zjM hi.1 hi.2))
    have ih:=zld h l fun j hj=>hl j (List.mem_cons_of_mem _ hj)
    have e:held sets (i :: l)=(gS sets i).2 ++ held sets l:=rfl
    have:=h.n1; have:=h.m1
    rw [e,List.length_append,List.length_cons]
    omega
theorem sums (h:Cv n more sets ch ps K m) (qs:List Fr) (hq:∀ q ∈ qs,q ∈ ps) (hl:qs.length ≤ 14):∃ f:Fr,zbs [.lst (qs.map encF)] = .ok (encF f)∧FrB (10 ^ 1100) f∧fv f=rs qs:=by
  have ok:∀ q ∈ qs,FrB K q:=fun q hh=>h.fr q (hq q hh)
  obtain ⟨b,v⟩:=zi8 qs (0,1) 1 K frb1 ok
  refine ⟨_,zgz h.hK qs hl ok,?_,by rw [v,fv01,Rat.zero_add]⟩
  have le:1 * (2 * K) ^ qs.length ≤ 10 ^ 1100:=by
    rw [Nat.one_mul]
    have e:2 * K ≤ 10 ^ 77:=Nat.le_trans (Nat.mul_le_mul_left 2 h.hK) (by decide +kernel)
    exact Nat.le_trans (Nat.pow_le_pow_left e _) (Nat.le_trans (Nat.pow_le_pow_right (Nat.pow_pos (by decide)) hl) (by decide +kernel))
  exact ⟨Nat.le_trans b.t le,Nat.le_trans b.b le,b.g0⟩
theorem zkr (h:Cv n more sets ch ps K m):zci [.int more,encP sets,iL ch,.lst (ps.map encF)] = .ok (due more sets ch ps m):=by
  have c1:=h.c1; have p1:=h.p1; have m1:=h.m1; have s1:=h.s1; have n1:=h.n1; have m2':=h.m2
  obtain ⟨P,eP⟩:∃ P,P=D.lst (ps.map encF):=⟨_,rfl⟩
  have lP:fLen [P]=some (.int ps.length):=by rw [eP]; simp
  have lS:fLen [encP sets]=some (.int sets.length):=by simp [encP]
  have ub:=zgm (l:=ch) (c:=sets.length) (by omega)
  refine zbl ?_
  rw [← eP]
  show mSeq _ _ [.v (.int more),.v (encP sets),.v (iL ch),.v P,.no,.no,.no,.no,.no,.no,.no,.no]=_
  have t1:mNot (zan (zai zbX (zaa (mVar 2) (zaa (mCB fLen (zaa (mRd 1) mNil)) mNil)))) [.v (.int more),.v (encP sets),.v (iL ch),.v P,.no,.no,.no,.no,.no,.no,.no,.no] = .ok (!okU ch sets.length):=by
    simp [mNot,zan,zai,zaa,mNil,mVar,mCB,mRd,lS,ub]
  unfold due
  by_cases h1:okU ch sets.length=false
  · rw [if_pos h1]
    rw [h1] at t1
    exact zbH ((zbj t1).trans rfl)
  rw [if_neg h1]
  have h1':okU ch sets.length=true:=by simpa using h1
  rw [h1'] at t1
  refine (zal ((zbb t1).trans rfl)).trans ?_
  have rg:=h.rng h1'
  have q2:mAsg (mLst mNil) (zao 4) [.v (.int more),.v (encP sets),.v (iL ch),.v P,.no,.no,.no,.no,.no,.no,.no,.no] = .nx [.v (.int more),.v (encP sets),.v (iL ch),.v P,.v (iL []),sv none,sv none,sv none,sv none,sv none,sv none,sv none]:=zaE (d:=iL []) (by simp [mLst,mNil,iL,sizeLine]) rfl
  refine (zal q2).trans ?_
  obtain ⟨δ1,hl1,o5,rfl⟩:=zb6 (b:=zao 5) (m:=zed) D.int (fun pre δ=>∃ o5,δ = [.v (.int more),.v (encP sets),.v (iL ch),.v P,.v (iL (held sets pre)),sv o5,sv none,sv none,sv none,sv none,sv none,sv none]) ch
    (by
      rintro pre i post δ hall ⟨o5,rfl⟩
      have hi:=rg i (by rw [hall]; simp)
      have lp:pre.length ≤ 100:=by rw [hall] at c1; simp at c1; omega
      have lh:=zld h pre fun j hj=>rg j (by rw [hall]; simp [hj])
      have lg:=zdr (h.ok.good _ (zjM hi.1 hi.2))
      refine ⟨[.v (.int more),.v (encP sets),.v (iL ch),.v P,.v (iL (held sets pre)),.v (.int i),sv none,sv none,sv none,sv none,sv none,sv none],_,za7 (o:=o5) rfl,.inl ?_,some (.int i),rfl⟩
      refine zaE (d:=iL (held sets (pre ++ [i]))) ?_ rfl
      have ct:oCat (iL (held sets pre)) (iL (gS sets i).2)=some (iL (held sets (pre ++ [i]))):=by
        rw [zk3]
        unfold iL
        rw [zoq (by rw [List.length_map,List.length_map]; omega),List.map_append]
      simp [mRd,mC,zk4 hi.1 hi.2,encS,ct])
    [.v (.int more),.v (encP sets),.v (iL ch),.v P,.v (iL []),sv none,sv none,sv none,sv none,sv none,sv none,sv none] ⟨none,rfl⟩
  have q3:zeG [.v (.int more),.v (encP sets),.v (iL ch),.v P,.v (iL []),sv none,sv none,sv none,sv none,sv none,sv none,sv none]=_:=(zbp (l:=ch.map .int) rfl).trans hl1
  refine (zal q3).trans ?_
  obtain ⟨W,eW⟩:∃ W,W=iL (held sets ch):=⟨_,rfl⟩
  rw [← eW]
  have lf:=zeC (b:=zao 6) (m:=zc1) D.int (fun _ δ=>∃ o6,δ = [.v (.int more),.v (encP sets),.v (iL ch),.v P,.v W,sv o5,sv o6,sv none,sv none,sv none,sv none,sv none]) (fun t=>t ∉ held sets ch) (.str "open") (upto more)
    (by
      rintro pre t post δ hall ⟨o6,rfl⟩
      refine ⟨[.v (.int more),.v (encP sets),.v (iL ch),.v P,.v W,sv o5,.v (.int t),sv none,sv none,sv none,sv none,sv none],za7 rfl,?_⟩
      have tt:zan (m2 zea (mRd 6) (mRd 4)) [.v (.int more),.v (encP sets),.v (iL ch),.v P,.v W,sv o5,.v (.int t),sv none,sv none,sv none,sv none,sv none] = .ok (decide (t ∉ held sets ch)):=by
        rw [eW]
        by_cases z:t ∈ held sets ch <;> simp [zan,mRd,zea,iL,zeh,z]
      refine ⟨fun z=>?_,fun z=>⟨_,?_,some (.int t),rfl⟩⟩
      · rw [decide_eq_true z] at tt
        exact (zbj tt).trans rfl
      · rw [decide_eq_false z] at tt
        exact (zbb tt).trans rfl)
    [.v (.int more),.v (encP sets),.v (iL ch),.v P,.v W,sv o5,sv none,sv none,sv none,sv none,sv none,sv none] ⟨none,rfl⟩
  have q4:zeB [.v (.int more),.v (encP sets),.v (iL ch),.v P,.v W,sv o5,sv none,sv none,sv none,sv none,sv none,sv none]=zcI (zao 6) zc1 ((upto more).map .int) [.v (.int more),.v (encP sets),.v (iL ch),.v P,.v W,sv o5,sv none,sv none,sv none,sv none,sv none,sv none]:=zbp (l:=(upto more).map .int) (by simp [mRng,zaa,mNil,mVar,rngU (show more ≤ 1000 by omega)])
  by_cases h2:∃ t ∈ upto more,t ∉ held sets ch
  · rw [if_pos h2]
    exact zbH (q4.trans (lf.1 h2))
  rw [if_neg h2]
  obtain ⟨δ2,l2,o6,rfl⟩:=lf.2 h2
  refine (zal (q4.trans l2)).trans ?_
  obtain ⟨b3,e3,d3⟩:=zpj (ps:=ps) (δ:=[.v (.int more),.v (encP sets),.v (iL ch),.v P,.v W,sv o5,sv o6,sv none,sv none,sv none,sv none,sv none]) (by omega) (by rw [eP]; rfl)
  have t3:mOr (zan (m2 oNe (mCB fLen (zaa (mRd 3) mNil)) (mRd 0))) (zan (m2 oGt (mCB fLen (zaa zcb mNil)) (mC (.int 0)))) [.v (.int more),.v (encP sets),.v (iL ch),.v P,.v W,sv o5,sv o6,sv none,sv none,sv none,sv none,sv none] = .ok (decide (ps.length ≠ more) || b3):=by
    have a1:zan (m2 oNe (mCB fLen (zaa (mRd 3) mNil)) (mRd 0)) [.v (.int more),.v (encP sets),.v (iL ch),.v P,.v W,sv o5,sv o6,sv none,sv none,sv none,sv none,sv none] = .ok (decide (ps.length ≠ more)):=by
      simp [zan,mCB,zaa,mNil,mRd,lP]
      omega
    have a2:zan (m2 oGt (mCB fLen (zaa zcb mNil)) (mC (.int 0))) [.v (.int more),.v (encP sets),.v (iL ch),.v P,.v W,sv o5,sv o6,sv none,sv none,sv none,sv none,sv none] = .ok b3:=by unfold zan; rw [e3]; rfl
    unfold mOr
    rw [a1,R.bind_ok]
    cases decide (ps.length ≠ more) <;> first | exact a2 | rfl
  by_cases h3:ps.length ≠ more∨∃ p ∈ ps,p.1 < 0
  · rw [if_pos h3]
    have:(decide (ps.length ≠ more) || b3)=true:=by
      rcases h3 with z | z
      · simp [z]
      · simp [d3.mpr z]
    rw [this] at t3
    exact zbH ((zbj t3).trans rfl)
  rw [if_neg h3]
  have hm:ps.length=more:=Classical.byContradiction fun z=>h3 (.inl z)
  have z3:(decide (ps.length ≠ more) || b3)=false:=by
    cases b3 with
    | false=>simp [hm]
    | true=>exact absurd (.inr (d3.mp rfl)) h3
  rw [z3] at t3
  refine (zal ((zbb t3).trans rfl)).trans ?_
  have lf4:=zeC (b:=bTup 2 (zaS (zao 7) (zaS (zao 8) bNil))) (m:=zc0) encS (fun _ δ=>∃ o7 o8 o9,δ = [.v (.int more),.v (encP sets),.v (iL ch),.v P,.v W,sv o5,sv o6,sv o7,sv o8,sv o9,sv none,sv none]) (fun s=>(s.1:Rat) < rs (s.2.map (gF ps))) (.str "over") sets
    (by
      rintro pre s post δ hall ⟨o7,o8,o9,rfl⟩
      have g:=h.ok.good s (by rw [hall]; simp)
      have gl:=zdr g
      have inr:∀ t ∈ s.2,0 ≤ t∧t < (ps.length:Int):=fun t ht=>by have:=g.mem t ht; omega
      refine ⟨[.v (.int more),.v (encP sets),.v (iL ch),.v P,.v W,sv o5,sv o6,.v (.int s.1),.v (iL s.2),sv o9,sv none,sv none],by rcases o7 with _ | o7 <;> rcases o8 with _ | o8 <;> rfl,?_⟩
      have k:zdl [.v (.int more),.v (encP sets),.v (iL ch),.v P,.v W,sv o5,sv o6,.v (.int s.1),.v (iL s.2),sv o9,sv none,sv none] = .ok (.lst ((s.2.map (gF ps)).map encF)):=by
        refine za8 (l:=s.2.map .int) rfl (by rw [List.length_map]; omega) ?_
        rw [List.map_map]
        refine zaZ .int _ _ fun t ht=>?_
        have r:=inr t ht
        have e:za1 [.v (.int more),.v (encP sets),.v (iL ch),.v P,.v W,sv o5,sv o6,.v (.int s.1),.v (iL s.2),sv o9,sv none,sv none] [3] 1 = [.v P,.no]:=rfl
        have ix:=zq1 r.1 r.2
        rw [← eP] at ix
        rw [e]
        simp [zcc,zaJ,mRd,ix]
      obtain ⟨f,f1,f2,f3⟩:=sums h (s.2.map (gF ps)) (fun q hq=>by
        obtain ⟨t,ht,rfl⟩:=List.mem_map.mp hq
        exact zoC (inr t ht).1 (inr t ht).2) (by rw [List.length_map]; omega)
      have fs:Fit s.1:=fitN (10 ^ 18) (by have:=g.lo; have:=g.hi; omega)
      have cmp:=zqG (f:=f) (x:=s.1) f2.g0
      rw [f3] at cmp
      have a1:mAsg (zai zbs (zaa zdl mNil)) (zao 9) [.v (.int more),.v (encP sets),.v (iL ch),.v P,.v W,sv o5,sv o6,.v (.int s.1),.v (iL s.2),sv o9,sv none,sv none] = .nx [.v (.int more),.v (encP sets),.v (iL ch),.v P,.v W,sv o5,sv o6,.v (.int s.1),.v (iL s.2),.v (encF f),sv none,sv none] :=
        zaE (d:=encF f) (by simp only [zai,zaa,mNil,k,R.bind_ok,f1,R.nev_ok]) (za7 rfl)
      have tt:zan (m2 oGt (m2 oIxT (mRd 9) (mC (.int 0))) (m2 oMul (mRd 7) (m2 oIxT (mRd 9) (mC (.int 1))))) [.v (.int more),.v (encP sets),.v (iL ch),.v P,.v W,sv o5,sv o6,.v (.int s.1),.v (iL s.2),.v (encF f),sv none,sv none] = .ok (decide (s.1 * f.2 < f.1)):=by
        simp [zan,mRd,mC,encF,zcd fs (fitN _ f2.b)]
      refine ⟨fun z=>?_,fun z=>⟨_,?_,some (.int s.1),some (iL s.2),some (encF f),rfl⟩⟩
      · rw [decide_eq_true (cmp.mpr z)] at tt
        exact (zal a1).trans ((zbj tt).trans rfl)
      · rw [decide_eq_false (fun w=>z (cmp.mp w))] at tt
        exact (zal a1).trans ((zbb tt).trans rfl))
    [.v (.int more),.v (encP sets),.v (iL ch),.v P,.v W,sv o5,sv o6,sv none,sv none,sv none,sv none,sv none] ⟨none,none,none,rfl⟩
  have q7:zev [.v (.int more),.v (encP sets),.v (iL ch),.v P,.v W,sv o5,sv o6,sv none,sv none,sv none,sv none,sv none]=zcI (bTup 2 (zaS (zao 7) (zaS (zao 8) bNil))) zc0 (sets.map encS) [.v (.int more),.v (encP sets),.v (iL ch),.v P,.v W,sv o5,sv o6,sv none,sv none,sv none,sv none,sv none]:=zbp (l:=sets.map encS) rfl
  by_cases h4:∃ s ∈ sets,(s.1:Rat) < rs (s.2.map (gF ps))
  · rw [if_pos h4]
    exact zbH (q7.trans (lf4.1 h4))
  rw [if_neg h4]
  obtain ⟨δ2,l2,o7,o8,o9,rfl⟩:=lf4.2 h4
  refine (zal (q7.trans l2)).trans ?_
  obtain ⟨f,f1,f2,f3⟩:=sums h ps (fun q hq=>hq) (by omega)
  rw [← eP] at f1
  have q8:mAsg (zai zbs (zaa (mVar 3) mNil)) (zao 9) [.v (.int more),.v (encP sets),.v (iL ch),.v P,.v W,sv o5,sv o6,sv o7,sv o8,sv o9,sv none,sv none] = .nx [.v (.int more),.v (encP sets),.v (iL ch),.v P,.v W,sv o5,sv o6,sv o7,sv o8,.v (encF f),sv none,sv none] :=
    zaE (d:=encF f) (by simp [zai,zaa,mNil,mVar,f1]) (za7 rfl)
  refine (zal q8).trans ?_
  obtain ⟨g,g1,g2,g3⟩:=zjZ m2'
  have k3:zda [.v (.int more),.v (encP sets),.v (iL ch),.v P,.v W,sv o5,sv o6,sv o7,sv o8,.v (encF f),sv none,sv none] = .ok (iL ((sets.map fun s=>s.2.length).map fun a:Nat=>(a:Int))):=by
    refine Eq.trans (za8 (l:=sets.map encS) (r:=sets.map fun s=>.int (s.2.length:Int)) rfl (by simp; omega) ?_) (by simp [iL])
    exact zaZ encS _ sets fun s _=>by simp [zcc,za1,bTup,zaS,bNil,zaJ,mCB,zaa,mNil,mRd,mC,encS]
  have q9:mAsg (zai zdd (zaa (ziU (zaa zda mNil) (mC (.int 0))) mNil)) (zao 10) [.v (.int more),.v (encP sets),.v (iL ch),.v P,.v W,sv o5,sv o6,sv o7,sv o8,.v (encF f),sv none,sv none] = .nx [.v (.int more),.v (encP sets),.v (iL ch),.v P,.v W,sv o5,sv o6,sv o7,sv o8,.v (encF f),.v (encF g),sv none] :=
    zaE (d:=encF g) (by simp only [zai,zaa,mNil,ziU,k3,mC,R.bind_ok,h.mx,R.of_some,g1,R.nev_ok]) (za7 rfl)
  refine (zal q9).trans ?_
  have k4:zdo [.v (.int more),.v (encP sets),.v (iL ch),.v P,.v W,sv o5,sv o6,sv o7,sv o8,.v (encF f),.v (encF g),sv none] = .ok (iL (ch.map fun i=>(gS sets i).1)):=by
    refine Eq.trans (za8 (l:=ch.map .int) (r:=ch.map fun i=>.int (gS sets i).1) rfl (by rw [List.length_map]; omega) ?_) (by simp [iL])
    refine zaZ .int _ _ fun i hi=>?_
    have r:=rg i hi
    have e:za1 [.v (.int more),.v (encP sets),.v (iL ch),.v P,.v W,sv o5,sv o6,sv o7,sv o8,.v (encF f),.v (encF g),sv none] [1] 1 = [.v (encP sets),.no]:=rfl
    rw [e]
    simp [zcc,zaJ,mRd,mC,zk4 r.1 r.2,encS]
  have q10:mAsg (mCB fSum (zaa zdo mNil)) (zao 11) [.v (.int more),.v (encP sets),.v (iL ch),.v P,.v W,sv o5,sv o6,sv o7,sv o8,.v (encF f),.v (encF g),sv none] = .nx [.v (.int more),.v (encP sets),.v (iL ch),.v P,.v W,sv o5,sv o6,sv o7,sv o8,.v (encF f),.v (encF g),.v (.int (cost sets ch))] :=
    zaE (d:=.int (cost sets ch)) (by simp only [mCB,zaa,mNil,k4,R.bind_ok,zft,R.of_some]; rfl) (za7 rfl)
  refine (zal q10).trans ?_
  have ca:=zls h h1'
  have fc:Fit (cost sets ch):=fitN _ ca
  have fcB:Fit (cost sets ch * f.2):=fitN (10 ^ 20 * 10 ^ 1100) (by rw [Int.natAbs_mul]; exact Nat.mul_le_mul ca f2.b)
  have cmp:f.1 * g.1 < cost sets ch * f.2 * g.2 ↔ rs ps * H m < (cost sets ch:Rat):=by
    refine zkT f2.g0 g2.g0 ?_ ?_
    · have n:=zeI f2.g0
      rw [← f3]; unfold fv; grind
    · have n:=zeI g2.g0
      rw [← g3]; unfold fv; grind
  have t9:zan (m2 oGt (m2 oMul (m2 oMul (mRd 11) (m2 oIxT (mRd 9) (mC (.int 1)))) (m2 oIxT (mRd 10) (mC (.int 1)))) (m2 oMul (m2 oIxT (mRd 9) (mC (.int 0))) (m2 oIxT (mRd 10) (mC (.int 0))))) [.v (.int more),.v (encP sets),.v (iL ch),.v P,.v W,sv o5,sv o6,sv o7,sv o8,.v (encF f),.v (encF g),.v (.int (cost sets ch))] = .ok (decide (f.1 * g.1 < cost sets ch * f.2 * g.2)):=by
    simp [zan,mRd,mC,encF,zcd fc (fitN _ f2.b),zcd fcB (fitN _ g2.b),zcd (fitN _ f2.t) (fitN _ g2.t)]
  by_cases h5:rs ps * H m < (cost sets ch:Rat)
  · rw [if_pos h5]
    rw [decide_eq_true (cmp.mpr h5)] at t9
    exact zbH ((zbj t9).trans rfl)
  · rw [if_neg h5]
    rw [decide_eq_false (fun w=>h5 (cmp.mp w))] at t9
    exact (zal ((zbb t9).trans rfl)).trans rfl
end
end My
namespace My
open PySem L2 PM
def encZ (z:Ln × Int):D:=.tup [encN z.1,.int z.2]
theorem znm:∀ (ls:List Ln) (pd:List Int),zipD (ls.map encN) (pd.map .int)=(ls.zip pd).map encZ
  | [],_=>by simp [zipD]
  | _ :: _,[]=>by simp [zipD]
  | l :: ls,p :: pd=>by
    have:=znm ls pd
    unfold zipD at this ⊢
    simp only [List.map_cons,List.zipWith_cons_cons,List.zip_cons_cons,this]; rfl
def pa (i:Int) (ls:List Ln) (pd:List Int):List Int:=((ls.zip pd).filter fun z=>decide (i=z.1.1∨i=z.1.2)).map (·.2)
theorem zjS (i:Int) (ls:List Ln) (pd:List Int):zdu (zcc (bTup 2 (zaS (zaJ 1) (zaS (zaJ 2) bNil))) (some (zan (m2 oIn (mRd 0) (mRd 1)))) (mVar 2) [.v (.int i),.no,.no]) ((ls.zip pd).map encZ) = .ok ((pa i ls pd).map .int):=by
  unfold pa
  rw [List.map_map]
  refine zfW encZ _ _ _ fun z _=>?_
  obtain ⟨⟨a,b⟩,c⟩:=z
  have io:oIn (.int i) (encN (a,b))=some (.bl (decide (i=a∨i=b))):=by simp [oIn,encN,asIs]
  by_cases h:i=a∨i=b
  · simp [zcc,bTup,zaS,bNil,zaJ,mRd,mVar,encZ,zan,io,h]
  · simp [zcc,bTup,zaS,bNil,zaJ,mRd,mVar,encZ,zan,io,h]
theorem zov {δ:En} {i j:Nat} {ls:List Ln} {pd:List Int} (h1:δ[i]?=some (.v (zaM ls))) (h2:δ[j]?=some (.v (iL pd))):mZip (zaa (mRd i) (zaa (mRd j) mNil)) δ = .ok ((ls.zip pd).map encZ):=by
  simp only [mZip,zaa,mNil,mRd,h1,h2,R.bind_ok]
  rw [← znm]; rfl
theorem zlC {i:Int} {ls:List Ln} {pd:List Int} (hn:ls.length ≤ 1000):zeD [.int i,zaM ls,iL pd] = .ok (.int (pa i ls pd).sum):=by
  have k:ziu [.v (.int i),.v (zaM ls),.v (iL pd)] = .ok (iL (pa i ls pd)) :=
    za8 (l:=(ls.zip pd).map encZ) (zov rfl rfl) (by simp; omega) (zjS i ls pd)
  refine zbl ?_
  show mRet _ [.v (.int i),.v (zaM ls),.v (iL pd)]=_
  simp only [mRet,mCB,zaa,mNil,k,R.bind_ok,zft,R.of_some]; rfl
def due2 (ps:List Int) (ls:List Ln) (ch pd:List Int):D:=by
  classical
  exact (if okU ch ps.length=false then .str "chosen" else
    if ∃ l ∈ ls,l.1 ∉ ch∧l.2 ∉ ch then .str "open" else
    if pd.length ≠ ls.length∨∃ p ∈ pd,p < 0 then .str "paid" else
    if ∃ q ∈ ps.zipIdx,q.1 < (pa q.2 ls pd).sum then .str "over" else
    if 2 * pd.sum < (ch.map (gA ps)).sum then .str "share" else .non)
def encE (q:Int × Nat):D:=.tup [.int (q.2:Int),.int q.1]
theorem zja {δ:En} {i:Nat} {ps:List Int} (h:δ[i]?=some (.v (iL ps))):zi4 (zaa (mVar i) mNil) δ = .ok (ps.zipIdx.map encE):=by
  have ee:zi9 (ps.map D.int)=ps.zipIdx.map encE:=by rw [zlp,List.zipIdx_map,List.map_map]; rfl
  simp only [zi4,zaa,mNil,mVar,h,R.bind_ok]
  show R.of (some (zi9 (ps.map D.int)))=_
  rw [ee,R.of_some]
theorem zhb (i:Int) (l:List Int):zea (.int i) (iL l)=some (.bl (decide (i ∉ l))):=by
  by_cases z:i ∈ l <;> simp [zea,iL,zeh,z]
structure Tv (ps:List Int) (ls:List Ln) (ch pd:List Int):Prop where
  s1:ps.length ≤ 100
  l1:ls.length ≤ 100
  c1:ch.length ≤ 100
  p1:pd.length ≤ 200
  fp:Fit pd.sum
section
variable {ps:List Int} {ls:List Ln} {ch pd:List Int}
theorem zhZ (h:Tv ps ls ch pd):zcx [iL ps,zaM ls,iL ch,iL pd] = .ok (due2 ps ls ch pd):=by
  have s1:=h.s1; have l1:=h.l1; have c1:=h.c1; have p1:=h.p1
  have lN:fLen [zaM ls]=some (.int ls.length):=by simp [zaM]
  have ub:=zfb (l:=ch) (c:=ps.length) (by omega)
  refine zbl ?_
  show mSeq _ _ [.v (iL ps),.v (zaM ls),.v (iL ch),.v (iL pd),.no,.no]=_
  have t1:mNot (zan (zai zby (zaa (mVar 2) (zaa (mCB fLen (zaa (mRd 0) mNil)) mNil)))) [.v (iL ps),.v (zaM ls),.v (iL ch),.v (iL pd),.no,.no] = .ok (!okU ch ps.length):=by
    simp [mNot,zan,zai,zaa,mNil,mVar,mCB,mRd,ub]
  unfold due2
  by_cases h1:okU ch ps.length=false
  · rw [if_pos h1]
    rw [h1] at t1
    exact zbH ((zbj t1).trans rfl)
  rw [if_neg h1]
  have h1':okU ch ps.length=true:=by simpa using h1
  rw [h1'] at t1
  refine (zal ((zbb t1).trans rfl)).trans ?_
  have rg:∀ i ∈ ch,0 ≤ i∧i < (ps.length:Int):=(of_decide_eq_true h1').1
  have k1:zes [.v (iL ps),.v (zaM ls),.v (iL ch),.v (iL pd),.no,.no] = .ok (.lst ((ls.map fun l=>decide (l.1 ∉ ch∧l.2 ∉ ch)).map .bl)):=by
    refine za8 (l:=ls.map encN) rfl (by rw [List.length_map]; omega) ?_
    rw [List.map_map]
    refine zaZ encN _ _ fun l _=>?_
    have e:za1 [.v (iL ps),.v (zaM ls),.v (iL ch),.v (iL pd),.no,.no] [2] 2 = [.v (iL ch),.no,.no]:=rfl
    rw [e]
    by_cases z:l.1 ∈ ch
    · simp [zcc,bTup,zaS,bNil,zaJ,mRd,encN,ziJ,zhb,z]
    · by_cases z':l.2 ∈ ch <;> simp [zcc,bTup,zaS,bNil,zaJ,mRd,encN,ziJ,zhb,z,z']
  have t2:zan (mCB fAny (zaa zes mNil)) [.v (iL ps),.v (zaM ls),.v (iL ch),.v (iL pd),.no,.no] = .ok (decide (∃ l ∈ ls,l.1 ∉ ch∧l.2 ∉ ch)):=by
    simp only [zan,mCB,zaa,mNil,k1,R.bind_ok,zg9,R.of_some,zff]
    congr 1
    rw [Bool.eq_iff_iff]
    simp
  by_cases h2:∃ l ∈ ls,l.1 ∉ ch∧l.2 ∉ ch
  · rw [if_pos h2]
    rw [decide_eq_true h2] at t2
    exact zbH ((zbj t2).trans rfl)
  rw [if_neg h2]
  rw [decide_eq_false h2] at t2
  refine (zal ((zbb t2).trans rfl)).trans ?_
  have k2:zdp [.v (iL ps),.v (zaM ls),.v (iL ch),.v (iL pd),.no,.no] = .ok (.lst ((pd.map fun p=>decide (p < 0)).map .bl)):=by
    refine za8 (l:=pd.map .int) rfl (by rw [List.length_map]; omega) ?_
    rw [List.map_map]
    refine zaZ .int _ _ fun p _=>?_
    have e:za1 [.v (iL ps),.v (zaM ls),.v (iL ch),.v (iL pd),.no,.no] [] 1 = [.no]:=rfl
    rw [e]
    simp [zcc,zaJ,mRd,mC]
  have t3:mOr (zan (m2 oNe (mCB fLen (zaa (mRd 3) mNil)) (mCB fLen (zaa (mRd 1) mNil)))) (zan (mCB fAny (zaa zdp mNil))) [.v (iL ps),.v (zaM ls),.v (iL ch),.v (iL pd),.no,.no] = .ok (decide (pd.length ≠ ls.length∨∃ p ∈ pd,p < 0)):=by
    have a1:zan (m2 oNe (mCB fLen (zaa (mRd 3) mNil)) (mCB fLen (zaa (mRd 1) mNil))) [.v (iL ps),.v (zaM ls),.v (iL ch),.v (iL pd),.no,.no] = .ok (decide (pd.length ≠ ls.length)):=by
      simp [zan,mCB,zaa,mNil,mRd,lN]
      omega
    have a2:zan (mCB fAny (zaa zdp mNil)) [.v (iL ps),.v (zaM ls),.v (iL ch),.v (iL pd),.no,.no] = .ok (decide (∃ p ∈ pd,p < 0)):=by
      simp only [zan,mCB,zaa,mNil,k2,R.bind_ok,zg9,R.of_some,zff]
      congr 1
      rw [Bool.eq_iff_iff]
      simp
    unfold mOr
    rw [a1,R.bind_ok]
    by_cases z:pd.length ≠ ls.length
    · rw [decide_eq_true z,decide_eq_true (.inl z)]; rfl
    · rw [decide_eq_false z]
      refine Eq.trans a2 ?_
      congr 1
      exact decide_eq_decide.mpr ⟨.inr,fun w=>w.resolve_left z⟩
  by_cases h3:pd.length ≠ ls.length∨∃ p ∈ pd,p < 0
  · rw [if_pos h3]
    rw [decide_eq_true h3] at t3
    exact zbH ((zbj t3).trans rfl)
  rw [if_neg h3]
  rw [decide_eq_false h3] at t3
  refine (zal ((zbb t3).trans rfl)).trans ?_
  have lf:=zeC (b:=bTup 2 (zaS (zao 4) (zaS (zao 5) bNil))) (m:=zdW) encE (fun _ δ=>∃ o4 o5,δ = [.v (iL ps),.v (zaM ls),.v (iL ch),.v (iL pd),sv o4,sv o5]) (fun q=>q.1 < (pa q.2 ls pd).sum) (.str "over") ps.zipIdx
    (by
      rintro pre q post δ hall ⟨o4,o5,rfl⟩
      refine ⟨[.v (iL ps),.v (zaM ls),.v (iL ch),.v (iL pd),.v (.int q.2),.v (.int q.1)],by rcases o4 with _ | o4 <;> rcases o5 with _ | o5 <;> rfl,?_⟩
      have pe:=zlC (i:=q.2) (ls:=ls) (pd:=pd) (by omega)
      have tt:zan (m2 oGt (zai zeD (zaa (mVar 4) (zaa (mVar 1) (zaa (mVar 3) mNil)))) (mRd 5)) [.v (iL ps),.v (zaM ls),.v (iL ch),.v (iL pd),.v (.int q.2),.v (.int q.1)] = .ok (decide (q.1 < (pa q.2 ls pd).sum)):=by
        simp [zan,zai,zaa,mNil,mVar,mRd,pe]
      refine ⟨fun z=>?_,fun z=>⟨_,?_,some (.int q.2),some (.int q.1),rfl⟩⟩
      · rw [decide_eq_true z] at tt
        exact (zbj tt).trans rfl
      · rw [decide_eq_false z] at tt
        exact (zbb tt).trans rfl)
    [.v (iL ps),.v (zaM ls),.v (iL ch),.v (iL pd),.no,.no] ⟨none,none,rfl⟩
  have q4:zfF [.v (iL ps),.v (zaM ls),.v (iL ch),.v (iL pd),.no,.no]=zcI (bTup 2 (zaS (zao 4) (zaS (zao 5) bNil))) zdW (ps.zipIdx.map encE) [.v (iL ps),.v (zaM ls),.v (iL ch),.v (iL pd),.no,.no]:=zbp (zja rfl)
  by_cases h4:∃ q ∈ ps.zipIdx,q.1 < (pa q.2 ls pd).sum
  · rw [if_pos h4]
    exact zbH (q4.trans (lf.1 h4))
  rw [if_neg h4]
  obtain ⟨δ2,l2,o4,o5,rfl⟩:=lf.2 h4
  refine (zal (q4.trans l2)).trans ?_
  have k3:zep [.v (iL ps),.v (zaM ls),.v (iL ch),.v (iL pd),sv o4,sv o5] = .ok (iL (ch.map (gA ps))):=by
    refine Eq.trans (za8 (l:=ch.map .int) (r:=ch.map fun i=>.int (gA ps i)) rfl (by rw [List.length_map]; omega) ?_) (by simp [iL])
    refine zaZ .int _ _ fun i hi=>?_
    have r:=rg i hi
    have e:za1 [.v (iL ps),.v (zaM ls),.v (iL ch),.v (iL pd),sv o4,sv o5] [0] 1 = [.v (iL ps),.no]:=rfl
    rw [e]
    simp [zcc,zaJ,mRd,zhz r.1 (show i.toNat < ps.length by omega)]
  have t5:zan (m2 oGt (mCB fSum (zaa zep mNil)) (m2 oMul (mC (.int 2)) (mCB fSum (zaa (mRd 3) mNil)))) [.v (iL ps),.v (zaM ls),.v (iL ch),.v (iL pd),sv o4,sv o5] = .ok (decide (2 * pd.sum < (ch.map (gA ps)).sum)):=by
    simp only [zan,zcg,mCB,zaa,mNil,k3,mC,mRd,List.getElem?_cons_succ,List.getElem?_cons_zero,R.bind_ok,zft,R.of_some,zcd (fitN 10 (by decide):Fit 2) h.fp,zlL,zff]
  by_cases h5:2 * pd.sum < (ch.map (gA ps)).sum
  · rw [if_pos h5]
    rw [decide_eq_true h5] at t5
    exact zbH ((zbj t5).trans rfl)
  · rw [if_neg h5]
    rw [decide_eq_false h5] at t5
    exact (zal ((zbb t5).trans rfl)).trans rfl
end
end My
namespace My
open PySem L2 PM
section
variable {ps:List Int} {ls:List Ln} {ch pd:List Int}
theorem ziF (h:Tv ps ls ch pd):zcj [iL ps,zaM ls,iL ch,iL pd] = .ok (due2 ps ls ch pd):=by
  have s1:=h.s1; have l1:=h.l1; have c1:=h.c1; have p1:=h.p1
  have lN:fLen [zaM ls]=some (.int ls.length):=by simp [zaM]
  have ub:=zgm (l:=ch) (c:=ps.length) (by omega)
  refine zbl ?_
  show mSeq _ _ [.v (iL ps),.v (zaM ls),.v (iL ch),.v (iL pd),.no,.no,.no,.no]=_
  have t1:mNot (zan (zai zbX (zaa (mVar 2) (zaa (mCB fLen (zaa (mRd 0) mNil)) mNil)))) [.v (iL ps),.v (zaM ls),.v (iL ch),.v (iL pd),.no,.no,.no,.no] = .ok (!okU ch ps.length):=by
    simp [mNot,zan,zai,zaa,mNil,mVar,mCB,mRd,ub]
  unfold due2
  by_cases h1:okU ch ps.length=false
  · rw [if_pos h1]
    rw [h1] at t1
    exact zbH ((zbj t1).trans rfl)
  rw [if_neg h1]
  have h1':okU ch ps.length=true:=by simpa using h1
  rw [h1'] at t1
  refine (zal ((zbb t1).trans rfl)).trans ?_
  have rg:∀ i ∈ ch,0 ≤ i∧i < (ps.length:Int):=(of_decide_eq_true h1').1
  have lf:=zeC (b:=bTup 2 (zaS (zao 4) (zaS (zao 5) bNil))) (m:=zc3) encN (fun _ δ=>∃ o4 o5,δ = [.v (iL ps),.v (zaM ls),.v (iL ch),.v (iL pd),sv o4,sv o5,sv none,sv none]) (fun l=>l.1 ∉ ch∧l.2 ∉ ch) (.str "open") ls
    (by
      rintro pre l post δ hall ⟨o4,o5,rfl⟩
      refine ⟨[.v (iL ps),.v (zaM ls),.v (iL ch),.v (iL pd),.v (.int l.1),.v (.int l.2),sv none,sv none],by rcases o4 with _ | o4 <;> rcases o5 with _ | o5 <;> rfl,?_⟩
      have tt:mAnd (zan (m2 zea (mRd 4) (mRd 2))) (zan (m2 zea (mRd 5) (mRd 2))) [.v (iL ps),.v (zaM ls),.v (iL ch),.v (iL pd),.v (.int l.1),.v (.int l.2),sv none,sv none] = .ok (decide (l.1 ∉ ch∧l.2 ∉ ch)):=by
        by_cases z:l.1 ∈ ch
        · simp [mAnd,zan,mRd,zhb,z]
        · by_cases z':l.2 ∈ ch <;> simp [mAnd,zan,mRd,zhb,z,z']
      refine ⟨fun z=>?_,fun z=>⟨_,?_,some (.int l.1),some (.int l.2),rfl⟩⟩
      · rw [decide_eq_true z] at tt
        exact (zbj tt).trans rfl
      · rw [decide_eq_false z] at tt
        exact (zbb tt).trans rfl)
    [.v (iL ps),.v (zaM ls),.v (iL ch),.v (iL pd),sv none,sv none,sv none,sv none] ⟨none,none,rfl⟩
  have q2:zeu [.v (iL ps),.v (zaM ls),.v (iL ch),.v (iL pd),.no,.no,.no,.no]=zcI (bTup 2 (zaS (zao 4) (zaS (zao 5) bNil))) zc3 (ls.map encN) [.v (iL ps),.v (zaM ls),.v (iL ch),.v (iL pd),sv none,sv none,sv none,sv none]:=zbp (l:=ls.map encN) rfl
  by_cases h2:∃ l ∈ ls,l.1 ∉ ch∧l.2 ∉ ch
  · rw [if_pos h2]
    exact zbH (q2.trans (lf.1 h2))
  rw [if_neg h2]
  obtain ⟨δ2,l2,o4,o5,rfl⟩:=lf.2 h2
  refine (zal (q2.trans l2)).trans ?_
  have k1:zcw [.v (iL ps),.v (zaM ls),.v (iL ch),.v (iL pd),sv o4,sv o5,sv none,sv none] = .ok (.lst ((pd.filter fun p=>decide (p < 0)).map fun _=>.int 1)):=by
    refine za8 (l:=pd.map .int) rfl (by rw [List.length_map]; omega) ?_
    refine zfW .int _ _ _ fun p _=>?_
    have e:za1 [.v (iL ps),.v (zaM ls),.v (iL ch),.v (iL pd),sv o4,sv o5,sv none,sv none] [] 1 = [.no]:=rfl
    rw [e]
    by_cases z:p < 0 <;> simp [zcc,zaJ,mRd,mC,zan,z]
  have t3:mOr (zan (m2 oNe (mCB fLen (zaa (mRd 3) mNil)) (mCB fLen (zaa (mRd 1) mNil)))) (zan (m2 oGt (mCB fLen (zaa zcw mNil)) (mC (.int 0)))) [.v (iL ps),.v (zaM ls),.v (iL ch),.v (iL pd),sv o4,sv o5,sv none,sv none] = .ok (decide (pd.length ≠ ls.length∨∃ p ∈ pd,p < 0)):=by
    have a1:zan (m2 oNe (mCB fLen (zaa (mRd 3) mNil)) (mCB fLen (zaa (mRd 1) mNil))) [.v (iL ps),.v (zaM ls),.v (iL ch),.v (iL pd),sv o4,sv o5,sv none,sv none] = .ok (decide (pd.length ≠ ls.length)):=by
      simp [zan,mCB,zaa,mNil,mRd,lN]
      omega
    have a2:zan (m2 oGt (mCB fLen (zaa zcw mNil)) (mC (.int 0))) [.v (iL ps),.v (zaM ls),.v (iL ch),.v (iL pd),sv o4,sv o5,sv none,sv none] = .ok (decide (∃ p ∈ pd,p < 0)):=by
      simp only [zan,zcg,mCB,zaa,mNil,k1,mC,R.bind_ok,zop,R.of_some,zlL,zff,List.length_map]
      congr 1
      refine decide_eq_decide.mpr ⟨fun z=>?_,fun ⟨p,z1,z2⟩=>?_⟩
      · obtain ⟨p,hp⟩:=List.exists_mem_of_length_pos (show 0 < (pd.filter fun p=>decide (p < 0)).length by omega)
        exact ⟨p,(List.mem_filter.mp hp).1,by simpa using (List.mem_filter.mp hp).2⟩
      · have:=List.length_pos_of_mem ((List.mem_filter (p:=fun p:Int=>decide (p < 0))).mpr ⟨z1,decide_eq_true z2⟩)
        omega
    unfold mOr
    rw [a1,R.bind_ok]
    by_cases z:pd.length ≠ ls.length
    · rw [decide_eq_true z,decide_eq_true (.inl z)]; rfl
    · rw [decide_eq_false z]
      refine Eq.trans a2 ?_
      congr 1
      exact decide_eq_decide.mpr ⟨.inr,fun w=>w.resolve_left z⟩
  by_cases h3:pd.length ≠ ls.length∨∃ p ∈ pd,p < 0
  · rw [if_pos h3]
    rw [decide_eq_true h3] at t3
    exact zbH ((zbj t3).trans rfl)
  rw [if_neg h3]
  rw [decide_eq_false h3] at t3
  refine (zal ((zbb t3).trans rfl)).trans ?_
  have lf4:=zeC (b:=bTup 2 (zaS (zao 6) (zaS (zao 7) bNil))) (m:=zcU) encE (fun _ δ=>∃ o6 o7,δ = [.v (iL ps),.v (zaM ls),.v (iL ch),.v (iL pd),sv o4,sv o5,sv o6,sv o7]) (fun q=>q.1 < (pa q.2 ls pd).sum) (.str "over") ps.zipIdx
    (by
      rintro pre q post δ hall ⟨o6,o7,rfl⟩
      refine ⟨[.v (iL ps),.v (zaM ls),.v (iL ch),.v (iL pd),sv o4,sv o5,.v (.int q.2),.v (.int q.1)],by rcases o6 with _ | o6 <;> rcases o7 with _ | o7 <;> rfl,?_⟩
      have k:zdk [.v (iL ps),.v (zaM ls),.v (iL ch),.v (iL pd),sv o4,sv o5,.v (.int q.2),.v (.int q.1)] = .ok (iL (pa q.2 ls pd)) :=
        za8 (l:=(ls.zip pd).map encZ) (zov rfl rfl) (by simp; omega) (zjS q.2 ls pd)
      have tt:zan (m2 oGt (mCB fSum (zaa zdk mNil)) (mRd 7)) [.v (iL ps),.v (zaM ls),.v (iL ch),.v (iL pd),sv o4,sv o5,.v (.int q.2),.v (.int q.1)] = .ok (decide (q.1 < (pa q.2 ls pd).sum)):=by
        simp only [zan,zcg,mCB,zaa,mNil,k,mRd,List.getElem?_cons_succ,List.getElem?_cons_zero,R.bind_ok,zft,R.of_some,zlL,zff]
      refine ⟨fun z=>?_,fun z=>⟨_,?_,some (.int q.2),some (.int q.1),rfl⟩⟩
      · rw [decide_eq_true z] at tt
        exact (zbj tt).trans rfl
      · rw [decide_eq_false z] at tt
        exact (zbb tt).trans rfl)
    [.v (iL ps),.v (zaM ls),.v (iL ch),.v (iL pd),sv o4,sv o5,sv none,sv none] ⟨none,none,rfl⟩
  have q4:zeA [.v (iL ps),.v (zaM ls),.v (iL ch),.v (iL pd),sv o4,sv o5,sv none,sv none]=zcI (bTup 2 (zaS (zao 6) (zaS (zao 7) bNil))) zcU (ps.zipIdx.map encE) [.v (iL ps),.v (zaM ls),.v (iL ch),.v (iL pd),sv o4,sv o5,sv none,sv none]:=zbp (zja rfl)
  by_cases h4:∃ q ∈ ps.zipIdx,q.1 < (pa q.2 ls pd).sum
  · rw [if_pos h4]
    exact zbH (q4.trans (lf4.1 h4))
  rw [if_neg h4]
  obtain ⟨δ2,l2,o6,o7,rfl⟩:=lf4.2 h4
  refine (zal (q4.trans l2)).trans ?_
  have k3:zdi [.v (iL ps),.v (zaM ls),.v (iL ch),.v (iL pd),sv o4,sv o5,sv o6,sv o7] = .ok (iL (ch.map (gA ps))):=by
    refine Eq.trans (za8 (l:=ch.map .int) (r:=ch.map fun i=>.int (gA ps i)) rfl (by rw [List.length_map]; omega) ?_) (by simp [iL])
    refine zaZ .int _ _ fun i hi=>?_
    have r:=rg i hi
    have e:za1 [.v (iL ps),.v (zaM ls),.v (iL ch),.v (iL pd),sv o4,sv o5,sv o6,sv o7] [0] 1 = [.v (iL ps),.no]:=rfl
    rw [e]
    simp [zcc,zaJ,mRd,zhz r.1 (show i.toNat < ps.length by omega)]
  have t5:zan (m2 oGt (mCB fSum (zaa zdi mNil)) (m2 oMul (mC (.int 2)) (mCB fSum (zaa (mRd 3) mNil)))) [.v (iL ps),.v (zaM ls),.v (iL ch),.v (iL pd),sv o4,sv o5,sv o6,sv o7] = .ok (decide (2 * pd.sum < (ch.map (gA ps)).sum)):=by
    simp only [zan,zcg,mCB,zaa,mNil,k3,mC,mRd,List.getElem?_cons_succ,List.getElem?_cons_zero,R.bind_ok,zft,R.of_some,zcd (fitN 10 (by decide):Fit 2) h.fp,zlL,zff]
  by_cases h5:2 * pd.sum < (ch.map (gA ps)).sum
  · rw [if_pos h5]
    rw [decide_eq_true h5] at t5
    exact zbH ((zbj t5).trans rfl)
  · rw [if_neg h5]
    rw [decide_eq_false h5] at t5
    exact (zal ((zbb t5).trans rfl)).trans rfl
end
end My
namespace My
open PySem L2 PM
theorem zfk {α:Type} (enc:α→D) {me:En→R D} {δ:En} {l:List α} {ml mh:En→R (Option Int)} {lo hi:Option Int} (h:me δ = .ok (.lst (l.map enc))) (h1:ml δ = .ok lo) (h2:mh δ = .ok hi):∃ cs:List α,mSl me ml mh δ = .ok (.lst (cs.map enc))∧cs.length ≤ l.length∧∀ x ∈ cs,x ∈ l:=by
  refine ⟨(l.drop (HT.sIx l.length 0 lo)).take (HT.sIx l.length l.length hi - HT.sIx l.length 0 lo),?_,by rw [List.length_take,List.length_drop]; omega,fun x hx=>List.mem_of_mem_drop (List.mem_of_mem_take hx)⟩
  simp only [mSl,h,R.bind_ok,h1,h2,zqp,R.of_some]
  unfold cutD
  rw [List.length_map,List.map_take,List.map_drop]
theorem catE {α:Type} (enc:α→D) (l r:List α) (h:l.length + r.length ≤ 100000):oCat (.lst (l.map enc)) (.lst (r.map enc))=some (.lst ((l ++ r).map enc)):=by
  rw [zoq (by rw [List.length_map,List.length_map]; exact h),List.map_append]
theorem retO {m:En→R D} {δ:En} {d:D} (h:m δ = .ok d):zcP m δ = .ro d:=by unfold zcP; rw [h]; rfl
theorem zet {m n:En→O} {δ:En} {d:D} (h:m δ = .ro d):mSeq m n δ = .ro d:=by unfold mSeq; rw [h]
theorem cat3 {α:Type} (enc:α→D) {a b c:En→R D} {δ:En} {l m r:List α} (h1:a δ = .ok (.lst (l.map enc))) (h2:b δ = .ok (.lst (m.map enc))) (h3:c δ = .ok (.lst (r.map enc))) (hl:l.length + m.length + r.length ≤ 100000):m2 oCat (m2 oCat a b) c δ = .ok (.lst ((l ++ m ++ r).map enc)):=by
  simp only [zcg,h1,h2,h3,R.bind_ok,catE enc l m (by omega),R.of_some,catE enc (l ++ m) r (by rw [List.length_append]; omega)]
theorem cat2 {α:Type} (enc:α→D) {a c:En→R D} {δ:En} {l r:List α} (h1:a δ = .ok (.lst (l.map enc))) (h3:c δ = .ok (.lst (r.map enc))) (hl:l.length + r.length ≤ 100000):m2 oCat a c δ = .ok (.lst ((l ++ r).map enc)):=by
  simp only [zcg,h1,h3,R.bind_ok,catE enc l r hl,R.of_some]
theorem zef {l:List Int} {x c:Int} (hl:l.length ≤ 1000):∃ l':List Int,zaT [iL l,.int x,.int c] = .ok (iL l')∧l'.length ≤ 2 * l.length + 1:=by
  have f8:Fit 8:=fitN 100 (by decide)
  have f64:Fit 64:=fitN 100 (by decide)
  have f4096:Fit 4096:=fitN 10000 (by decide)
  obtain ⟨A,eA⟩:∃ A,A=iL l:=⟨_,rfl⟩
  have lA:fLen [A]=some (.int l.length):=by rw [eA]; exact zkO l
  obtain ⟨z,hz,z1⟩:∃ z:Int,zlz [.int 1,.int c]=some (.int z)∧0 < z:=⟨if c > 1 then c else 1,rfl,by split <;> omega⟩
  obtain ⟨t,et⟩:∃ t:Int,t=x / 8 % ((l.length:Int) + 1):=⟨_,rfl⟩
  have q1:mAsg (m2 oMod (m2 oDiv (mRd 1) (mC (.int 8))) (m2 oAdd (mCB fLen (zaa (mRd 0) mNil)) (mC (.int 1)))) (zao 3) [.v A,.v (.int x),.v (.int c),.no,.no] = .nx [.v A,.v (.int x),.v (.int c),.v (.int t),.no]:=by
    refine zaE (d:=.int t) ?_ rfl
    have:(0:Int) < (l.length:Int) + 1:=by omega
    simp [mRd,mC,mCB,zaa,mNil,lA,zca (show (0:Int) < 8 by decide) f8,zbn this,et]
  obtain ⟨m4,e4,m0,m1'⟩:∃ m4:Int,m4=x / 4096 % 4∧0 ≤ m4∧m4 < 4:=⟨_,rfl,Int.emod_nonneg _ (by decide),Int.emod_lt_of_pos _ (by decide)⟩
  have v4:∀ s3 s4:Sl,m2 oMod (m2 oDiv (mRd 1) (mC (.int 4096))) (mC (.int 4)) [.v A,.v (.int x),.v (.int c),s3,s4] = .ok (.int m4):=fun s3 s4=>by
    simp [mRd,mC,zca (show (0:Int) < 4096 by decide) f4096,zbn (show (0:Int) < 4 by decide),e4]
  obtain ⟨o1,q2⟩:∃ o1:Int,mAsg (m2 oIxL (mLst (zaa (mVar 2) (zaa (m1 oNeg (mC (.int 1))) (zaa (m2 oMod (m2 oDiv (mRd 1) (mC (.int 64))) (mCB zlz (zaa (mC (.int 1)) (zaa (mRd 2) mNil)))) (zaa (mC (.int 0)) mNil))))) (m2 oMod (m2 oDiv (mRd 1) (mC (.int 4096))) (mC (.int 4)))) (zao 4) [.v A,.v (.int x),.v (.int c),.v (.int t),.no] = .nx [.v A,.v (.int x),.v (.int c),.v (.int t),.v (.int o1)]:=by
    have l4:mLst (zaa (mVar 2) (zaa (m1 oNeg (mC (.int 1))) (zaa (m2 oMod (m2 oDiv (mRd 1) (mC (.int 64))) (mCB zlz (zaa (mC (.int 1)) (zaa (mRd 2) mNil)))) (zaa (mC (.int 0)) mNil)))) [.v A,.v (.int x),.v (.int c),.v (.int t),.no] = .ok (.lst [.int c,.int (-1),.int (x / 64 % z),.int 0]):=by
      simp [mLst,zaa,mNil,mVar,mC,mRd,mCB,hz,zca (show (0:Int) < 64 by decide) f64,zbn z1,sizeLine]
    obtain ⟨o1,ho⟩:∃ o1,oIxL (.lst [.int c,.int (-1),.int (x / 64 % z),.int 0]) (.int m4)=some (.int o1):=by
      rcases (show m4=0∨m4=1∨m4=2∨m4=3 by omega) with e | e | e | e <;> rw [e]
      · exact ⟨c,zdC (by decide) rfl⟩
      · exact ⟨-1,zdC (by decide) rfl⟩
      · exact ⟨_,zdC (by decide) rfl⟩
      · exact ⟨0,zdC (by decide) rfl⟩
    exact ⟨o1,zaE (d:=.int o1) (by simp only [zcg] at v4 ⊢; simp only [l4,R.bind_ok,v4,ho,R.of_some]) rfl⟩
  obtain ⟨o,q3⟩:∃ o:Int,mIfS (mAnd (zan (m2 oEq (m2 oMod (m2 oDiv (mRd 1) (mC (.int 4096))) (mC (.int 4))) (mC (.int 3)))) (zan (m2 oNeD (mRd 0) (mLst mNil)))) (mAsg (m2 oIxL (mRd 0) (m2 oMod (m2 oDiv (mRd 1) (mC (.int 64))) (mCB fLen (zaa (mRd 0) mNil)))) (zao 4)) zaX [.v A,.v (.int x),.v (.int c),.v (.int t),.v (.int o1)] = .nx [.v A,.v (.int x),.v (.int c),.v (.int t),.v (.int o)]:=by
    have lv:∀ s3 s4:Sl,mLst mNil [.v A,.v (.int x),.v (.int c),s3,s4] = .ok (.lst []):=fun _ _=>by simp [mLst,mNil,sizeLine]
    have t1:zan (m2 oEq (m2 oMod (m2 oDiv (mRd 1) (mC (.int 4096))) (mC (.int 4))) (mC (.int 3))) [.v A,.v (.int x),.v (.int c),.v (.int t),.v (.int o1)] = .ok (decide (m4=3)):=by
      have v:=v4 (.v (.int t)) (.v (.int o1))
      simp only [zan,zcg] at v ⊢
      rw [v]
      simp [mC]
    cases l with
    | nil =>
      have ne:oNeD A (.lst [])=some (.bl false):=by rw [eA]; exact zmT (zdq []) (zdq []) rfl
      have t2:zan (m2 oNeD (mRd 0) (mLst mNil)) [.v A,.v (.int x),.v (.int c),.v (.int t),.v (.int o1)] = .ok false:=by
        simp only [zan,zcg,lv,mRd,List.getElem?_cons_zero,R.bind_ok,ne,R.of_some,zff]
      refine ⟨o1,?_⟩
      rw [zbb]
      · rfl
      · by_cases e:m4=3
        · rw [decide_eq_true e] at t1
          simp only [mAnd,t1,t2,R.bind_ok]; rfl
        · rw [decide_eq_false e] at t1
          simp only [mAnd,t1,R.bind_ok]; rfl
    | cons a l =>
      have ne:oNeD A (.lst [])=some (.bl true):=by
        unfold oNeD
        rw [zbE ⟨by rw [eA]; exact zdq _,zdq []⟩]
        have:A ≠ .lst []:=by rw [eA]; intro z; cases z
        simp [this]
      have t2:zan (m2 oNeD (mRd 0) (mLst mNil)) [.v A,.v (.int x),.v (.int c),.v (.int t),.v (.int o1)] = .ok true:=by
        simp only [zan,zcg,lv,mRd,List.getElem?_cons_zero,R.bind_ok,ne,R.of_some,zff]
      by_cases e:m4=3
      · rw [decide_eq_true e] at t1
        have lp:(0:Int) < ((a :: l).length:Int):=by rw [List.length_cons]; omega
        have a0:=Int.emod_nonneg (x / 64) (show ((a :: l).length:Int) ≠ 0 by omega)
        have a1:=Int.emod_lt_of_pos (x / 64) lp
        obtain ⟨o,ho⟩:∃ o,(a :: l)[(x / 64 % ((a :: l).length:Int)).toNat]?=some o:=⟨_,List.getElem?_eq_getElem (by omega)⟩
        have ix:oIxL A (.int (x / 64 % ((a :: l).length:Int)))=some (.int o):=by
          rw [eA]
          exact zdC a0 (by rw [List.getElem?_map,ho]; rfl)
        refine ⟨o,?_⟩
        rw [zbj (by simp only [mAnd,t1,t2,R.bind_ok]; rfl)]
        refine zaE (d:=.int o) ?_ rfl
        simp only [zcg,mRd,mC,mCB,zaa,mNil,List.getElem?_cons_succ,List.getElem?_cons_zero,R.bind_ok,lA,R.of_some,zca (show (0:Int) < 64 by decide) f64,zbn lp,ix]
      · rw [decide_eq_false e] at t1
        exact ⟨o1,by rw [zbb (by simp only [mAnd,t1,R.bind_ok]; rfl)]; rfl⟩
  obtain ⟨δ,eδ⟩:∃ δ:En,δ = [.v A,.v (.int x),.v (.int c),.v (.int t),.v (.int o)]:=⟨_,rfl⟩
  have g0:mRd 0 δ = .ok (.lst (l.map .int)):=by rw [eδ,eA]; rfl
  have tl:∀ k:Int,zan (m2 oLt (m2 oMod (mRd 1) (mC (.int 8))) (mC (.int k))) δ = .ok (decide (x % 8 < k)):=fun k=>by
    rw [eδ]; simp [zan,mRd,mC,zbn (show (0:Int) < 8 by decide)]
  have p3:za2 (mVar 3) δ = .ok (some t):=by rw [eδ]; rfl
  have p31:za2 (m2 oAdd (mRd 3) (mC (.int 1))) δ = .ok (some (t + 1)):=by rw [eδ]; simp [za2,mRd,mC]
  have no:mNoP δ = .ok none:=rfl
  obtain ⟨c1,s1,h1,_⟩:=zfk .int (ml:=mNoP) (mh:=za2 (mVar 3)) g0 no p3
  obtain ⟨c2,s2,h2,_⟩:=zfk .int (ml:=za2 (mVar 3)) (mh:=mNoP) g0 p3 no
  obtain ⟨c3,s3,h3,_⟩:=zfk .int (ml:=za2 (m2 oAdd (mRd 3) (mC (.int 1)))) (mh:=mNoP) g0 p31 no
  have one:mLst (zaa (mVar 4) mNil) δ = .ok (.lst ([o].map .int)):=by rw [eδ]; simp [mLst,zaa,mNil,mVar,sizeLine]
  have go:∀ l':List Int,(mSeq (mIfS (zan (m2 oLt (m2 oMod (mRd 1) (mC (.int 8))) (mC (.int 3)))) (zcP (m2 oCat (m2 oCat (mSl (mRd 0) mNoP (za2 (mVar 3))) (mLst (zaa (mVar 4) mNil))) (mSl (mRd 0) (za2 (mVar 3)) mNoP))) zaX) (mSeq (mIfS (zan (m2 oLt (m2 oMod (mRd 1) (mC (.int 8))) (mC (.int 5)))) (zcP (m2 oCat (mSl (mRd 0) mNoP (za2 (mVar 3))) (mSl (mRd 0) (za2 (m2 oAdd (mRd 3) (mC (.int 1)))) mNoP))) zaX) (zcP (m2 oCat (m2 oCat (mSl (mRd 0) mNoP (za2 (mVar 3))) (mLst (zaa (mVar 4) mNil))) (mSl (mRd 0) (za2 (m2 oAdd (mRd 3) (mC (.int 1)))) mNoP))))) δ = .ro (iL l')→zaT [iL l,.int x,.int c] = .ok (iL l'):=fun l' q4=>by
    refine zcJ ?_
    rw [← eA]
    rw [eδ] at q4
    exact (zal q1).trans ((zal q2).trans ((zal q3).trans q4))
  by_cases k0:x % 8 < 3
  · exact ⟨c1 ++ [o] ++ c2,go _ (zet ((zbj (by rw [tl,decide_eq_true k0])).trans (retO (cat3 .int s1 one s2 (by simp; omega))))),by simp; omega⟩
  · have n0:mIfS (zan (m2 oLt (m2 oMod (mRd 1) (mC (.int 8))) (mC (.int 3)))) (zcP (m2 oCat (m2 oCat (mSl (mRd 0) mNoP (za2 (mVar 3))) (mLst (zaa (mVar 4) mNil))) (mSl (mRd 0) (za2 (mVar 3)) mNoP))) zaX δ = .nx δ:=(zbb (by rw [tl,decide_eq_false k0])).trans rfl
    by_cases k1:x % 8 < 5
    · exact ⟨c1 ++ c3,go _ ((zal n0).trans (zet ((zbj (by rw [tl,decide_eq_true k1])).trans (retO (cat2 .int s1 s3 (by omega)))))),by simp; omega⟩
    · exact ⟨c1 ++ [o] ++ c3,go _ ((zal n0).trans ((zal ((zbb (by rw [tl,decide_eq_false k1])).trans rfl)).trans (retO (cat3 .int s1 one s3 (by simp; omega))))),by simp; omega⟩
theorem zhp {l:List Int} {x:Int} {M:Nat} (hl:l.length ≤ 1000) (hM:∀ a ∈ l,a.natAbs ≤ M):∃ l':List Int,zbB [iL l,.int x] = .ok (iL l')∧l'.length ≤ 2 * l.length + 1∧∀ a ∈ l',a.natAbs ≤ 3 * M + 3:=by
  have f8:Fit 8:=fitN 100 (by decide)
  have f64:Fit 64:=fitN 100 (by decide)
  have f2:Fit 2:=fitN 100 (by decide)
  obtain ⟨A,eA⟩:∃ A,A=iL l:=⟨_,rfl⟩
  have lA:fLen [A]=some (.int l.length):=by rw [eA]; exact zkO l
  have lv:∀ s3 s4:Sl,mLst mNil [.v A,.v (.int x),s3,s4] = .ok (.lst []):=fun _ _=>by simp [mLst,mNil,sizeLine]
  cases l with
  | nil =>
    have ne:oEqD A (.lst [])=some (.bl true):=by rw [eA]; exact zkb (zdq []) (zdq []) rfl
    have t1:zan (m2 oEqD (mRd 0) (mLst mNil)) [.v A,.v (.int x),.no,.no] = .ok true:=by
      simp only [zan,zcg,lv,mRd,List.getElem?_cons_zero,R.bind_ok,ne,R.of_some,zff]
    have d1:mLst (zaa (m2 oSub (m2 oMod (mRd 1) (mC (.int 3))) (mC (.int 1))) mNil) [.v A,.v (.int x),.no,.no] = .ok (.lst ([x % 3 - 1].map .int)):=by
      simp [mLst,zaa,mNil,mRd,mC,sizeLine,zbn (show (0:Int) < 3 by decide)]
    have p1:za2 (m2 oMod (mRd 1) (mC (.int 2))) [.v A,.v (.int x),.no,.no] = .ok (some (x % 2)):=by simp [za2,mRd,mC,zbn (show (0:Int) < 2 by decide)]
    obtain ⟨c1,s1,h1,i1⟩:=zfk .int (ml:=mNoP) d1 rfl p1
    refine ⟨c1,zcJ ?_,by simpa using h1,fun a ha=>?_⟩
    · rw [← eA]
      exact zet ((zbj t1).trans (retO s1))
    · have:=i1 a ha
      rw [List.mem_singleton] at this
      omega
  | cons a l =>
    have ne:oEqD A (.lst [])=some (.bl false):=by
      unfold oEqD
      rw [zbE ⟨by rw [eA]; exact zdq _,zdq []⟩]
      have:A ≠ .lst []:=by rw [eA]; intro z; cases z
      simp [this]
    have t1:zan (m2 oEqD (mRd 0) (mLst mNil)) [.v A,.v (.int x),.no,.no] = .ok false:=by
      simp only [zan,zcg,lv,mRd,List.getElem?_cons_zero,R.bind_ok,ne,R.of_some,zff]
    have lp:(0:Int) < ((a :: l).length:Int):=by rw [List.length_cons]; omega
    obtain ⟨t,et⟩:∃ t:Int,t=x / 8 % ((a :: l).length:Int):=⟨_,rfl⟩
    have a0:0 ≤ t:=by rw [et]; exact zd8 _ lp
    have a1:t < ((a :: l).length:Int):=by rw [et]; exact zeb _ lp
    obtain ⟨y,hy⟩:∃ y,(a :: l)[t.toNat]?=some y:=⟨_,List.getElem?_eq_getElem (by omega)⟩
    have yM:=hM y (List.mem_of_getElem? hy)
    have ix:oIxL A (.int t)=some (.int y):=by
      rw [eA]
      exact zdC a0 (by rw [List.getElem?_map,hy]; rfl)
    have q2:mAsg (m2 oMod (m2 oDiv (mRd 1) (mC (.int 8))) (mCB fLen (zaa (mRd 0) mNil))) (zao 2) [.v A,.v (.int x),.no,.no] = .nx [.v A,.v (.int x),.v (.int t),.no]:=by
      refine zaE (d:=.int t) ?_ rfl
      simp only [zcg,mRd,mC,mCB,zaa,mNil,List.getElem?_cons_succ,List.getElem?_cons_zero,R.bind_ok,lA,R.of_some,zca (show (0:Int) < 8 by decide) f8,zbn lp,et]
    have te:∀ k:Int,zan (m2 oEq (m2 oMod (mRd 1) (mC (.int 8))) (mC (.int k))) [.v A,.v (.int x),.v (.int t),.no] = .ok (decide (x % 8=k)):=fun k=>by
      simp [zan,mRd,mC,zbn (show (0:Int) < 8 by decide)]
    have sl:∀ s3:Sl,∃ c1 c2 c3:List Int,(mSl (mRd 0) mNoP (za2 (mVar 2)) [.v A,.v (.int x),.v (.int t),s3] = .ok (.lst (c1.map .int))∧c1.length ≤ (a :: l).length∧∀ x ∈ c1,x ∈ a :: l)∧(mSl (mRd 0) (za2 (mVar 2)) mNoP [.v A,.v (.int x),.v (.int t),s3] = .ok (.lst (c2.map .int))∧c2.length ≤ (a :: l).length∧∀ x ∈ c2,x ∈ a :: l)∧(mSl (mRd 0) (za2 (m2 oAdd (mRd 2) (mC (.int 1)))) mNoP [.v A,.v (.int x),.v (.int t),s3] = .ok (.lst (c3.map .int))∧c3.length ≤ (a :: l).length∧∀ x ∈ c3,x ∈ a :: l):=fun s3=>by
      have g0:mRd 0 [.v A,.v (.int x),.v (.int t),s3] = .ok (.lst ((a :: l).map .int)):=by rw [eA]; rfl
      have p3:za2 (mVar 2) [.v A,.v (.int x),.v (.int t),s3] = .ok (some t):=rfl
      have p31:za2 (m2 oAdd (mRd 2) (mC (.int 1))) [.v A,.v (.int x),.v (.int t),s3] = .ok (some (t + 1)):=by simp [za2,mRd,mC]
      obtain ⟨c1,h1⟩:=zfk .int (ml:=mNoP) (mh:=za2 (mVar 2)) g0 rfl p3
      obtain ⟨c2,h2⟩:=zfk .int (ml:=za2 (mVar 2)) (mh:=mNoP) g0 p3 rfl
      obtain ⟨c3,h3⟩:=zfk .int (ml:=za2 (m2 oAdd (mRd 2) (mC (.int 1)))) (mh:=mNoP) g0 p31 rfl
      exact ⟨c1,c2,c3,h1,h2,h3⟩
    obtain ⟨c1,c2,c3,⟨s1,h1,i1⟩,⟨s2,h2,i2⟩,⟨s3,h3,i3⟩⟩:=sl .no
    have up:∀ b ∈ a :: l,b.natAbs ≤ 3 * M + 3:=fun b hb=>by have:=hM b hb; omega
    by_cases k0:x % 8=0
    · refine ⟨c1 ++ c3,zcJ ?_,by simp at h1 h3 ⊢; omega,fun b hb=>?_⟩
      · rw [← eA]
        exact (zal ((zbb t1).trans rfl)).trans ((zal q2).trans (zet ((zbj (by rw [te,decide_eq_true k0])).trans (retO (cat2 .int s1 s3 (by simp at h1 h3 hl; omega))))))
      · exact (List.mem_append.mp hb).elim (fun z=>up b (i1 b z)) fun z=>up b (i3 b z)
    · have n0:mIfS (zan (m2 oEq (m2 oMod (mRd 1) (mC (.int 8))) (mC (.int 0)))) (zcP (m2 oCat (mSl (mRd 0) mNoP (za2 (mVar 2))) (mSl (mRd 0) (za2 (m2 oAdd (mRd 2) (mC (.int 1)))) mNoP))) zaX [.v A,.v (.int x),.v (.int t),.no] = .nx [.v A,.v (.int x),.v (.int t),.no]:=(zbb (by rw [te,decide_eq_false k0])).trans rfl
      by_cases k1:x % 8=1
      · have one:mLst (zaa (mC (.int 0)) mNil) [.v A,.v (.int x),.v (.int t),.no] = .ok (.lst ([0].map .int)):=by simp [mLst,zaa,mNil,mC,sizeLine]
        refine ⟨c1 ++ [0] ++ c2,zcJ ?_,by simp at h1 h2 ⊢; omega,fun b hb=>?_⟩
        · rw [← eA]
          exact (zal ((zbb t1).trans rfl)).trans ((zal q2).trans ((zal n0).trans (zet ((zbj (by rw [te,decide_eq_true k1])).trans (retO (cat3 .int s1 one s2 (by simp at h1 h2 hl ⊢; omega)))))))
        · rcases List.mem_append.mp hb with z | z
          · rcases List.mem_append.mp z with z | z
            · exact up b (i1 b z)
            · rw [List.mem_singleton] at z; omega
          · exact up b (i2 b z)
      · have n1:mIfS (zan (m2 oEq (m2 oMod (mRd 1) (mC (.int 8))) (mC (.int 1)))) (zcP (m2 oCat (m2 oCat (mSl (mRd 0) mNoP (za2 (mVar 2))) (mLst (zaa (mC (.int 0)) mNil))) (mSl (mRd 0) (za2 (mVar 2)) mNoP))) zaX [.v A,.v (.int x),.v (.int t),.no] = .nx [.v A,.v (.int x),.v (.int t),.no]:=(zbb (by rw [te,decide_eq_false k1])).trans rfl
        obtain ⟨r,hr,rM⟩:∃ r:Int,mAsg (m2 oIxL (mLst (zaa (mC (.int 1)) (zaa (m1 oNeg (mC (.int 1))) (zaa (m2 oSub (m2 oSub (mC (.int 0)) (m2 oIxL (mRd 0) (mRd 2))) (mC (.int 1))) (zaa (m2 oAdd (m2 oIxL (mRd 0) (mRd 2)) (mC (.int 1))) (zaa (m2 oSub (mC (.int 0)) (m2 oDiv (m2 oIxL (mRd 0) (mRd 2)) (mC (.int 2)))) mNil)))))) (m2 oMod (m2 oDiv (mRd 1) (mC (.int 64))) (mC (.int 5)))) (zao 3) [.v A,.v (.int x),.v (.int t),.no] = .nx [.v A,.v (.int x),.v (.int t),.v (.int r)]∧r.natAbs ≤ M + 1:=by
          have l5:mLst (zaa (mC (.int 1)) (zaa (m1 oNeg (mC (.int 1))) (zaa (m2 oSub (m2 oSub (mC (.int 0)) (m2 oIxL (mRd 0) (mRd 2))) (mC (.int 1))) (zaa (m2 oAdd (m2 oIxL (mRd 0) (mRd 2)) (mC (.int 1))) (zaa (m2 oSub (mC (.int 0)) (m2 oDiv (m2 oIxL (mRd 0) (mRd 2)) (mC (.int 2)))) mNil))))) [.v A,.v (.int x),.v (.int t),.no] = .ok (.lst [.int 1,.int (-1),.int (0 - y - 1),.int (y + 1),.int (0 - y / 2)]):=by
            simp [mLst,zaa,mNil,mC,mRd,ix,zca (show (0:Int) < 2 by decide) f2,sizeLine]
          have v5:m2 oMod (m2 oDiv (mRd 1) (mC (.int 64))) (mC (.int 5)) [.v A,.v (.int x),.v (.int t),.no] = .ok (.int (x / 64 % 5)):=by simp [mRd,mC,zca (show (0:Int) < 64 by decide) f64,zbn (show (0:Int) < 5 by decide)]
          obtain ⟨r,ho,rM⟩:∃ r:Int,oIxL (.lst [.int 1,.int (-1),.int (0 - y - 1),.int (y + 1),.int (0 - y / 2)]) (.int (x / 64 % 5))=some (.int r)∧r.natAbs ≤ M + 1:=by
            rcases (show x / 64 % 5=0∨x / 64 % 5=1∨x / 64 % 5=2∨x / 64 % 5=3∨x / 64 % 5=4 by omega) with e | e | e | e | e <;> rw [e]
            · exact ⟨1,zdC (by decide) rfl,by omega⟩
            · exact ⟨-1,zdC (by decide) rfl,by omega⟩
            · exact ⟨_,zdC (by decide) rfl,by omega⟩
            · exact ⟨_,zdC (by decide) rfl,by omega⟩
            · exact ⟨_,zdC (by decide) rfl,by omega⟩
          exact ⟨r,zaE (d:=.int r) (by simp only [zcg] at v5 ⊢; simp only [l5,R.bind_ok,v5,ho,R.of_some]) rfl,rM⟩
        obtain ⟨c1,c2,c3,⟨s1,h1,i1⟩,_,⟨s3,h3,i3⟩⟩:=sl (.v (.int r))
        have one:mLst (zaa (m2 oAdd (m2 oIxL (mRd 0) (mRd 2)) (mRd 3)) mNil) [.v A,.v (.int x),.v (.int t),.v (.int r)] = .ok (.lst ([y + r].map .int)):=by simp [mLst,zaa,mNil,mRd,ix,sizeLine]
        refine ⟨c1 ++ [y + r] ++ c3,zcJ ?_,by simp at h1 h3 ⊢; omega,fun b hb=>?_⟩
        · rw [← eA]
          exact (zal ((zbb t1).trans rfl)).trans ((zal q2).trans ((zal n0).trans ((zal n1).trans ((zal hr).trans (retO (cat3 .int s1 one s3 (by simp at h1 h3 hl ⊢; omega)))))))
        · rcases List.mem_append.mp hb with z | z
          · rcases List.mem_append.mp z with z | z
            · exact up b (i1 b z)
            · rw [List.mem_singleton] at z; omega
          · exact up b (i3 b z)
end My
namespace My
open PySem L2 PM
theorem zhP {p:Fr} {y:Int} (hp:FrB (10 ^ 37) p):∃ g:Fr,zaY [encF p,.int y] = .ok (encF g)∧FrB (10 ^ 76) g:=by
  have f9:Fit 9:=fitN 100 (by decide)
  have f2:Fit 2:=fitN 100 (by decide)
  have f3:Fit 3:=fitN 100 (by decide)
  have r0:=zd8 (y / 9) (show (0:Int) < 1000003 by decide)
  have r1:=zeb (y / 9) (show (0:Int) < 1000003 by decide)
  have e37:(1000003:Nat) ≤ 10 ^ 37:=by decide
  have hp1:=hp.t; have hp2:=hp.b; have hp0:=hp.g0
  have q1:mAsg (mTup (zaa (mC (.int 1)) (zaa (m2 oAdd (mC (.int 1)) (m2 oMod (m2 oDiv (mRd 1) (mC (.int 9))) (mC (.int 1000003)))) mNil))) (zao 2) [.v (encF p),.v (.int y),.no] = .nx [.v (encF p),.v (.int y),.v (encF (1,1 + y / 9 % 1000003))] :=
    zaE (d:=encF (1,1 + y / 9 % 1000003)) (by simp [mTup,zaa,mNil,mC,mRd,sizeLine,encF,zca (show (0:Int) < 9 by decide) f9,zbn (show (0:Int) < 1000003 by decide)]) rfl
  obtain ⟨s,q2,hs⟩:∃ s:Fr,mIfS (zan (m2 oEq (m2 oMod (mRd 1) (mC (.int 3))) (mC (.int 0)))) (mAsg (mTup (zaa (m2 oAdd (m2 oDiv (m2 oIxT (mRd 0) (mC (.int 0))) (mC (.int 2))) (mC (.int 1))) (zaa (m2 oIxT (mRd 0) (mC (.int 1))) mNil))) (zao 2)) zaX [.v (encF p),.v (.int y),.v (encF (1,1 + y / 9 % 1000003))] = .nx [.v (encF p),.v (.int y),.v (encF s)]∧FrB (10 ^ 37) s:=by
    have tt:zan (m2 oEq (m2 oMod (mRd 1) (mC (.int 3))) (mC (.int 0))) [.v (encF p),.v (.int y),.v (encF (1,1 + y / 9 % 1000003))] = .ok (decide (y % 3=0)):=by simp [zan,mRd,mC,zbn (show (0:Int) < 3 by decide)]
    by_cases h:y % 3=0
    · rw [decide_eq_true h] at tt
      refine ⟨(p.1 / 2 + 1,p.2),(zbj tt).trans (zaE (d:=encF (p.1 / 2 + 1,p.2)) (by simp [mTup,zaa,mNil,mC,mRd,sizeLine,encF,zca (show (0:Int) < 2 by decide) f2]) rfl),?_,hp2,hp0⟩
      show (p.1 / 2 + 1).natAbs ≤ 10 ^ 37
      have:(1:Nat) ≤ 10 ^ 37:=by decide
      omega
    · rw [decide_eq_false h] at tt
      refine ⟨(1,1 + y / 9 % 1000003),(zbb tt).trans rfl,show (1:Int).natAbs ≤ 10 ^ 37 by decide,?_,?_⟩
      · show (1 + y / 9 % 1000003).natAbs ≤ 10 ^ 37; omega
      · show 0 < 1 + y / 9 % 1000003; omega
  have tk:∀ k:Int,zan (m2 oEq (m2 oMod (m2 oDiv (mRd 1) (mC (.int 3))) (mC (.int 3))) (mC (.int k))) [.v (encF p),.v (.int y),.v (encF s)] = .ok (decide (y / 3 % 3=k)):=fun k=>by
    simp [zan,mRd,mC,zca (show (0:Int) < 3 by decide) f3,zbn (show (0:Int) < 3 by decide)]
  have two:∀ s:Fr,FrB (10 ^ 37) s→∃ g:Fr,zbs [.lst [encF p,encF s]] = .ok (encF g)∧FrB (10 ^ 76) g:=fun s hs=>by
    have ok:∀ q ∈ [p,s],FrB (10 ^ 37) q:=fun q hq=>by
      rcases List.mem_cons.mp hq with rfl | hq
      · exact hp
      · rw [List.mem_singleton] at hq; rw [hq]; exact hs
    obtain ⟨b,_⟩:=zi8 [p,s] (0,1) 1 (10 ^ 37) frb1 ok
    have le:1 * (2 * 10 ^ 37) ^ [p,s].length ≤ 10 ^ 76:=by show 1 * (2 * 10 ^ 37) ^ 2 ≤ 10 ^ 76; decide +kernel
    exact ⟨_,zgz (K:=10 ^ 37) (by decide +kernel) [p,s] (by show 2 ≤ 14; decide) ok,⟨Nat.le_trans b.t le,Nat.le_trans b.b le,b.g0⟩⟩
  have start:∀ d:D,(mSeq (mIfS (zan (m2 oEq (m2 oMod (m2 oDiv (mRd 1) (mC (.int 3))) (mC (.int 3))) (mC (.int 1)))) (mRet (zai zbs (zaa (mLst (zaa (mVar 0) (zaa (mTup (zaa (m2 oSub (mC (.int 0)) (m2 oIxT (mRd 2) (mC (.int 0)))) (zaa (m2 oIxT (mRd 2) (mC (.int 1))) mNil))) mNil))) mNil))) zaX) (mSeq (mIfS (zan (m2 oEq (m2 oMod (m2 oDiv (mRd 1) (mC (.int 3))) (mC (.int 3))) (mC (.int 2)))) (mRet (mTup (zaa (m2 oSub (m2 oSub (mC (.int 0)) (m2 oIxT (mRd 0) (mC (.int 0)))) (mC (.int 1))) (zaa (mC (.int 1)) mNil)))) zaX) (mRet (zai zbs (zaa (mLst (zaa (mVar 0) (zaa (mVar 2) mNil))) mNil))))) [.v (encF p),.v (.int y),.v (encF s)] = .rt d→zaY [encF p,.int y] = .ok d:=fun d h=>zbl ((zal q1).trans ((zal q2).trans h))
  by_cases k1:y / 3 % 3=1
  · obtain ⟨g,g1,g2⟩:=two (0 - s.1,s.2) ⟨by show (0 - s.1).natAbs ≤ _; have:=hs.t; omega,hs.b,hs.g0⟩
    refine ⟨g,start _ (zbH ((zbj (by rw [tk,decide_eq_true k1])).trans ?_)),g2⟩
    have e:encF (0 - s.1,s.2) = .tup [.int (0 - s.1),.int s.2]:=rfl
    rw [e] at g1
    have l:mLst (zaa (mVar 0) (zaa (mTup (zaa (m2 oSub (mC (.int 0)) (m2 oIxT (mRd 2) (mC (.int 0)))) (zaa (m2 oIxT (mRd 2) (mC (.int 1))) mNil))) mNil)) [.v (encF p),.v (.int y),.v (encF s)] = .ok (.lst [encF p,.tup [.int (0 - s.1),.int s.2]]):=by
      simp [mLst,zaa,mNil,mVar,mTup,mC,mRd,sizeLine,encF]
    simp only [mRet,zai,l,R.bind_ok,g1,zaa,mNil,R.nev_ok,R.toO_ok]
  · have n1:mIfS (zan (m2 oEq (m2 oMod (m2 oDiv (mRd 1) (mC (.int 3))) (mC (.int 3))) (mC (.int 1)))) (mRet (zai zbs (zaa (mLst (zaa (mVar 0) (zaa (mTup (zaa (m2 oSub (mC (.int 0)) (m2 oIxT (mRd 2) (mC (.int 0)))) (zaa (m2 oIxT (mRd 2) (mC (.int 1))) mNil))) mNil))) mNil))) zaX [.v (encF p),.v (.int y),.v (encF s)] = .nx [.v (encF p),.v (.int y),.v (encF s)]:=(zbb (by rw [tk,decide_eq_false k1])).trans rfl
    by_cases k2:y / 3 % 3=2
    · refine ⟨(0 - p.1 - 1,1),start _ ((zal n1).trans (zbH ((zbj (by rw [tk,decide_eq_true k2])).trans ?_))),?_,by show (1:Int).natAbs ≤ 10 ^ 76; decide +kernel,by show (0:Int) < 1; decide⟩
      · simp [mRet,mTup,zaa,mNil,mC,mRd,sizeLine,encF]
      · show (0 - p.1 - 1).natAbs ≤ 10 ^ 76
        have:(10:Nat) ^ 37 + 1 ≤ 10 ^ 76:=by decide +kernel
        omega
    · obtain ⟨g,g1,g2⟩:=two s hs
      refine ⟨g,start _ ((zal n1).trans ((zal ((zbb (by rw [tk,decide_eq_false k2])).trans rfl)).trans ?_)),g2⟩
      have l:mLst (zaa (mVar 0) (zaa (mVar 2) mNil)) [.v (encF p),.v (.int y),.v (encF s)] = .ok (.lst [encF p,encF s]):=by simp [mLst,zaa,mNil,mVar,sizeLine]
      simp only [mRet,zai,l,R.bind_ok,g1,zaa,mNil,R.nev_ok,R.toO_ok]
theorem zjf (ps:List Fr):zbm 8 (.lst (ps.map encF))=true:=by
  show (ps.map encF).all (zbm 7)=true
  rw [List.all_map,List.all_eq_true]
  intro x _; rfl
theorem zgy {l:List Fr} {x:Int} (hl:l.length ≤ 1000) (hM:∀ a ∈ l,FrB (10 ^ 37) a):∃ l':List Fr,zbi [.lst (l.map encF),.int x] = .ok (.lst (l'.map encF))∧l'.length ≤ 2 * l.length + 1∧∀ a ∈ l',FrB (10 ^ 76) a:=by
  have f8:Fit 8:=fitN 100 (by decide)
  have f9:Fit 9:=fitN 100 (by decide)
  have f16:Fit 16:=fitN 100 (by decide)
  have f1024:Fit 1024:=fitN 10000 (by decide)
  have e76:(10:Nat) ^ 37 ≤ 10 ^ 76:=by decide +kernel
  have up:∀ b ∈ l,FrB (10 ^ 76) b:=fun b hb=>⟨Nat.le_trans (hM b hb).t e76,Nat.le_trans (hM b hb).b e76,(hM b hb).g0⟩
  obtain ⟨A,eA⟩:∃ A,A=D.lst (l.map encF):=⟨_,rfl⟩
  have lA:fLen [A]=some (.int l.length):=by rw [eA]; simp
  have lv:∀ s2 s3 s4:Sl,mLst mNil [.v A,.v (.int x),s2,s3,s4] = .ok (.lst []):=fun _ _ _=>by simp [mLst,mNil,sizeLine]
  cases l with
  | nil =>
    have ne:oEqD A (.lst [])=some (.bl true):=by rw [eA]; exact zkb (zjf []) (zjf []) rfl
    have t1:zan (m2 oEqD (mRd 0) (mLst mNil)) [.v A,.v (.int x),.no,.no,.no] = .ok true:=by
      simp only [zan,zcg,lv,mRd,List.getElem?_cons_zero,R.bind_ok,ne,R.of_some,zff]
    have d1:mLst (zaa (mTup (zaa (mC (.int 1)) (zaa (m2 oAdd (mC (.int 1)) (m2 oMod (mRd 1) (mC (.int 9)))) mNil))) mNil) [.v A,.v (.int x),.no,.no,.no] = .ok (.lst ([((1:Int),1 + x % 9)].map encF)):=by
      simp [mLst,zaa,mNil,mTup,mRd,mC,sizeLine,zbn (show (0:Int) < 9 by decide),encF]
    have p1:za2 (m2 oMod (m2 oDiv (mRd 1) (mC (.int 9))) (mC (.int 2))) [.v A,.v (.int x),.no,.no,.no] = .ok (some (x / 9 % 2)):=by simp [za2,mRd,mC,zca (show (0:Int) < 9 by decide) f9,zbn (show (0:Int) < 2 by decide)]
    obtain ⟨c1,s1,h1,i1⟩:=zfk encF (ml:=mNoP) d1 rfl p1
    refine ⟨c1,zcJ ?_,by simpa using h1,fun a ha=>?_⟩
    · rw [← eA]
      exact zet ((zbj t1).trans (retO s1))
    · have:=i1 a ha
      rw [List.mem_singleton] at this
      have r0:=zd8 x (show (0:Int) < 9 by decide)
      have r1:=zeb x (show (0:Int) < 9 by decide)
      have e9:(9:Nat) ≤ 10 ^ 76:=by decide +kernel
      rw [this]
      exact ⟨by show (1:Int).natAbs ≤ 10 ^ 76; omega,by show (1 + x % 9).natAbs ≤ 10 ^ 76; omega,by show 0 < 1 + x % 9; omega⟩
  | cons a l =>
    have ne:oEqD A (.lst [])=some (.bl false):=by
      unfold oEqD
      rw [zbE ⟨by rw [eA]; exact zjf _,zjf []⟩]
      have:A ≠ .lst []:=by rw [eA]; intro z; cases z
      simp [this]
    have t1:zan (m2 oEqD (mRd 0) (mLst mNil)) [.v A,.v (.int x),.no,.no,.no] = .ok false:=by
      simp only [zan,zcg,lv,mRd,List.getElem?_cons_zero,R.bind_ok,ne,R.of_some,zff]
    have lp:(0:Int) < ((a :: l).length:Int):=by rw [List.length_cons]; omega
    have pick:∀ t:Int,0 ≤ t→t < ((a :: l).length:Int)→∃ y:Fr,(a :: l)[t.toNat]?=some y∧y ∈ a :: l∧oIxL A (.int t)=some (encF y):=fun t a0 a1=>by
      obtain ⟨y,hy⟩:∃ y,(a :: l)[t.toNat]?=some y:=⟨_,List.getElem?_eq_getElem (by omega)⟩
      exact ⟨y,hy,List.mem_of_getElem? hy,by rw [eA]; exact zdC a0 (by rw [List.getElem?_map,hy]; rfl)⟩
    obtain ⟨t,et⟩:∃ t:Int,t=x / 8 % ((a :: l).length:Int):=⟨_,rfl⟩
    have a0:0 ≤ t:=by rw [et]; exact zd8 _ lp
    have a1:t < ((a :: l).length:Int):=by rw [et]; exact zeb _ lp
    obtain ⟨u,eu⟩:∃ u:Int,u=x / 1024 % ((a :: l).length:Int):=⟨_,rfl⟩
    have b0:0 ≤ u:=by rw [eu]; exact zd8 _ lp
    have b1:u < ((a :: l).length:Int):=by rw [eu]; exact zeb _ lp
    obtain ⟨y,hy,ym,iy⟩:=pick t a0 a1
    obtain ⟨w,hw,wm,iw⟩:=pick u b0 b1
    obtain ⟨δ,eδ⟩:∃ δ:En,δ = [.v A,.v (.int x),.v (.int t),.v (.int u),.no]:=⟨_,rfl⟩
    have q2:mAsg (m2 oMod (m2 oDiv (mRd 1) (mC (.int 8))) (mCB fLen (zaa (mRd 0) mNil))) (zao 2) [.v A,.v (.int x),.no,.no,.no] = .nx [.v A,.v (.int x),.v (.int t),.no,.no]:=by
      refine zaE (d:=.int t) ?_ rfl
      simp only [zcg,mRd,mC,mCB,zaa,mNil,List.getElem?_cons_succ,List.getElem?_cons_zero,R.bind_ok,lA,R.of_some,zca (show (0:Int) < 8 by decide) f8,zbn lp,et]
    have q3:mAsg (m2 oMod (m2 oDiv (mRd 1) (mC (.int 1024))) (mCB fLen (zaa (mRd 0) mNil))) (zao 3) [.v A,.v (.int x),.v (.int t),.no,.no] = .nx δ:=by
      rw [eδ]
      refine zaE (d:=.int u) ?_ rfl
      simp only [zcg,mRd,mC,mCB,zaa,mNil,List.getElem?_cons_succ,List.getElem?_cons_zero,R.bind_ok,lA,R.of_some,zca (show (0:Int) < 1024 by decide) f1024,zbn lp,eu]
    have te:∀ k:Int,zan (m2 oEq (m2 oMod (mRd 1) (mC (.int 8))) (mC (.int k))) δ = .ok (decide (x % 8=k)):=fun k=>by
      rw [eδ]; simp [zan,mRd,mC,zbn (show (0:Int) < 8 by decide)]
    have g0:mRd 0 δ = .ok (.lst ((a :: l).map encF)):=by rw [eδ,eA]; rfl
    have p3:za2 (mVar 2) δ = .ok (some t):=by rw [eδ]; rfl
    have p31:za2 (m2 oAdd (mRd 2) (mC (.int 1))) δ = .ok (some (t + 1)):=by rw [eδ]; simp [za2,mRd,mC]
    obtain ⟨c1,s1,h1,i1⟩:=zfk encF (ml:=mNoP) (mh:=za2 (mVar 2)) g0 rfl p3
    obtain ⟨c2,s2,h2,i2⟩:=zfk encF (ml:=za2 (mVar 2)) (mh:=mNoP) g0 p3 rfl
    obtain ⟨c3,s3,h3,i3⟩:=zfk encF (ml:=za2 (m2 oAdd (mRd 2) (mC (.int 1)))) (mh:=mNoP) g0 p31 rfl
    have v0:mRd 0 δ = .ok A:=by rw [eδ]; rfl
    have v2:mRd 2 δ = .ok (.int t):=by rw [eδ]; rfl
    have v3:mRd 3 δ = .ok (.int u):=by rw [eδ]; rfl
    have x2:m2 oIxL (mRd 0) (mRd 2) δ = .ok (encF y):=by simp only [zcg,v0,v2,R.bind_ok,iy,R.of_some]
    have x3:m2 oIxL (mRd 0) (mRd 3) δ = .ok (encF w):=by simp only [zcg,v0,v3,R.bind_ok,iw,R.of_some]
    have in3:∀ (m r:List Fr) (b:Fr),(∀ z ∈ m,FrB (10 ^ 76) z)→(∀ z ∈ r,z ∈ a :: l)→b ∈ c1 ++ m ++ r→FrB (10 ^ 76) b:=fun m r b hm hr hb=>by
      rcases List.mem_append.mp hb with z | z
      · rcases List.mem_append.mp z with z | z
        · exact up _ (i1 _ z)
        · exact hm _ z
      · exact up _ (hr _ z)
    have st:∀ d:D,(mSeq (mIfS (zan (m2 oEq (m2 oMod (mRd 1) (mC (.int 8))) (mC (.int 0)))) (zcP (m2 oCat (mSl (mRd 0) mNoP (za2 (mVar 2))) (mSl (mRd 0) (za2 (m2 oAdd (mRd 2) (mC (.int 1)))) mNoP))) zaX) (mSeq (mIfS (zan (m2 oEq (m2 oMod (mRd 1) (mC (.int 8))) (mC (.int 1)))) (zcP (m2 oCat (m2 oCat (mSl (mRd 0) mNoP (za2 (mVar 2))) (mLst (zaa (m2 oIxL (mRd 0) (mRd 3)) mNil))) (mSl (mRd 0) (za2 (mVar 2)) mNoP))) zaX) (mSeq (mIfS (zan (m2 oEq (m2 oMod (mRd 1) (mC (.int 8))) (mC (.int 2)))) (zcP zct) zaX) (mSeq (mIfS (zan (m2 oEq (m2 oMod (mRd 1) (mC (.int 8))) (mC (.int 3)))) (mSeq (mAsg (mCB zdI (zaa (mRd 0) mNil)) (bNew 4)) (mSeq (zih 4 (mVar 2) (mVar 3) (mTup (zaa (m2 oIxL (mRd 0) (mRd 3)) (zaa (m2 oIxL (mRd 0) (mRd 2)) mNil)))) (zkH 4))) zaX)
        (zcP (m2 oCat (m2 oCat (mSl (mRd 0) mNoP (za2 (mVar 2))) (mLst (zaa (zai zaY (zaa (m2 oIxL (mRd 0) (mRd 2)) (zaa (m2 oDiv (mRd 1) (mC (.int 16))) mNil))) mNil))) (mSl (mRd 0) (za2 (m2 oAdd (mRd 2) (mC (.int 1)))) mNoP))))))) δ = .ro d→zbi [.lst ((a :: l).map encF),.int x] = .ok d:=fun d h=>by
      refine zcJ ?_
      rw [← eA]
      exact (zal ((zbb t1).trans rfl)).trans ((zal q2).trans ((zal q3).trans h))
    have skip:∀ (k:Int) (m n:En→O),x % 8 ≠ k→mSeq (mIfS (zan (m2 oEq (m2 oMod (mRd 1) (mC (.int 8))) (mC (.int k)))) m zaX) n δ=n δ:=fun k m n hk=>zal ((zbb (by rw [te,decide_eq_false hk])).trans rfl)
    by_cases k0:x % 8=0
    · refine ⟨c1 ++ c3,st _ (zet ((zbj (by rw [te,decide_eq_true k0])).trans (retO (cat2 encF s1 s3 (by simp at h1 h3 hl; omega))))),by simp at h1 h3 ⊢; omega,fun b hb=>(List.mem_append.mp hb).elim (fun z=>up b (i1 b z)) fun z=>up b (i3 b z)⟩
    by_cases k1:x % 8=1
    · have one:mLst (zaa (m2 oIxL (mRd 0) (mRd 3)) mNil) δ = .ok (.lst ([w].map encF)):=by
        simp only [zcg] at x3
        simp [mLst,zaa,mNil,x3,sizeLine]
      refine ⟨c1 ++ [w] ++ c2,st _ ((skip 0 _ _ k0).trans (zet ((zbj (by rw [te,decide_eq_true k1])).trans (retO (cat3 encF s1 one s2 (by simp at h1 h2 hl ⊢; omega)))))),by simp at h1 h2 ⊢; omega,fun b hb=>in3 _ _ _ (fun z hz=>by rw [List.mem_singleton] at hz; rw [hz]; exact up w wm) i2 hb⟩
    by_cases k2:x % 8=2
    · have k:zct δ = .ok (.lst (((a :: l).map fun _=>((0:Int),(1:Int))).map encF)):=by
        refine za8 (l:=(a :: l).map encF) (by simp only [mItL,g0,R.bind_ok,zqp,R.of_some]) (by rw [List.length_map]; omega) ?_
        rw [List.map_map]
        refine zaZ encF _ _ fun z _=>?_
        have e:za1 δ [] 1 = [.no]:=rfl
        rw [e]
        simp [zcc,zaJ,mTup,zaa,mNil,mC,sizeLine,encF]
      refine ⟨(a :: l).map fun _=>(0,1),st _ ((skip 0 _ _ k0).trans ((skip 1 _ _ k1).trans (zet ((zbj (by rw [te,decide_eq_true k2])).trans (retO k))))),by simp; omega,fun b hb=>?_⟩
      obtain ⟨_,_,rfl⟩:=List.mem_map.mp hb
      have e9:(1:Nat) ≤ 10 ^ 76:=by decide +kernel
      exact ⟨by show (0:Int).natAbs ≤ 10 ^ 76; omega,by show (1:Int).natAbs ≤ 10 ^ 76; omega,by show (0:Int) < 1; decide⟩
    by_cases k3:x % 8=3
    · have r1:mAsg (mCB zdI (zaa (mRd 0) mNil)) (bNew 4) δ = .nx [.v A,.v (.int x),.v (.int t),.v (.int u),.o (.lst ((a :: l).map encF))]:=by
        rw [eδ,← eA]
        exact zaE (d:=A) (by rw [eA]; rfl) rfl
      have ixt:ixN ((a :: l).map encF).length t=some t.toNat:=by unfold ixN; rw [List.length_map,if_pos a0,if_pos (by omega)]
      have ixu:ixN ((a :: l).map encF).length u=some u.toNat:=by unfold ixN; rw [List.length_map,if_pos b0,if_pos (by omega)]
      have r2:zih 4 (mVar 2) (mVar 3) (mTup (zaa (m2 oIxL (mRd 0) (mRd 3)) (zaa (m2 oIxL (mRd 0) (mRd 2)) mNil))) [.v A,.v (.int x),.v (.int t),.v (.int u),.o (.lst ((a :: l).map encF))] = .nx [.v A,.v (.int x),.v (.int t),.v (.int u),.o (.lst ((((a :: l).set t.toNat w).set u.toNat y).map encF))]:=by
        have tu:mTup (zaa (m2 oIxL (mRd 0) (mRd 3)) (zaa (m2 oIxL (mRd 0) (mRd 2)) mNil)) [.v A,.v (.int x),.v (.int t),.v (.int u),.o (.lst ((a :: l).map encF))] = .ok (.tup [encF w,encF y]):=by
          simp [mTup,zaa,mNil,mRd,iw,iy,sizeLine]
        unfold zih
        rw [show ([.v A,.v (.int x),.v (.int t),.v (.int u),.o (.lst ((a :: l).map encF))]:En)[4]?=some (.o (.lst ((a :: l).map encF))) from rfl]
        simp only [tu,R.toO_ok,mVar,List.getElem?_cons_succ,List.getElem?_cons_zero,List.set_cons_succ,List.set_cons_zero,ixt,ixu]
        rw [← List.map_set,← List.map_set]
      refine ⟨((a :: l).set t.toNat w).set u.toNat y,st _ ((skip 0 _ _ k0).trans ((skip 1 _ _ k1).trans ((skip 2 _ _ k2).trans (zet ((zbj (by rw [te,decide_eq_true k3])).trans ((zal r1).trans ((zal r2).trans rfl))))))),by simp; omega,fun b hb=>?_⟩
      rcases List.mem_or_eq_of_mem_set hb with z | z
      · rcases List.mem_or_eq_of_mem_set z with z | z
        · exact up b z
        · rw [z]; exact up w wm
      · rw [z]; exact up y ym
    obtain ⟨g,g1,g2⟩:=zhP (p:=y) (y:=x / 16) (hM y ym)
    have one:mLst (zaa (zai zaY (zaa (m2 oIxL (mRd 0) (mRd 2)) (zaa (m2 oDiv (mRd 1) (mC (.int 16))) mNil))) mNil) δ = .ok (.lst ([g].map encF)):=by
      have d16:m2 oDiv (mRd 1) (mC (.int 16)) δ = .ok (.int (x / 16)):=by rw [eδ]; simp [mRd,mC,zca (show (0:Int) < 16 by decide) f16]
      have ca:zai zaY (zaa (m2 oIxL (mRd 0) (mRd 2)) (zaa (m2 oDiv (mRd 1) (mC (.int 16))) mNil)) δ = .ok (encF g):=by
        unfold zai zaa mNil
        rw [x2,d16]
        simp [g1]
      have cs:zaa (zai zaY (zaa (m2 oIxL (mRd 0) (mRd 2)) (zaa (m2 oDiv (mRd 1) (mC (.int 16))) mNil))) mNil δ = .ok [encF g]:=by
        show R.bind (zai _ _ δ) _=_
        rw [ca]; rfl
      unfold mLst
      rw [cs]
      simp [sizeLine]
    refine ⟨c1 ++ [g] ++ c3,st _ ((skip 0 _ _ k0).trans ((skip 1 _ _ k1).trans ((skip 2 _ _ k2).trans ((skip 3 _ _ k3).trans (retO (cat3 encF s1 one s3 (by simp at h1 h3 hl ⊢; omega))))))),by simp at h1 h3 ⊢; omega,fun b hb=>in3 _ _ _ (fun z hz=>by rw [List.mem_singleton] at hz; rw [hz]; exact g2) i3 hb⟩
end My
namespace My
open PySem L2 PM
theorem zdw (c:Int) {k:Int} (h0:0 ≤ k) (h1:k ≤ 1000):∃ x:Int,zaG [.int c,.int k] = .ok (.int x)∧0 ≤ x∧x < 2147483647:=by
  have e1:0 ≤ c % 100000000000000000000:=Int.emod_nonneg _ (by decide)
  have e2:c % 100000000000000000000 < 100000000000000000000:=Int.emod_lt_of_pos _ (by decide)
  have e3:0 ≤ k * k:=Int.mul_nonneg h0 h0
  have e4:k * k ≤ 1000 * 1000:=Int.mul_le_mul h1 h1 h0 (by decide)
  have f1:Fit k:=fitN 1000 (by omega)
  have f2:Fit 2:=fitN 1000 (by decide)
  have f3:Fit (c % 100000000000000000000 + k * k + 1):=fitN (10 ^ 21) (by omega)
  have f4:Fit (48271 + 2 * k):=fitN (10 ^ 21) (by omega)
  refine ⟨(c % 100000000000000000000 + k * k + 1) * (48271 + 2 * k) % 2147483647,?_,zd8 _ (by decide),zeb _ (by decide)⟩
  simp [zaG,runF,zcY,zfs,mRet,mRd,mC,p20,zbn,zcd,f1,f2,f3,f4]
theorem zjY (c:Int) {k:Int} (h0:0 ≤ k) (h1:k ≤ 1000):∃ a:Int,zbq [.int c,.int k] = .ok (.int a)∧0 ≤ a∧a ≤ 1000000000000000000:=by
  obtain ⟨x,hx,x0,x1⟩:=zdw c h0 h1
  have f3:Fit 3:=fitN 100 (by decide)
  have e1:=zd8 c (show (0:Int) < 100000000000000000000 by decide)
  have e2:=zeb c (show (0:Int) < 100000000000000000000 by decide)
  have fc:Fit (c % 100000000000000000000):=fitN (10 ^ 21) (by omega)
  have fm:Fit 6364136223846793005:=fitN (10 ^ 21) (by decide)
  have q1:mAsg (zai zaG (zaa (mVar 0) (zaa (mVar 1) mNil))) (zao 2) [.v (.int c),.v (.int k),.no] = .nx [.v (.int c),.v (.int k),.v (.int x)]:=zaE (d:=.int x) (by simp [zai,zaa,mNil,mVar,hx]) rfl
  have te:∀ j:Int,zan (m2 oEq (m2 oMod (mRd 2) (mC (.int 3))) (mC (.int j))) [.v (.int c),.v (.int k),.v (.int x)] = .ok (decide (x % 3=j)):=fun j=>by simp [zan,mRd,mC,zbn (show (0:Int) < 3 by decide)]
  by_cases k0:x % 3=0
  · refine ⟨x / 3 % 4,zbl ((zal q1).trans (zbH ((zbj (by rw [te,decide_eq_true k0])).trans ?_))),by omega,by omega⟩
    simp [mRet,mRd,mC,zca (show (0:Int) < 3 by decide) f3,zbn (show (0:Int) < 4 by decide)]
  have n0:mIfS (zan (m2 oEq (m2 oMod (mRd 2) (mC (.int 3))) (mC (.int 0)))) (mRet (m2 oMod (m2 oDiv (mRd 2) (mC (.int 3))) (mC (.int 4)))) zaX [.v (.int c),.v (.int k),.v (.int x)] = .nx [.v (.int c),.v (.int k),.v (.int x)]:=(zbb (by rw [te,decide_eq_false k0])).trans rfl
  by_cases k1:x % 3=1
  · refine ⟨x / 3 % 30,zbl ((zal q1).trans ((zal n0).trans (zbH ((zbj (by rw [te,decide_eq_true k1])).trans ?_)))),by omega,by omega⟩
    simp [mRet,mRd,mC,zca (show (0:Int) < 3 by decide) f3,zbn (show (0:Int) < 30 by decide)]
  · have r0:=zd8 (c % 100000000000000000000 * 6364136223846793005 + x) (show (0:Int) < 1000000000000000001 by decide)
    have r1:=zeb (c % 100000000000000000000 * 6364136223846793005 + x) (show (0:Int) < 1000000000000000001 by decide)
    refine ⟨(c % 100000000000000000000 * 6364136223846793005 + x) % 1000000000000000001,zbl ((zal q1).trans ((zal n0).trans ((zal ((zbb (by rw [te,decide_eq_false k1])).trans rfl)).trans ?_))),r0,by omega⟩
    simp [mRet,mRd,mC,p20,p18,zbn,zcd fc fm]
theorem zox {x:Int} {t:Nat} (ht:t ≤ 100):∃ b:Int,zdz [.int x,.int t] = .ok (.int b):=by
  have f2:Fit 2:=fitN 100 (by decide)
  obtain ⟨δ,h1,y,o,rfl⟩:=zb6 (b:=zao 2) (m:=zhI) D.int (fun _ δ=>∃ y o,δ = [.v (.int y),.v (.int t),sv o]) (upto t)
    (by
      rintro pre i post δ hall ⟨y,o,rfl⟩
      refine ⟨[.v (.int y),.v (.int t),.v (.int i)],[.v (.int (y / 2)),.v (.int t),.v (.int i)],za7 rfl,.inl ?_,y / 2,some (.int i),rfl⟩
      exact zaE (d:=.int (y / 2)) (by simp [mRd,mC,zca (show (0:Int) < 2 by decide) f2]) rfl)
    [.v (.int x),.v (.int t),.no] ⟨x,none,rfl⟩
  refine ⟨y % 2,zbl ?_⟩
  have l1:zij [.v (.int x),.v (.int t),.no]=_:=(zbp (by simp [mRng,zaa,mNil,mVar,rngU (show t ≤ 1000 by omega)])).trans h1
  refine (zal l1).trans ?_
  simp [mRet,mRd,mC,zbn (show (0:Int) < 2 by decide)]
theorem zqL (c:Int) {k:Int} {t:Nat} (h0:0 ≤ k) (h1:k ≤ 500) (ht:t ≤ 100):∃ b:Bool,zdZ [.int c,.int k,.int t] = .ok (.bl b):=by
  obtain ⟨x,hx,x0,x1⟩:=zdw c (show 0 ≤ k + 50 by omega) (by omega)
  obtain ⟨y,hy,y0,y1⟩:=zdw c (show 0 ≤ k + 90 by omega) (by omega)
  obtain ⟨b1,e1⟩:=zox (x:=x) ht
  obtain ⟨b2,e2⟩:=zox (x:=y) ht
  have f6:Fit 65536:=fitN 100000 (by decide)
  have q1:mAsg (zai zaG (zaa (mVar 0) (zaa (m2 oAdd (mRd 1) (mC (.int 50))) mNil))) (zao 3) [.v (.int c),.v (.int k),.v (.int t),.no,.no] = .nx [.v (.int c),.v (.int k),.v (.int t),.v (.int x),.no]:=zaE (d:=.int x) (by simp [zai,zaa,mNil,mVar,mRd,mC,hx]) rfl
  have q2:mAsg (m2 oAdd (zai zdz (zaa (mVar 3) (zaa (mVar 2) mNil))) (zai zdz (zaa (zai zaG (zaa (mVar 0) (zaa (m2 oAdd (mRd 1) (mC (.int 90))) mNil))) (zaa (mVar 2) mNil)))) (zao 4) [.v (.int c),.v (.int k),.v (.int t),.v (.int x),.no] = .nx [.v (.int c),.v (.int k),.v (.int t),.v (.int x),.v (.int (b1 + b2))]:=zaE (d:=.int (b1 + b2)) (by simp [zai,zaa,mNil,mVar,mRd,mC,hy,e1,e2]) rfl
  refine ⟨_,zbl (d:=.bl (decide (1 - x / 65536 % 2 < b1 + b2))) ((zal q1).trans ((zal q2).trans ?_))⟩
  simp [mRet,mRd,mC,zca (show (0:Int) < 65536 by decide) f6,zbn (show (0:Int) < 2 by decide)]
def tI (l:List Int):Tr:=.l (l.map fun i=>.d (.int i))
def tS (s:Ps):Tr:=.t [.d (.int s.1),tI s.2]
def tP (l:List Ps):Tr:=.l (l.map tS)
theorem zoD:∀ l:List Int,trDL (l.map fun i=>.d (.int i))=l.map .int
  | []=>rfl
  | i :: l=>by simp only [List.map_cons,trDL,trD,zoD l]
theorem zrq (s:Ps):trD (tS s)=encS s:=by simp only [tS,tI,trD,trDL,zoD,encS,iL]
theorem zoN:∀ l:List Ps,trDL (l.map tS)=l.map encS
  | []=>rfl
  | s :: l=>by simp only [List.map_cons,trDL,zrq,zoN l]
theorem zpb (l:List Ps):trD (tP l)=encP l:=by simp only [tP,trD,zoN,encP]
theorem zpx {n:Nat} {cs:List Int} (hn:n ≤ 12) (hc:cs.length ≤ 14):∃ sets:List Ps,zdR [iL cs,.int n] = .ok (encP sets)∧SetsOk n sets∧sets.length ≤ 15∧∀ t ∈ upto n,∃ s ∈ sets,t ∈ s.2:=by
  obtain ⟨C,eC⟩:∃ C,C=iL cs:=⟨_,rfl⟩
  obtain ⟨δ1,h1,S,o3,o4,rfl,gS1,lS1⟩:=zb6 (b:=bTup 2 (zaS (zao 3) (zaS (zao 4) bNil))) (m:=zgX) encE (fun pre δ=>∃ (S:List Ps) (o3 o4:Option D),δ = [.v C,.v (.int n),.p (tP S),sv o3,sv o4,.no,.no]∧(∀ s ∈ S,Good n s)∧S.length=pre.length) cs.zipIdx
    (by
      rintro pre q post δ hall ⟨S,o3,o4,rfl,g,hl⟩
      have hk:=zfr hall
      have qk:q.2 < 14:=by have:=(List.getElem?_eq_some_iff.mp hk.2.1).1; omega
      have hb:∀ t ∈ upto n,∃ b:Bool,zdZ [.int q.1,.int q.2,.int t] = .ok (.bl b):=fun t ht=>by
        have ht':=mem_upto.mp ht
        obtain ⟨b,hb⟩:=zqL q.1 (k:=q.2) (t:=t.toNat) (by omega) (by omega) (by omega)
        rw [show ((t.toNat:Nat):Int)=t by omega] at hb
        exact ⟨b,hb⟩
      obtain ⟨f,hf⟩:∃ f:Int→Bool,∀ t ∈ upto n,zdZ [.int q.1,.int q.2,.int t] = .ok (.bl (f t)):=by
        classical
        exact ⟨fun t=>if h:t ∈ upto n then (hb t h).choose else false,fun t ht=>by
          have:=(hb t ht).choose_spec
          simp only [dif_pos ht]; exact this⟩
      obtain ⟨ts,ets⟩:∃ ts,ts=(upto n).filter f:=⟨_,rfl⟩
      have k:zfO [.v C,.v (.int n),.p (tP S),.v (.int q.2),.v (.int q.1),.no,.no] = .ok (iL ts):=by
        refine za8 (l:=(upto n).map .int) (by simp [mRng,zaa,mNil,mVar,rngU (show n ≤ 1000 by omega)]) (by rw [List.length_map,zcl]; omega) ?_
        rw [ets]
        refine zeW .int _ _ fun t ht=>?_
        have e:za1 [.v C,.v (.int n),.p (tP S),.v (.int q.2),.v (.int q.1),.no,.no] [4,3] 1 = [.v (.int q.1),.v (.int q.2),.no]:=rfl
        rw [e]
        have:=hf t ht
        cases z:f t <;> simp [zcc,zaJ,zan,zai,zaa,mNil,mVar,this,z]
      obtain ⟨a,ha,a0,a1⟩:=zjY q.1 (k:=q.2) (by omega) (by omega)
      have q1:mAsg zfO (bNew 5) [.v C,.v (.int n),.p (tP S),.v (.int q.2),.v (.int q.1),.no,.no] = .nx [.v C,.v (.int n),.p (tP S),.v (.int q.2),.v (.int q.1),.o (iL ts),.no]:=zaE k rfl
      have q2:znJ 2 5 (zai zbq (zaa (mVar 4) (zaa (mVar 3) mNil))) [.v C,.v (.int n),.p (tP S),.v (.int q.2),.v (.int q.1),.o (iL ts),.no] = .nx [.v C,.v (.int n),.p (tP (S ++ [(a,ts)])),.v (.int q.2),.v (.int q.1),.no,.no]:=by
        have am:zai zbq (zaa (mVar 4) (zaa (mVar 3) mNil)) [.v C,.v (.int n),.p (tP S),.v (.int q.2),.v (.int q.1),.o (iL ts),.no] = .ok (.int a):=by simp [zai,zaa,mNil,mVar,ha]
        show R.toO (zai zbq (zaa (mVar 4) (zaa (mVar 3) mNil)) [.v C,.v (.int n),.p (tP S),.v (.int q.2),.v (.int q.1),.o (iL ts),.no]) _ _=_
        rw [am,R.toO_ok,zbE (by
          have:pre.length ≤ cs.length:=by have:=congrArg List.length hall; simp at this; omega
          rw [List.length_map,hl]; exact Nat.lt_of_le_of_lt (Nat.le_trans this hc) (by decide))]
        simp [tP,tS,tI,Function.comp]
      refine ⟨[.v C,.v (.int n),.p (tP S),.v (.int q.2),.v (.int q.1),.no,.no],_,by rcases o3 with _ | o3 <;> rcases o4 with _ | o4 <;> rfl,.inl ((zal q1).trans q2),S ++ [(a,ts)],some (.int q.2),some (.int q.1),rfl,fun s hs=>?_,by simp [hl]⟩
      rcases List.mem_append.mp hs with z | z
      · exact g s z
      · rw [List.mem_singleton.mp z]
        refine ⟨a0,a1,by show ts.Nodup; rw [ets]; exact (zgw n).filter _,fun t ht=>?_⟩
        have ht':t ∈ ts:=ht
        rw [ets] at ht'
        exact mem_upto.mp (List.mem_filter.mp ht').1)
    [.v C,.v (.int n),.p (tP []),.no,.no,.no,.no] ⟨[],none,none,rfl,by simp,rfl⟩
  have lS:S.length ≤ 14:=by rw [lS1,List.length_zipIdx]; exact hc
  have q0:zn1 (mLst mNil) 2 [.v C,.v (.int n),.no,.no,.no,.no,.no] = .nx [.v C,.v (.int n),.p (tP []),.no,.no,.no,.no]:=by
    have l0:mLst mNil [.v C,.v (.int n),.no,.no,.no,.no,.no] = .ok (.lst []):=by simp [mLst,mNil,sizeLine]
    unfold zn1
    rw [l0]; rfl
  have q1:zhs [.v C,.v (.int n),.p (tP []),.no,.no,.no,.no] = .nx [.v C,.v (.int n),.p (tP S),sv o3,sv o4,.no,.no]:=(zbp (by rw [eC]; exact zja rfl)).trans h1
  have plP:∀ l:List Ps,zbm 8 (encP l)=true:=fun l=>by
    show (l.map encS).all (zbm 7)=true
    rw [List.all_map,List.all_eq_true]
    intro s _
    show ([D.int s.1,iL s.2]).all (zbm 6)=true
    simp only [List.all_cons,List.all_nil,Bool.and_true]
    show (true && (s.2.map D.int).all (zbm 5))=true
    rw [Bool.true_and,List.all_map,List.all_eq_true]
    intro x _; rfl
  obtain ⟨S2,q2,g2,l2,l20⟩:∃ S2:List Ps,mIfS (zan (zfy (m2 oEqD (mRd 2) (mLst mNil)))) (zjO 2 (mC (.int 3)) (mLst mNil)) zaX [.v C,.v (.int n),.p (tP S),sv o3,sv o4,.no,.no] = .nx [.v C,.v (.int n),.p (tP S2),sv o3,sv o4,.no,.no]∧(∀ s ∈ S2,Good n s)∧S2.length ≤ 15∧0 < S2.length:=by
    have lv:∀ δ:En,mLst mNil δ = .ok (.lst []):=fun _=>by simp [mLst,mNil,sizeLine]
    have pk:mRd 2 (peek [.v C,.v (.int n),.p (tP S),sv o3,sv o4,.no,.no]) = .ok (encP S):=by
      show R.ok (trD (tP S))=_
      rw [zpb]
    cases S with
    | nil =>
      have ne:oEqD (encP []) (.lst [])=some (.bl true):=zkb (plP []) (zdq []) rfl
      have tt:zan (zfy (m2 oEqD (mRd 2) (mLst mNil))) [.v C,.v (.int n),.p (tP []),sv o3,sv o4,.no,.no] = .ok true:=by
        simp only [zan,zfy,zcg,pk,lv,R.bind_ok,ne,R.of_some]; rfl
      refine ⟨[(3,[])],(zbj tt).trans ?_,fun s hs=>?_,by simp,by simp⟩
      · unfold zjO
        show R.toO (mC (.int 3) _) _ _=_
        simp only [mC,R.toO_ok,lv]
        rw [zbE (by simp [sizeLine])]
        rfl
      · rw [List.mem_singleton.mp hs]
        exact ⟨by decide,by decide,List.nodup_nil,by simp⟩
    | cons s S =>
      have ne:oEqD (encP (s :: S)) (.lst [])=some (.bl false):=by
        unfold oEqD
        rw [zbE ⟨plP _,zdq []⟩]
        have:encP (s :: S) ≠ .lst []:=by intro z; cases z
        simp [this]
      have tt:zan (zfy (m2 oEqD (mRd 2) (mLst mNil))) [.v C,.v (.int n),.p (tP (s :: S)),sv o3,sv o4,.no,.no] = .ok false:=by
        simp only [zan,zfy,zcg,pk,lv,R.bind_ok,ne,R.of_some]; rfl
      exact ⟨s :: S,(zbb tt).trans rfl,gS1,by omega,by simp⟩
  obtain ⟨δ2,h2,S3,o6,rfl,g3,l3,cv⟩:=zb6 (b:=zao 6) (m:=zgT) D.int (fun pre δ=>∃ (S:List Ps) (o6:Option D),δ = [.v C,.v (.int n),.p (tP S),sv o3,sv o4,.no,sv o6]∧(∀ s ∈ S,Good n s)∧S.length=S2.length∧∀ t ∈ pre,∃ s ∈ S,t ∈ s.2) (upto n)
    (by
      rintro pre t post δ hall ⟨S,o6,rfl,g,hl,cv⟩
      have ht:=mem_upto.mp (show t ∈ upto n by rw [hall]; simp)
      have pk:peek [.v C,.v (.int n),.p (tP S),sv o3,sv o4,.no,.v (.int t)] = [.v C,.v (.int n),.v (encP S),sv o3,sv o4,.no,.v (.int t)]:=by
        show [Sl.v C,.v (.int n),.v (trD (tP S)),znE (sv o3),znE (sv o4),.no,.v (.int t)]=_
        rw [zpb]
        rcases o3 with _ | o3 <;> rcases o4 with _ | o4 <;> rfl
      have k:zeJ [.v C,.v (.int n),.v (encP S),sv o3,sv o4,.no,.v (.int t)] = .ok (.lst ((S.filter fun s=>decide (t ∈ s.2)).map fun _=>.int 1)):=by
        refine za8 (l:=S.map encS) rfl (by rw [List.length_map]; omega) ?_
        refine zfW encS _ _ _ fun s _=>?_
        have e:za1 [.v C,.v (.int n),.v (encP S),sv o3,sv o4,.no,.v (.int t)] [6] 2 = [.v (.int t),.no,.no]:=rfl
        rw [e]
        by_cases z:t ∈ s.2 <;> simp [zcc,bTup,zaS,bNil,zaJ,zan,mRd,mC,encS,oIn,iL,zeh,z]
      have tt:zan (zfy (m2 oEq (mCB fLen (zaa zeJ mNil)) (mC (.int 0)))) [.v C,.v (.int n),.p (tP S),sv o3,sv o4,.no,.v (.int t)] = .ok (decide ((S.filter fun s=>decide (t ∈ s.2)).length=0)):=by
        have v:m2 oEq (mCB fLen (zaa zeJ mNil)) (mC (.int 0)) [.v C,.v (.int n),.v (encP S),sv o3,sv o4,.no,.v (.int t)] = .ok (.bl (decide ((S.filter fun s=>decide (t ∈ s.2)).length=0))):=by
          simp only [zcg,mCB,zaa,mNil,k,mC,R.bind_ok,zop,R.of_some,zpT,List.length_map]
          congr 2
          exact decide_eq_decide.mpr (by omega)
        simp only [zan,zfy,pk,v]; rfl
      by_cases z:(S.filter fun s=>decide (t ∈ s.2)).length=0
      · rw [decide_eq_true z] at tt
        have out:∀ s ∈ S,t ∉ s.2:=fun s hs ht=>by
          have:=List.length_pos_of_mem ((List.mem_filter (p:=fun s:Ps=>decide (t ∈ s.2))).mpr ⟨hs,decide_eq_true ht⟩)
          omega
        have lp:(0:Int) < (S.length:Int):=by omega
        have r0:=zd8 (t * 5) lp
        have r1:=zeb (t * 5) lp
        obtain ⟨j,ej⟩:∃ j:Nat,(j:Int)=t * 5 % (S.length:Int):=⟨(t * 5 % (S.length:Int)).toNat,by omega⟩
        have jl:j < S.length:=by omega
        obtain ⟨s,hs⟩:∃ s,S[j]?=some s:=⟨_,List.getElem?_eq_getElem jl⟩
        have sm:=List.mem_of_getElem? hs
        have gs:=g s sm
        have mk:zfy (m2 oMod (m2 oMul (mRd 6) (mC (.int 5))) (mCB fLen (zaa (mRd 2) mNil))) [.v C,.v (.int n),.p (tP S),sv o3,sv o4,.no,.v (.int t)] = .ok (.int j):=by
          have lE:fLen [encP S]=some (.int S.length):=by simp [encP]
          have v:m2 oMod (m2 oMul (mRd 6) (mC (.int 5))) (mCB fLen (zaa (mRd 2) mNil)) [.v C,.v (.int n),.v (encP S),sv o3,sv o4,.no,.v (.int t)] = .ok (.int j):=by
            simp only [zcg,mRd,mC,mCB,zaa,mNil,List.getElem?_cons_succ,List.getElem?_cons_zero,R.bind_ok,lE,R.of_some,zcd (fitN 100 (by omega):Fit t) (fitN 100 (by decide):Fit 5),zbn lp,ej]
          simp only [zfy,pk,v]; rfl
        have ap:zj9 2 (zfy (m2 oMod (m2 oMul (mRd 6) (mC (.int 5))) (mCB fLen (zaa (mRd 2) mNil)))) (mC (.int 1)) (mVar 6) [.v C,.v (.int n),.p (tP S),sv o3,sv o4,.no,.v (.int t)] = .nx [.v C,.v (.int n),.p (tP (S.set j (s.1,s.2 ++ [t]))),sv o3,sv o4,.no,.v (.int t)]:=by
          have ix:ixN (S.map tS).length (j:Int)=some j:=by unfold ixN; rw [List.length_map,if_pos (by omega),if_pos (by omega)]; simp
          have gt:(S.map tS)[j]?=some (tS s):=by rw [List.getElem?_map,hs]; rfl
          have lw:s.2.length ≤ n:=zdr gs
          unfold zj9
          show R.toO (zfy _ _) _ _=_
          rw [mk,R.toO_ok]
          simp only [ix,gt,tS,mC,R.toO_ok]
          show R.toO (mVar 6 [.v C,.v (.int n),.p (tP S),sv o3,sv o4,.no,.v (.int t)]) _ _=_
          have v6:mVar 6 [.v C,.v (.int n),.p (tP S),sv o3,sv o4,.no,.v (.int t)] = .ok (.int t):=rfl
          rw [v6,R.toO_ok,zbE (by rw [List.length_map]; exact Nat.lt_of_le_of_lt (Nat.le_trans lw hn) (by decide))]
          have e:(S.map tS).set j (.t [.d (.int s.1),.l ((s.2 ++ [t]).map fun i=>.d (.int i))])=(S.set j (s.1,s.2 ++ [t])).map tS:=by rw [List.map_set]; rfl
          show O.nx [_,_,.p (.l ((S.map tS).set j (.t [.d (.int s.1),.l ((s.2.map fun i=>.d (.int i)) ++ [.d (.int t)])]))),_,_,_,_]=_
          rw [List.map_append] at e
          rw [show [Tr.d (.int t)] = [t].map (fun i=>Tr.d (.int i)) from rfl,e]; rfl
        refine ⟨[.v C,.v (.int n),.p (tP S),sv o3,sv o4,.no,.v (.int t)],_,za7 rfl,.inl ((zbj tt).trans ap),S.set j (s.1,s.2 ++ [t]),some (.int t),rfl,fun s' hs'=>?_,by rw [List.length_set,hl],fun u hu=>?_⟩
        · rcases List.mem_or_eq_of_mem_set hs' with w | w
          · exact g s' w
          · rw [w]
            refine ⟨gs.lo,gs.hi,?_,fun u hu=>?_⟩
            · show (s.2 ++ [t]).Nodup
              refine List.nodup_append.mpr ⟨gs.nd,by simp,fun a ha b hb e=>?_⟩
              rw [List.mem_singleton.mp hb] at e
              rw [e] at ha
              exact out s sm ha
            · rcases List.mem_append.mp hu with w | w
              · exact gs.mem u w
              · rw [List.mem_singleton.mp w]; omega
        · have new:(s.1,s.2 ++ [t]) ∈ S.set j (s.1,s.2 ++ [t]):=List.mem_set jl _
          rcases List.mem_append.mp hu with w | w
          · obtain ⟨s',hs',hu'⟩:=cv u w
            obtain ⟨i,hi,ei⟩:=List.getElem_of_mem hs'
            by_cases e:i=j
            · refine ⟨_,new,List.mem_append_left _ ?_⟩
              have:S[i]?=some s':=by rw [List.getElem?_eq_getElem hi,ei]
              rw [e,hs] at this
              cases this; exact hu'
            · refine ⟨s',?_,hu'⟩
              have:(S.set j (s.1,s.2 ++ [t]))[i]?=some s':=by rw [List.getElem?_set_ne (Ne.symm e),List.getElem?_eq_getElem hi,ei]
              exact List.mem_of_getElem? this
          · exact ⟨_,new,List.mem_append_right _ w⟩
      · rw [decide_eq_false z] at tt
        refine ⟨[.v C,.v (.int n),.p (tP S),sv o3,sv o4,.no,.v (.int t)],_,za7 rfl,.inl ((zbb tt).trans rfl),S,some (.int t),rfl,g,hl,fun u hu=>?_⟩
        rcases List.mem_append.mp hu with w | w
        · exact cv u w
        · rw [List.mem_singleton.mp w]
          obtain ⟨s,hs⟩:=List.exists_mem_of_length_pos (show 0 < (S.filter fun s=>decide (t ∈ s.2)).length by omega)
          exact ⟨s,(List.mem_filter.mp hs).1,by simpa using (List.mem_filter.mp hs).2⟩)
    [.v C,.v (.int n),.p (tP S2),sv o3,sv o4,.no,.no] ⟨S2,none,rfl,g2,rfl,by simp⟩
  have q3:zhh [.v C,.v (.int n),.p (tP S2),sv o3,sv o4,.no,.no]=_:=(zbp (by simp [mRng,zaa,mNil,mVar,rngU (show n ≤ 1000 by omega)])).trans h2
  refine ⟨S3,zcJ ?_,⟨g3,by omega,by omega⟩,by omega,cv⟩
  rw [← eC]
  refine (zal q0).trans ((zal q1).trans ((zal q2).trans ((zal q3).trans ?_)))
  show O.ro (trD (tP S3))=_
  rw [zpb]
theorem zn2 {n:Nat} {cs:List Int} (h2:2 ≤ n) (hn:n ≤ 100) (hc:cs.length ≤ 30):∃ ls:List Ln,zdf [iL cs,.int n] = .ok (zaM ls)∧ls.length=cs.length∧∀ l ∈ ls,LnOk n l:=by
  obtain ⟨C,eC⟩:∃ C,C=iL cs:=⟨_,rfl⟩
  have np:(0:Int) < (n:Int):=by omega
  have np1:(0:Int) < (n:Int) - 1:=by omega
  obtain ⟨δ1,h1,L,o3,o4,o5,o6,o7,rfl,gL,lL⟩:=zb6 (b:=bTup 2 (zaS (zao 3) (zaS (zao 4) bNil))) (m:=zge) encE (fun pre δ=>∃ (L:List Ln) (o3 o4 o5 o6 o7:Option D),δ = [.v C,.v (.int n),.o (zaM L),sv o3,sv o4,sv o5,sv o6,sv o7]∧(∀ l ∈ L,LnOk n l)∧L.length=pre.length) cs.zipIdx
    (by
      rintro pre q post δ hall ⟨L,o3,o4,o5,o6,o7,rfl,g,hl⟩
      have hk:=zfr hall
      have qk:q.2 < 30:=by have:=(List.getElem?_eq_some_iff.mp hk.2.1).1; omega
      obtain ⟨x,hx,x0,x1⟩:=zdw q.1 (show (0:Int) ≤ (q.2:Int) + 130 by omega) (by omega)
      obtain ⟨a,ea⟩:∃ a,a=x % (n:Int):=⟨_,rfl⟩
      obtain ⟨d,ed⟩:∃ d,d=x / (n:Int) % ((n:Int) - 1):=⟨_,rfl⟩
      have a0:0 ≤ a:=by rw [ea]; exact zd8 _ np
      have a1:a < n:=by rw [ea]; exact zeb _ np
      have d0:0 ≤ d:=by rw [ed]; exact zd8 _ np1
      have d1:d < n - 1:=by rw [ed]; exact zeb _ np1
      obtain ⟨b,eb⟩:∃ b,b=(a + 1 + d) % (n:Int):=⟨_,rfl⟩
      have b0:0 ≤ b:=by rw [eb]; exact zd8 _ np
      have b1:b < n:=by rw [eb]; exact zeb _ np
      have ne:a ≠ b:=by
        rcases Int.lt_or_le (a + 1 + d) n with w | w
        · rw [Int.emod_eq_of_lt (by omega) w] at eb; omega
        · have:(a + 1 + d) % (n:Int)=a + 1 + d - n:=by
            rw [← Int.sub_emod_right,Int.emod_eq_of_lt (by omega) (by omega)]
          omega
      have fn:Fit (n:Int):=fitN 1000 (by omega)
      have q1:mAsg (zai zaG (zaa (mVar 4) (zaa (m2 oAdd (mRd 3) (mC (.int 130))) mNil))) (zao 5) [.v C,.v (.int n),.o (zaM L),.v (.int q.2),.v (.int q.1),sv o5,sv o6,sv o7] = .nx [.v C,.v (.int n),.o (zaM L),.v (.int q.2),.v (.int q.1),.v (.int x),sv o6,sv o7]:=zaE (d:=.int x) (by simp [zai,zaa,mNil,mVar,mRd,mC,hx]) (za7 rfl)
      have q2:mAsg (m2 oMod (mRd 5) (mRd 1)) (zao 6) [.v C,.v (.int n),.o (zaM L),.v (.int q.2),.v (.int q.1),.v (.int x),sv o6,sv o7] = .nx [.v C,.v (.int n),.o (zaM L),.v (.int q.2),.v (.int q.1),.v (.int x),.v (.int a),sv o7]:=zaE (d:=.int a) (by simp [mRd,zbn np,ea]) (za7 rfl)
      have q3:mAsg (m2 oMod (m2 oAdd (m2 oAdd (mRd 6) (mC (.int 1))) (m2 oMod (m2 oDiv (mRd 5) (mRd 1)) (m2 oSub (mRd 1) (mC (.int 1))))) (mRd 1)) (zao 7) [.v C,.v (.int n),.o (zaM L),.v (.int q.2),.v (.int q.1),.v (.int x),.v (.int a),sv o7] = .nx [.v C,.v (.int n),.o (zaM L),.v (.int q.2),.v (.int q.1),.v (.int x),.v (.int a),.v (.int b)]:=zaE (d:=.int b) (by simp [mRd,mC,zca np fn,zbn np,zbn np1,← ed,eb]) (za7 rfl)
      have q4:zdh 2 (mTup (zaa (mVar 6) (zaa (mVar 7) mNil))) [.v C,.v (.int n),.o (zaM L),.v (.int q.2),.v (.int q.1),.v (.int x),.v (.int a),.v (.int b)] = .nx [.v C,.v (.int n),.o (zaM (L ++ [(a,b)])),.v (.int q.2),.v (.int q.1),.v (.int x),.v (.int a),.v (.int b)]:=by
        have:=zkc (i:=2) (me:=mTup (zaa (mVar 6) (zaa (mVar 7) mNil))) (δ:=[.v C,.v (.int n),.o (zaM L),.v (.int q.2),.v (.int q.1),.v (.int x),.v (.int a),.v (.int b)]) (l:=L.map encN) (d:=encN (a,b)) rfl (by simp [mTup,zaa,mNil,mVar,sizeLine,encN]) (by
          have:pre.length ≤ cs.length:=by have:=congrArg List.length hall; simp at this; omega
          rw [List.length_map,hl]; omega)
        rw [this]
        simp [zaM]
      refine ⟨[.v C,.v (.int n),.o (zaM L),.v (.int q.2),.v (.int q.1),sv o5,sv o6,sv o7],_,by rcases o3 with _ | o3 <;> rcases o4 with _ | o4 <;> rfl,.inl ((zal q1).trans ((zal q2).trans ((zal q3).trans q4))),L ++ [(a,b)],some _,some _,some _,some _,some _,rfl,fun l hl'=>?_,by simp [hl]⟩
      rcases List.mem_append.mp hl' with z | z
      · exact g l z
      · rw [List.mem_singleton.mp z]; exact ⟨a0,a1,b0,b1,ne⟩)
    [.v C,.v (.int n),.o (zaM []),.no,.no,.no,.no,.no] ⟨[],none,none,none,none,none,rfl,by simp,rfl⟩
  have q0:mAsg (mLst mNil) (bNew 2) [.v C,.v (.int n),.no,.no,.no,.no,.no,.no] = .nx [.v C,.v (.int n),.o (zaM []),.no,.no,.no,.no,.no]:=zaE (d:=zaM []) (by simp [mLst,mNil,zaM,sizeLine]) rfl
  have q1:zgR [.v C,.v (.int n),.o (zaM []),.no,.no,.no,.no,.no]=_:=(zbp (by rw [eC]; exact zja rfl)).trans h1
  refine ⟨L,zcJ ?_,by rw [lL,List.length_zipIdx],gL⟩
  rw [← eC]
  exact (zal q0).trans ((zal q1).trans rfl)
end My
namespace My
open PySem L2 PM
theorem zmE {w:D} (h:w = .non∨∃ s,w = .str s):zdj [w,w] = .ok (.bl true):=by
  rcases h with rfl | ⟨s,rfl⟩
  · exact zbl rfl
  · refine zbl ?_
    have t:zan (m2 oIs (mRd 1) (mC .non)) [.v (.str s),.v (.str s)] = .ok false:=rfl
    refine (zal ((zbb t).trans rfl)).trans ?_
    have a:m1 (oIsi "str") (mRd 0) [.v (.str s),.v (.str s)] = .ok (.bl true):=rfl
    have b:m2 oEq (mRd 0) (mRd 1) [.v (.str s),.v (.str s)] = .ok (.bl true):=by simp [mRd,oEq,fl,scal]
    unfold mRet ziJ
    rw [a,R.bind_ok]
    simp only [zff,R.of_some,R.bind_ok,if_true]
    rw [b]; rfl
theorem zoe (more:Nat) (sets:List Ps) (ch:List Int) (ps:List Fr) (m:Nat):due more sets ch ps m = .non∨∃ s,due more sets ch ps m = .str s:=by
  unfold due
  split
  · exact .inr ⟨_,rfl⟩
  split
  · exact .inr ⟨_,rfl⟩
  split
  · exact .inr ⟨_,rfl⟩
  split
  · exact .inr ⟨_,rfl⟩
  split
  · exact .inr ⟨_,rfl⟩
  · exact .inl rfl
theorem zlZ (ps:List Int) (ls:List Ln) (ch pd:List Int):due2 ps ls ch pd = .non∨∃ s,due2 ps ls ch pd = .str s:=by
  unfold due2
  split
  · exact .inr ⟨_,rfl⟩
  split
  · exact .inr ⟨_,rfl⟩
  split
  · exact .inr ⟨_,rfl⟩
  split
  · exact .inr ⟨_,rfl⟩
  split
  · exact .inr ⟨_,rfl⟩
  · exact .inl rfl
theorem zlk {x:D} (h:zbm 8 x=true):oNeD x x=some (.bl false):=zmT h h rfl
theorem zjP (l:List Int):zbm 7 (iL l)=true:=by
  show (l.map D.int).all (zbm 6)=true
  rw [List.all_map,List.all_eq_true]
  intro x _; rfl
theorem zkM {n:Nat} {sets:List Ps} (ok:SetsOk n sets) (hn:n ≤ 12) (hsl:sets.length ≤ 15) (hc:∀ t ∈ upto n,∃ s ∈ sets,t ∈ s.2) (w x:Int):zcS [.int n,encP sets,.int w,.int x] = .ok (.bl true):=by
  obtain ⟨S,eS⟩:∃ S,S=encP sets:=⟨_,rfl⟩
  have lS:fLen [S]=some (.int sets.length):=by rw [eS]; simp [encP]
  obtain ⟨tk,m,a1,hG,a3,a4,a5,a6,a7⟩:=znn ok (by omega) hc
  obtain ⟨ps0,eps,lps,fps⟩:∃ ps0:List Fr,pays n (fun t=>ov (pay sets zdJ tk t) (hs m)) = .lst (ps0.map encF)∧ps0.length=n∧∀ p ∈ ps0,FrB (10 ^ 37) p:=by
    refine ⟨(upto n).map fun t=>ov (pay sets zdJ tk t) (My.hs m),by rw [List.map_map]; rfl,by rw [List.length_map,zcl],fun p hp=>?_⟩
    obtain ⟨t,ht,rfl⟩:=List.mem_map.mp hp
    have f:=zoF ok hG zdJ zkY t
    have mp:=zj8 hc a5 ht
    have b:=zlm (k:=m) (by omega)
    have f1:(pay sets zdJ tk t).1.natAbs ≤ 10 ^ 18:=by have:=f.lo; have:=f.hi; omega
    have f2:(pay sets zdJ tk t).2.natAbs ≤ 1000:=by have:=f.pos; have:=f.le; omega
    have bu:0 < (pay sets zdJ tk t).2 * (My.hs m).1:=Int.mul_pos f.pos (zoG mp)
    exact ⟨Nat.le_trans (zi5 bu) (Nat.le_trans (zfu f1 b.2) (by decide +kernel)),Nat.le_trans (ziQ bu) (Nat.le_trans (zfu f2 b.1) (by decide +kernel)),zhj bu⟩
  rw [eps,← eS] at a7
  rw [← eS] at a1
  obtain ⟨m',m1,mx,_⟩:=zos (n:=n) (sets.map fun s=>s.2.length) (fun a ha=>by
    obtain ⟨s,hs,rfl⟩:=List.mem_map.mp ha
    exact zdr (ok.good s hs))
  have q1:mAsg (zai zfg (zaa (mVar 0) (zaa (mVar 1) mNil))) (zao 4) [.v (.int n),.v S,.v (.int w),.v (.int x),.no,.no,.no,.no,.no] = .nx [.v (.int n),.v S,.v (.int w),.v (.int x),.v (iL (tk.map fun p=>(p.1:Int))),.no,.no,.no,.no]:=zaE (d:=iL (tk.map fun p=>(p.1:Int))) (by simp [zai,zaa,mNil,mVar,a1]) rfl
  have q2:mAsg (zai zb3 (zaa (mVar 0) (zaa (mVar 1) mNil))) (zao 5) [.v (.int n),.v S,.v (.int w),.v (.int x),.v (iL (tk.map fun p=>(p.1:Int))),.no,.no,.no,.no] = .nx [.v (.int n),.v S,.v (.int w),.v (.int x),.v (iL (tk.map fun p=>(p.1:Int))),.v (.lst (ps0.map encF)),.no,.no,.no]:=zaE (d:=.lst (ps0.map encF)) (by simp [zai,zaa,mNil,mVar,a7]) rfl
  obtain ⟨ch,q3,lc⟩:∃ ch:List Int,mIfS (zan (m2 oGt (m2 oMod (mRd 2) (mC (.int 4))) (mC (.int 1)))) (mAsg (zai zaT (zaa (mVar 4) (zaa (mVar 3) (zaa (mCB fLen (zaa (mRd 1) mNil)) mNil)))) (zao 4)) zaX [.v (.int n),.v S,.v (.int w),.v (.int x),.v (iL (tk.map fun p=>(p.1:Int))),.v (.lst (ps0.map encF)),.no,.no,.no] = .nx [.v (.int n),.v S,.v (.int w),.v (.int x),.v (iL ch),.v (.lst (ps0.map encF)),.no,.no,.no]∧ch.length ≤ 2 * n + 1:=by
    have tt:zan (m2 oGt (m2 oMod (mRd 2) (mC (.int 4))) (mC (.int 1))) [.v (.int n),.v S,.v (.int w),.v (.int x),.v (iL (tk.map fun p=>(p.1:Int))),.v (.lst (ps0.map encF)),.no,.no,.no] = .ok (decide (1 < w % 4)):=by simp [zan,mRd,mC,zbn (show (0:Int) < 4 by decide)]
    by_cases z:1 < w % 4
    · rw [decide_eq_true z] at tt
      obtain ⟨ch,e,l⟩:=zef (l:=tk.map fun p=>(p.1:Int)) (x:=x) (c:=sets.length) (by rw [List.length_map]; omega)
      rw [List.length_map] at l
      exact ⟨ch,(zbj tt).trans (zaE (d:=iL ch) (by simp [zai,zaa,mNil,mVar,mCB,mRd,lS,e]) rfl),by omega⟩
    · rw [decide_eq_false z] at tt
      exact ⟨_,(zbb tt).trans rfl,by rw [List.length_map]; omega⟩
  obtain ⟨y,hy,_,_⟩:=zdw x (k:=5) (by decide) (by decide)
  have e76:(10:Nat) ^ 37 ≤ 10 ^ 76:=by decide +kernel
  obtain ⟨ps,q4,lp,fp⟩:∃ ps:List Fr,mIfS (mOr (zan (m2 oEq (m2 oMod (mRd 2) (mC (.int 4))) (mC (.int 1)))) (zan (m2 oEq (m2 oMod (mRd 2) (mC (.int 4))) (mC (.int 3))))) (mAsg (zai zbi (zaa (mVar 5) (zaa (zai zaG (zaa (mVar 3) (zaa (mC (.int 5)) mNil))) mNil))) (zao 5)) zaX [.v (.int n),.v S,.v (.int w),.v (.int x),.v (iL ch),.v (.lst (ps0.map encF)),.no,.no,.no] = .nx [.v (.int n),.v S,.v (.int w),.v (.int x),.v (iL ch),.v (.lst (ps.map encF)),.no,.no,.no]∧ps.length ≤ 2 * n + 1∧∀ p ∈ ps,FrB (10 ^ 76) p:=by
    obtain ⟨b,tt⟩:∃ b:Bool,mOr (zan (m2 oEq (m2 oMod (mRd 2) (mC (.int 4))) (mC (.int 1)))) (zan (m2 oEq (m2 oMod (mRd 2) (mC (.int 4))) (mC (.int 3)))) [.v (.int n),.v S,.v (.int w),.v (.int x),.v (iL ch),.v (.lst (ps0.map encF)),.no,.no,.no] = .ok b:=by
      by_cases z:w % 4=1
      · exact ⟨true,by simp [mOr,zan,mRd,mC,zbn (show (0:Int) < 4 by decide),z]⟩
      · exact ⟨decide (w % 4=3),by simp [mOr,zan,mRd,mC,zbn (show (0:Int) < 4 by decide),z]⟩
    cases b with
    | true =>
      obtain ⟨ps,e,l,f⟩:=zgy (l:=ps0) (x:=y) (by omega) fps
      exact ⟨ps,(zbj tt).trans (zaE (d:=.lst (ps.map encF)) (by simp [zai,zaa,mNil,mVar,mC,hy,e]) rfl),by omega,f⟩
    | false=>exact ⟨ps0,(zbb tt).trans rfl,by omega,fun p hp=>⟨Nat.le_trans (fps p hp).t e76,Nat.le_trans (fps p hp).b e76,(fps p hp).g0⟩⟩
  obtain ⟨more,q5,mr1,mr2⟩:∃ more:Nat,mAsg (m2 oAdd (mRd 0) (mCB fInt (zaa (m2 oEq (m2 oMod (m2 oDiv (mRd 3) (mC (.int 97))) (mC (.int 4))) (mC (.int 1))) mNil))) (zao 6) [.v (.int n),.v S,.v (.int w),.v (.int x),.v (iL ch),.v (.lst (ps.map encF)),.no,.no,.no] = .nx [.v (.int n),.v S,.v (.int w),.v (.int x),.v (iL ch),.v (.lst (ps.map encF)),.v (.int more),.no,.no]∧n ≤ more∧more ≤ 13:=by
    have f97:Fit 97:=fitN 100 (by decide)
    refine ⟨n + (if x / 97 % 4=1 then 1 else 0),zaE (d:=.int _) ?_ rfl,by omega,by split <;> omega⟩
    by_cases z:x / 97 % 4=1 <;> simp [mRd,mC,mCB,zaa,mNil,zca (show (0:Int) < 97 by decide) f97,zbn (show (0:Int) < 4 by decide),z,fInt]
  have k:zeK [.v (.int n),.v S,.v (.int w),.v (.int x),.v (iL ch),.v (.lst (ps.map encF)),.v (.int more),.no,.no] = .ok S:=by
    rw [eS]
    refine za8 (l:=sets.map encS) (r:=sets.map encS) rfl (by rw [List.length_map]; omega) ?_
    exact zaZ encS _ sets fun s _=>by simp [zcc,za1,bTup,zaS,bNil,zaJ,mTup,mVar,mCB,zaa,mNil,mRd,encS,sizeLine,iL]
  have q6:mAsg (mTup (zaa (mCB zdI (zaa (mRd 4) mNil)) (zaa (mCB zdI (zaa (mRd 5) mNil)) (zaa zeK mNil)))) (zao 7) [.v (.int n),.v S,.v (.int w),.v (.int x),.v (iL ch),.v (.lst (ps.map encF)),.v (.int more),.no,.no] = .nx [.v (.int n),.v S,.v (.int w),.v (.int x),.v (iL ch),.v (.lst (ps.map encF)),.v (.int more),.v (.tup [iL ch,.lst (ps.map encF),S]),.no]:=by
    refine zaE (d:=.tup [iL ch,.lst (ps.map encF),S]) ?_ rfl
    have l4:zdI [iL ch]=some (iL ch):=rfl
    simp [mTup,zaa,mNil,mCB,mRd,k,sizeLine,l4]
  have C:Cv n more sets ch ps (10 ^ 76) m':=⟨ok,mr1,by omega,by omega,by omega,by omega,Nat.le_refl _,fp,mx,by omega⟩
  have cc:=zid C
  have lw:=zkr C
  rw [← eS] at cc lw
  obtain ⟨dd,edd⟩:∃ dd,dd=due more sets ch ps m':=⟨_,rfl⟩
  rw [← edd] at cc lw
  have q7:mAsg (zai zcD (zaa (mVar 6) (zaa (m2 oIxT (mRd 7) (mC (.int 2))) (zaa (m2 oIxT (mRd 7) (mC (.int 0))) (zaa (m2 oIxT (mRd 7) (mC (.int 1))) mNil))))) (zao 8) [.v (.int n),.v S,.v (.int w),.v (.int x),.v (iL ch),.v (.lst (ps.map encF)),.v (.int more),.v (.tup [iL ch,.lst (ps.map encF),S]),.no] = .nx [.v (.int n),.v S,.v (.int w),.v (.int x),.v (iL ch),.v (.lst (ps.map encF)),.v (.int more),.v (.tup [iL ch,.lst (ps.map encF),S]),.v dd]:=by
    refine zaE (d:=dd) ?_ rfl
    have i0:oIxT (.tup [iL ch,.lst (ps.map encF),S]) (.int 0)=some (iL ch):=rfl
    have i1:oIxT (.tup [iL ch,.lst (ps.map encF),S]) (.int 1)=some (.lst (ps.map encF)):=rfl
    have i2:oIxT (.tup [iL ch,.lst (ps.map encF),S]) (.int 2)=some S:=rfl
    simp [zai,zaa,mNil,mVar,mRd,mC,i0,i1,i2,cc]
  have pl:zbm 8 (.tup [iL ch,.lst (ps.map encF),S])=true:=by
    show ([iL ch,.lst (ps.map encF),S]).all (zbm 7)=true
    simp only [List.all_cons,List.all_nil,Bool.and_true,zjP,Bool.true_and,Bool.and_eq_true]
    refine ⟨?_,?_⟩
    · show (ps.map encF).all (zbm 6)=true
      rw [List.all_map,List.all_eq_true]
      intro x _; rfl
    · rw [eS]
      show (sets.map encS).all (zbm 6)=true
      rw [List.all_map,List.all_eq_true]
      intro s _
      show ([D.int s.1,iL s.2]).all (zbm 5)=true
      simp only [List.all_cons,List.all_nil,Bool.and_true]
      show (true && (s.2.map D.int).all (zbm 4))=true
      rw [Bool.true_and,List.all_map,List.all_eq_true]
      intro x _; rfl
  have t8:zan (m2 oNeD (mRd 7) (mTup (zaa (mVar 4) (zaa (mVar 5) (zaa (mVar 1) mNil))))) [.v (.int n),.v S,.v (.int w),.v (.int x),.v (iL ch),.v (.lst (ps.map encF)),.v (.int more),.v (.tup [iL ch,.lst (ps.map encF),S]),.v dd] = .ok false:=by
    simp [zan,mRd,mTup,zaa,mNil,mVar,sizeLine,zlk pl]
  refine zbl ?_
  rw [← eS]
  refine (zal q1).trans ((zal q2).trans ((zal q3).trans ((zal q4).trans ((zal q5).trans ((zal q6).trans ((zal q7).trans ((zal ((zbb t8).trans rfl)).trans ?_)))))))
  have sm:=zmE (w:=dd) (by rw [edd]; exact zoe ..)
  simp [mRet,zai,zaa,mNil,mVar,lw,sm]
theorem zoR {ps:List Int} {M:Int} (hM:∀ i:Int,0 ≤ i→i < ps.length→0 ≤ gA ps i∧gA ps i ≤ M) {ls:List Ln} (hl:∀ l ∈ ls,LnOk ps.length l):∀ x ∈ (runP ps ls).2,0 ≤ x∧x ≤ M:=by
  have key:∀ (ls pre:List Ln) (s:List Int × List Int),PInv ps pre s→(∀ l ∈ ls,LnOk ps.length l)→(∀ x ∈ s.2,x ≤ M)→∀ x ∈ (ls.foldl stp s).2,x ≤ M:=by
    intro ls
    induction ls with
    | nil=>intro pre s _ _ h; exact h
    | cons l ls ih =>
      intro pre s I h hx
      have ok:=h l (by simp)
      refine ih (pre ++ [l]) (stp s l) (zjp I ok) (fun x hx=>h x (by simp [hx])) fun x hx'=>?_
      rcases List.mem_append.mp (show x ∈ s.2 ++ [pay1 s.1 l] from hx') with z | z
      · exact hx x z
      · rw [List.mem_singleton.mp z]
        have n1:=I.nn l.1 ok.a0 ok.a1
        have h1:=hM l.1 ok.a0 ok.a1
        unfold pay1
        split <;> omega
  intro x hx
  have hps:∀ i:Int,0 ≤ i→i < ps.length→0 ≤ gA ps i:=fun i h0 h1=>(hM i h0 h1).1
  refine ⟨(zhc hps ls hl).pnn x hx,key ls [] (ps,[]) ⟨rfl,rfl,fun i h0 h1=>⟨hps i h0 h1,Int.le_refl _⟩,fun x hx=>(by cases hx),fun i h0 h1=>(by simp [atP]),fun l hl=>(by cases hl),fun l hl=>(by cases hl)⟩ hl (by simp) x hx⟩
theorem zj0 {ps:List Int} {ls:List Ln} (hM:∀ i:Int,0 ≤ i→i < ps.length→0 ≤ gA ps i∧gA ps i ≤ 1000000000000000000) (hl:∀ l ∈ ls,LnOk ps.length l) (hp:ps.length ≤ 9) (hn:ls.length ≤ 30) (w x:Int):zcC [iL ps,zaM ls,.int w,.int x] = .ok (.bl true):=by
  have hps:∀ i:Int,0 ≤ i→i < ps.length→0 ≤ gA ps i:=fun i h0 h1=>(hM i h0 h1).1
  obtain ⟨N,eN⟩:∃ N,N=zaM ls:=⟨_,rfl⟩
  have te:=zkg hps hl (by omega) (by omega)
  have le:=zh2 hps hl (by omega)
  rw [← eN] at te le
  have lt:(tch ps ls).length ≤ 9:=Nat.le_trans (List.length_filter_le ..) (by rw [zlW]; exact hp)
  have lr:=(zhc hps ls hl).plen
  have hr:=zoR hM hl
  obtain ⟨c0,ec⟩:∃ c0,c0=tch ps ls:=⟨_,rfl⟩
  obtain ⟨d0,ed⟩:∃ d0,d0=(runP ps ls).2:=⟨_,rfl⟩
  rw [← ec] at te lt
  rw [← ed] at le lr hr
  have q1:mAsg (zai zdP (zaa (mVar 0) (zaa (mVar 1) mNil))) (zao 4) [.v (iL ps),.v N,.v (.int w),.v (.int x),.no,.no,.no,.no] = .nx [.v (iL ps),.v N,.v (.int w),.v (.int x),.v (iL c0),.no,.no,.no]:=zaE (d:=iL c0) (by simp [zai,zaa,mNil,mVar,te]) rfl
  have q2:mAsg (zai zcB (zaa (mVar 0) (zaa (mVar 1) mNil))) (zao 5) [.v (iL ps),.v N,.v (.int w),.v (.int x),.v (iL c0),.no,.no,.no] = .nx [.v (iL ps),.v N,.v (.int w),.v (.int x),.v (iL c0),.v (iL d0),.no,.no]:=zaE (d:=iL d0) (by simp [zai,zaa,mNil,mVar,le]) rfl
  obtain ⟨ch,q3,lc⟩:∃ ch:List Int,mIfS (zan (m2 oGt (m2 oMod (mRd 2) (mC (.int 4))) (mC (.int 1)))) (mAsg (zai zaT (zaa (mVar 4) (zaa (mVar 3) (zaa (mCB fLen (zaa (mRd 0) mNil)) mNil)))) (zao 4)) zaX [.v (iL ps),.v N,.v (.int w),.v (.int x),.v (iL c0),.v (iL d0),.no,.no] = .nx [.v (iL ps),.v N,.v (.int w),.v (.int x),.v (iL ch),.v (iL d0),.no,.no]∧ch.length ≤ 19:=by
    have tt:zan (m2 oGt (m2 oMod (mRd 2) (mC (.int 4))) (mC (.int 1))) [.v (iL ps),.v N,.v (.int w),.v (.int x),.v (iL c0),.v (iL d0),.no,.no] = .ok (decide (1 < w % 4)):=by simp [zan,mRd,mC,zbn (show (0:Int) < 4 by decide)]
    by_cases z:1 < w % 4
    · rw [decide_eq_true z] at tt
      obtain ⟨ch,e,l⟩:=zef (l:=c0) (x:=x) (c:=ps.length) (by omega)
      exact ⟨ch,(zbj tt).trans (zaE (d:=iL ch) (by simp [zai,zaa,mNil,mVar,mCB,mRd,e]) rfl),by omega⟩
    · rw [decide_eq_false z] at tt
      exact ⟨_,(zbb tt).trans rfl,by omega⟩
  obtain ⟨y,hy,_,_⟩:=zdw x (k:=5) (by decide) (by decide)
  obtain ⟨pd,q4,lp,fp⟩:∃ pd:List Int,mIfS (mOr (zan (m2 oEq (m2 oMod (mRd 2) (mC (.int 4))) (mC (.int 1)))) (zan (m2 oEq (m2 oMod (mRd 2) (mC (.int 4))) (mC (.int 3))))) (mAsg (zai zbB (zaa (mVar 5) (zaa (zai zaG (zaa (mVar 3) (zaa (mC (.int 5)) mNil))) mNil))) (zao 5)) zaX [.v (iL ps),.v N,.v (.int w),.v (.int x),.v (iL ch),.v (iL d0),.no,.no] = .nx [.v (iL ps),.v N,.v (.int w),.v (.int x),.v (iL ch),.v (iL pd),.no,.no]∧pd.length ≤ 100∧∀ p ∈ pd,p.natAbs ≤ 4 * 10 ^ 18:=by
    obtain ⟨b,tt⟩:∃ b:Bool,mOr (zan (m2 oEq (m2 oMod (mRd 2) (mC (.int 4))) (mC (.int 1)))) (zan (m2 oEq (m2 oMod (mRd 2) (mC (.int 4))) (mC (.int 3)))) [.v (iL ps),.v N,.v (.int w),.v (.int x),.v (iL ch),.v (iL d0),.no,.no] = .ok b:=by
      by_cases z:w % 4=1
      · exact ⟨true,by simp [mOr,zan,mRd,mC,zbn (show (0:Int) < 4 by decide),z]⟩
      · exact ⟨decide (w % 4=3),by simp [mOr,zan,mRd,mC,zbn (show (0:Int) < 4 by decide),z]⟩
    cases b with
    | true =>
      obtain ⟨pd,e,l,f⟩:=zhp (l:=d0) (x:=y) (M:=10 ^ 18) (by omega) (fun a ha=>by have:=hr a ha; omega)
      exact ⟨pd,(zbj tt).trans (zaE (d:=iL pd) (by simp [zai,zaa,mNil,mVar,mC,hy,e]) rfl),by omega,fun p hp=>Nat.le_trans (f p hp) (by decide)⟩
    | false=>exact ⟨d0,(zbb tt).trans rfl,by omega,fun p hp=>by have:=hr p hp; omega⟩
  have q6:mAsg (mTup (zaa (mCB zdI (zaa (mRd 4) mNil)) (zaa (mCB zdI (zaa (mRd 5) mNil)) (zaa (mCB zdI (zaa (mRd 0) mNil)) (zaa (mCB zdI (zaa (mRd 1) mNil)) mNil))))) (zao 6) [.v (iL ps),.v N,.v (.int w),.v (.int x),.v (iL ch),.v (iL pd),.no,.no] = .nx [.v (iL ps),.v N,.v (.int w),.v (.int x),.v (iL ch),.v (iL pd),.v (.tup [iL ch,iL pd,iL ps,N]),.no]:=by
    refine zaE (d:=.tup [iL ch,iL pd,iL ps,N]) ?_ rfl
    have l4:∀ l,zdI [iL l]=some (iL l):=fun _=>rfl
    have l5:zdI [N]=some N:=by rw [eN]; rfl
    simp [mTup,zaa,mNil,mCB,mRd,sizeLine,l4,l5]
  have sa:=zi6 (f:=fun a:Int=>a) (M:=4 * 10 ^ 18) pd fp
  have fs:Fit pd.sum:=fitN (100 * (4 * 10 ^ 18)) (by
    rw [List.map_id'] at sa
    exact Nat.le_trans sa (Nat.mul_le_mul_right _ lp))
  have T:Tv ps ls ch pd:=⟨by omega,by omega,by omega,by omega,fs⟩
  have cc:=zhZ T
  have lw:=ziF T
  rw [← eN] at cc lw
  obtain ⟨dd,edd⟩:∃ dd,dd=due2 ps ls ch pd:=⟨_,rfl⟩
  rw [← edd] at cc lw
  have q7:mAsg (zai zcx (zaa (m2 oIxT (mRd 6) (mC (.int 2))) (zaa (m2 oIxT (mRd 6) (mC (.int 3))) (zaa (m2 oIxT (mRd 6) (mC (.int 0))) (zaa (m2 oIxT (mRd 6) (mC (.int 1))) mNil))))) (zao 7) [.v (iL ps),.v N,.v (.int w),.v (.int x),.v (iL ch),.v (iL pd),.v (.tup [iL ch,iL pd,iL ps,N]),.no] = .nx [.v (iL ps),.v N,.v (.int w),.v (.int x),.v (iL ch),.v (iL pd),.v (.tup [iL ch,iL pd,iL ps,N]),.v dd]:=by
    refine zaE (d:=dd) ?_ rfl
    have i0:oIxT (.tup [iL ch,iL pd,iL ps,N]) (.int 0)=some (iL ch):=rfl
    have i1:oIxT (.tup [iL ch,iL pd,iL ps,N]) (.int 1)=some (iL pd):=rfl
    have i2:oIxT (.tup [iL ch,iL pd,iL ps,N]) (.int 2)=some (iL ps):=rfl
    have i3:oIxT (.tup [iL ch,iL pd,iL ps,N]) (.int 3)=some N:=rfl
    simp [zai,zaa,mNil,mRd,mC,i0,i1,i2,i3,cc]
  have pl:zbm 8 (.tup [iL ch,iL pd,iL ps,N])=true:=by
    show ([iL ch,iL pd,iL ps,N]).all (zbm 7)=true
    simp only [List.all_cons,List.all_nil,Bool.and_true,zjP,Bool.true_and]
    rw [eN]
    show (ls.map encN).all (zbm 6)=true
    rw [List.all_map,List.all_eq_true]
    intro x _; rfl
  have t8:zan (m2 oNeD (mRd 6) (mTup (zaa (mVar 4) (zaa (mVar 5) (zaa (mVar 0) (zaa (mVar 1) mNil)))))) [.v (iL ps),.v N,.v (.int w),.v (.int x),.v (iL ch),.v (iL pd),.v (.tup [iL ch,iL pd,iL ps,N]),.v dd] = .ok false:=by
    simp [zan,mRd,mTup,zaa,mNil,mVar,sizeLine,zlk pl]
  refine zbl ?_
  rw [← eN]
  refine (zal q1).trans ((zal q2).trans ((zal q3).trans ((zal q4).trans ((zal q6).trans ((zal q7).trans ((zal ((zbb t8).trans rfl)).trans ?_))))))
  have sm:=zmE (w:=dd) (by rw [edd]; exact zlZ ..)
  simp [mRet,zai,zaa,mNil,mVar,lw,sm]
end My
namespace My
open PySem L2 PM
theorem zm8 (l:List Int) (a b:Nat) (hab:a ≤ b):∃ cs:List Int,cutD (l.map .int) (some (a:Int)) (some (b:Int))=cs.map .int∧cs.length ≤ b - a:=by
  have e:∀ k z:Nat,HT.sIx l.length z (some (k:Int))=min k l.length:=fun k z=>by
    show (if (k:Int) < 0 then ((k:Int) + (l.length:Int)).toNat else min (k:Int).toNat l.length)=_
    rw [if_neg (by omega)]; omega
  refine ⟨(l.drop (HT.sIx l.length 0 (some (a:Int)))).take (HT.sIx l.length l.length (some (b:Int)) - HT.sIx l.length 0 (some (a:Int))),?_,?_⟩
  · unfold cutD
    rw [List.length_map,List.map_take,List.map_drop]
  · rw [e,e,List.length_take,List.length_drop]; omega
theorem law_true (ns:List Int) (h:ns.length ≤ 63):zqW [.scr ns] = .ok (.bl true):=by
  obtain ⟨cl,hcut,hcl⟩:=zm8 ns 6 20 (by decide)
  obtain ⟨dl,hcut2,hdl⟩:=zm8 ns 6 30 (by decide)
  have c0:zaF [.scr ns,.int 0] = .ok (.int (ns.getD 0 0)):=zfv ns 0
  have c4:zaF [.scr ns,.int 4] = .ok (.int (ns.getD 4 0)):=zfv ns 4
  have c5:zaF [.scr ns,.int 5] = .ok (.int (ns.getD 5 0)):=zfv ns 5
  have f3:Fit 3:=fitN 100 (by decide)
  have f4:Fit 4:=fitN 100 (by decide)
  have f5:Fit 5:=fitN 100 (by decide)
  have f13:Fit 13:=fitN 100 (by decide)
  refine zbl ?_
  show mSeq _ _ [.v (.scr ns),.no,.no,.no,.no,.no,.no,.no]=_
  obtain ⟨n,n1,en⟩:∃ n:Nat,n ≤ 12∧ns.getD 0 0 % 13=(n:Int):=⟨(ns.getD 0 0 % 13).toNat,by have:=zeb (ns.getD 0 0) (show (0:Int) < 13 by decide); omega,by have:=zd8 (ns.getD 0 0) (show (0:Int) < 13 by decide); omega⟩
  have q1:mAsg (m2 oMod (zai zaF (zaa (mVar 0) (zaa (mC (.int 0)) mNil))) (mC (.int 13))) (zao 1) [.v (.scr ns),.no,.no,.no,.no,.no,.no,.no] = .nx [.v (.scr ns),.v (.int n),.no,.no,.no,.no,.no,.no]:=by
    refine zaE (d:=.int n) ?_ rfl
    simp only [zai,zaa,mNil,mVar,mC,zcg,List.getElem?_cons_zero,R.bind_ok,c0,R.nev_ok,R.of_some,zbn (show (0:Int) < 13 by decide),en]
  obtain ⟨S0,hS0,ok0,l0,cv0⟩:=zpx (n:=n) (cs:=cl) n1 (by omega)
  have q2:mAsg (zai zdR (zaa (mSl (mRd 0) (za2 (mC (.int 6))) (za2 (mC (.int 20)))) (zaa (mVar 1) mNil))) (zao 2) [.v (.scr ns),.v (.int n),.no,.no,.no,.no,.no,.no] = .nx [.v (.scr ns),.v (.int n),.v (encP S0),.no,.no,.no,.no,.no]:=by
    refine zaE (d:=encP S0) ?_ rfl
    have sl:mSl (mRd 0) (za2 (mC (.int 6))) (za2 (mC (.int 20))) [.v (.scr ns),.v (.int n),.no,.no,.no,.no,.no,.no] = .ok (iL cl):=by
      have hcut':cutD (ns.map .int) (some 6) (some 20)=cl.map .int:=hcut
      simp only [mSl,mRd,za2,mC,List.getElem?_cons_zero,R.bind_ok,zqa,R.of_some,asL,hcut']
      rfl
    simp only [zai,zaa,mNil,sl,mVar,List.getElem?_cons_succ,List.getElem?_cons_zero,R.bind_ok,hS0,R.nev_ok]
  obtain ⟨S,q3,ok,lS,cv⟩:∃ S:List Ps,mIfS (mAnd (zan (m2 oEq (mRd 1) (mC (.int 0)))) (zan (m2 oEq (m2 oMod (m2 oDiv (zai zaF (zaa (mVar 0) (zaa (mC (.int 0)) mNil))) (mC (.int 13))) (mC (.int 2))) (mC (.int 1))))) (mAsg (mLst mNil) (zao 2)) zaX [.v (.scr ns),.v (.int n),.v (encP S0),.no,.no,.no,.no,.no] = .nx [.v (.scr ns),.v (.int n),.v (encP S),.no,.no,.no,.no,.no]∧SetsOk n S∧S.length ≤ 15∧∀ t ∈ upto n,∃ s ∈ S,t ∈ s.2:=by
    have t1:zan (m2 oEq (mRd 1) (mC (.int 0))) [.v (.scr ns),.v (.int n),.v (encP S0),.no,.no,.no,.no,.no] = .ok (decide (n=0)):=by
      simp [zan,mRd,mC]
    have t2:zan (m2 oEq (m2 oMod (m2 oDiv (zai zaF (zaa (mVar 0) (zaa (mC (.int 0)) mNil))) (mC (.int 13))) (mC (.int 2))) (mC (.int 1))) [.v (.scr ns),.v (.int n),.v (encP S0),.no,.no,.no,.no,.no] = .ok (decide (ns.getD 0 0 / 13 % 2=1)):=by
      simp only [zan,zai,zaa,mNil,mVar,mC,zcg,List.getElem?_cons_zero,R.bind_ok,c0,R.nev_ok,R.of_some,zca (show (0:Int) < 13 by decide) f13,zbn (show (0:Int) < 2 by decide),zpT,zff]
    by_cases z:n=0
    · rw [decide_eq_true z] at t1
      by_cases z2:ns.getD 0 0 / 13 % 2=1
      · rw [decide_eq_true z2] at t2
        refine ⟨[],(zbj (by unfold mAnd; rw [t1,R.bind_ok]; exact t2)).trans (zaE (d:=encP []) (by simp [mLst,mNil,sizeLine,encP]) rfl),⟨by simp,by simp,by omega⟩,by simp,fun t ht=>?_⟩
        have:=mem_upto.mp ht
        omega
      · rw [decide_eq_false z2] at t2
        exact ⟨S0,(zbb (by unfold mAnd; rw [t1,R.bind_ok]; exact t2)).trans rfl,ok0,l0,cv0⟩
    · rw [decide_eq_false z] at t1
      exact ⟨S0,(zbb (by unfold mAnd; rw [t1,R.bind_ok]; rfl)).trans rfl,ok0,l0,cv0⟩
  obtain ⟨P,eP⟩:∃ P,P=encP S:=⟨_,rfl⟩
  rw [← eP] at q3
  have rg:mRng (zaa (mC (.int 1)) (zaa (mC (.int 4)) mNil)) [.v (.scr ns),.v (.int n),.v P,.no,.no,.no,.no,.no] = .ok ([1,2,3].map D.int):=by
    have r:=rng2 (a:=1) (b:=4) (by omega) (by omega)
    simp only [mRng,zaa,mNil,mC,R.bind_ok,r,R.of_some]; rfl
  obtain ⟨δ1,hl1,o3,o4,rfl⟩:=zb6 (b:=zao 3) (m:=zl1) D.int (fun _ δ=>∃ o3 o4,δ = [.v (.scr ns),.v (.int n),.v P,sv o3,sv o4,.no,.no,.no]) [1,2,3]
    (by
      rintro pre k post δ hall ⟨o3,o4,rfl⟩
      have hk:k=1∨k=2∨k=3:=by
        have:k ∈ [1,2,3]:=by rw [hall]; simp
        simpa using this
      have ck:=zhk ns (k:=k) (by omega)
      have fk:Fit k:=fitN 100 (by omega)
      obtain ⟨x,hx,x0,x1⟩:=zdw (ns.getD k.toNat 0) (k:=3 * k) (by omega) (by omega)
      have a1:mAsg (zai zaG (zaa (zai zaF (zaa (mVar 0) (zaa (mVar 3) mNil))) (zaa (m2 oMul (mC (.int 3)) (mRd 3)) mNil))) (zao 4) [.v (.scr ns),.v (.int n),.v P,.v (.int k),sv o4,.no,.no,.no] = .nx [.v (.scr ns),.v (.int n),.v P,.v (.int k),.v (.int x),.no,.no,.no]:=by
        refine zaE (d:=.int x) ?_ (za7 rfl)
        simp only [zai,zaa,mNil,mVar,mRd,mC,zcg,List.getElem?_cons_succ,List.getElem?_cons_zero,R.bind_ok,ck,R.nev_ok,R.of_some,zcd f3 fk,hx]
      have ct:=zkM ok n1 lS cv x (x / 4)
      rw [← eP] at ct
      have t1:mNot (zan (zai zcS (zaa (mVar 1) (zaa (mVar 2) (zaa (mVar 4) (zaa (m2 oDiv (mRd 4) (mC (.int 4))) mNil)))))) [.v (.scr ns),.v (.int n),.v P,.v (.int k),.v (.int x),.no,.no,.no] = .ok false:=by
        simp [mNot,zan,zai,zaa,mNil,mVar,mRd,mC,zca (show (0:Int) < 4 by decide) f4,ct]
      exact ⟨[.v (.scr ns),.v (.int n),.v P,.v (.int k),sv o4,.no,.no,.no],_,za7 rfl,.inl ((zal a1).trans ((zbb t1).trans rfl)),some (.int k),some (.int x),rfl⟩)
    [.v (.scr ns),.v (.int n),.v P,.no,.no,.no,.no,.no] ⟨none,none,rfl⟩
  have q4:zor [.v (.scr ns),.v (.int n),.v P,.no,.no,.no,.no,.no]=_:=(zbp rg).trans hl1
  obtain ⟨p,p0,p1,ep⟩:∃ p:Nat,2 ≤ p∧p ≤ 9∧2 + ns.getD 4 0 % 8=(p:Int):=by
    have a0:=zd8 (ns.getD 4 0) (show (0:Int) < 8 by decide)
    have a1:=zeb (ns.getD 4 0) (show (0:Int) < 8 by decide)
    exact ⟨(2 + ns.getD 4 0 % 8).toNat,by omega,by omega,by omega⟩
  have q5:mAsg (m2 oAdd (mC (.int 2)) (m2 oMod (zai zaF (zaa (mVar 0) (zaa (mC (.int 4)) mNil))) (mC (.int 8)))) (zao 5) [.v (.scr ns),.v (.int n),.v P,sv o3,sv o4,.no,.no,.no] = .nx [.v (.scr ns),.v (.int n),.v P,sv o3,sv o4,.v (.int p),.no,.no]:=by
    refine zaE (d:=.int p) ?_ rfl
    simp only [zai,zaa,mNil,mVar,mC,zcg,List.getElem?_cons_zero,R.bind_ok,c4,R.nev_ok,R.of_some,zbn (show (0:Int) < 8 by decide),zle,ep]
  obtain ⟨f,hf⟩:∃ f:Int→Int,∀ k ∈ upto p,zbq [.int (ns.getD k.toNat 0),.int (k + 200)] = .ok (.int (f k))∧0 ≤ f k∧f k ≤ 1000000000000000000:=by
    classical
    have hb:∀ k ∈ upto p,∃ a:Int,zbq [.int (ns.getD k.toNat 0),.int (k + 200)] = .ok (.int a)∧0 ≤ a∧a ≤ 1000000000000000000:=fun k hk=>by
      have:=mem_upto.mp hk
      exact zjY _ (by omega) (by omega)
    exact ⟨fun t=>if h:t ∈ upto p then (hb t h).choose else 0,fun t ht=>by
      have:=(hb t ht).choose_spec
      simp only [dif_pos ht]; exact this⟩
  obtain ⟨ps,eps⟩:∃ ps,ps=(upto p).map f:=⟨_,rfl⟩
  have lps:ps.length=p:=by rw [eps,List.length_map,zcl]
  have k1:zmj [.v (.scr ns),.v (.int n),.v P,sv o3,sv o4,.v (.int p),.no,.no] = .ok (iL ps):=by
    refine Eq.trans (za8 (l:=(upto p).map .int) (r:=(upto p).map fun k=>.int (f k)) (by simp [mRng,zaa,mNil,mVar,rngU (show p ≤ 1000 by omega)]) (by rw [List.length_map,zcl]; omega) ?_) (by rw [eps]; simp [iL])
    refine zaZ .int _ _ fun k hk=>?_
    have hk':=mem_upto.mp hk
    have ck:=zhk ns (k:=k) (by omega)
    have e:za1 [.v (.scr ns),.v (.int n),.v P,sv o3,sv o4,.v (.int p),.no,.no] [0] 1 = [.v (.scr ns),.no]:=rfl
    rw [e]
    simp only [zcc,zaJ,zai,zaa,mNil,mVar,mRd,mC,zcg,List.getElem?_cons_succ,List.getElem?_cons_zero,List.set_cons_succ,List.set_cons_zero,R.bind_ok,ck,R.nev_ok,R.of_some,zle,(hf k hk).1]
  have q6:mAsg zmj (zao 6) [.v (.scr ns),.v (.int n),.v P,sv o3,sv o4,.v (.int p),.no,.no] = .nx [.v (.scr ns),.v (.int n),.v P,sv o3,sv o4,.v (.int p),.v (iL ps),.no]:=zaE k1 rfl
  obtain ⟨ls,hls,lls,okl⟩:=zn2 (n:=p) (cs:=dl) p0 (by omega) (by omega)
  have q7:mAsg (zai zdf (zaa (mSl (mRd 0) (za2 (mC (.int 6))) (za2 (mC (.int 30)))) (zaa (mVar 5) mNil))) (zao 7) [.v (.scr ns),.v (.int n),.v P,sv o3,sv o4,.v (.int p),.v (iL ps),.no] = .nx [.v (.scr ns),.v (.int n),.v P,sv o3,sv o4,.v (.int p),.v (iL ps),.v (zaM ls)]:=by
    refine zaE (d:=zaM ls) ?_ rfl
    have sl:mSl (mRd 0) (za2 (mC (.int 6))) (za2 (mC (.int 30))) [.v (.scr ns),.v (.int n),.v P,sv o3,sv o4,.v (.int p),.v (iL ps),.no] = .ok (iL dl):=by
      have hcut':cutD (ns.map .int) (some 6) (some 30)=dl.map .int:=hcut2
      simp only [mSl,mRd,za2,mC,List.getElem?_cons_zero,R.bind_ok,zqa,R.of_some,asL,hcut']
      rfl
    simp only [zai,zaa,mNil,sl,mVar,List.getElem?_cons_succ,List.getElem?_cons_zero,R.bind_ok,hls,R.nev_ok]
  have hM:∀ i:Int,0 ≤ i→i < ps.length→0 ≤ gA ps i∧gA ps i ≤ 1000000000000000000:=fun i h0 h1=>by
    have hi:i ∈ upto p:=mem_upto.mpr (by omega)
    have:gA ps i=f i:=by
      have u:(upto p)[i.toNat]?=some i:=by
        unfold upto
        rw [List.getElem?_map,List.getElem?_range (by omega)]
        simp; omega
      unfold gA
      rw [eps,List.getD_eq_getElem?_getD,List.getElem?_map,u]; rfl
    rw [this]; exact (hf i hi).2
  rw [← lps] at okl
  obtain ⟨N,eN⟩:∃ N,N=zaM ls:=⟨_,rfl⟩
  rw [← eN] at q7
  have rg2:mRng (zaa (mC (.int 1)) (zaa (mC (.int 4)) mNil)) [.v (.scr ns),.v (.int n),.v P,sv o3,sv o4,.v (.int p),.v (iL ps),.v N] = .ok ([1,2,3].map D.int):=by
    have r:=rng2 (a:=1) (b:=4) (by omega) (by omega)
    simp only [mRng,zaa,mNil,mC,R.bind_ok,r,R.of_some]; rfl
  obtain ⟨δ2,hl2,o3',o4',rfl⟩:=zb6 (b:=zao 3) (m:=zmt) D.int (fun _ δ=>∃ o3 o4,δ = [.v (.scr ns),.v (.int n),.v P,sv o3,sv o4,.v (.int p),.v (iL ps),.v N]) [1,2,3]
    (by
      rintro pre k post δ hall ⟨o3,o4,rfl⟩
      have hk:k=1∨k=2∨k=3:=by
        have:k ∈ [1,2,3]:=by rw [hall]; simp
        simpa using this
      have ck:=zhk ns (k:=k) (by omega)
      have fk:Fit k:=fitN 100 (by omega)
      obtain ⟨x,hx,x0,x1⟩:=zdw (ns.getD k.toNat 0 + ns.getD 5 0) (k:=5 * k) (by omega) (by omega)
      have a1:mAsg (zai zaG (zaa (m2 oAdd (zai zaF (zaa (mVar 0) (zaa (mVar 3) mNil))) (zai zaF (zaa (mVar 0) (zaa (mC (.int 5)) mNil)))) (zaa (m2 oMul (mC (.int 5)) (mRd 3)) mNil))) (zao 4) [.v (.scr ns),.v (.int n),.v P,.v (.int k),sv o4,.v (.int p),.v (iL ps),.v N] = .nx [.v (.scr ns),.v (.int n),.v P,.v (.int k),.v (.int x),.v (.int p),.v (iL ps),.v N]:=by
        refine zaE (d:=.int x) ?_ (za7 rfl)
        simp only [zai,zaa,mNil,mVar,mRd,mC,zcg,List.getElem?_cons_succ,List.getElem?_cons_zero,R.bind_ok,ck,c5,R.nev_ok,R.of_some,zle,zcd f5 fk,hx]
      have ct:=zj0 hM okl (by omega) (by omega) x (x / 4)
      rw [← eN] at ct
      have t1:mNot (zan (zai zcC (zaa (mVar 6) (zaa (mVar 7) (zaa (mVar 4) (zaa (m2 oDiv (mRd 4) (mC (.int 4))) mNil)))))) [.v (.scr ns),.v (.int n),.v P,.v (.int k),.v (.int x),.v (.int p),.v (iL ps),.v N] = .ok false:=by
        simp [mNot,zan,zai,zaa,mNil,mVar,mRd,mC,zca (show (0:Int) < 4 by decide) f4,ct]
      exact ⟨[.v (.scr ns),.v (.int n),.v P,.v (.int k),sv o4,.v (.int p),.v (iL ps),.v N],_,za7 rfl,.inl ((zal a1).trans ((zbb t1).trans rfl)),some (.int k),some (.int x),rfl⟩)
    [.v (.scr ns),.v (.int n),.v P,sv o3,sv o4,.v (.int p),.v (iL ps),.v N] ⟨o3,o4,rfl⟩
  have q8:zoO [.v (.scr ns),.v (.int n),.v P,sv o3,sv o4,.v (.int p),.v (iL ps),.v N]=_:=(zbp rg2).trans hl2
  exact (zal q1).trans ((zal q2).trans ((zal q3).trans ((zal q4).trans ((zal q5).trans ((zal q6).trans ((zal q7).trans ((zal q8).trans rfl)))))))
end My
namespace My
open PySem L2 PM PyProof.Rows
def top (i:Nat):Stmt:=PySem.Challenge.pw_goodenough_k45_covers_looked_at.main.body.getD i (.Pass ⟨0,0,0,0⟩)
abbrev XO0:XOT:=fun _ _ _ _ _=>False
abbrev KX (K:PySem.W.Frag):Kx:=⟨K,fun _=>0,fun _=>Str.empty⟩
def zln (K:PySem.W.Frag):Sp:=fun vs H Q _=>∃ (a:Addr) (ns:List Int),vs = [.ref a]∧SqL K H a (ns.map V.int)∧ns.length ≤ 63∧∀ H',Q (.bl true) H'
structure Txt (K:PySem.W.Frag) (mg:Str→Option Value):Prop where
  len:mg "len"=none
  abs:mg "abs"=none
  isinstance:mg "isinstance"=none
  list:mg "list"=none
  sum:mg "sum"=none
  int:mg "int"=none
  str:mg "str"=none
  range:mg "range"=none
  enumerate:mg "enumerate"=none
  max:mg "max"=none
  min:mg "min"=none
  zip:mg "zip"=none
  set:mg "set"=none
  all:mg "all"=none
  any:mg "any"=none
section
variable {P:Program} {w:World} {K:PySem.W.Frag} {mg:Str→Option Value} {base:Heap}
abbrev zeQ:Stmt:=top 35
theorem zh8:FnScope ["_law_script","_law_k"] ["_law_script","_law_k"] (zar zeQ):=⟨rfl,rfl,rfl,by decide +kernel,rfl,by decide +kernel,by decide +kernel⟩
theorem zic {f:Addr} {fd:FuncData} (F:Fun K "_law_cell_at" "_law_cell_at" zeQ f fd) (T:Txt K mg)  : FnOk P w K mg base CX0 1 f fd ["_law_script","_law_k"] (spM (KX K) XO0 zaF):=by
  refine F.ok zh8 (fun vs H Q E h=>zbg h) (fun cdv A outer s H vs Q E hr h=>?_)
  have hu:=zbP hr
  exact ⟨_,(zae (zbt (zaC zhG (pv 1) (zaD zaz (by rfl) T.len PySem.boot_len (zab (pv 0) zah)) (zaU _))
      (zam (zax (za9 zbz (pv 0) (pv 1) (fun _ _=>rfl))))
      zaO)
      (zam (zax zag))),zco (K:=(KX K)) (XO:=XO0) (E:=E) (np:=2) (nv:=0) (m:=zdM)
      (zaq (zbu (zay (zak zhJ zac ((zbD zb5 (zat zac zaB))).r))
      (zaV (zak zch zac zac))
      zaN)
      (zaV zaf)) rfl h⟩
abbrev zfh:Stmt:=top 36
theorem zjg:FnScope ["_law_cell","_law_k"] ["_law_cell","_law_k"] (zar zfh):=⟨rfl,rfl,rfl,by decide +kernel,rfl,by decide +kernel,by decide +kernel⟩
theorem zi7 {f:Addr} {fd:FuncData} (F:Fun K "_law_number" "_law_number" zfh f fd) (T:Txt K mg)  : FnOk P w K mg base CX0 1 f fd ["_law_cell","_law_k"] (spM (KX K) XO0 zaG):=by
  refine F.ok zjg (fun vs H Q E h=>zbg h) (fun cdv A outer s H vs Q E hr h=>?_)
  have hu:=zbP hr
  exact ⟨_,(zam (zax (zau za6 (zau zbo (zau zbN (zau zbN (zau za6 (pv 0) (zau zl3 zag zag)) (zau zbo (pv 1) (pv 1))) zag) (zau zbN zag (zau zbo zag (pv 1)))) zag))),zco (K:=(KX K)) (XO:=XO0) (E:=E) (np:=2) (nv:=0) (m:=zfs)
      (zaV (zak za3 ((zak zb0 ((zak zbO ((zak zbO ((zak za3 zac ((zak zmX (zaf).r (zaf).r)).r)).r ((zak zb0 zac zac)).r)).r (zaf).r)).r ((zak zbO (zaf).r ((zak zb0 (zaf).r zac)).r)).r)).r (zaf).r)) rfl h⟩
abbrev zhT:Stmt:=top 41
theorem sc_law_bit:FnScope ["_law_number_here","_law_place","_law_k"] ["_law_number_here","_law_place"] (zar zhT):=⟨rfl,rfl,rfl,by decide +kernel,rfl,by decide +kernel,by decide +kernel⟩
theorem zlv {f:Addr} {fd:FuncData} (F:Fun K "_law_bit" "_law_bit" zhT f fd) (T:Txt K mg)  : FnOk P w K mg base CX0 1 f fd ["_law_number_here","_law_place"] (spM (KX K) XO0 zdz):=by
  refine F.ok sc_law_bit (fun vs H Q E h=>zbg h) (fun cdv A outer s H vs Q E hr h=>?_)
  have hu:=zbP hr
  exact ⟨_,(zae (zbY PassesOwn.never rfl (zcs rfl T.range (zab (pv 1) zah)) (zav (i:=2) sc_law_bit.nd rfl (by first | exact Or.inl rfl | exact Or.inr rfl))
      (zam (zaH (i:=0) sc_law_bit.nd rfl (by first | exact Or.inl rfl | exact Or.inr rfl) (zau za0 (pv 0) zag))))
      (zam (zax (zau za6 (pv 0) zag)))),zco (K:=(KX K)) (XO:=XO0) (E:=E) (np:=2) (nv:=1) (m:=zjr)
      (zaq (zbW (zcp len1 (zad zaj zas)) zap
      (zaQ (zak zbL zac (zaf).r) zap))
      (zaV (zak za3 zac (zaf).r))) rfl h⟩
abbrev zhK:Stmt:=top 42
theorem sc_law_has:FnScope ["_law_cell","_law_k","_law_thing","_law_number_here","_law_both"] ["_law_cell","_law_k","_law_thing"] (zar zhK):=⟨rfl,rfl,rfl,by decide +kernel,rfl,by decide +kernel,by decide +kernel⟩
theorem zlT {f:Addr} {fd:FuncData} (F:Fun K "_law_has" "_law_has" zhK f fd) (T:Txt K mg) (G_law_number:Has P w K mg base CX0 1 "_law_number" ["_law_cell","_law_k"] (spM (KX K) XO0 zaG)) (G_law_bit:Has P w K mg base CX0 1 "_law_bit" ["_law_number_here","_law_place"] (spM (KX K) XO0 zdz)):FnOk P w K mg base CX0 2 f fd ["_law_cell","_law_k","_law_thing"] (spM (KX K) XO0 zdZ):=by
  refine F.ok sc_law_has (fun vs H Q E h=>zbg h) (fun cdv A outer s H vs Q E hr h=>?_)
  have hu:=zbP hr
  exact ⟨_,(zae (zaH (i:=3) sc_law_has.nd rfl (by first | exact Or.inl rfl | exact Or.inr rfl) (zaK G_law_number (hr.mono (by decide)) (by rfl) za4 (zab (pv 0) (zab (zau zbN (pv 1) zag) zah))))
      (zae (zaH (i:=4) sc_law_has.nd rfl (by first | exact Or.inl rfl | exact Or.inr rfl) (zau zbN (zaK G_law_bit (hr.mono (by decide)) (by rfl) za4 (zab (pv 3) (zab (pv 2) zah))) (zaK G_law_bit (hr.mono (by decide)) (by rfl) za4 (zab (zaK G_law_number (hr.mono (by decide)) (by rfl) za4 (zab (pv 0) (zab (zau zbN (pv 1) zag) zah))) (zab (pv 2) zah)))))
      (zam (zax (zer zfo (pv 4) (zau zf9 zag (zau za6 (zau za0 (pv 3) zag) zag)) (zaU _)))))),zco (K:=(KX K)) (XO:=XO0) (E:=E) (np:=3) (nv:=2) (m:=zjA)
      (zaq (zaQ (zaw (zad zaj (zad (zak zbO zac (zaf).r) zas))) zap)
      (zaq (zaQ (zak zbO ((zaw (zad zaj (zad zaj zas)))).r ((zaw (zad (zaw (zad zaj (zad (zak zbO zac (zaf).r) zas))) (zad zaj zas)))).r) zap)
      (zaV (zak zfn zac ((zak zgp (zaf).r ((zak za3 ((zak zbL zac (zaf).r)).r (zaf).r)).r)).r)))) rfl h⟩
abbrev zfa:Stmt:=top 37
theorem sc_law_amount:FnScope ["_law_cell","_law_k","_law_number_here"] ["_law_cell","_law_k"] (zar zfa):=⟨rfl,rfl,rfl,by decide +kernel,rfl,by decide +kernel,by decide +kernel⟩
theorem zji {f:Addr} {fd:FuncData} (F:Fun K "_law_amount" "_law_amount" zfa f fd) (T:Txt K mg) (G_law_number:Has P w K mg base CX0 1 "_law_number" ["_law_cell","_law_k"] (spM (KX K) XO0 zaG)):FnOk P w K mg base CX0 2 f fd ["_law_cell","_law_k"] (spM (KX K) XO0 zbq):=by
  refine F.ok sc_law_amount (fun vs H Q E h=>zbg h) (fun cdv A outer s H vs Q E hr h=>?_)
  have hu:=zbP hr
  exact ⟨_,(zae (zaH (i:=2) sc_law_amount.nd rfl (by first | exact Or.inl rfl | exact Or.inr rfl) (zaK G_law_number (hr.mono (by decide)) (by rfl) za4 (zab (pv 0) (zab (pv 1) zah))))
      (zae (zbt (zaC zdK (zau za6 (pv 2) zag) zag (zaU _))
      (zam (zax (zau za6 (zau za0 (pv 2) zag) zag)))
      zaO)
      (zae (zbt (zaC zdK (zau za6 (pv 2) zag) zag (zaU _))
      (zam (zax (zau za6 (zau za0 (pv 2) zag) zag)))
      zaO)
      (zam (zax (zau za6 (zau zbN (zau zbo (zau za6 (pv 0) (zau zl3 zag zag)) zag) (pv 2)) (zau zbN (zau zl3 zag zag) zag))))))),zco (K:=(KX K)) (XO:=XO0) (E:=E) (np:=2) (nv:=1) (m:=zgZ)
      (zaq (zaQ (zaw (zad zaj (zad zaj zas))) zap)
      (zaq (zbu (zay (zak zdL ((zak za3 zac (zaf).r)).r (zaf).r))
      (zaV (zak za3 ((zak zbL zac (zaf).r)).r (zaf).r))
      zaN)
      (zaq (zbu (zay (zak zdL ((zak za3 zac (zaf).r)).r (zaf).r))
      (zaV (zak za3 ((zak zbL zac (zaf).r)).r (zaf).r))
      zaN)
      (zaV (zak za3 ((zak zbO ((zak zb0 ((zak za3 zac ((zak zmX (zaf).r (zaf).r)).r)).r (zaf).r)).r zac)).r ((zak zbO ((zak zmX (zaf).r (zaf).r)).r (zaf).r)).r))))) rfl h⟩
abbrev zeF:Stmt:=top 43
theorem sc_law_sets:FnScope ["_law_cells","_law_many","_law_found","_law_k","_law_cell","_law_things","_law_thing"] ["_law_cells","_law_many"] (zar zeF):=⟨rfl,rfl,rfl,by decide +kernel,rfl,by decide +kernel,by decide +kernel⟩
theorem zks {f:Addr} {fd:FuncData} (F:Fun K "_law_sets" "_law_sets" zeF f fd) (T:Txt K mg) (G_law_has:Has P w K mg base CX0 2 "_law_has" ["_law_cell","_law_k","_law_thing"] (spM (KX K) XO0 zdZ)) (G_law_amount:Has P w K mg base CX0 2 "_law_amount" ["_law_cell","_law_k"] (spM (KX K) XO0 zbq)):FnOk P w K mg base CX0 3 f fd ["_law_cells","_law_many"] (spO (KX K) XO0 zdR):=by
  refine F.ok sc_law_sets (fun vs H Q E h=>zdA h) (fun cdv A outer s H vs Q E hr h=>?_)
  have hu:=zbP hr
  exact ⟨_,(zae (zaH (i:=2) sc_law_sets.nd rfl (by first | exact Or.inl rfl | exact Or.inr rfl) (zcm zah))
      (zae (zbY PassesOwn.never rfl (zhN rfl T.enumerate (zab (pv 0) zah)) (zcE rfl (zaL (zav (i:=3) sc_law_sets.nd rfl (by first | exact Or.inl rfl | exact Or.inr rfl)) (zaL (zav (i:=4) sc_law_sets.nd rfl (by first | exact Or.inl rfl | exact Or.inr rfl)) zbQ)))
      (zae (zkp (i:=5) sc_law_sets.nd rfl (by first | exact Or.inl rfl | exact Or.inr rfl) rfl (zcs rfl T.range (zab (pv 1) zah)) (zbV (zar zeF) ["_law_cells","_law_many","_law_found","_law_k","_law_cell","_law_things","_law_thing"] ["_law_cell","_law_k","_law_thing"] [4,3] 1 rfl rfl rfl (by decide +kernel) (by decide +kernel) (by decide +kernel) rfl (by decide +kernel) (fun cl C s H fp pins=>(zav (i:=2) (show List.Nodup (["_law_cell","_law_k","_law_thing"]:List Str) by decide +kernel) rfl (Or.inl rfl))) (fun cl C s H fp pins=>(pv 2)) (Or.inr ⟨_,_,rfl,rfl,fun cl C s H fp pins=>(ze7 (zaK G_law_has (hr.mono (by decide)) (by rfl) za4 (zab (pv 0) (zab (pv 1) (zab (pv 2) zah)))))⟩)) rfl)
      (zam (zeY (zkK PySem.F.plainAttrs_list PySem.F.slot_list_append PySem.F.type_list_append zdy (pv 2) (zab (zcn (zab (zaK G_law_amount (hr.mono (by decide)) (by rfl) za4 (zab (pv 4) (zab (pv 3) zah))) (zab (pv 5) zah))) zah))))))
      (zae (zbt (zaC (zmQ hr.units) (pv 2) (zcm zah) (zaU _))
      (zam (zeY (zkK PySem.F.plainAttrs_list PySem.F.slot_list_append PySem.F.type_list_append zdy (pv 2) (zab (zcn (zab zag (zab (zcm zah) zah))) zah))))
      zaO)
      (zae (zbY PassesOwn.never rfl (zcs rfl T.range (zab (pv 1) zah)) (zav (i:=6) sc_law_sets.nd rfl (by first | exact Or.inl rfl | exact Or.inr rfl))
      (zam (zbt (zaC zdK (zaD zaz (by rfl) T.len PySem.boot_len (zab (zbA rfl (zbd (pv 2)) (zbV (zar zeF) ["_law_cells","_law_many","_law_found","_law_k","_law_cell","_law_things","_law_thing"] ["_law_thing","_law_price","_law_things"] [6] 2 rfl rfl rfl (by decide +kernel) (by decide +kernel) (by decide +kernel) rfl (by decide +kernel) (fun cl C s H fp pins=>(zcE rfl (zaL (zav (i:=1) (show List.Nodup (["_law_thing","_law_price","_law_things"]:List Str) by decide +kernel) rfl (Or.inl rfl)) (zaL (zav (i:=2) (show List.Nodup (["_law_thing","_law_price","_law_things"]:List Str) by decide +kernel) rfl (Or.inl rfl)) zbQ)))) (fun cl C s H fp pins=>zag) (Or.inr ⟨_,_,rfl,rfl,fun cl C s H fp pins=>(zaC zf6 (pv 0) (pv 2) (by with_unfolding_all rfl))⟩))) zah)) zag (zaU _))
      (zam (zeY (zkK PySem.F.plainAttrs_list PySem.F.slot_list_append PySem.F.type_list_append zdy (za9 zba (za9 zbz (pv 2) (zau za6 (zau zbo (pv 6) zag) (zaD zaz (by rfl) T.len PySem.boot_len (zab (pv 2) zah))) (fun _ _=>rfl)) zag (fun _ _=>rfl)) (zab (pv 6) zah))))
      zaO)))
      (zam (zax (pv 2))))))),ze2 (K:=(KX K)) (XO:=XO0) (E:=E) (np:=2) (nv:=5) (m:=zis)
      (zaq (zo4 (zbF zas))
      (zaq (zbW (zhA (zad zaj zas)) (zcL (zaP zap (zaP zap zb4)))
      (zaq (ze3 (zbf (zcp len1 (zad zaj zas)).c (by decide) zaW zbc (Or.inr ⟨_,_,rfl,rfl,(st_b (zaw (zad zaj (zad zaj (zad zaj zas)))))⟩) zaj))
      (zpE (zaw (zad zaj (zad zaj zas))))))
      (zaq (zbu (zay (zke (zak zl4 zac ((zbF zas)).e.r)))
      (znT zaf (zbF zas))
      zaN)
      (zaq (zbW (zcp len1 (zad zaj zas)) zap
      (zbu (zay (zke (zak zdL ((zbD zb5 (zat ((zbf (zbw zac) (by decide) (zcL (zaP zaW (zaP zaW zb4))) (zgY (zb8 zbc (zb8 zbc zfj))) (Or.inr ⟨_,_,rfl,rfl,(zay (zak zn6 zac zac))⟩) zaf)).e.r zaB))).r (zaf).r)))
      (zof (zke (zak za3 ((zak zb0 zac (zaf).r)).r ((zbD zb5 (zat zac zaB))).r)) zaf zaj)
      zaN))
      zo3)))) rfl h⟩
abbrev zdB:Stmt:=top 13
theorem sc_refuse_missing:FnScope ["many","sets","held","one","thing"] ["many","sets"] (zar zdB):=⟨rfl,rfl,rfl,by decide +kernel,rfl,by decide +kernel,by decide +kernel⟩
theorem zgG {f:Addr} {fd:FuncData} (F:Fun K "refuse_missing" "refuse_missing" zdB f fd) (T:Txt K mg)  : FnOk P w K mg base CX0 1 f fd ["many","sets"] (spM (KX K) XO0 zbT):=by
  refine F.ok sc_refuse_missing (fun vs H Q E h=>zbg h) (fun cdv A outer s H vs Q E hr h=>?_)
  have hu:=zbP hr
  exact ⟨_,(zae (zaH (i:=2) sc_refuse_missing.nd rfl (by first | exact Or.inl rfl | exact Or.inr rfl) zhd)
      (zae (zbY PassesOwn.never rfl (zbd (pv 1)) (zav (i:=3) sc_refuse_missing.nd rfl (by first | exact Or.inl rfl | exact Or.inr rfl))
      (zam (zbY PassesOwn.never rfl (zbd (za9 zba (pv 3) zag (fun _ _=>rfl))) (zav (i:=4) sc_refuse_missing.nd rfl (by first | exact Or.inl rfl | exact Or.inr rfl))
      (zam (zhO hu (pv 2) (pv 4) zg1 rfl)))))
      (zam (zbY PassesOwn.never rfl (zcs rfl T.range (zab (pv 0) zah)) (zav (i:=4) sc_refuse_missing.nd rfl (by first | exact Or.inl rfl | exact Or.inr rfl))
      (zam (zbt (zmv (zj2 hu (pv 4) (pv 2)))
      (zam zlq)
      zaO)))))),zco (K:=(KX K)) (XO:=XO0) (E:=E) (np:=2) (nv:=3) (m:=ze6)
      (zaq (ze3 zg8)
      (zaq (zbW (zcH zaj) zap
      (zbW (zcH (zak zbe zac (zaf).r)) zap
      (zhu zaj zg2)))
      (zbW (zcp len1 (zad zaj zas)) zap
      (zbu (st_b (zjN zaj zac))
      zlf
      zaN)))) rfl h⟩
abbrev zeg:Stmt:=top 14
theorem zi3:FnScope ["things","left"] ["things","left"] (zar zeg):=⟨rfl,rfl,rfl,by decide +kernel,rfl,by decide +kernel,by decide +kernel⟩
theorem zi1 {f:Addr} {fd:FuncData} (F:Fun K "still_left" "still_left" zeg f fd) (T:Txt K mg)  : FnOk P w K mg base CX0 1 f fd ["things","left"] (spO (KX K) XO0 zce):=by
  refine F.ok zi3 (fun vs H Q E h=>zdA h) (fun cdv A outer s H vs Q E hr h=>?_)
  have hu:=zbP hr
  exact ⟨_,(zam (zax (zbA rfl (zbd (pv 0)) (zbV (zar zeg) ["things","left"] ["left","thing"] [1] 1 rfl rfl rfl (by decide +kernel) (by decide +kernel) (by decide +kernel) rfl (by decide +kernel) (fun cl C s H fp pins=>(zav (i:=1) (show List.Nodup (["left","thing"]:List Str) by decide +kernel) rfl (Or.inl rfl))) (fun cl C s H fp pins=>(pv 1)) (Or.inr ⟨_,_,rfl,rfl,fun cl C s H fp pins=>(zmv (zoA hu (pv 1) (pv 0)))⟩))))),ze2 (K:=(KX K)) (XO:=XO0) (E:=E) (np:=2) (nv:=0) (m:=zgV)
      (zcu (zbf (zbw zac) (by decide) zaW zbc (Or.inr ⟨_,_,rfl,rfl,(st_b (zoi zaj zac))⟩) zaj)) rfl h⟩
abbrev zdU:Stmt:=top 5
theorem sc_common_factor:FnScope ["one","other","great","small","rest"] ["one","other"] (zar zdU):=⟨rfl,rfl,rfl,by decide +kernel,rfl,by decide +kernel,by decide +kernel⟩
theorem zg0 {f:Addr} {fd:FuncData} (F:Fun K "common_factor" "common_factor" zdU f fd) (T:Txt K mg)  : FnOk P w K mg base CX0 1 f fd ["one","other"] (spM (KX K) XO0 zbK):=by
  refine F.ok sc_common_factor (fun vs H Q E h=>zbg h) (fun cdv A outer s H vs Q E hr h=>?_)
  have hu:=zbP hr
  exact ⟨_,(zae (zaH (i:=2) sc_common_factor.nd rfl (by first | exact Or.inl rfl | exact Or.inr rfl) (zaD ziX (by rfl) T.abs boot_abs (zab (pv 0) zah)))
      (zae (zaH (i:=3) sc_common_factor.nd rfl (by first | exact Or.inl rfl | exact Or.inr rfl) (zaD ziX (by rfl) T.abs boot_abs (zab (pv 1) zah)))
      (zae (ziG PassesOwn.never (zaC zfo (pv 3) zag (zaU _))
      (zae (zaH (i:=4) sc_common_factor.nd rfl (by first | exact Or.inl rfl | exact Or.inr rfl) (zau za6 (pv 2) (pv 3)))
      (zae (zaH (i:=2) sc_common_factor.nd rfl (by first | exact Or.inl rfl | exact Or.inr rfl) (pv 3))
      (zam (zaH (i:=3) sc_common_factor.nd rfl (by first | exact Or.inl rfl | exact Or.inr rfl) (pv 4))))))
      (zam (zax (pv 2)))))),zco (K:=(KX K)) (XO:=XO0) (E:=E) (np:=2) (nv:=3) (m:=zdY)
      (zaq (zaQ (zbD zmm (zat zac zaB)) zap)
      (zaq (zaQ (zbD zmm (zat zac zaB)) zap)
      (zaq (ziP (zay (zak zfn zac (zaf).r))
      (zaq (zaQ (zak za3 zac zac) zap)
      (zaq (zaQ zaj zap)
      (zaQ zaj zap))))
      (zaV zaj)))) rfl h⟩
abbrev zkw:Stmt:=top 7
theorem sc_share:FnScope ["top","bottom","factor"] ["top","bottom"] (zar zkw):=⟨rfl,rfl,rfl,by decide +kernel,rfl,by decide +kernel,by decide +kernel⟩
theorem znz {f:Addr} {fd:FuncData} (F:Fun K "share" "share" zkw f fd) (T:Txt K mg) (G_common_factor:Has P w K mg base CX0 1 "common_factor" ["one","other"] (spM (KX K) XO0 zbK)):FnOk P w K mg base CX0 2 f fd ["top","bottom"] (spM (KX K) XO0 zdc):=by
  refine F.ok sc_share (fun vs H Q E h=>zbg h) (fun cdv A outer s H vs Q E hr h=>?_)
  have hu:=zbP hr
  exact ⟨_,(zae (zbt (zaC zdK (pv 1) zag (zaU _))
      (zam zlq)
      zaO)
      (zae (zaH (i:=2) sc_share.nd rfl (by first | exact Or.inl rfl | exact Or.inr rfl) (zaK G_common_factor (hr.mono (by decide)) (by rfl) za4 (zab (pv 0) (zab (pv 1) zah))))
      (zae (zbt (zaC zhG (pv 1) zag (zaU _))
      (zam (zaH (i:=2) sc_share.nd rfl (by first | exact Or.inl rfl | exact Or.inr rfl) (zpm zmb (pv 2))))
      zaO)
      (zam (zax (zcn (zab (zau za0 (pv 0) (pv 2)) (zab (zau za0 (pv 1) (pv 2)) zah)))))))),zco (K:=(KX K)) (XO:=XO0) (E:=E) (np:=2) (nv:=1) (m:=zkJ)
      (zaq (zbu (zay (zak zdL zac (zaf).r))
      zlf
      zaN)
      (zaq (zaQ (zaw (zad zaj (zad zaj zas))) zap)
      (zaq (zbu (zay (zak zhJ zac (zaf).r))
      (zaQ (zoW zml zac) zap)
      zaN)
      (zaV (zcF (zad (zak zbL zac zac) (zad (zak zbL zac zac) zas))))))) rfl h⟩
abbrev znd:Stmt:=top 10
theorem zpy:FnScope ["one","other"] ["one","other"] (zar znd):=⟨rfl,rfl,rfl,by decide +kernel,rfl,by decide +kernel,by decide +kernel⟩
theorem zpv {f:Addr} {fd:FuncData} (F:Fun K "less" "less" znd f fd) (T:Txt K mg)  : FnOk P w K mg base CX0 1 f fd ["one","other"] (spM (KX K) XO0 zif):=by
  refine F.ok zpy (fun vs H Q E h=>zbg h) (fun cdv A outer s H vs Q E hr h=>?_)
  have hu:=zbP hr
  exact ⟨_,(zam (zax (zer zhG (zau zbo (za9 zba (pv 0) zag (fun _ _=>rfl)) (za9 zba (pv 1) zag (fun _ _=>rfl))) (zau zbo (za9 zba (pv 1) zag (fun _ _=>rfl)) (za9 zba (pv 0) zag (fun _ _=>rfl))) (zaU _)))),zco (K:=(KX K)) (XO:=XO0) (E:=E) (np:=2) (nv:=0) (m:=znq)
      (zaV (zak zhJ ((zak zb0 ((zak zbe zac (zaf).r)).r ((zak zbe zac (zaf).r)).r)).r ((zak zb0 ((zak zbe zac (zaf).r)).r ((zak zbe zac (zaf).r)).r)).r)) rfl h⟩
abbrev zel:Stmt:=top 15
theorem sc_cheapest_set:FnScope ["sets","left","best","least","number","one","size","rate"] ["sets","left"] (zar zel):=⟨rfl,rfl,rfl,by decide +kernel,rfl,by decide +kernel,by decide +kernel⟩
theorem zhD {f:Addr} {fd:FuncData} (F:Fun K "cheapest_set" "cheapest_set" zel f fd) (T:Txt K mg) (G_still_left:Has P w K mg base CX0 1 "still_left" ["things","left"] (spO (KX K) XO0 zce)) (G_share:Has P w K mg base CX0 2 "share" ["top","bottom"] (spM (KX K) XO0 zdc)) (G_less:Has P w K mg base CX0 1 "less" ["one","other"] (spM (KX K) XO0 zif)):FnOk P w K mg base CX0 3 f fd ["sets","left"] (spM (KX K) XO0 zck):=by
  refine F.ok sc_cheapest_set (fun vs H Q E h=>zbg h) (fun cdv A outer s H vs Q E hr h=>?_)
  have hu:=zbP hr
  exact ⟨_,(zae (zaH (i:=2) sc_cheapest_set.nd rfl (by first | exact Or.inl rfl | exact Or.inr rfl) zfU)
      (zae (zaH (i:=3) sc_cheapest_set.nd rfl (by first | exact Or.inl rfl | exact Or.inr rfl) zfU)
      (zae (zbY PassesOwn.never rfl (zhN rfl T.enumerate (zab (pv 0) zah)) (zcE rfl (zaL (zav (i:=4) sc_cheapest_set.nd rfl (by first | exact Or.inl rfl | exact Or.inr rfl)) (zaL (zav (i:=5) sc_cheapest_set.nd rfl (by first | exact Or.inl rfl | exact Or.inr rfl)) zbQ)))
      (zae (zaH (i:=6) sc_cheapest_set.nd rfl (by first | exact Or.inl rfl | exact Or.inr rfl) (zaD zaz (by rfl) T.len PySem.boot_len (zab (zaK G_still_left (hr.mono (by decide)) (by rfl) za4 (zab (za9 zba (pv 5) zag (fun _ _=>rfl)) (zab (pv 1) zah))) zah)))
      (zam (zbt (zaC zfo (pv 6) zag (zaU _))
      (zae (zaH (i:=7) sc_cheapest_set.nd rfl (by first | exact Or.inl rfl | exact Or.inr rfl) (zaK G_share (hr.mono (by decide)) (by rfl) za4 (zab (za9 zba (pv 5) zag (fun _ _=>rfl)) (zab (pv 6) zah))))
      (zam (zbt ((zje (zaC zmI (pv 3) zfU (zaU _)) (zgW (ze7 (zaK G_less (hr.mono (by decide)) (by rfl) za4 (zab (pv 7) (zab (pv 3) zah))))))).pt
      (zae (zaH (i:=2) sc_cheapest_set.nd rfl (by first | exact Or.inl rfl | exact Or.inr rfl) (pv 4))
      (zam (zaH (i:=3) sc_cheapest_set.nd rfl (by first | exact Or.inl rfl | exact Or.inr rfl) (pv 7))))
      zaO)))
      zaO))))
      (zam (zax (pv 2)))))),zco (K:=(KX K)) (XO:=XO0) (E:=E) (np:=2) (nv:=6) (m:=zeo)
      (zaq (zaQ zgl zap)
      (zaq (zaQ zgl zap)
      (zaq (zbW (zhA (zad zaj zas)) (zcL (zaP zap (zaP zap zb4)))
      (zaq (zaQ (zbD zb5 (zat ((zbZ (zad (zak zbe zac (zaf).r) (zad zaj zas)))).e.r zaB)) zap)
      (zbu (zay (zak zfn zac (zaf).r))
      (zaq (zaQ (zaw (zad (zak zbe zac (zaf).r) (zad zaj zas))) zap)
      (zbu (ziK (zay (zak zpF zac (zgl).r)) (st_b (zaw (zad zaj (zad zaj zas)))))
      (zaq (zaQ zaj zap)
      (zaQ zaj zap))
      zaN))
      zaN)))
      (zaV zaj)))) rfl h⟩
abbrev zhE:Stmt:=top 16
theorem sc_takings:FnScope ["many","sets","left","thing","taken","number","fresh"] ["many","sets"] (zar zhE):=⟨rfl,rfl,rfl,by decide +kernel,rfl,by decide +kernel,by decide +kernel⟩
theorem zlP {f:Addr} {fd:FuncData} (F:Fun K "takings" "takings" zhE f fd) (T:Txt K mg) (G_refuse_missing:Has P w K mg base CX0 1 "refuse_missing" ["many","sets"] (spM (KX K) XO0 zbT)) (G_still_left:Has P w K mg base CX0 1 "still_left" ["things","left"] (spO (KX K) XO0 zce)) (G_cheapest_set:Has P w K mg base CX0 3 "cheapest_set" ["sets","left"] (spM (KX K) XO0 zck)):FnOk P w K mg base CX0 4 f fd ["many","sets"] (spO (KX K) XO0 zc2):=by
  refine F.ok sc_takings (fun vs H Q E h=>zdA h) (fun cdv A outer s H vs Q E hr h=>?_)
  have hu:=zbP hr
  exact ⟨_,(zae (zeY (zaK G_refuse_missing (hr.mono (by decide)) (by rfl) za4 (zab (pv 0) (zab (pv 1) zah))))
      (zae (zaH (i:=2) sc_takings.nd rfl (by first | exact Or.inl rfl | exact Or.inr rfl) zhd)
      (zae (zbY PassesOwn.never rfl (zcs rfl T.range (zab (pv 0) zah)) (zav (i:=3) sc_takings.nd rfl (by first | exact Or.inl rfl | exact Or.inr rfl))
      (zam (zhO hu (pv 2) (pv 3) zg1 rfl)))
      (zae (zaH (i:=4) sc_takings.nd rfl (by first | exact Or.inl rfl | exact Or.inr rfl) (zcm zah))
      (zae (ziG PassesOwn.never (zaC zfo (zaD zm1 (by rfl) T.len PySem.boot_len (zab (pv 2) zah)) zag (zaU _))
      (zae (zaH (i:=5) sc_takings.nd rfl (by first | exact Or.inl rfl | exact Or.inr rfl) (zaK G_cheapest_set (hr.mono (by decide)) (by rfl) za4 (zab (pv 1) (zab (pv 2) zah))))
      (zae (zaH (i:=6) sc_takings.nd rfl (by first | exact Or.inl rfl | exact Or.inr rfl) (zaK G_still_left (hr.mono (by decide)) (by rfl) za4 (zab (za9 zba (za9 zbz (pv 1) (pv 5) (fun _ _=>rfl)) zag (fun _ _=>rfl)) (zab (pv 2) zah))))
      (zae (zeY (zkK PySem.F.plainAttrs_list PySem.F.slot_list_append PySem.F.type_list_append zdy (pv 4) (zab (zcn (zab (pv 5) (zab (pv 6) zah))) zah)))
      (zam (zbY PassesOwn.never rfl (zbd (pv 6)) (zav (i:=3) sc_takings.nd rfl (by first | exact Or.inl rfl | exact Or.inr rfl))
      (zam (zeY (znx (pv 2) (pv 3) (zrs))))))))))
      (zam (zax (pv 4)))))))),ze2 (K:=(KX K)) (XO:=XO0) (E:=E) (np:=2) (nv:=5) (m:=zjT)
      (zaq (zo1 (zaw (zad zaj (zad zaj zas))))
      (zaq (ze3 zg8)
      (zaq (zbW (zcp len1 (zad zaj zas)) zap
      (zhu zaj zg2))
      (zaq (ze3 (zbF zas))
      (zaq (ziP (zay (zak zfn ((zbD zo2 (zat zac zaB))).r (zaf).r))
      (zaq (zaQ (znI (zkU zaj (zmf zm0))) zap)
      (zaq (zaQ ((zmD (zkU (zak zbe ((zak zch zac zac)).r (zaf).r) (zmf zm0)))).e zap)
      (zaq (zfT (zcF (zad zaj (zad zaj zas))))
      (zbW (zcH zaj) zap
      (zoT zaj))))))
      zjm))))) rfl h⟩
abbrev ziC:Stmt:=top 17
theorem zog:FnScope ["many","sets"] ["many","sets"] (zar ziC):=⟨rfl,rfl,rfl,by decide +kernel,rfl,by decide +kernel,by decide +kernel⟩
theorem znF {f:Addr} {fd:FuncData} (F:Fun K "cover" "cover" ziC f fd) (T:Txt K mg) (G_takings:Has P w K mg base CX0 4 "takings" ["many","sets"] (spO (KX K) XO0 zc2)):FnOk P w K mg base CX0 5 f fd ["many","sets"] (spO (KX K) XO0 zfg):=by
  refine F.ok zog (fun vs H Q E h=>zdA h) (fun cdv A outer s H vs Q E hr h=>?_)
  have hu:=zbP hr
  exact ⟨_,(zam (zax (zbA rfl (zbd (zaK G_takings (hr.mono (by decide)) (by rfl) za4 (zab (pv 0) (zab (pv 1) zah)))) (zbV (zar ziC) ["many","sets"] ["number","fresh"] [] 2 rfl rfl rfl (by decide +kernel) (by decide +kernel) (by decide +kernel) rfl (by decide +kernel) (fun cl C s H fp pins=>(zcE rfl (zaL (zav (i:=0) (show List.Nodup (["number","fresh"]:List Str) by decide +kernel) rfl (Or.inl rfl)) (zaL (zav (i:=1) (show List.Nodup (["number","fresh"]:List Str) by decide +kernel) rfl (Or.inl rfl)) zbQ)))) (fun cl C s H fp pins=>(pv 0)) (Or.inl ⟨rfl,rfl⟩))))),ze2 (K:=(KX K)) (XO:=XO0) (E:=E) (np:=2) (nv:=0) (m:=zmM)
      (zcu (zbf (zbw ((zbZ (zad zaj (zad zaj zas)))).e.r) (by decide) (zcL (zaP zaW (zaP zaW zb4))) (zgY (zb8 zbc (zb8 zbc zfj))) (Or.inl ⟨rfl,rfl⟩) zaj)) rfl h⟩
abbrev zmq:Stmt:=top 8
theorem zpz:FnScope ["one","other"] ["one","other"] (zar zmq):=⟨rfl,rfl,rfl,by decide +kernel,rfl,by decide +kernel,by decide +kernel⟩
theorem zo9 {f:Addr} {fd:FuncData} (F:Fun K "plus" "plus" zmq f fd) (T:Txt K mg) (G_share:Has P w K mg base CX0 2 "share" ["top","bottom"] (spM (KX K) XO0 zdc)):FnOk P w K mg base CX0 3 f fd ["one","other"] (spM (KX K) XO0 zir):=by
  refine F.ok zpz (fun vs H Q E h=>zbg h) (fun cdv A outer s H vs Q E hr h=>?_)
  have hu:=zbP hr
  exact ⟨_,(zam (zax (zaK G_share (hr.mono (by decide)) (by rfl) za4 (zab (zau zbN (zau zbo (za9 zba (pv 0) zag (fun _ _=>rfl)) (za9 zba (pv 1) zag (fun _ _=>rfl))) (zau zbo (za9 zba (pv 1) zag (fun _ _=>rfl)) (za9 zba (pv 0) zag (fun _ _=>rfl)))) (zab (zau zbo (za9 zba (pv 0) zag (fun _ _=>rfl)) (za9 zba (pv 1) zag (fun _ _=>rfl))) zah))))),zco (K:=(KX K)) (XO:=XO0) (E:=E) (np:=2) (nv:=0) (m:=zmF)
      (zaV (zaw (zad (zak zbO ((zak zb0 ((zak zbe zac (zaf).r)).r ((zak zbe zac (zaf).r)).r)).r ((zak zb0 ((zak zbe zac (zaf).r)).r ((zak zbe zac (zaf).r)).r)).r) (zad (zak zb0 ((zak zbe zac (zaf).r)).r ((zak zbe zac (zaf).r)).r) zas)))) rfl h⟩
abbrev zfK:Stmt:=top 11
theorem sc_steps_sum:FnScope ["count","total","step"] ["count"] (zar zfK):=⟨rfl,rfl,rfl,by decide +kernel,rfl,by decide +kernel,by decide +kernel⟩
theorem zjW {f:Addr} {fd:FuncData} (F:Fun K "steps_sum" "steps_sum" zfK f fd) (T:Txt K mg) (G_plus:Has P w K mg base CX0 3 "plus" ["one","other"] (spM (KX K) XO0 zir)):FnOk P w K mg base CX0 4 f fd ["count"] (spM (KX K) XO0 zcQ):=by
  refine F.ok sc_steps_sum (fun vs H Q E h=>zbg h) (fun cdv A outer s H vs Q E hr h=>?_)
  have hu:=zbP hr
  exact ⟨_,(zae (zaH (i:=1) sc_steps_sum.nd rfl (by first | exact Or.inl rfl | exact Or.inr rfl) (zcn (zab zag (zab zag zah))))
      (zae (zbY PassesOwn.never rfl (zhU rfl T.range (zab zag (zab (zau zbN (pv 0) zag) zah))) (zav (i:=2) sc_steps_sum.nd rfl (by first | exact Or.inl rfl | exact Or.inr rfl))
      (zam (zaH (i:=1) sc_steps_sum.nd rfl (by first | exact Or.inl rfl | exact Or.inr rfl) (zaK G_plus (hr.mono (by decide)) (by rfl) za4 (zab (pv 1) (zab (zcn (zab zag (zab (pv 2) zah))) zah))))))
      (zam (zax (pv 1))))),zco (K:=(KX K)) (XO:=XO0) (E:=E) (np:=1) (nv:=2) (m:=zhQ)
      (zaq (zaQ (zcF (zad zaf (zad zaf zas))) zap)
      (zaq (zbW (zhi len2 (zad zaf (zad (zak zbO zac (zaf).r) zas))) zap
      (zaQ (zaw (zad zaj (zad (zcF (zad zaf (zad zaj zas))) zas))) zap))
      (zaV zaj))) rfl h⟩
abbrev zdO:Stmt:=top 19
theorem zh6:FnScope ["sets"] ["sets"] (zar zdO):=⟨rfl,rfl,rfl,by decide +kernel,rfl,by decide +kernel,by decide +kernel⟩
theorem zh4 {f:Addr} {fd:FuncData} (F:Fun K "cover_share" "cover_share" zdO f fd) (T:Txt K mg) (G_steps_sum:Has P w K mg base CX0 4 "steps_sum" ["count"] (spM (KX K) XO0 zcQ)):FnOk P w K mg base CX0 5 f fd ["sets"] (spM (KX K) XO0 zbk):=by
  refine F.ok zh6 (fun vs H Q E h=>zbg h) (fun cdv A outer s H vs Q E hr h=>?_)
  have hu:=zbP hr
  exact ⟨_,(zam (zax (zaK G_steps_sum (hr.mono (by decide)) (by rfl) za4 (zab (zmp rfl (by rfl) T.max (zab (zbA rfl (zbd (pv 0)) (zbV (zar zdO) ["sets"] ["one"] [] 1 rfl rfl rfl (by decide +kernel) (by decide +kernel) (by decide +kernel) rfl (by decide +kernel) (fun cl C s H fp pins=>(zav (i:=0) (show List.Nodup (["one"]:List Str) by decide +kernel) rfl (Or.inl rfl))) (fun cl C s H fp pins=>(zaD zaz (by rfl) (by exact T.len) PySem.boot_len (zab (za9 zba (pv 0) zag (fun _ _=>rfl)) zah))) (Or.inl ⟨rfl,rfl⟩))) zah) zag) zah)))),zco (K:=(KX K)) (XO:=XO0) (E:=E) (np:=1) (nv:=0) (m:=zf5)
      (zaV (zaw (zad (zmS (zat ((zbf (zbw zac) (by decide) zaW zbc (Or.inl ⟨rfl,rfl⟩) (zbD zb5 (zat ((zak zbe zac (zaf).r)).r zaB)))).e.r zaB) zaf) zas))) rfl h⟩
abbrev zcO:Stmt:=top 18
theorem sc_paid_by_things:FnScope ["many","sets","paid","number","fresh","rate","thing"] ["many","sets"] (zar zcO):=⟨rfl,rfl,rfl,by decide +kernel,rfl,by decide +kernel,by decide +kernel⟩
theorem zgx {f:Addr} {fd:FuncData} (F:Fun K "paid_by_things" "paid_by_things" zcO f fd) (T:Txt K mg) (G_share:Has P w K mg base CX0 2 "share" ["top","bottom"] (spM (KX K) XO0 zdc)) (G_takings:Has P w K mg base CX0 4 "takings" ["many","sets"] (spO (KX K) XO0 zc2)):FnOk P w K mg base CX0 5 f fd ["many","sets"] (spO (KX K) XO0 zbS):=by
  refine F.ok sc_paid_by_things (fun vs H Q E h=>zdA h) (fun cdv A outer s H vs Q E hr h=>?_)
  have hu:=zbP hr
  exact ⟨_,(zae (zkp (i:=2) sc_paid_by_things.nd rfl (by first | exact Or.inl rfl | exact Or.inr rfl) rfl (zcs rfl T.range (zab (pv 0) zah)) (zbV (zar zcO) ["many","sets","paid","number","fresh","rate","thing"] ["thing"] [] 1 rfl rfl rfl (by decide +kernel) (by decide +kernel) (by decide +kernel) rfl (by decide +kernel) (fun cl C s H fp pins=>(zav (i:=0) (show List.Nodup (["thing"]:List Str) by decide +kernel) rfl (Or.inl rfl))) (fun cl C s H fp pins=>(zcn (zab zag (zab zag zah)))) (Or.inl ⟨rfl,rfl⟩)) rfl)
      (zae (zbY PassesOwn.never rfl (zbd (zaK G_takings (hr.mono (by decide)) (by rfl) za4 (zab (pv 0) (zab (pv 1) zah)))) (zcE rfl (zaL (zav (i:=3) sc_paid_by_things.nd rfl (by first | exact Or.inl rfl | exact Or.inr rfl)) (zaL (zav (i:=4) sc_paid_by_things.nd rfl (by first | exact Or.inl rfl | exact Or.inr rfl)) zbQ)))
      (zae (zaH (i:=5) sc_paid_by_things.nd rfl (by first | exact Or.inl rfl | exact Or.inr rfl) (zaK G_share (hr.mono (by decide)) (by rfl) za4 (zab (za9 zba (za9 zbz (pv 1) (pv 3) (fun _ _=>rfl)) zag (fun _ _=>rfl)) (zab (zaD zaz (by rfl) T.len PySem.boot_len (zab (pv 4) zah)) zah))))
      (zam (zbY PassesOwn.never rfl (zbd (pv 4)) (zav (i:=6) sc_paid_by_things.nd rfl (by first | exact Or.inl rfl | exact Or.inr rfl))
      (zam (zm5 (pv 5) (zmi (pv 2) (pv 6) zgr)))))))
      (zam (zax (pv 2))))),ze2 (K:=(KX K)) (XO:=XO0) (E:=E) (np:=2) (nv:=5) (m:=zeZ)
      (zaq (ze3 (zbf (zcp len1 (zad zaj zas)).c (by decide) zaW zbc (Or.inl ⟨rfl,rfl⟩) (zcF (zad zaf (zad zaf zas)))))
      (zaq (zbW (zcH ((zbZ (zad zaj (zad zaj zas)))).e) (zcL (zaP zap (zaP zap zb4)))
      (zaq (zaQ (zaw (zad (zak zbe ((zak zch zac zac)).r (zaf).r) (zad (zbD zb5 (zat zac zaB)) zas))) zap)
      (zbW (zcH zaj) zap
      (zoZ zaj zaj))))
      zjm)) rfl h⟩
abbrev znl:Stmt:=top 9
theorem zo8:FnScope ["one","other"] ["one","other"] (zar znl):=⟨rfl,rfl,rfl,by decide +kernel,rfl,by decide +kernel,by decide +kernel⟩
theorem zoX {f:Addr} {fd:FuncData} (F:Fun K "over" "over" znl f fd) (T:Txt K mg) (G_share:Has P w K mg base CX0 2 "share" ["top","bottom"] (spM (KX K) XO0 zdc)):FnOk P w K mg base CX0 3 f fd ["one","other"] (spM (KX K) XO0 ziy):=by
  refine F.ok zo8 (fun vs H Q E h=>zbg h) (fun cdv A outer s H vs Q E hr h=>?_)
  have hu:=zbP hr
  exact ⟨_,(zam (zax (zaK G_share (hr.mono (by decide)) (by rfl) za4 (zab (zau zbo (za9 zba (pv 0) zag (fun _ _=>rfl)) (za9 zba (pv 1) zag (fun _ _=>rfl))) (zab (zau zbo (za9 zba (pv 0) zag (fun _ _=>rfl)) (za9 zba (pv 1) zag (fun _ _=>rfl))) zah))))),zco (K:=(KX K)) (XO:=XO0) (E:=E) (np:=2) (nv:=0) (m:=zl9)
      (zaV (zaw (zad (zak zb0 ((zak zbe zac (zaf).r)).r ((zak zbe zac (zaf).r)).r) (zad (zak zb0 ((zak zbe zac (zaf).r)).r ((zak zbe zac (zaf).r)).r) zas)))) rfl h⟩
abbrev zds:Stmt:=top 20
theorem sc_cover_prices:FnScope ["many","sets","whole"] ["many","sets"] (zar zds):=⟨rfl,rfl,rfl,by decide +kernel,rfl,by decide +kernel,by decide +kernel⟩
theorem zhL {f:Addr} {fd:FuncData} (F:Fun K "cover_prices" "cover_prices" zds f fd) (T:Txt K mg) (G_cover_share:Has P w K mg base CX0 5 "cover_share" ["sets"] (spM (KX K) XO0 zbk)) (G_paid_by_things:Has P w K mg base CX0 5 "paid_by_things" ["many","sets"] (spO (KX K) XO0 zbS)) (G_over:Has P w K mg base CX0 3 "over" ["one","other"] (spM (KX K) XO0 ziy)):FnOk P w K mg base CX0 6 f fd ["many","sets"] (spO (KX K) XO0 zb3):=by
  refine F.ok sc_cover_prices (fun vs H Q E h=>zdA h) (fun cdv A outer s H vs Q E hr h=>?_)
  have hu:=zbP hr
  exact ⟨_,(zae (zaH (i:=2) sc_cover_prices.nd rfl (by first | exact Or.inl rfl | exact Or.inr rfl) (zaK G_cover_share (hr.mono (by decide)) (by rfl) za4 (zab (pv 1) zah)))
      (zam (zax (zbA rfl (zbd (zaK G_paid_by_things (hr.mono (by decide)) (by rfl) za4 (zab (pv 0) (zab (pv 1) zah)))) (zbV (zar zds) ["many","sets","whole"] ["whole","paid"] [2] 1 rfl rfl rfl (by decide +kernel) (by decide +kernel) (by decide +kernel) rfl (by decide +kernel) (fun cl C s H fp pins=>(zav (i:=1) (show List.Nodup (["whole","paid"]:List Str) by decide +kernel) rfl (Or.inl rfl))) (fun cl C s H fp pins=>(zaK G_over (hr.mono (by decide)) (by rfl) za4 (zab (pv 1) (zab (pv 0) zah)))) (Or.inl ⟨rfl,rfl⟩)))))),ze2 (K:=(KX K)) (XO:=XO0) (E:=E) (np:=2) (nv:=1) (m:=zfB)
      (zaq (zaQ (zaw (zad zaj zas)) zap)
      (zcu (zbf (zbw ((zbZ (zad zaj (zad zaj zas)))).e.r) (by decide) zaW zbc (Or.inl ⟨rfl,rfl⟩) (zaw (zad zaj (zad zaj zas)))))) rfl h⟩
abbrev zcr:Stmt:=top 47
theorem sc_law_numbers_changed:FnScope ["_law_some","_law_number_here","_law_size","_law_at","_law_other"] ["_law_some","_law_number_here","_law_size"] (zar zcr):=⟨rfl,rfl,rfl,by decide +kernel,rfl,by decide +kernel,by decide +kernel⟩
theorem ze8 {f:Addr} {fd:FuncData} (F:Fun K "_law_numbers_changed" "_law_numbers_changed" zcr f fd) (T:Txt K mg)  : FnOk P w K mg base CX0 1 f fd ["_law_some","_law_number_here","_law_size"] (spO (KX K) XO0 zaT):=by
  refine F.ok sc_law_numbers_changed (fun vs H Q E h=>zdA h) (fun cdv A outer s H vs Q E hr h=>?_)
  have hu:=zbP hr
  exact ⟨_,(zae (zaH (i:=3) sc_law_numbers_changed.nd rfl (by first | exact Or.inl rfl | exact Or.inr rfl) (zau za6 (zau za0 (pv 1) zag) (zau zbN (zaD zaz (by rfl) T.len PySem.boot_len (zab (pv 0) zah)) zag)))
      (zae (zaH (i:=4) sc_law_numbers_changed.nd rfl (by first | exact Or.inl rfl | exact Or.inr rfl) (za9 zbz (zcm (zab (pv 2) (zab (zpm zmb zag) (zab (zau za6 (zau za0 (pv 1) zag) (zaD (zni rfl) (by rfl) T.max boot_max (zab zag (zab (pv 2) zah)))) (zab zag zah))))) (zau za6 (zau za0 (pv 1) zag) zag) (fun _ _=>rfl)))
      (zae (zbt ((zk0 (zaC zdK (zau za6 (zau za0 (pv 1) zag) zag) zag (zaU _)) (zjk (zaC (zmZ hr.units) (pv 0) (zcm zah) (zaU _))))).pt
      (zam (zaH (i:=4) sc_law_numbers_changed.nd rfl (by first | exact Or.inl rfl | exact Or.inr rfl) (za9 zbz (pv 0) (zau za6 (zau za0 (pv 1) zag) (zaD zaz (by rfl) T.len PySem.boot_len (zab (pv 0) zah))) (fun _ _=>rfl))))
      zaO)
      (zae (zbt (zaC zhG (zau za6 (pv 1) zag) zag (zaU _))
      (zam (zax (zau zcG (zau zcG (zbr zbR (pv 0) zb9 (zbG (pv 3))) (zcm (zab (pv 4) zah))) (zbr zbR (pv 0) (zbG (pv 3)) zb9))))
      zaO)
      (zae (zbt (zaC zhG (zau za6 (pv 1) zag) zag (zaU _))
      (zam (zax (zau zcG (zbr zbR (pv 0) zb9 (zbG (pv 3))) (zbr zbR (pv 0) (zbG (zau zbN (pv 3) zag)) zb9))))
      zaO)
      (zam (zax (zau zcG (zau zcG (zbr zbR (pv 0) zb9 (zbG (pv 3))) (zcm (zab (pv 4) zah))) (zbr zbR (pv 0) (zbG (zau zbN (pv 3) zag)) zb9))))))))),ze2 (K:=(KX K)) (XO:=XO0) (E:=E) (np:=3) (nv:=2) (m:=zdt)
      (zaq (zaQ (zak za3 ((zak zbL zac (zaf).r)).r ((zak zbO ((zbD zb5 (zat zac zaB))).r (zaf).r)).r) zap)
      (zaq (zaQ (zak zch ((zbF (zad zaj (zad (zoW zml (zaf).r) (zad (zak za3 ((zak zbL zac (zaf).r)).r ((zbD zo0 (zat (zaf).r (zat zac zaB)))).r) (zad zaf zas)))))).e.r ((zak za3 ((zak zbL zac (zaf).r)).r (zaf).r)).r) zap)
      (zaq (zbu (zk1 (zay (zak zdL ((zak za3 ((zak zbL zac (zaf).r)).r (zaf).r)).r (zaf).r)) (zay (zak zmC zac ((zbF zas)).e.r)))
      (zaQ (zak zch zac ((zak za3 ((zak zbL zac (zaf).r)).r ((zbD zb5 (zat zac zaB))).r)).r) zap)
      zaN)
      (zaq (zbu (zay (zak zhJ ((zak za3 zac (zaf).r)).r (zaf).r))
      (zcu (zdF zdG ((zdF zdG ((zbh zac zeE (zbI zaj))).e.r ((zbF (zad zaj zas))).e.r)).e.r ((zbh zac (zbI zaj) zeE)).e.r))
      zaN)
      (zaq (zbu (zay (zak zhJ ((zak za3 zac (zaf).r)).r (zaf).r))
      (zcu (zdF zdG ((zbh zac zeE (zbI zaj))).e.r ((zbh zac (zbI (zak zbO zac (zaf).r)) zeE)).e.r))
      zaN)
      (zcu (zdF zdG ((zdF zdG ((zbh zac zeE (zbI zaj))).e.r ((zbF (zad zaj zas))).e.r)).e.r ((zbh zac (zbI (zak zbO zac (zaf).r)) zeE)).e.r))))))) rfl h⟩
abbrev zeX:Stmt:=top 38
theorem sc_law_divisor:FnScope ["_law_one","_law_other"] ["_law_one","_law_other"] (zar zeX):=⟨rfl,rfl,rfl,by decide +kernel,rfl,by decide +kernel,by decide +kernel⟩
theorem zh9 {f:Addr} {fd:FuncData} (F:Fun K "_law_divisor" "_law_divisor" zeX f fd) (T:Txt K mg)  : FnOk P w K mg base CX0 1 f fd ["_law_one","_law_other"] (spM (KX K) XO0 zcy):=by
  refine F.ok sc_law_divisor (fun vs H Q E h=>zbg h) (fun cdv A outer s H vs Q E hr h=>?_)
  have hu:=zbP hr
  exact ⟨_,(zae (ziG PassesOwn.never (zaC zfo (pv 1) zag (zaU _))
      (zam (zl6 (i:=0) (j:=1) rfl sc_law_divisor.nd rfl rfl (by decide) rfl rfl (zab (pv 1) (zab (zau za6 (pv 0) (pv 1)) zah)) rfl)))
      (zam (zax (pv 0)))),zco (K:=(KX K)) (XO:=XO0) (E:=E) (np:=2) (nv:=0) (m:=zgo)
      (zaq (ziP (zay (zak zfn zac (zaf).r))
      (znb (zad zaj (zad (zak za3 zac zac) zas))))
      (zaV zaj)) rfl h⟩
abbrev zhy:Stmt:=top 39
theorem sc_law_sum:FnScope ["_law_parts","_law_top","_law_bottom","_law_one","_law_under","_law_by"] ["_law_parts"] (zar zhy):=⟨rfl,rfl,rfl,by decide +kernel,rfl,by decide +kernel,by decide +kernel⟩
theorem zlt {f:Addr} {fd:FuncData} (F:Fun K "_law_sum" "_law_sum" zhy f fd) (T:Txt K mg) (G_law_divisor:Has P w K mg base CX0 1 "_law_divisor" ["_law_one","_law_other"] (spM (KX K) XO0 zcy)):FnOk P w K mg base CX0 2 f fd ["_law_parts"] (spM (KX K) XO0 zbs):=by
  refine F.ok sc_law_sum (fun vs H Q E h=>zbg h) (fun cdv A outer s H vs Q E hr h=>?_)
  have hu:=zbP hr
  exact ⟨_,(zae (zm5 (zcn (zab zag (zab zag zah))) (zcE rfl (zaL (zav (i:=1) sc_law_sum.nd rfl (by first | exact Or.inl rfl | exact Or.inr rfl)) (zaL (zav (i:=2) sc_law_sum.nd rfl (by first | exact Or.inl rfl | exact Or.inr rfl)) zbQ))))
      (zae (zbY PassesOwn.never rfl (zbd (pv 0)) (zcE rfl (zaL (zav (i:=3) sc_law_sum.nd rfl (by first | exact Or.inl rfl | exact Or.inr rfl)) (zaL (zav (i:=4) sc_law_sum.nd rfl (by first | exact Or.inl rfl | exact Or.inr rfl)) zbQ)))
      (zae (zl6 (i:=1) (j:=2) rfl sc_law_sum.nd rfl rfl (by decide) rfl rfl (zab (zau zbN (zau zbo (pv 1) (pv 4)) (zau zbo (pv 3) (pv 2))) (zab (zau zbo (pv 2) (pv 4)) zah)) rfl)
      (zae (zaH (i:=5) sc_law_sum.nd rfl (by first | exact Or.inl rfl | exact Or.inr rfl) (zaK G_law_divisor (hr.mono (by decide)) (by rfl) za4 (zab (zaD ziX (by rfl) T.abs boot_abs (zab (pv 1) zah)) (zab (pv 2) zah))))
      (zam (zl6 (i:=1) (j:=2) rfl sc_law_sum.nd rfl rfl (by decide) rfl rfl (zab (zau za0 (pv 1) (pv 5)) (zab (zau za0 (pv 2) (pv 5)) zah)) rfl)))))
      (zam (zax (zcn (zab (pv 1) (zab (pv 2) zah))))))),zco (K:=(KX K)) (XO:=XO0) (E:=E) (np:=1) (nv:=5) (m:=zjB)
      (zaq (zaQ (zcF (zad zaf (zad zaf zas))) (zcL (zaP zap (zaP zap zb4))))
      (zaq (zbW (zcH zaj) (zcL (zaP zap (zaP zap zb4)))
      (zaq (znb (zad (zak zbO ((zak zb0 zac zac)).r ((zak zb0 zac zac)).r) (zad (zak zb0 zac zac) zas)))
      (zaq (zaQ (zaw (zad (zbD zmm (zat zac zaB)) (zad zaj zas))) zap)
      (znb (zad (zak zbL zac zac) (zad (zak zbL zac zac) zas))))))
      (zaV (zcF (zad zaj (zad zaj zas)))))) rfl h⟩
abbrev zcZ:Stmt:=top 48
theorem sc_law_part_changed:FnScope ["_law_price","_law_number_here","_law_step"] ["_law_price","_law_number_here"] (zar zcZ):=⟨rfl,rfl,rfl,by decide +kernel,rfl,by decide +kernel,by decide +kernel⟩
theorem zfM {f:Addr} {fd:FuncData} (F:Fun K "_law_part_changed" "_law_part_changed" zcZ f fd) (T:Txt K mg) (G_law_sum:Has P w K mg base CX0 2 "_law_sum" ["_law_parts"] (spM (KX K) XO0 zbs)):FnOk P w K mg base CX0 3 f fd ["_law_price","_law_number_here"] (spM (KX K) XO0 zaY):=by
  refine F.ok sc_law_part_changed (fun vs H Q E h=>zbg h) (fun cdv A outer s H vs Q E hr h=>?_)
  have hu:=zbP hr
  exact ⟨_,(zae (zaH (i:=2) sc_law_part_changed.nd rfl (by first | exact Or.inl rfl | exact Or.inr rfl) (zcn (zab zag (zab (zau zbN zag (zau za6 (zau za0 (pv 1) zag) zag)) zah))))
      (zae (zbt (zaC zdK (zau za6 (pv 1) zag) zag (zaU _))
      (zam (zaH (i:=2) sc_law_part_changed.nd rfl (by first | exact Or.inl rfl | exact Or.inr rfl) (zcn (zab (zau zbN (zau za0 (za9 zba (pv 0) zag (fun _ _=>rfl)) zag) zag) (zab (za9 zba (pv 0) zag (fun _ _=>rfl)) zah)))))
      zaO)
      (zae (zbt (zaC zdK (zau za6 (zau za0 (pv 1) zag) zag) zag (zaU _))
      (zam (zax (zaK G_law_sum (hr.mono (by decide)) (by rfl) za4 (zab (zcm (zab (pv 0) (zab (zcn (zab (zau zf9 zag (za9 zba (pv 2) zag (fun _ _=>rfl))) (zab (za9 zba (pv 2) zag (fun _ _=>rfl)) zah))) zah))) zah))))
      zaO)
      (zae (zbt (zaC zdK (zau za6 (zau za0 (pv 1) zag) zag) zag (zaU _))
      (zam (zax (zcn (zab (zau zf9 (zau zf9 zag (za9 zba (pv 0) zag (fun _ _=>rfl))) zag) (zab zag zah)))))
      zaO)
      (zam (zax (zaK G_law_sum (hr.mono (by decide)) (by rfl) za4 (zab (zcm (zab (pv 0) (zab (pv 2) zah))) zah)))))))),zco (K:=(KX K)) (XO:=XO0) (E:=E) (np:=2) (nv:=1) (m:=zej)
      (zaq (zaQ (zcF (zad zaf (zad (zak zbO (zaf).r ((zak za3 ((zak zbL zac (zaf).r)).r (zaf).r)).r) zas))) zap)
      (zaq (zbu (zay (zak zdL ((zak za3 zac (zaf).r)).r (zaf).r))
      (zaQ (zcF (zad (zak zbO ((zak zbL ((zak zbe zac (zaf).r)).r (zaf).r)).r (zaf).r) (zad (zak zbe zac (zaf).r) zas))) zap)
      zaN)
      (zaq (zbu (zay (zak zdL ((zak za3 ((zak zbL zac (zaf).r)).r (zaf).r)).r (zaf).r))
      (zaV (zaw (zad ((zbF (zad zaj (zad (zcF (zad (zak zgp (zaf).r ((zak zbe zac (zaf).r)).r) (zad (zak zbe zac (zaf).r) zas))) zas)))).e zas)))
      zaN)
      (zaq (zbu (zay (zak zdL ((zak za3 ((zak zbL zac (zaf).r)).r (zaf).r)).r (zaf).r))
      (zaV (zcF (zad (zak zgp ((zak zgp (zaf).r ((zak zbe zac (zaf).r)).r)).r (zaf).r) (zad zaf zas))))
      zaN)
      (zaV (zaw (zad ((zbF (zad zaj (zad zaj zas)))).e zas))))))) rfl h⟩
abbrev zb7:Stmt:=top 49
theorem sc_law_prices_changed:FnScope ["_law_prices","_law_number_here","_law_at","_law_other","_law_found"] ["_law_prices","_law_number_here"] (zar zb7):=⟨rfl,rfl,rfl,by decide +kernel,rfl,by decide +kernel,by decide +kernel⟩
theorem zfe {f:Addr} {fd:FuncData} (F:Fun K "_law_prices_changed" "_law_prices_changed" zb7 f fd) (T:Txt K mg) (G_law_part_changed:Has P w K mg base CX0 3 "_law_part_changed" ["_law_price","_law_number_here"] (spM (KX K) XO0 zaY)):FnOk P w K mg base CX0 4 f fd ["_law_prices","_law_number_here"] (spO (KX K) XO0 zbi):=by
  refine F.ok sc_law_prices_changed (fun vs H Q E h=>zdA h) (fun cdv A outer s H vs Q E hr h=>?_)
  have hu:=zbP hr
  exact ⟨_,(zae (zbt (zaC (zmQ hr.units) (pv 0) (zcm zah) (zaU _))
      (zam (zax (zbr zbR (zcm (zab (zcn (zab zag (zab (zau zbN zag (zau za6 (pv 1) zag)) zah))) zah)) zb9 (zbG (zau za6 (zau za0 (pv 1) zag) zag)))))
      zaO)
      (zae (zaH (i:=2) sc_law_prices_changed.nd rfl (by first | exact Or.inl rfl | exact Or.inr rfl) (zau za6 (zau za0 (pv 1) zag) (zaD zaz (by rfl) T.len PySem.boot_len (zab (pv 0) zah))))
      (zae (zaH (i:=3) sc_law_prices_changed.nd rfl (by first | exact Or.inl rfl | exact Or.inr rfl) (zau za6 (zau za0 (pv 1) zag) (zaD zaz (by rfl) T.len PySem.boot_len (zab (pv 0) zah))))
      (zae (zbt (zaC zdK (zau za6 (pv 1) zag) zag (zaU _))
      (zam (zax (zau zcG (zbr zbR (pv 0) zb9 (zbG (pv 2))) (zbr zbR (pv 0) (zbG (zau zbN (pv 2) zag)) zb9))))
      zaO)
      (zae (zbt (zaC zdK (zau za6 (pv 1) zag) zag (zaU _))
      (zam (zax (zau zcG (zau zcG (zbr zbR (pv 0) zb9 (zbG (pv 2))) (zcm (zab (za9 zbz (pv 0) (pv 3) (fun _ _=>rfl)) zah))) (zbr zbR (pv 0) (zbG (pv 2)) zb9))))
      zaO)
      (zae (zbt (zaC zdK (zau za6 (pv 1) zag) zag (zaU _))
      (zam (zax (zbA rfl (zbd (pv 0)) (zbV (zar zb7) ["_law_prices","_law_number_here","_law_at","_law_other","_law_found"] ["_law_price"] [] 1 rfl rfl rfl (by decide +kernel) (by decide +kernel) (by decide +kernel) rfl (by decide +kernel) (fun cl C s H fp pins=>(zav (i:=0) (show List.Nodup (["_law_price"]:List Str) by decide +kernel) rfl (Or.inl rfl))) (fun cl C s H fp pins=>(zcn (zab zag (zab zag zah)))) (Or.inl ⟨rfl,rfl⟩)))))
      zaO)
      (zae (zbt (zaC zdK (zau za6 (pv 1) zag) zag (zaU _))
      (zae (zaH (i:=4) sc_law_prices_changed.nd rfl (by first | exact Or.inl rfl | exact Or.inr rfl) (zcv zb1 (by rfl) T.list boot_list (zab (pv 0) zah)))
      (zae (zm5 (zcn (zab (za9 zbz (pv 0) (pv 3) (fun _ _=>rfl)) (zab (za9 zbz (pv 0) (pv 2) (fun _ _=>rfl)) zah))) (zcE rfl (zaL (zmi (pv 4) (pv 2) zgr) (zaL (zmi (pv 4) (pv 3) zgr) zbQ))))
      (zam (zax (pv 4)))))
      zaO)
      (zam (zax (zau zcG (zau zcG (zbr zbR (pv 0) zb9 (zbG (pv 2))) (zcm (zab (zaK G_law_part_changed (hr.mono (by decide)) (by rfl) za4 (zab (za9 zbz (pv 0) (pv 2) (fun _ _=>rfl)) (zab (zau za0 (pv 1) zag) zah))) zah))) (zbr zbR (pv 0) (zbG (zau zbN (pv 2) zag)) zb9))))))))))),ze2 (K:=(KX K)) (XO:=XO0) (E:=E) (np:=2) (nv:=3) (m:=zdD)
      (zaq (zbu (zay (zak zl4 zac ((zbF zas)).e.r))
      (zcu (zbh ((zbF (zad (zcF (zad zaf (zad (zak zbO (zaf).r ((zak za3 zac (zaf).r)).r) zas))) zas))).e.r zeE (zbI (zak za3 ((zak zbL zac (zaf).r)).r (zaf).r))))
      zaN)
      (zaq (zaQ (zak za3 ((zak zbL zac (zaf).r)).r ((zbD zb5 (zat zac zaB))).r) zap)
      (zaq (zaQ (zak za3 ((zak zbL zac (zaf).r)).r ((zbD zb5 (zat zac zaB))).r) zap)
      (zaq (zbu (zay (zak zdL ((zak za3 zac (zaf).r)).r (zaf).r))
      (zcu (zdF zdG ((zbh zac zeE (zbI zaj))).e.r ((zbh zac (zbI (zak zbO zac (zaf).r)) zeE)).e.r))
      zaN)
      (zaq (zbu (zay (zak zdL ((zak za3 zac (zaf).r)).r (zaf).r))
      (zcu (zdF zdG ((zdF zdG ((zbh zac zeE (zbI zaj))).e.r ((zbF (zad (zak zch zac zac) zas))).e.r)).e.r ((zbh zac (zbI zaj) zeE)).e.r))
      zaN)
      (zaq (zbu (zay (zak zdL ((zak za3 zac (zaf).r)).r (zaf).r))
      (zcu (zbf (zbw zac) (by decide) zaW zbc (Or.inl ⟨rfl,rfl⟩) (zcF (zad zaf (zad zaf zas)))))
      zaN)
      (zaq (zbu (zay (zak zdL ((zak za3 zac (zaf).r)).r (zaf).r))
      (zaq (ze3 (zgf zeR (zat zac zaB)))
      (zaq (znH (zcF (zad (zak zch zac zac) (zad (zak zch zac zac) zas))) zaj zaj)
      zjm))
      zaN)
      (zcu (zdF zdG ((zdF zdG ((zbh zac zeE (zbI zaj))).e.r ((zbF (zad (zaw (zad (zak zch zac zac) (zad (zak zbL zac (zaf).r) zas))) zas))).e.r)).e.r ((zbh zac (zbI (zak zbO zac (zaf).r)) zeE)).e.r))))))))) rfl h⟩
abbrev zeN:Stmt:=top 23
theorem zjq:FnScope ["numbers","count"] ["numbers","count"] (zar zeN):=⟨rfl,rfl,rfl,by decide +kernel,rfl,by decide +kernel,by decide +kernel⟩
theorem zjX {f:Addr} {fd:FuncData} (F:Fun K "all_below" "all_below" zeN f fd) (T:Txt K mg)  : FnOk P w K mg base CX0 1 f fd ["numbers","count"] (spM (KX K) XO0 zc8):=by
  refine F.ok zjq (fun vs H Q E h=>zbg h) (fun cdv A outer s H vs Q E hr h=>?_)
  have hu:=zbP hr
  exact ⟨_,(zam (zax (zaD (zl8 rfl) (by rfl) T.all boot_all (zab (zbA rfl (zbd (pv 0)) (zbV (zar zeN) ["numbers","count"] ["count","number"] [1] 1 rfl rfl rfl (by decide +kernel) (by decide +kernel) (by decide +kernel) rfl (by decide +kernel) (fun cl C s H fp pins=>(zav (i:=1) (show List.Nodup (["count","number"]:List Str) by decide +kernel) rfl (Or.inl rfl))) (fun cl C s H fp pins=>(zoc zrd zhG zag (pv 1) (pv 0))) (Or.inl ⟨rfl,rfl⟩))) zah)))),zco (K:=(KX K)) (XO:=XO0) (E:=E) (np:=2) (nv:=0) (m:=zht)
      (zaV (zbD zqZ (zat ((zbf (zbw zac) (by decide) zaW zbc (Or.inl ⟨rfl,rfl⟩) (znw zrl zhJ (zaf).r zac zac))).e.r zaB))) rfl h⟩
abbrev zen:Stmt:=top 24
theorem zhm:FnScope ["numbers","count"] ["numbers","count"] (zar zen):=⟨rfl,rfl,rfl,by decide +kernel,rfl,by decide +kernel,by decide +kernel⟩
theorem zhS {f:Addr} {fd:FuncData} (F:Fun K "unlike_below" "unlike_below" zen f fd) (T:Txt K mg) (G_all_below:Has P w K mg base CX0 1 "all_below" ["numbers","count"] (spM (KX K) XO0 zc8)):FnOk P w K mg base CX0 2 f fd ["numbers","count"] (spM (KX K) XO0 zby):=by
  refine F.ok zhm (fun vs H Q E h=>zbg h) (fun cdv A outer s H vs Q E hr h=>?_)
  have hu:=zbP hr
  exact ⟨_,(zam (zax (zl2 (zaK G_all_below (hr.mono (by decide)) (by rfl) za4 (zab (pv 0) (zab (pv 1) zah))) (zlV (zer zdK (zaD zmY (by rfl) T.len PySem.boot_len (zab (zcv (zmx rfl) (by rfl) T.set boot_set (zab (pv 0) zah)) zah)) (zaD zaz (by rfl) T.len PySem.boot_len (zab (pv 0) zah)) (zaU _)))))),zco (K:=(KX K)) (XO:=XO0) (E:=E) (np:=2) (nv:=0) (m:=zfA)
      (zaV (znc (zaw (zad zaj (zad zaj zas))) (zak zdL ((zms (zat zac zaB))).r ((zbD zb5 (zat zac zaB))).r))) rfl h⟩
abbrev zdH:Stmt:=top 25
theorem sc_leaves_open:FnScope ["many","sets","chosen","held","number","thing"] ["many","sets","chosen"] (zar zdH):=⟨rfl,rfl,rfl,by decide +kernel,rfl,by decide +kernel,by decide +kernel⟩
theorem zh7 {f:Addr} {fd:FuncData} (F:Fun K "leaves_open" "leaves_open" zdH f fd) (T:Txt K mg)  : FnOk P w K mg base CX0 1 f fd ["many","sets","chosen"] (spM (KX K) XO0 zcz):=by
  refine F.ok sc_leaves_open (fun vs H Q E h=>zbg h) (fun cdv A outer s H vs Q E hr h=>?_)
  have hu:=zbP hr
  exact ⟨_,(zae (zaH (i:=3) sc_leaves_open.nd rfl (by first | exact Or.inl rfl | exact Or.inr rfl) zhd)
      (zae (zbY PassesOwn.never rfl (zbd (pv 2)) (zav (i:=4) sc_leaves_open.nd rfl (by first | exact Or.inl rfl | exact Or.inr rfl))
      (zam (zbY PassesOwn.never rfl (zbd (za9 zba (za9 zbz (pv 1) (pv 4) (fun _ _=>rfl)) zag (fun _ _=>rfl))) (zav (i:=5) sc_leaves_open.nd rfl (by first | exact Or.inl rfl | exact Or.inr rfl))
      (zam (zhO hu (pv 3) (pv 5) zg1 rfl)))))
      (zam (zax (zaD (zf3 rfl) (by rfl) T.any boot_any (zab (zbA rfl (zcs rfl T.range (zab (pv 0) zah)) (zbV (zar zdH) ["many","sets","chosen","held","number","thing"] ["held","thing"] [3] 1 rfl rfl rfl (by decide +kernel) (by decide +kernel) (by decide +kernel) rfl (by decide +kernel) (fun cl C s H fp pins=>(zav (i:=1) (show List.Nodup (["held","thing"]:List Str) by decide +kernel) rfl (Or.inl rfl))) (fun cl C s H fp pins=>(zp2 (zj2 hu (pv 1) (pv 0)))) (Or.inl ⟨rfl,rfl⟩))) zah)))))),zco (K:=(KX K)) (XO:=XO0) (E:=E) (np:=3) (nv:=3) (m:=zgg)
      (zaq (ze3 zg8)
      (zaq (zbW (zcH zaj) zap
      (zbW (zcH (zak zbe ((zak zch zac zac)).r (zaf).r)) zap
      (zhu zaj zg2)))
      (zaV (zbD zkX (zat ((zbf (zcp len1 (zad zaj zas)).c (by decide) zaW zbc (Or.inl ⟨rfl,rfl⟩) (zjN zaj zac))).e.r zaB))))) rfl h⟩
abbrev zde:Stmt:=top 6
theorem zf7:FnScope ["one","other"] ["one","other"] (zar zde):=⟨rfl,rfl,rfl,by decide +kernel,rfl,by decide +kernel,by decide +kernel⟩
theorem zgq {f:Addr} {fd:FuncData} (F:Fun K "common_multiple" "common_multiple" zde f fd) (T:Txt K mg) (G_common_factor:Has P w K mg base CX0 1 "common_factor" ["one","other"] (spM (KX K) XO0 zbK)):FnOk P w K mg base CX0 2 f fd ["one","other"] (spM (KX K) XO0 zbJ):=by
  refine F.ok zf7 (fun vs H Q E h=>zbg h) (fun cdv A outer s H vs Q E hr h=>?_)
  have hu:=zbP hr
  exact ⟨_,(zam (zax (zau zbo (pv 0) (zau za0 (pv 1) (zaK G_common_factor (hr.mono (by decide)) (by rfl) za4 (zab (pv 0) (zab (pv 1) zah))))))),zco (K:=(KX K)) (XO:=XO0) (E:=E) (np:=2) (nv:=0) (m:=zdb)
      (zaV (zak zb0 zac ((zak zbL zac ((zaw (zad zaj (zad zaj zas)))).r)).r)) rfl h⟩
abbrev zeS:Stmt:=top 26
theorem zjD:FnScope ["prices","bottom"] ["prices","bottom"] (zar zeS):=⟨rfl,rfl,rfl,by decide +kernel,rfl,by decide +kernel,by decide +kernel⟩
theorem zjK {f:Addr} {fd:FuncData} (F:Fun K "tops_over" "tops_over" zeS f fd) (T:Txt K mg)  : FnOk P w K mg base CX0 1 f fd ["prices","bottom"] (spO (KX K) XO0 zc9):=by
  refine F.ok zjD (fun vs H Q E h=>zdA h) (fun cdv A outer s H vs Q E hr h=>?_)
  have hu:=zbP hr
  exact ⟨_,(zam (zax (zbA rfl (zbd (pv 0)) (zbV (zar zeS) ["prices","bottom"] ["bottom","top","below"] [1] 2 rfl rfl rfl (by decide +kernel) (by decide +kernel) (by decide +kernel) rfl (by decide +kernel) (fun cl C s H fp pins=>(zcE rfl (zaL (zav (i:=1) (show List.Nodup (["bottom","top","below"]:List Str) by decide +kernel) rfl (Or.inl rfl)) (zaL (zav (i:=2) (show List.Nodup (["bottom","top","below"]:List Str) by decide +kernel) rfl (Or.inl rfl)) zbQ)))) (fun cl C s H fp pins=>(zau zbo (pv 1) (zau za0 (pv 0) (pv 2)))) (Or.inl ⟨rfl,rfl⟩))))),ze2 (K:=(KX K)) (XO:=XO0) (E:=E) (np:=2) (nv:=0) (m:=zhw)
      (zcu (zbf (zbw zac) (by decide) (zcL (zaP zaW (zaP zaW zb4))) (zgY (zb8 zbc (zb8 zbc zfj))) (Or.inl ⟨rfl,rfl⟩) (zak zb0 zac ((zak zbL zac zac)).r))) rfl h⟩
abbrev zfw:Stmt:=top 21
theorem zkq:FnScope ["sets","chosen"] ["sets","chosen"] (zar zfw):=⟨rfl,rfl,rfl,by decide +kernel,rfl,by decide +kernel,by decide +kernel⟩
theorem zkj {f:Addr} {fd:FuncData} (F:Fun K "price_of" "price_of" zfw f fd) (T:Txt K mg)  : FnOk P w K mg base CX0 1 f fd ["sets","chosen"] (spM (KX K) XO0 zdQ):=by
  refine F.ok zkq (fun vs H Q E h=>zbg h) (fun cdv A outer s H vs Q E hr h=>?_)
  have hu:=zbP hr
  exact ⟨_,(zam (zax (zaD (zbx rfl) (by rfl) T.sum boot_sum (zab (zbA rfl (zbd (pv 1)) (zbV (zar zfw) ["sets","chosen"] ["sets","number"] [0] 1 rfl rfl rfl (by decide +kernel) (by decide +kernel) (by decide +kernel) rfl (by decide +kernel) (fun cl C s H fp pins=>(zav (i:=1) (show List.Nodup (["sets","number"]:List Str) by decide +kernel) rfl (Or.inl rfl))) (fun cl C s H fp pins=>(za9 zba (za9 zbz (pv 0) (pv 1) (fun _ _=>rfl)) zag (fun _ _=>rfl))) (Or.inl ⟨rfl,rfl⟩))) zah)))),zco (K:=(KX K)) (XO:=XO0) (E:=E) (np:=2) (nv:=0) (m:=zit)
      (zaV (zbD zfD (zat ((zbf (zbw zac) (by decide) zaW zbc (Or.inl ⟨rfl,rfl⟩) (zak zbe ((zak zch zac zac)).r (zaf).r))).e.r zaB))) rfl h⟩
abbrev zc5:Stmt:=top 27
theorem sc_check_cover:FnScope ["many","sets","chosen","prices","bottom","price","tops","things","most"] ["many","sets","chosen","prices"] (zar zc5):=⟨rfl,rfl,rfl,by decide +kernel,rfl,by decide +kernel,by decide +kernel⟩
theorem zh3 {f:Addr} {fd:FuncData} (F:Fun K "check_cover" "check_cover" zc5 f fd) (T:Txt K mg) (G_cover_share:Has P w K mg base CX0 5 "cover_share" ["sets"] (spM (KX K) XO0 zbk)) (G_unlike_below:Has P w K mg base CX0 2 "unlike_below" ["numbers","count"] (spM (KX K) XO0 zby)) (G_leaves_open:Has P w K mg base CX0 1 "leaves_open" ["many","sets","chosen"] (spM (KX K) XO0 zcz)) (G_common_multiple:Has P w K mg base CX0 2 "common_multiple" ["one","other"] (spM (KX K) XO0 zbJ)) (G_tops_over:Has P w K mg base CX0 1 "tops_over" ["prices","bottom"] (spO (KX K) XO0 zc9)) (G_price_of:Has P w K mg base CX0 1 "price_of" ["sets","chosen"] (spM (KX K) XO0 zdQ)):FnOk P w K mg base CX0 6 f fd ["many","sets","chosen","prices"] (spM (KX K) XO0 zcD):=by
  refine F.ok sc_check_cover (fun vs H Q E h=>zbg h) (fun cdv A outer s H vs Q E hr h=>?_)
  have hu:=zbP hr
  exact ⟨_,(zae (zbt (zig (ze7 (zaK G_unlike_below (hr.mono (by decide)) (by rfl) za4 (zab (pv 2) (zab (zaD zaz (by rfl) T.len PySem.boot_len (zab (pv 1) zah)) zah)))))
      (zam (zax zcR))
      zaO)
      (zae (zbt (ze7 (zaK G_leaves_open (hr.mono (by decide)) (by rfl) za4 (zab (pv 0) (zab (pv 1) (zab (pv 2) zah)))))
      (zam (zax zcR))
      zaO)
      (zae (zbt ((zje (zaC znB (zaD zaz (by rfl) T.len PySem.boot_len (zab (pv 3) zah)) (pv 0) (zaU _)) (zgW (ze7 (zaD (zf3 rfl) (by rfl) T.any boot_any (zab (zbA rfl (zbd (pv 3)) (zbV (zar zc5) ["many","sets","chosen","prices","bottom","price","tops","things","most"] ["price"] [] 1 rfl rfl rfl (by decide +kernel) (by decide +kernel) (by decide +kernel) rfl (by decide +kernel) (fun cl C s H fp pins=>(zav (i:=0) (show List.Nodup (["price"]:List Str) by decide +kernel) rfl (Or.inl rfl))) (fun cl C s H fp pins=>(zer zhG (za9 zba (pv 0) zag (fun _ _=>rfl)) zag (zaU _))) (Or.inl ⟨rfl,rfl⟩))) zah)))))).pt
      (zam (zax zcR))
      zaO)
      (zae (zaH (i:=4) sc_check_cover.nd rfl (by first | exact Or.inl rfl | exact Or.inr rfl) zag)
      (zae (zbY PassesOwn.never rfl (zbd (pv 3)) (zav (i:=5) sc_check_cover.nd rfl (by first | exact Or.inl rfl | exact Or.inr rfl))
      (zam (zaH (i:=4) sc_check_cover.nd rfl (by first | exact Or.inl rfl | exact Or.inr rfl) (zaK G_common_multiple (hr.mono (by decide)) (by rfl) za4 (zab (pv 4) (zab (za9 zba (pv 5) zag (fun _ _=>rfl)) zah))))))
      (zae (zaH (i:=6) sc_check_cover.nd rfl (by first | exact Or.inl rfl | exact Or.inr rfl) (zaK G_tops_over (hr.mono (by decide)) (by rfl) za4 (zab (pv 3) (zab (pv 4) zah))))
      (zae (zbY PassesOwn.never rfl (zbd (pv 1)) (zcE rfl (zaL (zav (i:=5) sc_check_cover.nd rfl (by first | exact Or.inl rfl | exact Or.inr rfl)) (zaL (zav (i:=7) sc_check_cover.nd rfl (by first | exact Or.inl rfl | exact Or.inr rfl)) zbQ)))
      (zam (zbt (zaC zfo (zaD (zbx rfl) (by rfl) T.sum boot_sum (zab (zbA rfl (zbd (pv 7)) (zbV (zar zc5) ["many","sets","chosen","prices","bottom","price","tops","things","most"] ["tops","thing"] [6] 1 rfl rfl rfl (by decide +kernel) (by decide +kernel) (by decide +kernel) rfl (by decide +kernel) (fun cl C s H fp pins=>(zav (i:=1) (show List.Nodup (["tops","thing"]:List Str) by decide +kernel) rfl (Or.inl rfl))) (fun cl C s H fp pins=>(za9 zbz (pv 0) (pv 1) (fun _ _=>rfl))) (Or.inl ⟨rfl,rfl⟩))) zah)) (zau zbo (pv 5) (pv 4)) (zaU _))
      (zam (zax zcR))
      zaO)))
      (zae (zaH (i:=8) sc_check_cover.nd rfl (by first | exact Or.inl rfl | exact Or.inr rfl) (zaK G_cover_share (hr.mono (by decide)) (by rfl) za4 (zab (pv 1) zah)))
      (zae (zbt (zaC zfo (zau zbo (zau zbo (zaK G_price_of (hr.mono (by decide)) (by rfl) za4 (zab (pv 1) (zab (pv 2) zah))) (pv 4)) (za9 zba (pv 8) zag (fun _ _=>rfl))) (zau zbo (za9 zba (pv 8) zag (fun _ _=>rfl)) (zaD (zbx rfl) (by rfl) T.sum boot_sum (zab (pv 6) zah))) (zaU _))
      (zam (zax zcR))
      zaO)
      (zam (zax zfU))))))))))),zco (K:=(KX K)) (XO:=XO0) (E:=E) (np:=4) (nv:=5) (m:=zfZ)
      (zaq (zbu (zio (st_b (zaw (zad zaj (zad (zbD zb5 (zat zac zaB)) zas)))))
      (zaV zcT)
      zaN)
      (zaq (zbu (st_b (zaw (zad zaj (zad zaj (zad zaj zas)))))
      (zaV zcT)
      zaN)
      (zaq (zbu (ziK (zay (zak znV ((zbD zb5 (zat zac zaB))).r zac)) (st_b (zbD zkX (zat ((zbf (zbw zac) (by decide) zaW zbc (Or.inl ⟨rfl,rfl⟩) (zak zhJ ((zak zbe zac (zaf).r)).r (zaf).r))).e.r zaB))))
      (zaV zcT)
      zaN)
      (zaq (zaQ zaf zap)
      (zaq (zbW (zcH zaj) zap
      (zaQ (zaw (zad zaj (zad (zak zbe zac (zaf).r) zas))) zap))
      (zaq (zaQ ((zbZ (zad zaj (zad zaj zas)))).e zap)
      (zaq (zbW (zcH zaj) (zcL (zaP zap (zaP zap zb4)))
      (zbu (zay (zak zfn ((zbD zfD (zat ((zbf (zbw zac) (by decide) zaW zbc (Or.inl ⟨rfl,rfl⟩) (zak zch zac zac))).e.r zaB))).r ((zak zb0 zac zac)).r))
      (zaV zcT)
      zaN))
      (zaq (zaQ (zaw (zad zaj zas)) zap)
      (zaq (zbu (zay (zak zfn ((zak zb0 ((zak zb0 ((zaw (zad zaj (zad zaj zas)))).r zac)).r ((zak zbe zac (zaf).r)).r)).r ((zak zb0 ((zak zbe zac (zaf).r)).r ((zbD zfD (zat zac zaB))).r)).r))
      (zaV zcT)
      zaN)
      (zaV zgl)))))))))) rfl h⟩
abbrev zfi:Stmt:=top 44
theorem sc_law_unlike:FnScope ["_law_some","_law_many","_law_seen","_law_number_here"] ["_law_some","_law_many"] (zar zfi):=⟨rfl,rfl,rfl,by decide +kernel,rfl,by decide +kernel,by decide +kernel⟩
theorem zjb {f:Addr} {fd:FuncData} (F:Fun K "_law_unlike" "_law_unlike" zfi f fd) (T:Txt K mg)  : FnOk P w K mg base CX0 1 f fd ["_law_some","_law_many"] (spM (KX K) XO0 zbX):=by
  refine F.ok sc_law_unlike (fun vs H Q E h=>zbg h) (fun cdv A outer s H vs Q E hr h=>?_)
  have hu:=zbP hr
  exact ⟨_,(zae (zaH (i:=2) sc_law_unlike.nd rfl (by first | exact Or.inl rfl | exact Or.inr rfl) (zcm zah))
      (zae (zbY PassesOwn.never rfl (zbd (pv 0)) (zav (i:=3) sc_law_unlike.nd rfl (by first | exact Or.inl rfl | exact Or.inr rfl))
      (zae (zbt ((zje (zaC zhG (pv 3) zag (zaU _)) (zje (zaC zrt (pv 3) (pv 1) (zaU _)) (zgW (zaC zf6 (pv 3) (pv 2) (by with_unfolding_all rfl)))))).pt
      (zam (zax zg1))
      zaO)
      (zam (zeY (zkK PySem.F.plainAttrs_list PySem.F.slot_list_append PySem.F.type_list_append zdy (pv 2) (zab (pv 3) zah))))))
      (zam (zax zg1)))),zco (K:=(KX K)) (XO:=XO0) (E:=E) (np:=2) (nv:=2) (m:=zgL)
      (zaq (ze3 (zbF zas))
      (zaq (zbW (zcH zaj) zap
      (zaq (zbu (ziK (zay (zak zhJ zac (zaf).r)) (ziK (zay (zak zrm zac zac)) (zay (zak zn6 zac zac))))
      (zaV zg2)
      zaN)
      (zfT zaj)))
      (zaV zg2))) rfl h⟩
abbrev zeP:Stmt:=top 40
theorem zjs:FnScope ["_law_count"] ["_law_count"] (zar zeP):=⟨rfl,rfl,rfl,by decide +kernel,rfl,by decide +kernel,by decide +kernel⟩
theorem zj6 {f:Addr} {fd:FuncData} (F:Fun K "_law_steps" "_law_steps" zeP f fd) (T:Txt K mg) (G_law_sum:Has P w K mg base CX0 2 "_law_sum" ["_law_parts"] (spM (KX K) XO0 zbs)):FnOk P w K mg base CX0 3 f fd ["_law_count"] (spM (KX K) XO0 zdd):=by
  refine F.ok zjs (fun vs H Q E h=>zbg h) (fun cdv A outer s H vs Q E hr h=>?_)
  have hu:=zbP hr
  exact ⟨_,(zam (zax (zaK G_law_sum (hr.mono (by decide)) (by rfl) za4 (zab (zbA rfl (zcs rfl T.range (zab (pv 0) zah)) (zbV (zar zeP) ["_law_count"] ["_law_k"] [] 1 rfl rfl rfl (by decide +kernel) (by decide +kernel) (by decide +kernel) rfl (by decide +kernel) (fun cl C s H fp pins=>(zav (i:=0) (show List.Nodup (["_law_k"]:List Str) by decide +kernel) rfl (Or.inl rfl))) (fun cl C s H fp pins=>(zcn (zab zag (zab (zau zbN (pv 0) zag) zah)))) (Or.inl ⟨rfl,rfl⟩))) zah)))),zco (K:=(KX K)) (XO:=XO0) (E:=E) (np:=1) (nv:=0) (m:=zhV)
      (zaV (zaw (zad ((zbf (zcp len1 (zad zaj zas)).c (by decide) zaW zbc (Or.inl ⟨rfl,rfl⟩) (zcF (zad zaf (zad (zak zbO zac (zaf).r) zas))))).e zas))) rfl h⟩
abbrev zbC:Stmt:=top 45
theorem sc_law_cover_word:FnScope ["_law_many","_law_sets_here","_law_chosen","_law_prices","_law_there","_law_number_here","_law_thing","_law_price","_law_things","_law_much","_law_part","_law_cost"] ["_law_many","_law_sets_here","_law_chosen","_law_prices"] (zar zbC):=⟨rfl,rfl,rfl,by decide +kernel,rfl,by decide +kernel,by decide +kernel⟩
theorem zgu {f:Addr} {fd:FuncData} (F:Fun K "_law_cover_word" "_law_cover_word" zbC f fd) (T:Txt K mg) (G_law_sum:Has P w K mg base CX0 2 "_law_sum" ["_law_parts"] (spM (KX K) XO0 zbs)) (G_law_unlike:Has P w K mg base CX0 1 "_law_unlike" ["_law_some","_law_many"] (spM (KX K) XO0 zbX)) (G_law_steps:Has P w K mg base CX0 3 "_law_steps" ["_law_count"] (spM (KX K) XO0 zdd)):FnOk P w K mg base CX0 4 f fd ["_law_many","_law_sets_here","_law_chosen","_law_prices"] (spM (KX K) XO0 zci):=by
  refine F.ok sc_law_cover_word (fun vs H Q E h=>zbg h) (fun cdv A outer s H vs Q E hr h=>?_)
  have hu:=zbP hr
  exact ⟨_,(zae (zbt (zig (ze7 (zaK G_law_unlike (hr.mono (by decide)) (by rfl) za4 (zab (pv 2) (zab (zaD zaz (by rfl) T.len PySem.boot_len (zab (pv 1) zah)) zah)))))
      (zam (zax zcR))
      zaO)
      (zae (zaH (i:=4) sc_law_cover_word.nd rfl (by first | exact Or.inl rfl | exact Or.inr rfl) (zcm zah))
      (zae (zbY PassesOwn.never rfl (zbd (pv 2)) (zav (i:=5) sc_law_cover_word.nd rfl (by first | exact Or.inl rfl | exact Or.inr rfl))
      (zam (zaH (i:=4) sc_law_cover_word.nd rfl (by first | exact Or.inl rfl | exact Or.inr rfl) (zau zcG (pv 4) (za9 zba (za9 zbz (pv 1) (pv 5) (fun _ _=>rfl)) zag (fun _ _=>rfl))))))
      (zae (zbY PassesOwn.never rfl (zcs rfl T.range (zab (pv 0) zah)) (zav (i:=6) sc_law_cover_word.nd rfl (by first | exact Or.inl rfl | exact Or.inr rfl))
      (zam (zbt (zaC zdv (pv 6) (pv 4) (by with_unfolding_all rfl))
      (zam (zax zcR))
      zaO)))
      (zae (zbt ((zje (zaC znB (zaD zaz (by rfl) T.len PySem.boot_len (zab (pv 3) zah)) (pv 0) (zaU _)) (zgW (zaC zfo (zaD zaz (by rfl) T.len PySem.boot_len (zab (zbA rfl (zbd (pv 3)) (zbV (zar zbC) ["_law_many","_law_sets_here","_law_chosen","_law_prices","_law_there","_law_number_here","_law_thing","_law_price","_law_things","_law_much","_law_part","_law_cost"] ["_law_price"] [] 1 rfl rfl rfl (by decide +kernel) (by decide +kernel) (by decide +kernel) rfl (by decide +kernel) (fun cl C s H fp pins=>(zav (i:=0) (show List.Nodup (["_law_price"]:List Str) by decide +kernel) rfl (Or.inl rfl))) (fun cl C s H fp pins=>zag) (Or.inr ⟨_,_,rfl,rfl,fun cl C s H fp pins=>(zaC zhG (za9 zba (pv 0) zag (fun _ _=>rfl)) zag (zaU _))⟩))) zah)) zag (zaU _))))).pt
      (zam (zax zcR))
      zaO)
      (zae (zbY PassesOwn.never rfl (zbd (pv 1)) (zcE rfl (zaL (zav (i:=7) sc_law_cover_word.nd rfl (by first | exact Or.inl rfl | exact Or.inr rfl)) (zaL (zav (i:=8) sc_law_cover_word.nd rfl (by first | exact Or.inl rfl | exact Or.inr rfl)) zbQ)))
      (zae (zaH (i:=9) sc_law_cover_word.nd rfl (by first | exact Or.inl rfl | exact Or.inr rfl) (zaK G_law_sum (hr.mono (by decide)) (by rfl) za4 (zab (zbA rfl (zbd (pv 8)) (zbV (zar zbC) ["_law_many","_law_sets_here","_law_chosen","_law_prices","_law_there","_law_number_here","_law_thing","_law_price","_law_things","_law_much","_law_part","_law_cost"] ["_law_prices","_law_thing"] [3] 1 rfl rfl rfl (by decide +kernel) (by decide +kernel) (by decide +kernel) rfl (by decide +kernel) (fun cl C s H fp pins=>(zav (i:=1) (show List.Nodup (["_law_prices","_law_thing"]:List Str) by decide +kernel) rfl (Or.inl rfl))) (fun cl C s H fp pins=>(za9 zbz (pv 0) (pv 1) (fun _ _=>rfl))) (Or.inl ⟨rfl,rfl⟩))) zah)))
      (zam (zbt (zaC zfo (za9 zba (pv 9) zag (fun _ _=>rfl)) (zau zbo (pv 7) (za9 zba (pv 9) zag (fun _ _=>rfl))) (zaU _))
      (zam (zax zcR))
      zaO))))
      (zae (zaH (i:=9) sc_law_cover_word.nd rfl (by first | exact Or.inl rfl | exact Or.inr rfl) (zaK G_law_sum (hr.mono (by decide)) (by rfl) za4 (zab (pv 3) zah)))
      (zae (zaH (i:=10) sc_law_cover_word.nd rfl (by first | exact Or.inl rfl | exact Or.inr rfl) (zaK G_law_steps (hr.mono (by decide)) (by rfl) za4 (zab (zmp rfl (by rfl) T.max (zab (zbA rfl (zbd (pv 1)) (zbV (zar zbC) ["_law_many","_law_sets_here","_law_chosen","_law_prices","_law_there","_law_number_here","_law_thing","_law_price","_law_things","_law_much","_law_part","_law_cost"] ["_law_price","_law_things"] [] 2 rfl rfl rfl (by decide +kernel) (by decide +kernel) (by decide +kernel) rfl (by decide +kernel) (fun cl C s H fp pins=>(zcE rfl (zaL (zav (i:=0) (show List.Nodup (["_law_price","_law_things"]:List Str) by decide +kernel) rfl (Or.inl rfl)) (zaL (zav (i:=1) (show List.Nodup (["_law_price","_law_things"]:List Str) by decide +kernel) rfl (Or.inl rfl)) zbQ)))) (fun cl C s H fp pins=>(zaD zaz (by rfl) (by exact T.len) PySem.boot_len (zab (pv 1) zah))) (Or.inl ⟨rfl,rfl⟩))) zah) zag) zah)))
      (zae (zaH (i:=11) sc_law_cover_word.nd rfl (by first | exact Or.inl rfl | exact Or.inr rfl) (zaD (zbx rfl) (by rfl) T.sum boot_sum (zab (zbA rfl (zbd (pv 2)) (zbV (zar zbC) ["_law_many","_law_sets_here","_law_chosen","_law_prices","_law_there","_law_number_here","_law_thing","_law_price","_law_things","_law_much","_law_part","_law_cost"] ["_law_sets_here","_law_number_here"] [1] 1 rfl rfl rfl (by decide +kernel) (by decide +kernel) (by decide +kernel) rfl (by decide +kernel) (fun cl C s H fp pins=>(zav (i:=1) (show List.Nodup (["_law_sets_here","_law_number_here"]:List Str) by decide +kernel) rfl (Or.inl rfl))) (fun cl C s H fp pins=>(za9 zba (za9 zbz (pv 0) (pv 1) (fun _ _=>rfl)) zag (fun _ _=>rfl))) (Or.inl ⟨rfl,rfl⟩))) zah)))
      (zae (zbt (zaC zfo (zau zbo (zau zbo (pv 11) (za9 zba (pv 9) zag (fun _ _=>rfl))) (za9 zba (pv 10) zag (fun _ _=>rfl))) (zau zbo (za9 zba (pv 9) zag (fun _ _=>rfl)) (za9 zba (pv 10) zag (fun _ _=>rfl))) (zaU _))
      (zam (zax zcR))
      zaO)
      (zam (zax zfU)))))))))))),zco (K:=(KX K)) (XO:=XO0) (E:=E) (np:=4) (nv:=8) (m:=ze0)
      (zaq (zbu (zio (st_b (zaw (zad zaj (zad (zbD zb5 (zat zac zaB)) zas)))))
      (zaV zcT)
      zaN)
      (zaq (zaQ ((zbF zas)).e zap)
      (zaq (zbW (zcH zaj) zap
      (zaQ ((zdF zdG zac ((zak zbe ((zak zch zac zac)).r (zaf).r)).r)).e zap))
      (zaq (zbW (zcp len1 (zad zaj zas)) zap
      (zbu (zay (zak zf1 zac zac))
      (zaV zcT)
      zaN))
      (zaq (zbu (ziK (zay (zak znV ((zbD zb5 (zat zac zaB))).r zac)) (zay (zak zfn ((zbD zb5 (zat ((zbf (zbw zac) (by decide) zaW zbc (Or.inr ⟨_,_,rfl,rfl,(zay (zak zhJ ((zak zbe zac (zaf).r)).r (zaf).r))⟩) zaf)).e.r zaB))).r (zaf).r)))
      (zaV zcT)
      zaN)
      (zaq (zbW (zcH zaj) (zcL (zaP zap (zaP zap zb4)))
      (zaq (zaQ (zaw (zad ((zbf (zbw zac) (by decide) zaW zbc (Or.inl ⟨rfl,rfl⟩) (zak zch zac zac))).e zas)) zap)
      (zbu (zay (zak zfn ((zak zbe zac (zaf).r)).r ((zak zb0 zac ((zak zbe zac (zaf).r)).r)).r))
      (zaV zcT)
      zaN)))
      (zaq (zaQ (zaw (zad zaj zas)) zap)
      (zaq (zaQ (zaw (zad (zmS (zat ((zbf (zbw zac) (by decide) (zcL (zaP zaW (zaP zaW zb4))) (zgY (zb8 zbc (zb8 zbc zfj))) (Or.inl ⟨rfl,rfl⟩) (zbD zb5 (zat zac zaB)))).e.r zaB) zaf) zas)) zap)
      (zaq (zaQ (zbD zfD (zat ((zbf (zbw zac) (by decide) zaW zbc (Or.inl ⟨rfl,rfl⟩) (zak zbe ((zak zch zac zac)).r (zaf).r))).e.r zaB)) zap)
      (zaq (zbu (zay (zak zfn ((zak zb0 ((zak zb0 zac ((zak zbe zac (zaf).r)).r)).r ((zak zbe zac (zaf).r)).r)).r ((zak zb0 ((zak zbe zac (zaf).r)).r ((zak zbe zac (zaf).r)).r)).r))
      (zaV zcT)
      zaN)
      (zaV zgl))))))))))) rfl h⟩
abbrev zgA:Stmt:=top 50
theorem zkP:FnScope ["_law_found","_law_due"] ["_law_found","_law_due"] (zar zgA):=⟨rfl,rfl,rfl,by decide +kernel,rfl,by decide +kernel,by decide +kernel⟩
theorem zkA {f:Addr} {fd:FuncData} (F:Fun K "_law_same" "_law_same" zgA f fd) (T:Txt K mg)  : FnOk P w K mg base CX0 1 f fd ["_law_found","_law_due"] (spM (KX K) XO0 zdj):=by
  refine F.ok zkP (fun vs H Q E h=>zbg h) (fun cdv A outer s H vs Q E hr h=>?_)
  have hu:=zbP hr
  exact ⟨_,(zae (zbt (zaC zmI (pv 1) zfU (zaU _))
      (zam (zax (zer zmI (pv 0) zfU (zaU _))))
      zaO)
      (zam (zax (zl2 (zaD zhq (by rfl) T.isinstance boot_isinstance (zab (pv 0) (zab (zoS (v:=.ty "str") (by rfl) T.str boot_str rfl) zah))) (zlV (zer zdK (pv 0) (pv 1) (zaU _))))))),zco (K:=(KX K)) (XO:=XO0) (E:=E) (np:=2) (nv:=0) (m:=ziw)
      (zaq (zbu (zay (zak zpF zac (zgl).r))
      (zaV (zak zpF zac (zgl).r))
      zaN)
      (zaV (znc (zpS zob zac) (zak zdL zac zac)))) rfl h⟩
abbrev zee:Stmt:=top 51
theorem sc_law_covers:FnScope ["_law_many","_law_sets_here","_law_way","_law_number_here","_law_chosen","_law_prices","_law_more","_law_handed","_law_found"] ["_law_many","_law_sets_here","_law_way","_law_number_here"] (zar zee):=⟨rfl,rfl,rfl,by decide +kernel,rfl,by decide +kernel,by decide +kernel⟩
theorem zi0 {f:Addr} {fd:FuncData} (F:Fun K "_law_covers" "_law_covers" zee f fd) (T:Txt K mg) (G_law_number:Has P w K mg base CX0 1 "_law_number" ["_law_cell","_law_k"] (spM (KX K) XO0 zaG)) (G_cover:Has P w K mg base CX0 5 "cover" ["many","sets"] (spO (KX K) XO0 zfg)) (G_cover_prices:Has P w K mg base CX0 6 "cover_prices" ["many","sets"] (spO (KX K) XO0 zb3)) (G_law_numbers_changed:Has P w K mg base CX0 1 "_law_numbers_changed" ["_law_some","_law_number_here","_law_size"] (spO (KX K) XO0 zaT)) (G_law_prices_changed:Has P w K mg base CX0 4 "_law_prices_changed" ["_law_prices","_law_number_here"] (spO (KX K) XO0 zbi)) (G_check_cover:Has P w K mg base CX0 6 "check_cover" ["many","sets","chosen","prices"] (spM (KX K) XO0 zcD)) (G_law_cover_word:Has P w K mg base CX0 4 "_law_cover_word" ["_law_many","_law_sets_here","_law_chosen","_law_prices"] (spM (KX K) XO0 zci)) (G_law_same:Has P w K mg base CX0 1 "_law_same" ["_law_found","_law_due"] (spM (KX K) XO0 zdj)):FnOk P w K mg base CX0 7 f fd ["_law_many","_law_sets_here","_law_way","_law_number_here"] (spM (KX K) XO0 zcS):=by
  refine F.ok sc_law_covers (fun vs H Q E h=>zbg h) (fun cdv A outer s H vs Q E hr h=>?_)
  have hu:=zbP hr
  exact ⟨_,(zae (zaH (i:=4) sc_law_covers.nd rfl (by first | exact Or.inl rfl | exact Or.inr rfl) (zaK G_cover (hr.mono (by decide)) (by rfl) za4 (zab (pv 0) (zab (pv 1) zah))))
      (zae (zaH (i:=5) sc_law_covers.nd rfl (by first | exact Or.inl rfl | exact Or.inr rfl) (zaK G_cover_prices (hr.mono (by decide)) (by rfl) za4 (zab (pv 0) (zab (pv 1) zah))))
      (zae (zbt (zaC zfo (zau za6 (pv 2) zag) zag (zaU _))
      (zam (zaH (i:=4) sc_law_covers.nd rfl (by first | exact Or.inl rfl | exact Or.inr rfl) (zaK G_law_numbers_changed (hr.mono (by decide)) (by rfl) za4 (zab (pv 4) (zab (pv 3) (zab (zaD zaz (by rfl) T.len PySem.boot_len (zab (pv 1) zah)) zah))))))
      zaO)
      (zae (zbt ((zje (zaC zdK (zau za6 (pv 2) zag) zag (zaU _)) (zgW (zaC zdK (zau za6 (pv 2) zag) zag (zaU _))))).pt
      (zam (zaH (i:=5) sc_law_covers.nd rfl (by first | exact Or.inl rfl | exact Or.inr rfl) (zaK G_law_prices_changed (hr.mono (by decide)) (by rfl) za4 (zab (pv 5) (zab (zaK G_law_number (hr.mono (by decide)) (by rfl) za4 (zab (pv 3) (zab zag zah))) zah)))))
      zaO)
      (zae (zaH (i:=6) sc_law_covers.nd rfl (by first | exact Or.inl rfl | exact Or.inr rfl) (zau zbN (pv 0) (zcv zm9 (by rfl) T.int boot_int (zab (zer zdK (zau za6 (zau za0 (pv 3) zag) zag) zag (zaU _)) zah))))
      (zae (zaH (i:=7) sc_law_covers.nd rfl (by first | exact Or.inl rfl | exact Or.inr rfl) (zcn (zab (zcv zb1 (by rfl) T.list boot_list (zab (pv 4) zah)) (zab (zcv zb1 (by rfl) T.list boot_list (zab (pv 5) zah)) (zab (zbA rfl (zbd (pv 1)) (zbV (zar zee) ["_law_many","_law_sets_here","_law_way","_law_number_here","_law_chosen","_law_prices","_law_more","_law_handed","_law_found"] ["_law_price","_law_things"] [] 2 rfl rfl rfl (by decide +kernel) (by decide +kernel) (by decide +kernel) rfl (by decide +kernel) (fun cl C s H fp pins=>(zcE rfl (zaL (zav (i:=0) (show List.Nodup (["_law_price","_law_things"]:List Str) by decide +kernel) rfl (Or.inl rfl)) (zaL (zav (i:=1) (show List.Nodup (["_law_price","_law_things"]:List Str) by decide +kernel) rfl (Or.inl rfl)) zbQ)))) (fun cl C s H fp pins=>(zcn (zab (pv 0) (zab (zcv zb1 (by rfl) T.list boot_list (zab (pv 1) zah)) zah)))) (Or.inl ⟨rfl,rfl⟩))) zah)))))
      (zae (zaH (i:=8) sc_law_covers.nd rfl (by first | exact Or.inl rfl | exact Or.inr rfl) (zaK G_check_cover (hr.mono (by decide)) (by rfl) za4 (zab (pv 6) (zab (za9 zba (pv 7) zag (fun _ _=>rfl)) (zab (za9 zba (pv 7) zag (fun _ _=>rfl)) (zab (za9 zba (pv 7) zag (fun _ _=>rfl)) zah))))))
      (zae (zbt (zaC (zmZ hr.units) (pv 7) (zcn (zab (pv 4) (zab (pv 5) (zab (pv 1) zah)))) (zaU _))
      (zam (zax zg1))
      zaO)
      (zam (zax (zaK G_law_same (hr.mono (by decide)) (by rfl) za4 (zab (pv 8) (zab (zaK G_law_cover_word (hr.mono (by decide)) (by rfl) za4 (zab (pv 6) (zab (pv 1) (zab (pv 4) (zab (pv 5) zah))))) zah))))))))))))),zco (K:=(KX K)) (XO:=XO0) (E:=E) (np:=4) (nv:=5) (m:=zgO)
      (zaq (zaQ ((zbZ (zad zaj (zad zaj zas)))).e zap)
      (zaq (zaQ ((zbZ (zad zaj (zad zaj zas)))).e zap)
      (zaq (zbu (zay (zak zfn ((zak za3 zac (zaf).r)).r (zaf).r))
      (zaQ ((zbZ (zad zaj (zad zaj (zad (zbD zb5 (zat zac zaB)) zas))))).e zap)
      zaN)
      (zaq (zbu (ziK (zay (zak zdL ((zak za3 zac (zaf).r)).r (zaf).r)) (zay (zak zdL ((zak za3 zac (zaf).r)).r (zaf).r)))
      (zaQ ((zbZ (zad zaj (zad (zaw (zad zaj (zad zaf zas))) zas)))).e zap)
      zaN)
      (zaq (zaQ (zak zbO zac ((zbD zp6 (zat ((zak zdL ((zak za3 ((zak zbL zac (zaf).r)).r (zaf).r)).r (zaf).r)).r zaB))).r) zap)
      (zaq (zaQ (zcF (zad ((zgf zeR (zat zac zaB))).e (zad ((zgf zeR (zat zac zaB))).e (zad ((zbf (zbw zac) (by decide) (zcL (zaP zaW (zaP zaW zb4))) (zgY (zb8 zbc (zb8 zbc zfj))) (Or.inl ⟨rfl,rfl⟩) (zcF (zad zaj (zad ((zgf zeR (zat zac zaB))).e zas))))).e zas)))) zap)
      (zaq (zaQ (zaw (zad zaj (zad (zak zbe zac (zaf).r) (zad (zak zbe zac (zaf).r) (zad (zak zbe zac (zaf).r) zas))))) zap)
      (zaq (zbu (zay (zak zmC zac ((zcF (zad zaj (zad zaj (zad zaj zas))))).r))
      (zaV zg2)
      zaN)
      (zaV (zaw (zad zaj (zad (zaw (zad zaj (zad zaj (zad zaj (zad zaj zas))))) zas)))))))))))) rfl h⟩
abbrev zfL:Stmt:=top 52
theorem sc_law_lines:FnScope ["_law_cells","_law_many","_law_found","_law_k","_law_cell","_law_number_here","_law_one","_law_other"] ["_law_cells","_law_many"] (zar zfL):=⟨rfl,rfl,rfl,by decide +kernel,rfl,by decide +kernel,by decide +kernel⟩
theorem zju {f:Addr} {fd:FuncData} (F:Fun K "_law_lines" "_law_lines" zfL f fd) (T:Txt K mg) (G_law_number:Has P w K mg base CX0 1 "_law_number" ["_law_cell","_law_k"] (spM (KX K) XO0 zaG)):FnOk P w K mg base CX0 2 f fd ["_law_cells","_law_many"] (spO (KX K) XO0 zdf):=by
  refine F.ok sc_law_lines (fun vs H Q E h=>zdA h) (fun cdv A outer s H vs Q E hr h=>?_)
  have hu:=zbP hr
  exact ⟨_,(zae (zaH (i:=2) sc_law_lines.nd rfl (by first | exact Or.inl rfl | exact Or.inr rfl) (zcm zah))
      (zae (zbY PassesOwn.never rfl (zhN rfl T.enumerate (zab (pv 0) zah)) (zcE rfl (zaL (zav (i:=3) sc_law_lines.nd rfl (by first | exact Or.inl rfl | exact Or.inr rfl)) (zaL (zav (i:=4) sc_law_lines.nd rfl (by first | exact Or.inl rfl | exact Or.inr rfl)) zbQ)))
      (zae (zaH (i:=5) sc_law_lines.nd rfl (by first | exact Or.inl rfl | exact Or.inr rfl) (zaK G_law_number (hr.mono (by decide)) (by rfl) za4 (zab (pv 4) (zab (zau zbN (pv 3) zag) zah))))
      (zae (zaH (i:=6) sc_law_lines.nd rfl (by first | exact Or.inl rfl | exact Or.inr rfl) (zau za6 (pv 5) (pv 1)))
      (zae (zaH (i:=7) sc_law_lines.nd rfl (by first | exact Or.inl rfl | exact Or.inr rfl) (zau za6 (zau zbN (zau zbN (pv 6) zag) (zau za6 (zau za0 (pv 5) (pv 1)) (zau zf9 (pv 1) zag))) (pv 1)))
      (zam (zeY (zkK PySem.F.plainAttrs_list PySem.F.slot_list_append PySem.F.type_list_append zdy (pv 2) (zab (zcn (zab (pv 6) (zab (pv 7) zah))) zah))))))))
      (zam (zax (pv 2))))),ze2 (K:=(KX K)) (XO:=XO0) (E:=E) (np:=2) (nv:=6) (m:=zhF)
      (zaq (ze3 (zbF zas))
      (zaq (zbW (zhA (zad zaj zas)) (zcL (zaP zap (zaP zap zb4)))
      (zaq (zaQ (zaw (zad zaj (zad (zak zbO zac (zaf).r) zas))) zap)
      (zaq (zaQ (zak za3 zac zac) zap)
      (zaq (zaQ (zak za3 ((zak zbO ((zak zbO zac (zaf).r)).r ((zak za3 ((zak zbL zac zac)).r ((zak zgp zac (zaf).r)).r)).r)).r zac) zap)
      (zfT (zcF (zad zaj (zad zaj zas))))))))
      zjm)) rfl h⟩
abbrev ziV:Stmt:=top 31
theorem sc_paying:FnScope ["prices","lines","left","paid","a","b","pay"] ["prices","lines"] (zar ziV):=⟨rfl,rfl,rfl,by decide +kernel,rfl,by decide +kernel,by decide +kernel⟩
theorem zmR {f:Addr} {fd:FuncData} (F:Fun K "paying" "paying" ziV f fd) (T:Txt K mg)  : FnOk P w K mg base CX0 1 f fd ["prices","lines"] (spM (KX K) XO0 zek):=by
  refine F.ok sc_paying (fun vs H Q E h=>zbg h) (fun cdv A outer s H vs Q E hr h=>?_)
  have hu:=zbP hr
  exact ⟨_,(zae (zaH (i:=2) sc_paying.nd rfl (by first | exact Or.inl rfl | exact Or.inr rfl) (zcv zb1 (by rfl) T.list boot_list (zab (pv 0) zah)))
      (zae (zaH (i:=3) sc_paying.nd rfl (by first | exact Or.inl rfl | exact Or.inr rfl) (zcm zah))
      (zae (zbY PassesOwn.never rfl (zbd (pv 1)) (zcE rfl (zaL (zav (i:=4) sc_paying.nd rfl (by first | exact Or.inl rfl | exact Or.inr rfl)) (zaL (zav (i:=5) sc_paying.nd rfl (by first | exact Or.inl rfl | exact Or.inr rfl)) zbQ)))
      (zae (zaH (i:=6) sc_paying.nd rfl (by first | exact Or.inl rfl | exact Or.inr rfl) (zaD (zmU rfl) (by rfl) T.min boot_min (zab (za9 zbz (pv 2) (pv 4) (fun _ _=>rfl)) (zab (za9 zbz (pv 2) (pv 5) (fun _ _=>rfl)) zah))))
      (zae (znt (pv 2) (pv 4) zlr (pv 6) zoM zgr)
      (zae (znt (pv 2) (pv 5) zlr (pv 6) zoM zgr)
      (zam (zeY (zkK PySem.F.plainAttrs_list PySem.F.slot_list_append PySem.F.type_list_append zdy (pv 3) (zab (pv 6) zah))))))))
      (zam (zax (zcn (zab (pv 3) (zab (pv 2) zah)))))))),zco (K:=(KX K)) (XO:=XO0) (E:=E) (np:=2) (nv:=5) (m:=zlb)
      (zaq (ze3 (zgf zeR (zat zac zaB)))
      (zaq (ze3 (zbF zas))
      (zaq (zbW (zcH zaj) (zcL (zaP zap (zaP zap zb4)))
      (zaq (zaQ (zbD zpA (zat ((zak zch zac zac)).r (zat ((zak zch zac zac)).r zaB))) zap)
      (zaq (zmc zaj zaj)
      (zaq (zmc zaj zaj)
      (zfT zaj)))))
      (zoI (i:=3) (zoI (i:=2) (zaV (zcF (zad zaj (zad zaj zas))))))))) rfl h⟩
abbrev zfx:Stmt:=top 33
theorem sc_touching:FnScope ["prices","lines","left","ends","a","b"] ["prices","lines"] (zar zfx):=⟨rfl,rfl,rfl,by decide +kernel,rfl,by decide +kernel,by decide +kernel⟩
theorem zkF {f:Addr} {fd:FuncData} (F:Fun K "touching" "touching" zfx f fd) (T:Txt K mg) (G_paying:Has P w K mg base CX0 1 "paying" ["prices","lines"] (spM (KX K) XO0 zek)):FnOk P w K mg base CX0 2 f fd ["prices","lines"] (spO (KX K) XO0 zdP):=by
  refine F.ok sc_touching (fun vs H Q E h=>zdA h) (fun cdv A outer s H vs Q E hr h=>?_)
  have hu:=zbP hr
  exact ⟨_,(zae (zaH (i:=2) sc_touching.nd rfl (by first | exact Or.inl rfl | exact Or.inr rfl) (za9 zba (zaK G_paying (hr.mono (by decide)) (by rfl) za4 (zab (pv 0) (zab (pv 1) zah))) zag (fun _ _=>rfl)))
      (zae (zaH (i:=3) sc_touching.nd rfl (by first | exact Or.inl rfl | exact Or.inr rfl) zhd)
      (zae (zbY PassesOwn.never rfl (zbd (pv 1)) (zcE rfl (zaL (zav (i:=4) sc_touching.nd rfl (by first | exact Or.inl rfl | exact Or.inr rfl)) (zaL (zav (i:=5) sc_touching.nd rfl (by first | exact Or.inl rfl | exact Or.inr rfl)) zbQ)))
      (zae (zhO hu (pv 3) (pv 4) zg1 rfl)
      (zam (zhO hu (pv 3) (pv 5) zg1 rfl))))
      (zam (zax (zbA rfl (zcs rfl T.range (zab (zaD zaz (by rfl) T.len PySem.boot_len (zab (pv 0) zah)) zah)) (zbV (zar zfx) ["prices","lines","left","ends","a","b"] ["ends","left","point"] [3,2] 1 rfl rfl rfl (by decide +kernel) (by decide +kernel) (by decide +kernel) rfl (by decide +kernel) (fun cl C s H fp pins=>(zav (i:=2) (show List.Nodup (["ends","left","point"]:List Str) by decide +kernel) rfl (Or.inl rfl))) (fun cl C s H fp pins=>(pv 2)) (Or.inr ⟨_,_,rfl,rfl,fun cl C s H fp pins=>((zk0 (zmv (zoA hu (pv 2) (pv 0))) (zjk (zaC zdK (za9 zbz (pv 1) (pv 2) (fun _ _=>rfl)) zag (zaU _))))).pt⟩)))))))),ze2 (K:=(KX K)) (XO:=XO0) (E:=E) (np:=2) (nv:=4) (m:=ziA)
      (zaq (zaQ (zak zbe ((zaw (zad zaj (zad zaj zas)))).r (zaf).r) zap)
      (zaq (ze3 zg8)
      (zaq (zbW (zcH zaj) (zcL (zaP zap (zaP zap zb4)))
      (zaq (zhu zaj zg2)
      (zhu zaj zg2)))
      (zcu (zbf (zcp len1 (zad (zbD zb5 (zat zac zaB)) zas)).c (by decide) zaW zbc (Or.inr ⟨_,_,rfl,rfl,(zk1 (st_b (zoi zaj zac)) (zay (zak zdL ((zak zch zac zac)).r (zaf).r)))⟩) zaj))))) rfl h⟩
abbrev zeM:Stmt:=top 32
theorem zhY:FnScope ["prices","lines"] ["prices","lines"] (zar zeM):=⟨rfl,rfl,rfl,by decide +kernel,rfl,by decide +kernel,by decide +kernel⟩
theorem zh5 {f:Addr} {fd:FuncData} (F:Fun K "line_prices" "line_prices" zeM f fd) (T:Txt K mg) (G_paying:Has P w K mg base CX0 1 "paying" ["prices","lines"] (spM (KX K) XO0 zek)):FnOk P w K mg base CX0 2 f fd ["prices","lines"] (spM (KX K) XO0 zcB):=by
  refine F.ok zhY (fun vs H Q E h=>zbg h) (fun cdv A outer s H vs Q E hr h=>?_)
  have hu:=zbP hr
  exact ⟨_,(zam (zax (za9 zba (zaK G_paying (hr.mono (by decide)) (by rfl) za4 (zab (pv 0) (zab (pv 1) zah))) zag (fun _ _=>rfl)))),zco (K:=(KX K)) (XO:=XO0) (E:=E) (np:=2) (nv:=0) (m:=zgk)
      (zaV (zak zbe ((zaw (zad zaj (zad zaj zas)))).r (zaf).r)) rfl h⟩
abbrev zc4:Stmt:=top 53
theorem sc_law_paid_changed:FnScope ["_law_paid","_law_number_here","_law_at","_law_step"] ["_law_paid","_law_number_here"] (zar zc4):=⟨rfl,rfl,rfl,by decide +kernel,rfl,by decide +kernel,by decide +kernel⟩
theorem zfQ {f:Addr} {fd:FuncData} (F:Fun K "_law_paid_changed" "_law_paid_changed" zc4 f fd) (T:Txt K mg)  : FnOk P w K mg base CX0 1 f fd ["_law_paid","_law_number_here"] (spO (KX K) XO0 zbB):=by
  refine F.ok sc_law_paid_changed (fun vs H Q E h=>zdA h) (fun cdv A outer s H vs Q E hr h=>?_)
  have hu:=zbP hr
  exact ⟨_,(zae (zbt (zaC (zmQ hr.units) (pv 0) (zcm zah) (zaU _))
      (zam (zax (zbr zbR (zcm (zab (zau zf9 (zau za6 (pv 1) zag) zag) zah)) zb9 (zbG (zau za6 (pv 1) zag)))))
      zaO)
      (zae (zaH (i:=2) sc_law_paid_changed.nd rfl (by first | exact Or.inl rfl | exact Or.inr rfl) (zau za6 (zau za0 (pv 1) zag) (zaD zaz (by rfl) T.len PySem.boot_len (zab (pv 0) zah))))
      (zae (zbt (zaC zdK (zau za6 (pv 1) zag) zag (zaU _))
      (zam (zax (zau zcG (zbr zbR (pv 0) zb9 (zbG (pv 2))) (zbr zbR (pv 0) (zbG (zau zbN (pv 2) zag)) zb9))))
      zaO)
      (zae (zbt (zaC zdK (zau za6 (pv 1) zag) zag (zaU _))
      (zam (zax (zau zcG (zau zcG (zbr zbR (pv 0) zb9 (zbG (pv 2))) (zcm (zab zag zah))) (zbr zbR (pv 0) (zbG (pv 2)) zb9))))
      zaO)
      (zae (zaH (i:=3) sc_law_paid_changed.nd rfl (by first | exact Or.inl rfl | exact Or.inr rfl) (za9 zbz (zcm (zab zag (zab (zpm zmb zag) (zab (zau zf9 (zau zf9 zag (za9 zbz (pv 0) (pv 2) (fun _ _=>rfl))) zag) (zab (zau zbN (za9 zbz (pv 0) (pv 2) (fun _ _=>rfl)) zag) (zab (zau zf9 zag (zau za0 (za9 zbz (pv 0) (pv 2) (fun _ _=>rfl)) zag)) zah)))))) (zau za6 (zau za0 (pv 1) zag) zag) (fun _ _=>rfl)))
      (zam (zax (zau zcG (zau zcG (zbr zbR (pv 0) zb9 (zbG (pv 2))) (zcm (zab (zau zbN (za9 zbz (pv 0) (pv 2) (fun _ _=>rfl)) (pv 3)) zah))) (zbr zbR (pv 0) (zbG (zau zbN (pv 2) zag)) zb9))))))))),ze2 (K:=(KX K)) (XO:=XO0) (E:=E) (np:=2) (nv:=2) (m:=zec)
      (zaq (zbu (zay (zak zl4 zac ((zbF zas)).e.r))
      (zcu (zbh ((zbF (zad (zak zgp ((zak za3 zac (zaf).r)).r (zaf).r) zas))).e.r zeE (zbI (zak za3 zac (zaf).r))))
      zaN)
      (zaq (zaQ (zak za3 ((zak zbL zac (zaf).r)).r ((zbD zb5 (zat zac zaB))).r) zap)
      (zaq (zbu (zay (zak zdL ((zak za3 zac (zaf).r)).r (zaf).r))
      (zcu (zdF zdG ((zbh zac zeE (zbI zaj))).e.r ((zbh zac (zbI (zak zbO zac (zaf).r)) zeE)).e.r))
      zaN)
      (zaq (zbu (zay (zak zdL ((zak za3 zac (zaf).r)).r (zaf).r))
      (zcu (zdF zdG ((zdF zdG ((zbh zac zeE (zbI zaj))).e.r ((zbF (zad zaf zas))).e.r)).e.r ((zbh zac (zbI zaj) zeE)).e.r))
      zaN)
      (zaq (zaQ (zak zch ((zbF (zad zaf (zad (zoW zml (zaf).r) (zad (zak zgp ((zak zgp (zaf).r ((zak zch zac zac)).r)).r (zaf).r) (zad (zak zbO ((zak zch zac zac)).r (zaf).r) (zad (zak zgp (zaf).r ((zak zbL ((zak zch zac zac)).r (zaf).r)).r) zas))))))).e.r ((zak za3 ((zak zbL zac (zaf).r)).r (zaf).r)).r) zap)
      (zcu (zdF zdG ((zdF zdG ((zbh zac zeE (zbI zaj))).e.r ((zbF (zad (zak zbO ((zak zch zac zac)).r zac) zas))).e.r)).e.r ((zbh zac (zbI (zak zbO zac (zaf).r)) zeE)).e.r))))))) rfl h⟩
abbrev zgd:Stmt:=top 28
theorem zlU:FnScope ["point","lines","paid"] ["point","lines","paid"] (zar zgd):=⟨rfl,rfl,rfl,by decide +kernel,rfl,by decide +kernel,by decide +kernel⟩
theorem zlQ {f:Addr} {fd:FuncData} (F:Fun K "paid_at" "paid_at" zgd f fd) (T:Txt K mg)  : FnOk P w K mg base CX0 1 f fd ["point","lines","paid"] (spM (KX K) XO0 zeD):=by
  refine F.ok zlU (fun vs H Q E h=>zbg h) (fun cdv A outer s H vs Q E hr h=>?_)
  have hu:=zbP hr
  exact ⟨_,(zam (zax (zaD (zbx rfl) (by rfl) T.sum boot_sum (zab (zbA rfl (zoQ rfl T.zip (zab (pv 1) (zab (pv 2) zah))) (zbV (zar zgd) ["point","lines","paid"] ["point","line","pay"] [0] 2 rfl rfl rfl (by decide +kernel) (by decide +kernel) (by decide +kernel) rfl (by decide +kernel) (fun cl C s H fp pins=>(zcE rfl (zaL (zav (i:=1) (show List.Nodup (["point","line","pay"]:List Str) by decide +kernel) rfl (Or.inl rfl)) (zaL (zav (i:=2) (show List.Nodup (["point","line","pay"]:List Str) by decide +kernel) rfl (Or.inl rfl)) zbQ)))) (fun cl C s H fp pins=>(pv 2)) (Or.inr ⟨_,_,rfl,rfl,fun cl C s H fp pins=>(zaC zf6 (pv 0) (pv 1) (by with_unfolding_all rfl))⟩))) zah)))),zco (K:=(KX K)) (XO:=XO0) (E:=E) (np:=3) (nv:=0) (m:=zjH)
      (zaV (zbD zfD (zat ((zbf (zm6 (zat zac (zat zac zaB))) (by decide) (zcL (zaP zaW (zaP zaW zb4))) (zgY (zb8 zbc (zb8 zbc zfj))) (Or.inr ⟨_,_,rfl,rfl,(zay (zak zn6 zac zac))⟩) zaj)).e.r zaB))) rfl h⟩
abbrev zcA:Stmt:=top 29
theorem sc_check_touch:FnScope ["prices","lines","chosen","paid","point","price"] ["prices","lines","chosen","paid"] (zar zcA):=⟨rfl,rfl,rfl,by decide +kernel,rfl,by decide +kernel,by decide +kernel⟩
theorem zh1 {f:Addr} {fd:FuncData} (F:Fun K "check_touch" "check_touch" zcA f fd) (T:Txt K mg) (G_unlike_below:Has P w K mg base CX0 2 "unlike_below" ["numbers","count"] (spM (KX K) XO0 zby)) (G_paid_at:Has P w K mg base CX0 1 "paid_at" ["point","lines","paid"] (spM (KX K) XO0 zeD)):FnOk P w K mg base CX0 3 f fd ["prices","lines","chosen","paid"] (spM (KX K) XO0 zcx):=by
  refine F.ok sc_check_touch (fun vs H Q E h=>zbg h) (fun cdv A outer s H vs Q E hr h=>?_)
  have hu:=zbP hr
  exact ⟨_,(zae (zbt (zig (ze7 (zaK G_unlike_below (hr.mono (by decide)) (by rfl) za4 (zab (pv 2) (zab (zaD zaz (by rfl) T.len PySem.boot_len (zab (pv 0) zah)) zah)))))
      (zam (zax zcR))
      zaO)
      (zae (zbt (ze7 (zaD (zf3 rfl) (by rfl) T.any boot_any (zab (zbA rfl (zbd (pv 1)) (zbV (zar zcA) ["prices","lines","chosen","paid","point","price"] ["chosen","a","b"] [2] 2 rfl rfl rfl (by decide +kernel) (by decide +kernel) (by decide +kernel) rfl (by decide +kernel) (fun cl C s H fp pins=>(zcE rfl (zaL (zav (i:=1) (show List.Nodup (["chosen","a","b"]:List Str) by decide +kernel) rfl (Or.inl rfl)) (zaL (zav (i:=2) (show List.Nodup (["chosen","a","b"]:List Str) by decide +kernel) rfl (Or.inl rfl)) zbQ)))) (fun cl C s H fp pins=>(zl2 (zer zdv (pv 1) (pv 0) (by with_unfolding_all rfl)) (zlV (zer zdv (pv 2) (pv 0) (by with_unfolding_all rfl))))) (Or.inl ⟨rfl,rfl⟩))) zah)))
      (zam (zax zcR))
      zaO)
      (zae (zbt ((zje (zaC znB (zaD zaz (by rfl) T.len PySem.boot_len (zab (pv 3) zah)) (zaD zaz (by rfl) T.len PySem.boot_len (zab (pv 1) zah)) (zaU _)) (zgW (ze7 (zaD (zf3 rfl) (by rfl) T.any boot_any (zab (zbA rfl (zbd (pv 3)) (zbV (zar zcA) ["prices","lines","chosen","paid","point","price"] ["pay"] [] 1 rfl rfl rfl (by decide +kernel) (by decide +kernel) (by decide +kernel) rfl (by decide +kernel) (fun cl C s H fp pins=>(zav (i:=0) (show List.Nodup (["pay"]:List Str) by decide +kernel) rfl (Or.inl rfl))) (fun cl C s H fp pins=>(zer zhG (pv 0) zag (zaU _))) (Or.inl ⟨rfl,rfl⟩))) zah)))))).pt
      (zam (zax zcR))
      zaO)
      (zae (zbY PassesOwn.never rfl (zhN rfl T.enumerate (zab (pv 0) zah)) (zcE rfl (zaL (zav (i:=4) sc_check_touch.nd rfl (by first | exact Or.inl rfl | exact Or.inr rfl)) (zaL (zav (i:=5) sc_check_touch.nd rfl (by first | exact Or.inl rfl | exact Or.inr rfl)) zbQ)))
      (zam (zbt (zaC zfo (zaK G_paid_at (hr.mono (by decide)) (by rfl) za4 (zab (pv 4) (zab (pv 1) (zab (pv 3) zah)))) (pv 5) (zaU _))
      (zam (zax zcR))
      zaO)))
      (zae (zbt (zaC zfo (zaD (zbx rfl) (by rfl) T.sum boot_sum (zab (zbA rfl (zbd (pv 2)) (zbV (zar zcA) ["prices","lines","chosen","paid","point","price"] ["prices","point"] [0] 1 rfl rfl rfl (by decide +kernel) (by decide +kernel) (by decide +kernel) rfl (by decide +kernel) (fun cl C s H fp pins=>(zav (i:=1) (show List.Nodup (["prices","point"]:List Str) by decide +kernel) rfl (Or.inl rfl))) (fun cl C s H fp pins=>(za9 zbz (pv 0) (pv 1) (fun _ _=>rfl))) (Or.inl ⟨rfl,rfl⟩))) zah)) (zau zbo zag (zaD (zbx rfl) (by rfl) T.sum boot_sum (zab (pv 3) zah))) (zaU _))
      (zam (zax zcR))
      zaO)
      (zam (zax zfU))))))),zco (K:=(KX K)) (XO:=XO0) (E:=E) (np:=4) (nv:=2) (m:=zfX)
      (zaq (zbu (zio (st_b (zaw (zad zaj (zad (zbD zb5 (zat zac zaB)) zas)))))
      (zaV zcT)
      zaN)
      (zaq (zbu (st_b (zbD zkX (zat ((zbf (zbw zac) (by decide) (zcL (zaP zaW (zaP zaW zb4))) (zgY (zb8 zbc (zb8 zbc zfj))) (Or.inl ⟨rfl,rfl⟩) (znc (zak zf1 zac zac) (zak zf1 zac zac)))).e.r zaB)))
      (zaV zcT)
      zaN)
      (zaq (zbu (ziK (zay (zak znV ((zbD zb5 (zat zac zaB))).r ((zbD zb5 (zat zac zaB))).r)) (st_b (zbD zkX (zat ((zbf (zbw zac) (by decide) zaW zbc (Or.inl ⟨rfl,rfl⟩) (zak zhJ zac (zaf).r))).e.r zaB))))
      (zaV zcT)
      zaN)
      (zaq (zbW (zhA (zad zaj zas)) (zcL (zaP zap (zaP zap zb4)))
      (zbu (zay (zak zfn ((zaw (zad zaj (zad zaj (zad zaj zas))))).r zac))
      (zaV zcT)
      zaN))
      (zaq (zbu (zay (zak zfn ((zbD zfD (zat ((zbf (zbw zac) (by decide) zaW zbc (Or.inl ⟨rfl,rfl⟩) (zak zch zac zac))).e.r zaB))).r ((zak zb0 (zaf).r ((zbD zfD (zat zac zaB))).r)).r))
      (zaV zcT)
      zaN)
      (zaV zgl)))))) rfl h⟩
abbrev zbU:Stmt:=top 46
theorem sc_law_touch_word:FnScope ["_law_prices","_law_lines_here","_law_chosen","_law_paid","_law_one","_law_other","_law_point","_law_price"] ["_law_prices","_law_lines_here","_law_chosen","_law_paid"] (zar zbU):=⟨rfl,rfl,rfl,by decide +kernel,rfl,by decide +kernel,by decide +kernel⟩
theorem zgC {f:Addr} {fd:FuncData} (F:Fun K "_law_touch_word" "_law_touch_word" zbU f fd) (T:Txt K mg) (G_law_unlike:Has P w K mg base CX0 1 "_law_unlike" ["_law_some","_law_many"] (spM (KX K) XO0 zbX)):FnOk P w K mg base CX0 2 f fd ["_law_prices","_law_lines_here","_law_chosen","_law_paid"] (spM (KX K) XO0 zcj):=by
  refine F.ok sc_law_touch_word (fun vs H Q E h=>zbg h) (fun cdv A outer s H vs Q E hr h=>?_)
  have hu:=zbP hr
  exact ⟨_,(zae (zbt (zig (ze7 (zaK G_law_unlike (hr.mono (by decide)) (by rfl) za4 (zab (pv 2) (zab (zaD zaz (by rfl) T.len PySem.boot_len (zab (pv 0) zah)) zah)))))
      (zam (zax zcR))
      zaO)
      (zae (zbY PassesOwn.never rfl (zbd (pv 1)) (zcE rfl (zaL (zav (i:=4) sc_law_touch_word.nd rfl (by first | exact Or.inl rfl | exact Or.inr rfl)) (zaL (zav (i:=5) sc_law_touch_word.nd rfl (by first | exact Or.inl rfl | exact Or.inr rfl)) zbQ)))
      (zam (zbt ((zk0 (zaC zdv (pv 4) (pv 2) (by with_unfolding_all rfl)) (zjk (zaC zdv (pv 5) (pv 2) (by with_unfolding_all rfl))))).pt
      (zam (zax zcR))
      zaO)))
      (zae (zbt ((zje (zaC znB (zaD zaz (by rfl) T.len PySem.boot_len (zab (pv 3) zah)) (zaD zaz (by rfl) T.len PySem.boot_len (zab (pv 1) zah)) (zaU _)) (zgW (zaC zfo (zaD zaz (by rfl) T.len PySem.boot_len (zab (zbA rfl (zbd (pv 3)) (zbV (zar zbU) ["_law_prices","_law_lines_here","_law_chosen","_law_paid","_law_one","_law_other","_law_point","_law_price"] ["_law_much"] [] 1 rfl rfl rfl (by decide +kernel) (by decide +kernel) (by decide +kernel) rfl (by decide +kernel) (fun cl C s H fp pins=>(zav (i:=0) (show List.Nodup (["_law_much"]:List Str) by decide +kernel) rfl (Or.inl rfl))) (fun cl C s H fp pins=>zag) (Or.inr ⟨_,_,rfl,rfl,fun cl C s H fp pins=>(zaC zhG (pv 0) zag (zaU _))⟩))) zah)) zag (zaU _))))).pt
      (zam (zax zcR))
      zaO)
      (zae (zbY PassesOwn.never rfl (zhN rfl T.enumerate (zab (pv 0) zah)) (zcE rfl (zaL (zav (i:=6) sc_law_touch_word.nd rfl (by first | exact Or.inl rfl | exact Or.inr rfl)) (zaL (zav (i:=7) sc_law_touch_word.nd rfl (by first | exact Or.inl rfl | exact Or.inr rfl)) zbQ)))
      (zam (zbt (zaC zfo (zaD (zbx rfl) (by rfl) T.sum boot_sum (zab (zbA rfl (zoQ rfl T.zip (zab (pv 1) (zab (pv 3) zah))) (zbV (zar zbU) ["_law_prices","_law_lines_here","_law_chosen","_law_paid","_law_one","_law_other","_law_point","_law_price"] ["_law_point","_law_line","_law_much"] [6] 2 rfl rfl rfl (by decide +kernel) (by decide +kernel) (by decide +kernel) rfl (by decide +kernel) (fun cl C s H fp pins=>(zcE rfl (zaL (zav (i:=1) (show List.Nodup (["_law_point","_law_line","_law_much"]:List Str) by decide +kernel) rfl (Or.inl rfl)) (zaL (zav (i:=2) (show List.Nodup (["_law_point","_law_line","_law_much"]:List Str) by decide +kernel) rfl (Or.inl rfl)) zbQ)))) (fun cl C s H fp pins=>(pv 2)) (Or.inr ⟨_,_,rfl,rfl,fun cl C s H fp pins=>(zaC zf6 (pv 0) (pv 1) (by with_unfolding_all rfl))⟩))) zah)) (pv 7) (zaU _))
      (zam (zax zcR))
      zaO)))
      (zae (zbt (zaC zfo (zaD (zbx rfl) (by rfl) T.sum boot_sum (zab (zbA rfl (zbd (pv 2)) (zbV (zar zbU) ["_law_prices","_law_lines_here","_law_chosen","_law_paid","_law_one","_law_other","_law_point","_law_price"] ["_law_prices","_law_point"] [0] 1 rfl rfl rfl (by decide +kernel) (by decide +kernel) (by decide +kernel) rfl (by decide +kernel) (fun cl C s H fp pins=>(zav (i:=1) (show List.Nodup (["_law_prices","_law_point"]:List Str) by decide +kernel) rfl (Or.inl rfl))) (fun cl C s H fp pins=>(za9 zbz (pv 0) (pv 1) (fun _ _=>rfl))) (Or.inl ⟨rfl,rfl⟩))) zah)) (zau zbo zag (zaD (zbx rfl) (by rfl) T.sum boot_sum (zab (pv 3) zah))) (zaU _))
      (zam (zax zcR))
      zaO)
      (zam (zax zfU))))))),zco (K:=(KX K)) (XO:=XO0) (E:=E) (np:=4) (nv:=4) (m:=ze4)
      (zaq (zbu (zio (st_b (zaw (zad zaj (zad (zbD zb5 (zat zac zaB)) zas)))))
      (zaV zcT)
      zaN)
      (zaq (zbW (zcH zaj) (zcL (zaP zap (zaP zap zb4)))
      (zbu (zk1 (zay (zak zf1 zac zac)) (zay (zak zf1 zac zac)))
      (zaV zcT)
      zaN))
      (zaq (zbu (ziK (zay (zak znV ((zbD zb5 (zat zac zaB))).r ((zbD zb5 (zat zac zaB))).r)) (zay (zak zfn ((zbD zb5 (zat ((zbf (zbw zac) (by decide) zaW zbc (Or.inr ⟨_,_,rfl,rfl,(zay (zak zhJ zac (zaf).r))⟩) zaf)).e.r zaB))).r (zaf).r)))
      (zaV zcT)
      zaN)
      (zaq (zbW (zhA (zad zaj zas)) (zcL (zaP zap (zaP zap zb4)))
      (zbu (zay (zak zfn ((zbD zfD (zat ((zbf (zm6 (zat zac (zat zac zaB))) (by decide) (zcL (zaP zaW (zaP zaW zb4))) (zgY (zb8 zbc (zb8 zbc zfj))) (Or.inr ⟨_,_,rfl,rfl,(zay (zak zn6 zac zac))⟩) zaj)).e.r zaB))).r zac))
      (zaV zcT)
      zaN))
      (zaq (zbu (zay (zak zfn ((zbD zfD (zat ((zbf (zbw zac) (by decide) zaW zbc (Or.inl ⟨rfl,rfl⟩) (zak zch zac zac))).e.r zaB))).r ((zak zb0 (zaf).r ((zbD zfD (zat zac zaB))).r)).r))
      (zaV zcT)
      zaN)
      (zaV zgl)))))) rfl h⟩
abbrev zeT:Stmt:=top 54
theorem sc_law_touches:FnScope ["_law_prices","_law_lines_here","_law_way","_law_number_here","_law_chosen","_law_paid","_law_handed","_law_found"] ["_law_prices","_law_lines_here","_law_way","_law_number_here"] (zar zeT):=⟨rfl,rfl,rfl,by decide +kernel,rfl,by decide +kernel,by decide +kernel⟩
theorem zhX {f:Addr} {fd:FuncData} (F:Fun K "_law_touches" "_law_touches" zeT f fd) (T:Txt K mg) (G_law_number:Has P w K mg base CX0 1 "_law_number" ["_law_cell","_law_k"] (spM (KX K) XO0 zaG)) (G_law_numbers_changed:Has P w K mg base CX0 1 "_law_numbers_changed" ["_law_some","_law_number_here","_law_size"] (spO (KX K) XO0 zaT)) (G_law_same:Has P w K mg base CX0 1 "_law_same" ["_law_found","_law_due"] (spM (KX K) XO0 zdj)) (G_touching:Has P w K mg base CX0 2 "touching" ["prices","lines"] (spO (KX K) XO0 zdP)) (G_line_prices:Has P w K mg base CX0 2 "line_prices" ["prices","lines"] (spM (KX K) XO0 zcB)) (G_law_paid_changed:Has P w K mg base CX0 1 "_law_paid_changed" ["_law_paid","_law_number_here"] (spO (KX K) XO0 zbB)) (G_check_touch:Has P w K mg base CX0 3 "check_touch" ["prices","lines","chosen","paid"] (spM (KX K) XO0 zcx)) (G_law_touch_word:Has P w K mg base CX0 2 "_law_touch_word" ["_law_prices","_law_lines_here","_law_chosen","_law_paid"] (spM (KX K) XO0 zcj)):FnOk P w K mg base CX0 4 f fd ["_law_prices","_law_lines_here","_law_way","_law_number_here"] (spM (KX K) XO0 zcC):=by
  refine F.ok sc_law_touches (fun vs H Q E h=>zbg h) (fun cdv A outer s H vs Q E hr h=>?_)
  have hu:=zbP hr
  exact ⟨_,(zae (zaH (i:=4) sc_law_touches.nd rfl (by first | exact Or.inl rfl | exact Or.inr rfl) (zaK G_touching (hr.mono (by decide)) (by rfl) za4 (zab (pv 0) (zab (pv 1) zah))))
      (zae (zaH (i:=5) sc_law_touches.nd rfl (by first | exact Or.inl rfl | exact Or.inr rfl) (zaK G_line_prices (hr.mono (by decide)) (by rfl) za4 (zab (pv 0) (zab (pv 1) zah))))
      (zae (zbt (zaC zfo (zau za6 (pv 2) zag) zag (zaU _))
      (zam (zaH (i:=4) sc_law_touches.nd rfl (by first | exact Or.inl rfl | exact Or.inr rfl) (zaK G_law_numbers_changed (hr.mono (by decide)) (by rfl) za4 (zab (pv 4) (zab (pv 3) (zab (zaD zaz (by rfl) T.len PySem.boot_len (zab (pv 0) zah)) zah))))))
      zaO)
      (zae (zbt ((zje (zaC zdK (zau za6 (pv 2) zag) zag (zaU _)) (zgW (zaC zdK (zau za6 (pv 2) zag) zag (zaU _))))).pt
      (zam (zaH (i:=5) sc_law_touches.nd rfl (by first | exact Or.inl rfl | exact Or.inr rfl) (zaK G_law_paid_changed (hr.mono (by decide)) (by rfl) za4 (zab (pv 5) (zab (zaK G_law_number (hr.mono (by decide)) (by rfl) za4 (zab (pv 3) (zab zag zah))) zah)))))
      zaO)
      (zae (zaH (i:=6) sc_law_touches.nd rfl (by first | exact Or.inl rfl | exact Or.inr rfl) (zcn (zab (zcv zb1 (by rfl) T.list boot_list (zab (pv 4) zah)) (zab (zcv zb1 (by rfl) T.list boot_list (zab (pv 5) zah)) (zab (zcv zb1 (by rfl) T.list boot_list (zab (pv 0) zah)) (zab (zcv zb1 (by rfl) T.list boot_list (zab (pv 1) zah)) zah))))))
      (zae (zaH (i:=7) sc_law_touches.nd rfl (by first | exact Or.inl rfl | exact Or.inr rfl) (zaK G_check_touch (hr.mono (by decide)) (by rfl) za4 (zab (za9 zba (pv 6) zag (fun _ _=>rfl)) (zab (za9 zba (pv 6) zag (fun _ _=>rfl)) (zab (za9 zba (pv 6) zag (fun _ _=>rfl)) (zab (za9 zba (pv 6) zag (fun _ _=>rfl)) zah))))))
      (zae (zbt (zaC (zmZ hr.units) (pv 6) (zcn (zab (pv 4) (zab (pv 5) (zab (pv 0) (zab (pv 1) zah))))) (zaU _))
      (zam (zax zg1))
      zaO)
      (zam (zax (zaK G_law_same (hr.mono (by decide)) (by rfl) za4 (zab (pv 7) (zab (zaK G_law_touch_word (hr.mono (by decide)) (by rfl) za4 (zab (pv 0) (zab (pv 1) (zab (pv 4) (zab (pv 5) zah))))) zah)))))))))))),zco (K:=(KX K)) (XO:=XO0) (E:=E) (np:=4) (nv:=4) (m:=zfS)
      (zaq (zaQ ((zbZ (zad zaj (zad zaj zas)))).e zap)
      (zaq (zaQ (zaw (zad zaj (zad zaj zas))) zap)
      (zaq (zbu (zay (zak zfn ((zak za3 zac (zaf).r)).r (zaf).r))
      (zaQ ((zbZ (zad zaj (zad zaj (zad (zbD zb5 (zat zac zaB)) zas))))).e zap)
      zaN)
      (zaq (zbu (ziK (zay (zak zdL ((zak za3 zac (zaf).r)).r (zaf).r)) (zay (zak zdL ((zak za3 zac (zaf).r)).r (zaf).r)))
      (zaQ ((zbZ (zad zaj (zad (zaw (zad zaj (zad zaf zas))) zas)))).e zap)
      zaN)
      (zaq (zaQ (zcF (zad ((zgf zeR (zat zac zaB))).e (zad ((zgf zeR (zat zac zaB))).e (zad ((zgf zeR (zat zac zaB))).e (zad ((zgf zeR (zat zac zaB))).e zas))))) zap)
      (zaq (zaQ (zaw (zad (zak zbe zac (zaf).r) (zad (zak zbe zac (zaf).r) (zad (zak zbe zac (zaf).r) (zad (zak zbe zac (zaf).r) zas))))) zap)
      (zaq (zbu (zay (zak zmC zac ((zcF (zad zaj (zad zaj (zad zaj (zad zaj zas)))))).r))
      (zaV zg2)
      zaN)
      (zaV (zaw (zad zaj (zad (zaw (zad zaj (zad zaj (zad zaj (zad zaj zas))))) zas))))))))))) rfl h⟩
abbrev zh0:Stmt:=top 55
theorem sc_law:FnScope ["_law_script","_law_many","_law_sets_here","_law_k","_law_number_here","_law_points","_law_prices","_law_lines_here"] ["_law_script"] (zar zh0):=⟨rfl,rfl,rfl,by decide +kernel,rfl,by decide +kernel,by decide +kernel⟩
theorem zq2 {f:Addr} {fd:FuncData} (F:Fun K "law" "law" zh0 f fd) (T:Txt K mg) (G_law_cell_at:Has P w K mg base CX0 1 "_law_cell_at" ["_law_script","_law_k"] (spM (KX K) XO0 zaF)) (G_law_number:Has P w K mg base CX0 1 "_law_number" ["_law_cell","_law_k"] (spM (KX K) XO0 zaG)) (G_law_amount:Has P w K mg base CX0 2 "_law_amount" ["_law_cell","_law_k"] (spM (KX K) XO0 zbq)) (G_law_sets:Has P w K mg base CX0 3 "_law_sets" ["_law_cells","_law_many"] (spO (KX K) XO0 zdR)) (G_law_covers:Has P w K mg base CX0 7 "_law_covers" ["_law_many","_law_sets_here","_law_way","_law_number_here"] (spM (KX K) XO0 zcS)) (G_law_lines:Has P w K mg base CX0 2 "_law_lines" ["_law_cells","_law_many"] (spO (KX K) XO0 zdf)) (G_law_touches:Has P w K mg base CX0 4 "_law_touches" ["_law_prices","_law_lines_here","_law_way","_law_number_here"] (spM (KX K) XO0 zcC)):FnOk P w K mg base CX0 8 f fd ["_law_script"] (zln K):=by
  refine F.ok sc_law (fun vs H Q E h=>?_) (fun cdv A outer s H vs Q E hr h=>?_)
  · obtain ⟨a,ns,rfl,_⟩:=h
    rfl
  · obtain ⟨a,ns,rfl,hS,hlen,hq⟩:=h
    have hu:=zbP hr
    exact ⟨_,(zae (zaH (i:=1) sc_law.nd rfl (by first | exact Or.inl rfl | exact Or.inr rfl) (zau za6 (zaK G_law_cell_at (hr.mono (by decide)) (by rfl) za4 (zab (pv 0) (zab zag zah))) zag))
      (zae (zaH (i:=2) sc_law.nd rfl (by first | exact Or.inl rfl | exact Or.inr rfl) (zaK G_law_sets (hr.mono (by decide)) (by rfl) za4 (zab (zbr zbR (pv 0) (zbG zag) (zbG zag)) (zab (pv 1) zah))))
      (zae (zbt ((zk0 (zaC zdK (pv 1) zag (zaU _)) (zjk (zaC zdK (zau za6 (zau za0 (zaK G_law_cell_at (hr.mono (by decide)) (by rfl) za4 (zab (pv 0) (zab zag zah))) zag) zag) zag (zaU _))))).pt
      (zam (zaH (i:=2) sc_law.nd rfl (by first | exact Or.inl rfl | exact Or.inr rfl) (zcm zah)))
      zaO)
      (zae (zbY PassesOwn.never rfl (zhU rfl T.range (zab zag (zab zag zah))) (zav (i:=3) sc_law.nd rfl (by first | exact Or.inl rfl | exact Or.inr rfl))
      (zae (zaH (i:=4) sc_law.nd rfl (by first | exact Or.inl rfl | exact Or.inr rfl) (zaK G_law_number (hr.mono (by decide)) (by rfl) za4 (zab (zaK G_law_cell_at (hr.mono (by decide)) (by rfl) za4 (zab (pv 0) (zab (pv 3) zah))) (zab (zau zbo zag (pv 3)) zah))))
      (zam (zbt (zig (ze7 (zaK G_law_covers (hr.mono (by decide)) (by rfl) za4 (zab (pv 1) (zab (pv 2) (zab (pv 4) (zab (zau za0 (pv 4) zag) zah)))))))
      (zam (zax zg1))
      zaO))))
      (zae (zaH (i:=5) sc_law.nd rfl (by first | exact Or.inl rfl | exact Or.inr rfl) (zau zbN zag (zau za6 (zaK G_law_cell_at (hr.mono (by decide)) (by rfl) za4 (zab (pv 0) (zab zag zah))) zag)))
      (zae (zkp (i:=6) sc_law.nd rfl (by first | exact Or.inl rfl | exact Or.inr rfl) rfl (zcs rfl T.range (zab (pv 5) zah)) (zbV (zar zh0) ["_law_script","_law_many","_law_sets_here","_law_k","_law_number_here","_law_points","_law_prices","_law_lines_here"] ["_law_script","_law_k"] [0] 1 rfl rfl rfl (by decide +kernel) (by decide +kernel) (by decide +kernel) rfl (by decide +kernel) (fun cl C s H fp pins=>(zav (i:=1) (show List.Nodup (["_law_script","_law_k"]:List Str) by decide +kernel) rfl (Or.inl rfl))) (fun cl C s H fp pins=>(zaK G_law_amount (hr.mono (by decide)) (by rfl) za4 (zab (zaK G_law_cell_at (hr.mono (by decide)) (by rfl) za4 (zab (pv 0) (zab (pv 1) zah))) (zab (zau zbN (pv 1) zag) zah)))) (Or.inl ⟨rfl,rfl⟩)) rfl)
      (zae (zaH (i:=7) sc_law.nd rfl (by first | exact Or.inl rfl | exact Or.inr rfl) (zaK G_law_lines (hr.mono (by decide)) (by rfl) za4 (zab (zbr zbR (pv 0) (zbG zag) (zbG zag)) (zab (pv 5) zah))))
      (zae (zbY PassesOwn.never rfl (zhU rfl T.range (zab zag (zab zag zah))) (zav (i:=3) sc_law.nd rfl (by first | exact Or.inl rfl | exact Or.inr rfl))
      (zae (zaH (i:=4) sc_law.nd rfl (by first | exact Or.inl rfl | exact Or.inr rfl) (zaK G_law_number (hr.mono (by decide)) (by rfl) za4 (zab (zau zbN (zaK G_law_cell_at (hr.mono (by decide)) (by rfl) za4 (zab (pv 0) (zab (pv 3) zah))) (zaK G_law_cell_at (hr.mono (by decide)) (by rfl) za4 (zab (pv 0) (zab zag zah)))) (zab (zau zbo zag (pv 3)) zah))))
      (zam (zbt (zig (ze7 (zaK G_law_touches (hr.mono (by decide)) (by rfl) za4 (zab (pv 6) (zab (pv 7) (zab (pv 4) (zab (zau za0 (pv 4) zag) zah)))))))
      (zam (zax zg1))
      zaO))))
      (zam (zax zg1)))))))))),zco (K:=(KX K)) (XO:=XO0) (E:=E) (np:=1) (nv:=7) (m:=zpV)
      (zaq (zaQ (zak za3 ((zaw (zad zaj (zad zaf zas)))).r (zaf).r) zap)
      (zaq (zaQ ((zbZ (zad ((zbh zac (zbI zaf) (zbI zaf))).e (zad zaj zas)))).e zap)
      (zaq (zbu (zk1 (zay (zak zdL zac (zaf).r)) (zay (zak zdL ((zak za3 ((zak zbL ((zaw (zad zaj (zad zaf zas)))).r (zaf).r)).r (zaf).r)).r (zaf).r)))
      (zaQ ((zbF zas)).e zap)
      zaN)
      (zaq (zbW (zhi len2 (zad zaf (zad zaf zas))) zap
      (zaq (zaQ (zaw (zad (zaw (zad zaj (zad zaj zas))) (zad (zak zb0 (zaf).r zac) zas))) zap)
      (zbu (zio (st_b (zaw (zad zaj (zad zaj (zad zaj (zad (zak zbL zac (zaf).r) zas)))))))
      (zaV zg2)
      zaN)))
      (zaq (zaQ (zak zbO (zaf).r ((zak za3 ((zaw (zad zaj (zad zaf zas)))).r (zaf).r)).r) zap)
      (zaq (zaQ ((zbf (zcp len1 (zad zaj zas)).c (by decide) zaW zbc (Or.inl ⟨rfl,rfl⟩) (zaw (zad (zaw (zad zaj (zad zaj zas))) (zad (zak zbO zac (zaf).r) zas))))).e zap)
      (zaq (zaQ ((zbZ (zad ((zbh zac (zbI zaf) (zbI zaf))).e (zad zaj zas)))).e zap)
      (zaq (zbW (zhi len2 (zad zaf (zad zaf zas))) zap
      (zaq (zaQ (zaw (zad (zak zbO ((zaw (zad zaj (zad zaj zas)))).r ((zaw (zad zaj (zad zaf zas)))).r) (zad (zak zb0 (zaf).r zac) zas))) zap)
      (zbu (zio (st_b (zaw (zad zaj (zad zaj (zad zaj (zad (zak zbL zac (zaf).r) zas)))))))
      (zaV zg2)
      zaN)))
      (zaV zg2))))))))) rfl (zpM (f:=zqW) (law_true ns hlen) hS hq)⟩
end
theorem all_mk {l:PySem.W.OpenLaw} {w:World} {K:PySem.W.Frag} {h:Heap} {mg:Str→Option Value} {fa:Addr} (X:K.In h) (G:h.Ns mainGlobals mg) (hfa:mg "law"=some (.ref fa))
    (d0:∃ f fd,DefAt K "_law_cell_at" zeQ f fd)
    (d1:∃ f fd,DefAt K "_law_number" zfh f fd)
    (d2:∃ f fd,DefAt K "_law_bit" zhT f fd)
    (d3:∃ f fd,DefAt K "_law_has" zhK f fd)
    (d4:∃ f fd,DefAt K "_law_amount" zfa f fd)
    (d5:∃ f fd,DefAt K "_law_sets" zeF f fd)
    (d6:∃ f fd,DefAt K "refuse_missing" zdB f fd)
    (d7:∃ f fd,DefAt K "still_left" zeg f fd)
    (d8:∃ f fd,DefAt K "common_factor" zdU f fd)
    (d9:∃ f fd,DefAt K "share" zkw f fd)
    (d10:∃ f fd,DefAt K "less" znd f fd)
    (d11:∃ f fd,DefAt K "cheapest_set" zel f fd)
    (d12:∃ f fd,DefAt K "takings" zhE f fd)
    (d13:∃ f fd,DefAt K "cover" ziC f fd)
    (d14:∃ f fd,DefAt K "plus" zmq f fd)
    (d15:∃ f fd,DefAt K "steps_sum" zfK f fd)
    (d16:∃ f fd,DefAt K "cover_share" zdO f fd)
    (d17:∃ f fd,DefAt K "paid_by_things" zcO f fd)
    (d18:∃ f fd,DefAt K "over" znl f fd)
    (d19:∃ f fd,DefAt K "cover_prices" zds f fd)
    (d20:∃ f fd,DefAt K "_law_numbers_changed" zcr f fd)
    (d21:∃ f fd,DefAt K "_law_divisor" zeX f fd)
    (d22:∃ f fd,DefAt K "_law_sum" zhy f fd)
    (d23:∃ f fd,DefAt K "_law_part_changed" zcZ f fd)
    (d24:∃ f fd,DefAt K "_law_prices_changed" zb7 f fd)
    (d25:∃ f fd,DefAt K "all_below" zeN f fd)
    (d26:∃ f fd,DefAt K "unlike_below" zen f fd)
    (d27:∃ f fd,DefAt K "leaves_open" zdH f fd)
    (d28:∃ f fd,DefAt K "common_multiple" zde f fd)
    (d29:∃ f fd,DefAt K "tops_over" zeS f fd)
    (d30:∃ f fd,DefAt K "price_of" zfw f fd)
    (d31:∃ f fd,DefAt K "check_cover" zc5 f fd)
    (d32:∃ f fd,DefAt K "_law_unlike" zfi f fd)
    (d33:∃ f fd,DefAt K "_law_steps" zeP f fd)
    (d34:∃ f fd,DefAt K "_law_cover_word" zbC f fd)
    (d35:∃ f fd,DefAt K "_law_same" zgA f fd)
    (d36:∃ f fd,DefAt K "_law_covers" zee f fd)
    (d37:∃ f fd,DefAt K "_law_lines" zfL f fd)
    (d38:∃ f fd,DefAt K "paying" ziV f fd)
    (d39:∃ f fd,DefAt K "touching" zfx f fd)
    (d40:∃ f fd,DefAt K "line_prices" zeM f fd)
    (d41:∃ f fd,DefAt K "_law_paid_changed" zc4 f fd)
    (d42:∃ f fd,DefAt K "paid_at" zgd f fd)
    (d43:∃ f fd,DefAt K "check_touch" zcA f fd)
    (d44:∃ f fd,DefAt K "_law_touch_word" zbU f fd)
    (d45:∃ f fd,DefAt K "_law_touches" zeT f fd)
    {fL:Addr} {oc:Value} {od an:Option Addr} {osl:Array (Option Value)} {kV doc pm cdv ct:Value} (aL:PySem.W.nsIn K mainGlobals "law"=some (some (.ref fL)))
    (lL:K.lookup fL=some ⟨oc,od,.func (PySem.W.fnOf "law" "law" (zfR zh0) (ze9 zh0) (zar zh0) .none kV doc pm an cdv ct),osl⟩) (cL:PySem.W.codeIn K cdv "law"=true) (kL:PySem.W.keepIn K (.ref fL)=true)
    (z0:PySem.W.nsIn K mainGlobals "len"=some none)
    (z1:PySem.W.nsIn K mainGlobals "abs"=some none)
    (z2:PySem.W.nsIn K mainGlobals "isinstance"=some none)
    (z3:PySem.W.nsIn K mainGlobals "list"=some none)
    (z4:PySem.W.nsIn K mainGlobals "sum"=some none)
    (z5:PySem.W.nsIn K mainGlobals "int"=some none)
    (z6:PySem.W.nsIn K mainGlobals "str"=some none)
    (z7:PySem.W.nsIn K mainGlobals "range"=some none)
    (z8:PySem.W.nsIn K mainGlobals "enumerate"=some none)
    (z9:PySem.W.nsIn K mainGlobals "max"=some none)
    (z10:PySem.W.nsIn K mainGlobals "min"=some none)
    (z11:PySem.W.nsIn K mainGlobals "zip"=some none)
    (z12:PySem.W.nsIn K mainGlobals "set"=some none)
    (z13:PySem.W.nsIn K mainGlobals "all"=some none)
    (z14:PySem.W.nsIn K mainGlobals "any"=some none)
    : ∃ fd:FuncData,(∀ (s:Shared) (v:Value),BindsTo s fd ⟨[v],[]⟩ [("_law_script",v)])∧∀ base:Heap,K.In base→base.Ns mainGlobals mg→FnOk l.prog w K mg base CX0 8 fa fd ["_law_script"] (zln K):=by
  have e:=hfa.symm.trans (PySem.W.mg_of X G aL)
  cases e
  have T:Txt K mg:=⟨PySem.W.mg_none_of X G z0,PySem.W.mg_none_of X G z1,PySem.W.mg_none_of X G z2,PySem.W.mg_none_of X G z3,PySem.W.mg_none_of X G z4,PySem.W.mg_none_of X G z5,PySem.W.mg_none_of X G z6,PySem.W.mg_none_of X G z7,PySem.W.mg_none_of X G z8,PySem.W.mg_none_of X G z9,PySem.W.mg_none_of X G z10,PySem.W.mg_none_of X G z11,PySem.W.mg_none_of X G z12,PySem.W.mg_none_of X G z13,PySem.W.mg_none_of X G z14⟩
  obtain ⟨f0,g0,D0⟩:=d0
  obtain ⟨f1,g1,D1⟩:=d1
  obtain ⟨f2,g2,D2⟩:=d2
  obtain ⟨f3,g3,D3⟩:=d3
  obtain ⟨f4,g4,D4⟩:=d4
  obtain ⟨f5,g5,D5⟩:=d5
  obtain ⟨f6,g6,D6⟩:=d6
  obtain ⟨f7,g7,D7⟩:=d7
  obtain ⟨f8,g8,D8⟩:=d8
  obtain ⟨f9,g9,D9⟩:=d9
  obtain ⟨f10,g10,D10⟩:=d10
  obtain ⟨f11,g11,D11⟩:=d11
  obtain ⟨f12,g12,D12⟩:=d12
  obtain ⟨f13,g13,D13⟩:=d13
  obtain ⟨f14,g14,D14⟩:=d14
  obtain ⟨f15,g15,D15⟩:=d15
  obtain ⟨f16,g16,D16⟩:=d16
  obtain ⟨f17,g17,D17⟩:=d17
  obtain ⟨f18,g18,D18⟩:=d18
  obtain ⟨f19,g19,D19⟩:=d19
  obtain ⟨f20,g20,D20⟩:=d20
  obtain ⟨f21,g21,D21⟩:=d21
  obtain ⟨f22,g22,D22⟩:=d22
  obtain ⟨f23,g23,D23⟩:=d23
  obtain ⟨f24,g24,D24⟩:=d24
  obtain ⟨f25,g25,D25⟩:=d25
  obtain ⟨f26,g26,D26⟩:=d26
  obtain ⟨f27,g27,D27⟩:=d27
  obtain ⟨f28,g28,D28⟩:=d28
  obtain ⟨f29,g29,D29⟩:=d29
  obtain ⟨f30,g30,D30⟩:=d30
  obtain ⟨f31,g31,D31⟩:=d31
  obtain ⟨f32,g32,D32⟩:=d32
  obtain ⟨f33,g33,D33⟩:=d33
  obtain ⟨f34,g34,D34⟩:=d34
  obtain ⟨f35,g35,D35⟩:=d35
  obtain ⟨f36,g36,D36⟩:=d36
  obtain ⟨f37,g37,D37⟩:=d37
  obtain ⟨f38,g38,D38⟩:=d38
  obtain ⟨f39,g39,D39⟩:=d39
  obtain ⟨f40,g40,D40⟩:=d40
  obtain ⟨f41,g41,D41⟩:=d41
  obtain ⟨f42,g42,D42⟩:=d42
  obtain ⟨f43,g43,D43⟩:=d43
  obtain ⟨f44,g44,D44⟩:=d44
  obtain ⟨f45,g45,D45⟩:=d45
  have FL:=zok (st:=zh0) lL cL kL
  refine ⟨PySem.W.fnOf "law" "law" (zfR zh0) (ze9 zh0) (zar zh0) .none kV doc pm an cdv ct,fun s v=>.of_eq rfl,fun base _ _=>?_⟩
  have G_law_cell_at:Has l.prog w K mg base CX0 1 "_law_cell_at" ["_law_script","_law_k"] (spM (KX K) XO0 zaF):=D0.has X G (zic D0.fn T  ) (D0.fn.binds fun _ _ _ _ _ _ us hl=>match us,hl with | [_,_],_=>rfl)
  have G_law_number:Has l.prog w K mg base CX0 1 "_law_number" ["_law_cell","_law_k"] (spM (KX K) XO0 zaG):=D1.has X G (zi7 D1.fn T  ) (D1.fn.binds fun _ _ _ _ _ _ us hl=>match us,hl with | [_,_],_=>rfl)
  have G_law_bit:Has l.prog w K mg base CX0 1 "_law_bit" ["_law_number_here","_law_place"] (spM (KX K) XO0 zdz):=D2.has X G (zlv D2.fn T  ) (D2.fn.binds fun _ _ _ _ _ _ us hl=>match us,hl with | [_,_],_=>rfl)
  have G_law_has:Has l.prog w K mg base CX0 2 "_law_has" ["_law_cell","_law_k","_law_thing"] (spM (KX K) XO0 zdZ):=D3.has X G (zlT D3.fn T  G_law_number G_law_bit) (D3.fn.binds fun _ _ _ _ _ _ us hl=>match us,hl with | [_,_,_],_=>rfl)
  have G_law_amount:Has l.prog w K mg base CX0 2 "_law_amount" ["_law_cell","_law_k"] (spM (KX K) XO0 zbq):=D4.has X G (zji D4.fn T  G_law_number) (D4.fn.binds fun _ _ _ _ _ _ us hl=>match us,hl with | [_,_],_=>rfl)
  have G_law_sets:Has l.prog w K mg base CX0 3 "_law_sets" ["_law_cells","_law_many"] (spO (KX K) XO0 zdR):=D5.has X G (zks D5.fn T  G_law_has G_law_amount) (D5.fn.binds fun _ _ _ _ _ _ us hl=>match us,hl with | [_,_],_=>rfl)
  have G_refuse_missing:Has l.prog w K mg base CX0 1 "refuse_missing" ["many","sets"] (spM (KX K) XO0 zbT):=D6.has X G (zgG D6.fn T  ) (D6.fn.binds fun _ _ _ _ _ _ us hl=>match us,hl with | [_,_],_=>rfl)
  have G_still_left:Has l.prog w K mg base CX0 1 "still_left" ["things","left"] (spO (KX K) XO0 zce):=D7.has X G (zi1 D7.fn T  ) (D7.fn.binds fun _ _ _ _ _ _ us hl=>match us,hl with | [_,_],_=>rfl)
  have G_common_factor:Has l.prog w K mg base CX0 1 "common_factor" ["one","other"] (spM (KX K) XO0 zbK):=D8.has X G (zg0 D8.fn T  ) (D8.fn.binds fun _ _ _ _ _ _ us hl=>match us,hl with | [_,_],_=>rfl)
  have G_share:Has l.prog w K mg base CX0 2 "share" ["top","bottom"] (spM (KX K) XO0 zdc):=D9.has X G (znz D9.fn T  G_common_factor) (D9.fn.binds fun _ _ _ _ _ _ us hl=>match us,hl with | [_,_],_=>rfl)
  have G_less:Has l.prog w K mg base CX0 1 "less" ["one","other"] (spM (KX K) XO0 zif):=D10.has X G (zpv D10.fn T  ) (D10.fn.binds fun _ _ _ _ _ _ us hl=>match us,hl with | [_,_],_=>rfl)
  have G_cheapest_set:Has l.prog w K mg base CX0 3 "cheapest_set" ["sets","left"] (spM (KX K) XO0 zck):=D11.has X G (zhD D11.fn T  G_still_left G_share G_less) (D11.fn.binds fun _ _ _ _ _ _ us hl=>match us,hl with | [_,_],_=>rfl)
  have G_takings:Has l.prog w K mg base CX0 4 "takings" ["many","sets"] (spO (KX K) XO0 zc2):=D12.has X G (zlP D12.fn T  G_refuse_missing G_still_left G_cheapest_set) (D12.fn.binds fun _ _ _ _ _ _ us hl=>match us,hl with | [_,_],_=>rfl)
  have G_cover:Has l.prog w K mg base CX0 5 "cover" ["many","sets"] (spO (KX K) XO0 zfg):=D13.has X G (znF D13.fn T  G_takings) (D13.fn.binds fun _ _ _ _ _ _ us hl=>match us,hl with | [_,_],_=>rfl)
  have G_plus:Has l.prog w K mg base CX0 3 "plus" ["one","other"] (spM (KX K) XO0 zir):=D14.has X G (zo9 D14.fn T  G_share) (D14.fn.binds fun _ _ _ _ _ _ us hl=>match us,hl with | [_,_],_=>rfl)
  have G_steps_sum:Has l.prog w K mg base CX0 4 "steps_sum" ["count"] (spM (KX K) XO0 zcQ):=D15.has X G (zjW D15.fn T  G_plus) (D15.fn.binds fun _ _ _ _ _ _ us hl=>match us,hl with | [_],_=>rfl)
  have G_cover_share:Has l.prog w K mg base CX0 5 "cover_share" ["sets"] (spM (KX K) XO0 zbk):=D16.has X G (zh4 D16.fn T  G_steps_sum) (D16.fn.binds fun _ _ _ _ _ _ us hl=>match us,hl with | [_],_=>rfl)
  have G_paid_by_things:Has l.prog w K mg base CX0 5 "paid_by_things" ["many","sets"] (spO (KX K) XO0 zbS):=D17.has X G (zgx D17.fn T  G_share G_takings) (D17.fn.binds fun _ _ _ _ _ _ us hl=>match us,hl with | [_,_],_=>rfl)
  have G_over:Has l.prog w K mg base CX0 3 "over" ["one","other"] (spM (KX K) XO0 ziy):=D18.has X G (zoX D18.fn T  G_share) (D18.fn.binds fun _ _ _ _ _ _ us hl=>match us,hl with | [_,_],_=>rfl)
  have G_cover_prices:Has l.prog w K mg base CX0 6 "cover_prices" ["many","sets"] (spO (KX K) XO0 zb3):=D19.has X G (zhL D19.fn T  G_cover_share G_paid_by_things G_over) (D19.fn.binds fun _ _ _ _ _ _ us hl=>match us,hl with | [_,_],_=>rfl)
  have G_law_numbers_changed:Has l.prog w K mg base CX0 1 "_law_numbers_changed" ["_law_some","_law_number_here","_law_size"] (spO (KX K) XO0 zaT):=D20.has X G (ze8 D20.fn T  ) (D20.fn.binds fun _ _ _ _ _ _ us hl=>match us,hl with | [_,_,_],_=>rfl)
  have G_law_divisor:Has l.prog w K mg base CX0 1 "_law_divisor" ["_law_one","_law_other"] (spM (KX K) XO0 zcy):=D21.has X G (zh9 D21.fn T  ) (D21.fn.binds fun _ _ _ _ _ _ us hl=>match us,hl with | [_,_],_=>rfl)
  have G_law_sum:Has l.prog w K mg base CX0 2 "_law_sum" ["_law_parts"] (spM (KX K) XO0 zbs):=D22.has X G (zlt D22.fn T  G_law_divisor) (D22.fn.binds fun _ _ _ _ _ _ us hl=>match us,hl with | [_],_=>rfl)
  have G_law_part_changed:Has l.prog w K mg base CX0 3 "_law_part_changed" ["_law_price","_law_number_here"] (spM (KX K) XO0 zaY):=D23.has X G (zfM D23.fn T  G_law_sum) (D23.fn.binds fun _ _ _ _ _ _ us hl=>match us,hl with | [_,_],_=>rfl)
  have G_law_prices_changed:Has l.prog w K mg base CX0 4 "_law_prices_changed" ["_law_prices","_law_number_here"] (spO (KX K) XO0 zbi):=D24.has X G (zfe D24.fn T  G_law_part_changed) (D24.fn.binds fun _ _ _ _ _ _ us hl=>match us,hl with | [_,_],_=>rfl)
  have G_all_below:Has l.prog w K mg base CX0 1 "all_below" ["numbers","count"] (spM (KX K) XO0 zc8):=D25.has X G (zjX D25.fn T  ) (D25.fn.binds fun _ _ _ _ _ _ us hl=>match us,hl with | [_,_],_=>rfl)
  have G_unlike_below:Has l.prog w K mg base CX0 2 "unlike_below" ["numbers","count"] (spM (KX K) XO0 zby):=D26.has X G (zhS D26.fn T  G_all_below) (D26.fn.binds fun _ _ _ _ _ _ us hl=>match us,hl with | [_,_],_=>rfl)
  have G_leaves_open:Has l.prog w K mg base CX0 1 "leaves_open" ["many","sets","chosen"] (spM (KX K) XO0 zcz):=D27.has X G (zh7 D27.fn T  ) (D27.fn.binds fun _ _ _ _ _ _ us hl=>match us,hl with | [_,_,_],_=>rfl)
  have G_common_multiple:Has l.prog w K mg base CX0 2 "common_multiple" ["one","other"] (spM (KX K) XO0 zbJ):=D28.has X G (zgq D28.fn T  G_common_factor) (D28.fn.binds fun _ _ _ _ _ _ us hl=>match us,hl with | [_,_],_=>rfl)
  have G_tops_over:Has l.prog w K mg base CX0 1 "tops_over" ["prices","bottom"] (spO (KX K) XO0 zc9):=D29.has X G (zjK D29.fn T  ) (D29.fn.binds fun _ _ _ _ _ _ us hl=>match us,hl with | [_,_],_=>rfl)
  have G_price_of:Has l.prog w K mg base CX0 1 "price_of" ["sets","chosen"] (spM (KX K) XO0 zdQ):=D30.has X G (zkj D30.fn T  ) (D30.fn.binds fun _ _ _ _ _ _ us hl=>match us,hl with | [_,_],_=>rfl)
  have G_check_cover:Has l.prog w K mg base CX0 6 "check_cover" ["many","sets","chosen","prices"] (spM (KX K) XO0 zcD):=D31.has X G (zh3 D31.fn T  G_cover_share G_unlike_below G_leaves_open G_common_multiple G_tops_over G_price_of) (D31.fn.binds fun _ _ _ _ _ _ us hl=>match us,hl with | [_,_,_,_],_=>rfl)
  have G_law_unlike:Has l.prog w K mg base CX0 1 "_law_unlike" ["_law_some","_law_many"] (spM (KX K) XO0 zbX):=D32.has X G (zjb D32.fn T  ) (D32.fn.binds fun _ _ _ _ _ _ us hl=>match us,hl with | [_,_],_=>rfl)
  have G_law_steps:Has l.prog w K mg base CX0 3 "_law_steps" ["_law_count"] (spM (KX K) XO0 zdd):=D33.has X G (zj6 D33.fn T  G_law_sum) (D33.fn.binds fun _ _ _ _ _ _ us hl=>match us,hl with | [_],_=>rfl)
  have G_law_cover_word:Has l.prog w K mg base CX0 4 "_law_cover_word" ["_law_many","_law_sets_here","_law_chosen","_law_prices"] (spM (KX K) XO0 zci):=D34.has X G (zgu D34.fn T  G_law_sum G_law_unlike G_law_steps) (D34.fn.binds fun _ _ _ _ _ _ us hl=>match us,hl with | [_,_,_,_],_=>rfl)
  have G_law_same:Has l.prog w K mg base CX0 1 "_law_same" ["_law_found","_law_due"] (spM (KX K) XO0 zdj):=D35.has X G (zkA D35.fn T  ) (D35.fn.binds fun _ _ _ _ _ _ us hl=>match us,hl with | [_,_],_=>rfl)
  have G_law_covers:Has l.prog w K mg base CX0 7 "_law_covers" ["_law_many","_law_sets_here","_law_way","_law_number_here"] (spM (KX K) XO0 zcS):=D36.has X G (zi0 D36.fn T  G_law_number G_cover G_cover_prices G_law_numbers_changed G_law_prices_changed G_check_cover G_law_cover_word G_law_same) (D36.fn.binds fun _ _ _ _ _ _ us hl=>match us,hl with | [_,_,_,_],_=>rfl)
  have G_law_lines:Has l.prog w K mg base CX0 2 "_law_lines" ["_law_cells","_law_many"] (spO (KX K) XO0 zdf):=D37.has X G (zju D37.fn T  G_law_number) (D37.fn.binds fun _ _ _ _ _ _ us hl=>match us,hl with | [_,_],_=>rfl)
  have G_paying:Has l.prog w K mg base CX0 1 "paying" ["prices","lines"] (spM (KX K) XO0 zek):=D38.has X G (zmR D38.fn T  ) (D38.fn.binds fun _ _ _ _ _ _ us hl=>match us,hl with | [_,_],_=>rfl)
  have G_touching:Has l.prog w K mg base CX0 2 "touching" ["prices","lines"] (spO (KX K) XO0 zdP):=D39.has X G (zkF D39.fn T  G_paying) (D39.fn.binds fun _ _ _ _ _ _ us hl=>match us,hl with | [_,_],_=>rfl)
  have G_line_prices:Has l.prog w K mg base CX0 2 "line_prices" ["prices","lines"] (spM (KX K) XO0 zcB):=D40.has X G (zh5 D40.fn T  G_paying) (D40.fn.binds fun _ _ _ _ _ _ us hl=>match us,hl with | [_,_],_=>rfl)
  have G_law_paid_changed:Has l.prog w K mg base CX0 1 "_law_paid_changed" ["_law_paid","_law_number_here"] (spO (KX K) XO0 zbB):=D41.has X G (zfQ D41.fn T  ) (D41.fn.binds fun _ _ _ _ _ _ us hl=>match us,hl with | [_,_],_=>rfl)
  have G_paid_at:Has l.prog w K mg base CX0 1 "paid_at" ["point","lines","paid"] (spM (KX K) XO0 zeD):=D42.has X G (zlQ D42.fn T  ) (D42.fn.binds fun _ _ _ _ _ _ us hl=>match us,hl with | [_,_,_],_=>rfl)
  have G_check_touch:Has l.prog w K mg base CX0 3 "check_touch" ["prices","lines","chosen","paid"] (spM (KX K) XO0 zcx):=D43.has X G (zh1 D43.fn T  G_unlike_below G_paid_at) (D43.fn.binds fun _ _ _ _ _ _ us hl=>match us,hl with | [_,_,_,_],_=>rfl)
  have G_law_touch_word:Has l.prog w K mg base CX0 2 "_law_touch_word" ["_law_prices","_law_lines_here","_law_chosen","_law_paid"] (spM (KX K) XO0 zcj):=D44.has X G (zgC D44.fn T  G_law_unlike) (D44.fn.binds fun _ _ _ _ _ _ us hl=>match us,hl with | [_,_,_,_],_=>rfl)
  have G_law_touches:Has l.prog w K mg base CX0 4 "_law_touches" ["_law_prices","_law_lines_here","_law_way","_law_number_here"] (spM (KX K) XO0 zcC):=D45.has X G (zhX D45.fn T  G_law_number G_law_numbers_changed G_law_same G_touching G_line_prices G_law_paid_changed G_check_touch G_law_touch_word) (D45.fn.binds fun _ _ _ _ _ _ us hl=>match us,hl with | [_,_,_,_],_=>rfl)
  exact zq2 FL T G_law_cell_at G_law_number G_law_amount G_law_sets G_law_covers G_law_lines G_law_touches
theorem walk {l:PySem.W.OpenLaw} {q:Program} {loose:List Str} {XP:(Str→Option Value)→Heap→Prop} {YP:World→Heap→Prop} {d:DefRec} {K:Params→PySem.W.Frag} (hn:l.most=some 63) (hdf:d.params.defaults = [])
    (hY:∀ (w:World) (h:Heap),YP w h→(K w.params).In h) (hT:∀ w:World,tabOf (K w.params)=none)
    (F:∀ (w:World) (mg:Str→Option Value) (fa:Addr) (h:Heap),(K w.params).In h→h.Ns mainGlobals mg→mg d.name=some (.ref fa) →
      ∃ fd:FuncData,(∀ (s:Shared) (u:Value),BindsTo s fd ⟨[u],[]⟩ [("_law_script",u)])∧∀ base:Heap,(K w.params).In base→base.Ns mainGlobals mg→FnOk l.prog w (K w.params) mg base CX0 8 fa fd ["_law_script"] (zln (K w.params))) :
    PySem.W.WalkO q loose XP YP l.row.toRowW d [] (fun f vs=>PySem.call f vs) :=
  L2.walk_of (n:=63) (k:=8) (x:="_law_script") (CX:=fun _=>CX0) (sp:=fun w=>zln (K w.params)) hn (by decide) hdf ⟨rfl,by decide,by decide⟩ hY hT F (fun _ _ a ns hl _ hS=>⟨a,ns,rfl,hS,hl,fun _=>rfl⟩) fun _ _ _ _ _ z=>z
end My
def PySem.W.Fast.tw15735713610517132277:Nat:=0
def PySem.W.Fast.tw12973437143296349168:Nat:=0
def PySem.W.Fast.tw11135668744775698564:Nat:=0
def PySem.W.Fast.tw3984189019003553695:Nat:=0
def PySem.W.Fast.tw16267799480472151189:Nat:=0
def PySem.W.Fast.tw1507320634610795484:Nat:=0
def PySem.W.Fast.tw11571857413438382701:Nat:=0
def PySem.W.Fast.tw3224431871417125723:Nat:=0
def PySem.W.Fast.tw10544529041379392454:Nat:=0
def PySem.W.Fast.tw3050895207289202150:Nat:=0
def PySem.W.Fast.tw11127030649409295934:Nat:=0
def PySem.W.Fast.tw10355750128583579195:Nat:=0
def PySem.W.Fast.tw6637269633705970960:Nat:=0
def PySem.W.Fast.tw8282723289538913974:Nat:=0
def PySem.W.Fast.tw11591918479852012458:Nat:=0
open PySem PySem.W PyProof.Rows
set_option maxRecDepth 100000 in
set_option maxHeartbeats 0 in
theorem PySem.Challenge.cw_goodenough_k45_covers_looked_at_holds : PySem.Challenge.rw_goodenough_k45_covers_looked_at.Holds := by
  w_on; o_law; k_head; (case hw=>w_witness2)
  k_fill
  refine My.walk (l:=PySem.Challenge.rw_goodenough_k45_covers_looked_at) rfl rfl (fun w h Y=>by first | exact PySem.W.kIn_of Y | exact PySem.W.km_in_of Y) ?tab ?F
  (case tab=>intro w; kernel_rfl)
  case F =>
    intro w mg fa h KX G hmg
    refine' My.all_mk KX G hmg (L2.defAt_mk ?a0 ?l0 ?c0 ?k0) (L2.defAt_mk ?a1 ?l1 ?c1 ?k1) (L2.defAt_mk ?a2 ?l2 ?c2 ?k2) (L2.defAt_mk ?a3 ?l3 ?c3 ?k3) (L2.defAt_mk ?a4 ?l4 ?c4 ?k4) (L2.defAt_mk ?a5 ?l5 ?c5 ?k5) (L2.defAt_mk ?a6 ?l6 ?c6 ?k6) (L2.defAt_mk ?a7 ?l7 ?c7 ?k7) (L2.defAt_mk ?a8 ?l8 ?c8 ?k8) (L2.defAt_mk ?a9 ?l9 ?c9 ?k9) (L2.defAt_mk ?a10 ?l10 ?c10 ?k10) (L2.defAt_mk ?a11 ?l11 ?c11 ?k11) (L2.defAt_mk ?a12 ?l12 ?c12 ?k12) (L2.defAt_mk ?a13 ?l13 ?c13 ?k13) (L2.defAt_mk ?a14 ?l14 ?c14 ?k14) (L2.defAt_mk ?a15 ?l15 ?c15 ?k15) (L2.defAt_mk ?a16 ?l16 ?c16 ?k16) (L2.defAt_mk ?a17 ?l17 ?c17 ?k17) (L2.defAt_mk ?a18 ?l18 ?c18 ?k18) (L2.defAt_mk ?a19 ?l19 ?c19 ?k19) (L2.defAt_mk ?a20 ?l20 ?c20 ?k20) (L2.defAt_mk ?a21 ?l21 ?c21 ?k21) (L2.defAt_mk ?a22 ?l22 ?c22 ?k22) (L2.defAt_mk ?a23 ?l23 ?c23 ?k23) (L2.defAt_mk ?a24 ?l24 ?c24 ?k24) (L2.defAt_mk ?a25 ?l25 ?c25 ?k25) (L2.defAt_mk ?a26 ?l26 ?c26 ?k26) (L2.defAt_mk ?a27 ?l27 ?c27 ?k27) (L2.defAt_mk ?a28 ?l28 ?c28 ?k28) (L2.defAt_mk ?a29 ?l29 ?c29 ?k29) (L2.defAt_mk ?a30 ?l30 ?c30 ?k30) (L2.defAt_mk ?a31 ?l31 ?c31 ?k31) (L2.defAt_mk ?a32 ?l32 ?c32 ?k32) (L2.defAt_mk ?a33 ?l33 ?c33 ?k33) (L2.defAt_mk ?a34 ?l34 ?c34 ?k34) (L2.defAt_mk ?a35 ?l35 ?c35 ?k35) (L2.defAt_mk ?a36 ?l36 ?c36 ?k36) (L2.defAt_mk ?a37 ?l37 ?c37 ?k37) (L2.defAt_mk ?a38 ?l38 ?c38 ?k38) (L2.defAt_mk ?a39 ?l39 ?c39 ?k39) (L2.defAt_mk ?a40 ?l40 ?c40 ?k40) (L2.defAt_mk ?a41 ?l41 ?c41 ?k41) (L2.defAt_mk ?a42 ?l42 ?c42 ?k42) (L2.defAt_mk ?a43 ?l43 ?c43 ?k43) (L2.defAt_mk ?a44 ?l44 ?c44 ?k44) (L2.defAt_mk ?a45 ?l45 ?c45 ?k45) ?aL ?lL ?cL ?kL ?z0 ?z1 ?z2 ?z3 ?z4 ?z5 ?z6 ?z7 ?z8 ?z9 ?z10 ?z11 ?z12 ?z13 ?z14
    (case a0=>k_is); (case l0=>k_is); (case c0=>k_is); (case k0=>k_is)
    (case a1=>k_is); (case l1=>k_is); (case c1=>k_is); (case k1=>k_is)
    (case a2=>k_is); (case l2=>k_is); (case c2=>k_is); (case k2=>k_is)
    (case a3=>k_is); (case l3=>k_is); (case c3=>k_is); (case k3=>k_is)
    (case a4=>k_is); (case l4=>k_is); (case c4=>k_is); (case k4=>k_is)
    (case a5=>k_is); (case l5=>k_is); (case c5=>k_is); (case k5=>k_is)
    (case a6=>k_is); (case l6=>k_is); (case c6=>k_is); (case k6=>k_is)
    (case a7=>k_is); (case l7=>k_is); (case c7=>k_is); (case k7=>k_is)
    (case a8=>k_is); (case l8=>k_is); (case c8=>k_is); (case k8=>k_is)
    (case a9=>k_is); (case l9=>k_is); (case c9=>k_is); (case k9=>k_is)
    (case a10=>k_is); (case l10=>k_is); (case c10=>k_is); (case k10=>k_is)
    (case a11=>k_is); (case l11=>k_is); (case c11=>k_is); (case k11=>k_is)
    (case a12=>k_is); (case l12=>k_is); (case c12=>k_is); (case k12=>k_is)
    (case a13=>k_is); (case l13=>k_is); (case c13=>k_is); (case k13=>k_is)
    (case a14=>k_is); (case l14=>k_is); (case c14=>k_is); (case k14=>k_is)
    (case a15=>k_is); (case l15=>k_is); (case c15=>k_is); (case k15=>k_is)
    (case a16=>k_is); (case l16=>k_is); (case c16=>k_is); (case k16=>k_is)
    (case a17=>k_is); (case l17=>k_is); (case c17=>k_is); (case k17=>k_is)
    (case a18=>k_is); (case l18=>k_is); (case c18=>k_is); (case k18=>k_is)
    (case a19=>k_is); (case l19=>k_is); (case c19=>k_is); (case k19=>k_is)
    (case a20=>k_is); (case l20=>k_is); (case c20=>k_is); (case k20=>k_is)
    (case a21=>k_is); (case l21=>k_is); (case c21=>k_is); (case k21=>k_is)
    (case a22=>k_is); (case l22=>k_is); (case c22=>k_is); (case k22=>k_is)
    (case a23=>k_is); (case l23=>k_is); (case c23=>k_is); (case k23=>k_is)
    (case a24=>k_is); (case l24=>k_is); (case c24=>k_is); (case k24=>k_is)
    (case a25=>k_is); (case l25=>k_is); (case c25=>k_is); (case k25=>k_is)
    (case a26=>k_is); (case l26=>k_is); (case c26=>k_is); (case k26=>k_is)
    (case a27=>k_is); (case l27=>k_is); (case c27=>k_is); (case k27=>k_is)
    (case a28=>k_is); (case l28=>k_is); (case c28=>k_is); (case k28=>k_is)
    (case a29=>k_is); (case l29=>k_is); (case c29=>k_is); (case k29=>k_is)
    (case a30=>k_is); (case l30=>k_is); (case c30=>k_is); (case k30=>k_is)
    (case a31=>k_is); (case l31=>k_is); (case c31=>k_is); (case k31=>k_is)
    (case a32=>k_is); (case l32=>k_is); (case c32=>k_is); (case k32=>k_is)
    (case a33=>k_is); (case l33=>k_is); (case c33=>k_is); (case k33=>k_is)
    (case a34=>k_is); (case l34=>k_is); (case c34=>k_is); (case k34=>k_is)
    (case a35=>k_is); (case l35=>k_is); (case c35=>k_is); (case k35=>k_is)
    (case a36=>k_is); (case l36=>k_is); (case c36=>k_is); (case k36=>k_is)
    (case a37=>k_is); (case l37=>k_is); (case c37=>k_is); (case k37=>k_is)
    (case a38=>k_is); (case l38=>k_is); (case c38=>k_is); (case k38=>k_is)
    (case a39=>k_is); (case l39=>k_is); (case c39=>k_is); (case k39=>k_is)
    (case a40=>k_is); (case l40=>k_is); (case c40=>k_is); (case k40=>k_is)
    (case a41=>k_is); (case l41=>k_is); (case c41=>k_is); (case k41=>k_is)
    (case a42=>k_is); (case l42=>k_is); (case c42=>k_is); (case k42=>k_is)
    (case a43=>k_is); (case l43=>k_is); (case c43=>k_is); (case k43=>k_is)
    (case a44=>k_is); (case l44=>k_is); (case c44=>k_is); (case k44=>k_is)
    (case a45=>k_is); (case l45=>k_is); (case c45=>k_is); (case k45=>k_is)
    (case aL=>k_is); (case lL=>k_is); (case cL=>k_is); (case kL=>k_is)
    (case z0=>k_is)
    (case z1=>k_is)
    (case z2=>k_is)
    (case z3=>k_is)
    (case z4=>k_is)
    (case z5=>k_is)
    (case z6=>k_is)
    (case z7=>k_is)
    (case z8=>k_is)
    (case z9=>k_is)
    (case z10=>k_is)
    (case z11=>k_is)
    (case z12=>k_is)
    (case z13=>k_is)
    (case z14=>k_is)
#print axioms PySem.Challenge.cw_goodenough_k45_covers_looked_at_holds
